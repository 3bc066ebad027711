/-
  What is proved here: the code's text with a tag.
-/
import Derived.Test.YteiflhgmgdibgaaRowsR
namespace Go.Proofs.Yteiflhgmgdibgaa
open Go.ChangeShapes Go.WideShapes Go.ChangeAt Go.RowKit
set_option linter.unusedVariables false

/-- the bytes of a number, the most significant first -/
def be (x : Int) : Nat → List Int
  | 0 => []
  | n + 1 => x / 256 ^ n % 256 :: be x n
theorem be_length (x : Int) (n : Nat) : (be x n).length = n := by
  induction n with
  | zero => rfl
  | succ n ih => simp [be, ih]
/-- a part with its number of bytes -/
def part (xs : List Int) : List Int := be xs.length 4 ++ xs
/-- the text with a tag -/
def textL (tag : Int) (L : List (List Int)) : List Int := tag :: L.flatMap part
theorem part_length (xs : List Int) : (part xs).length = 4 + xs.length := by simp [part, be_length]
theorem textL_snoc (tag : Int) (L : List (List Int)) (xs : List Int) : textL tag (L ++ [xs]) = textL tag L ++ part xs := by simp [textL]
theorem textL_take (tag : Int) (L : List (List Int)) (k : Nat) (xs : List Int) (h : L[k]? = some xs) : textL tag (L.take (k + 1)) = textL tag (L.take k) ++ part xs := by
  have hk : k < L.length := by
    rcases Nat.lt_or_ge k L.length with h1 | h1
    · exact h1
    · rw [List.getElem?_eq_none h1] at h; cases h
  rw [List.take_succ_eq_append_getElem hk, textL_snoc]
  rw [List.getElem?_eq_getElem hk] at h
  injection h with h
  rw [h]
theorem textL_len (tag : Int) (L : List (List Int)) (k : Nat) (hL : ∀ f ∈ L, f.length ≤ 300) : (textL tag (L.take k)).length ≤ 1 + 304 * k := by
  induction k with
  | zero => simp [textL]
  | succ k ih =>
    rcases Nat.lt_or_ge k L.length with h1 | h1
    · rw [textL_take tag L k L[k] (List.getElem?_eq_getElem h1), List.length_append, part_length]
      have := hL _ (List.getElem_mem h1)
      omega
    · rw [List.take_of_length_le (by omega)]
      rw [List.take_of_length_le h1] at ih
      omega
theorem make_cap (n : Nat) (hn : n < 1000000000000) (u : World) : (Instr.makeSlice 37 (.int .i64 0) (.int .i64 (n : Int))).run Try.prog u =
      .ok (.slice (some ⟨u.heap.size, 0, none⟩) 0 n) (u.alloc (.cells (Array.replicate n (Value.int .u8 0)) 5)) := by
  obtain ⟨i0, hi, hz0, hz1, hz2⟩ := info_parts info_u8
  have h := run_make (P := Try.prog) u 37 5 i0 (.int .u8 0) Try.underlying37 hi hz0 .i64 .i64 (0 : Int) (n : Int) (by omega) (by omega) (by rw [hz2]; omega) (by omega)
  have e : ((n : Int)).toNat = n := by omega
  rw [e] at h
  have e2 : madeCells (Value.int .u8 0).cells (n * i0.size) = Array.replicate n (Value.int .u8 0) := by
    rw [hz1, Nat.mul_one]
    unfold madeCells
    refine Array.ext (by simp) (fun j h1 h2 => ?_)
    simp [Value.cells, Nat.mod_one]
  rw [e2] at h
  exact h
theorem own_made (u : World) (n B : Nat) (hn : n ≤ maxLen) (hB : B ≤ u.heap.size) : (u.alloc (.cells (Array.replicate n (Value.int .u8 0)) 5)).ownsRow B 5 1 (.slice (some ⟨u.heap.size, 0, none⟩) 0 n) 0 [] :=
  ⟨by simp, .inr ⟨u.heap.size, n, _, rfl, hB, heap_alloc_new u _, by omega, hn, by simp, by simp⟩⟩

theorem append_rpm {w : World} {ops : Array Oper} {rest : List Oper} {o : Oper} {a : Act} {Q : Exit → Act → World → Prop} (hgd : o.guard = none) (s x : Operand)
    (ho : o.op = .call { callee := .builtin .append, args := #[s, x], argTypes := #[37, 37] })
    (base B : Nat) (v : Value) (xs : List Int) (hs : a.eval s = v) (hown : w.ownsRow base 5 1 v xs.length (u8s xs))
    (A : Option Addr) (m c : Nat) (ys : List Int) (hm : m = ys.length) (hx : a.eval x = .slice A m c) (hr : Rp w none A ys) (h63 : xs.length + ys.length < 1000000000000) (hbase : base ≤ w.heap.size) (hB : B ≤ base)
    (h : ∀ v' w', Hid (w'.ownsRow base 5 1 v' (xs ++ ys).length (u8s (xs ++ ys))) → Hid (Below B w w') → wpList Try.prog ops Q rest (a.put o.dst v') w') : wpList Try.prog ops Q (o :: rest) a w := by
  subst hm
  exact append_rp hgd s x ho base B v xs hs hown A c ys hx hr h63 hbase hB h
theorem be4_small (m : Nat) (h : m ≤ 300) : be (m : Int) 4 = [(m : Int) / 16777216, (m : Int) / 65536, (m : Int) / 256, (m : Int) % 256] := by
  simp [be]
  omega

end Go.Proofs.Yteiflhgmgdibgaa
