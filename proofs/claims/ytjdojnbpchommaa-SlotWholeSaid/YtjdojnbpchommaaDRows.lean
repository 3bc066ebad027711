/-
  What is proved here: bytes, and lists of bytes, as arguments; which lists are few; appending bytes.
-/
import Derived.Test.YtjdojnbpchommaaDBase
import Derived.Lib.SlBytesConst
import Derived.Lib.SmallJoins
import Derived.Deep.Slices
import Derived.ChangeOld
namespace Go.Proofs.Ytjdojnbpchommaa
open Go.ChangeShapes Go.WideShapes Go.ChangeAt Go.RowKit
set_option linter.unusedVariables false
set_option maxRecDepth 20000

theorem own : ownKnob Try.prog.godebug = none := by kernel_rfl
theorem laidOut : laidOutB Try.prog = true := by kernel_rfl
theorem Fresh.rp0 {w w' : World} {A : Option Addr} {xs : List Int} (h : Fresh w w' A xs) : Rp w' none A xs := h.rp (p := none) (fun g _ _ ⟨a, e, _⟩ => by cases e)

theorem run_append_nil' {P : Program} (w : World) (base : Nat) (t ty e : TypeId) (i : TypeInfo) (size : Nat) (ht : P.underlying t = some (.slice e)) (hi : P.info? e = some i)
    (v : Value) (n : Nat) (xs : List Value) (hown : w.ownsRow base e size v n xs) (c : Nat) : (Builtin.append_ #[t, t] ty #[v, .slice none 0 c]).run P w = .ok v w := by
  rcases hown.2 with ⟨rfl, _⟩ | ⟨g, cap, cur, rfl, _, _, hnc, _⟩
  · simp [Builtin.append_, run_underlying ht, sizeOf, typeInfo, hi, Builtin.lenOf, Builtin.firstCells]
  · simp [Builtin.append_, run_underlying ht, sizeOf, typeInfo, hi, Builtin.lenOf, Builtin.firstCells, hnc, storeCells]
theorem wpList_append_nil' {P : Program} {w : World} {ops : Array Oper} {rest : List Oper} {o : Oper} {a : Act} {Q : Exit → Act → World → Prop} (hgd : o.guard = none) (s x : Operand) (t : TypeId)
    (ho : o.op = .call { callee := .builtin .append, args := #[s, x], argTypes := #[t, t] })
    (base : Nat) (e : TypeId) (i : TypeInfo) (size : Nat) (ht : P.underlying t = some (.slice e)) (hi : P.info? e = some i)
    (v : Value) (n : Nat) (xs : List Value) (c : Nat) (hs : a.eval s = v) (hown : w.ownsRow base e size v n xs) (hx : a.eval x = .slice none 0 c)
    (h : wpList P ops Q rest (a.put o.dst v) w) : wpList P ops Q (o :: rest) a w := by
  refine wpList_plain hgd fun K hK => ?_
  have hrun := run_append_nil' (P := P) w base t o.type e i size ht hi v n xs hown c
  unfold Oper.wp
  simp [execOp, ho, resolve, invoke, builtin, hs, hx, hrun, Result.andThen]
  exact hK _ _ h

theorem u8s_snoc (xs : List Int) (y : Int) : u8s (xs ++ [y]) = u8s xs ++ [.int .u8 y] := by simp [u8s]

theorem own_mono {w : World} {B B' e size n : Nat} {v : Value} {xs : List Value} (h : w.ownsRow B e size v n xs) (hB : B' ≤ B) : w.ownsRow B' e size v n xs := by
  refine ⟨h.1, ?_⟩
  rcases h.2 with h1 | ⟨g, cap, cur, hv, hg, r⟩
  · exact .inl h1
  · exact .inr ⟨g, cap, cur, hv, by omega, r⟩
/-- one new cell, as the source of an append -/
theorem one_src (w : World) (y : Int) : ∀ j u, [Value.int .u8 y][j]? = some u → (w.alloc (.cells #[.int .u8 y] 5)).cell? ((⟨w.heap.size, 0, none⟩ : Addr).add j) = some u := by
  intro j u h
  match j, h with
  | 0, h => rw [Addr.add_lit, (Blk.new w 5 #[.int .u8 y]).cell]; exact h
  | j + 1, h => simp at h

theorem own_below {w w' : World} {base e size n : Nat} {v : Value} {xs : List Value} (h : w.ownsRow base e size v n xs) (hb : Below w.heap.size w w') : w'.ownsRow base e size v n xs := by
  refine ⟨h.1, ?_⟩
  rcases h.2 with h1 | ⟨g, cap, cur, hv, hg, hh, r⟩
  · exact .inl h1
  · have hlt : g < w.heap.size := by
      rcases Nat.lt_or_ge g w.heap.size with h2 | h2
      · exact h2
      · rw [Array.getElem?_eq_none h2] at hh; cases hh
    exact .inr ⟨g, cap, cur, hv, hg, (hb.block g hlt).trans hh, r⟩
theorem append_rp {w : World} {ops : Array Oper} {rest : List Oper} {o : Oper} {a : Act} {Q : Exit → Act → World → Prop} (hgd : o.guard = none) (s x : Operand)
    (ho : o.op = .call { callee := .builtin .append, args := #[s, x], argTypes := #[31, 31] })
    (base B : Nat) (v : Value) (xs : List Int) (hs : a.eval s = v) (hown : w.ownsRow base 5 1 v xs.length (u8s xs))
    (A : Option Addr) (c : Nat) (ys : List Int) (hx : a.eval x = .slice A ys.length c) (hr : Rp w none A ys) (h63 : xs.length + ys.length < 1000000000000) (hbase : base ≤ w.heap.size) (hB : B ≤ base)
    (h : ∀ v' w', Hid (w'.ownsRow base 5 1 v' (xs ++ ys).length (u8s (xs ++ ys))) → Hid (Below B w w') → wpList Try.prog ops Q rest (a.put o.dst v') w') : wpList Try.prog ops Q (o :: rest) a w := by
  obtain ⟨i0, hi, hz0, hz1, hz2⟩ := info_parts info_u8
  cases A with
  | none =>
    have h0 : ys = [] := by
      cases ys with
      | nil => rfl
      | cons y ys => obtain ⟨ad, e, _⟩ := hr (by simp); cases e
    subst h0
    refine wpList_append_nil' hgd s x 31 ho base 5 i0 1 Try.underlying31 hi v xs.length (u8s xs) c hs hown hx ?_
    exact h v w (show World.ownsRow _ _ _ _ _ _ _ by rw [List.append_nil]; exact hown) (Below.refl _ _)
  | some ad =>
    refine wpList_append_own _ hgd s x 31 ho base 5 i0 (.int .u8 0) 1 1 Try.underlying31 hi hz0 hz1 hz2 rfl (by decide) v xs.length (u8s xs) hs hown ad ys.length c (u8s ys) hx (by rw [u8s_length]; omega) (fun j u hu => ?_) (u8s_one _) (by unfold maxLen; omega) (by omega) hbase ?_
    · rcases Nat.lt_or_ge j ys.length with hj | hj
      · obtain ⟨ad', e', hc⟩ := hr.get (by omega)
        injection e' with e'; subst e'
        rw [hc j hj, ← hu, u8s_get _ _ hj]
      · rw [List.getElem?_eq_none (by rw [u8s_length]; exact hj)] at hu; cases hu
    · intro v' w' h1 h2 _
      refine h v' w' (show World.ownsRow _ _ _ _ _ _ _ from ?_) ((Below.refl _ _).grown h2 (by omega) (fun b hb => Nat.le_trans hB (hown.lt b hb).1))
      rw [List.length_append, show u8s (xs ++ ys) = u8s xs ++ u8s ys by simp [u8s]]
      exact h1

/-- a slice of bytes that came in -/
def InB (w : World) (A : Option Addr) (n c : Nat) (xs : List Int) : Prop := xs.length = n ∧ n ≤ 9223372036854775807 ∧ Bs xs ∧ Rp w none A xs

section
variable {H : Type} {enc : TypeId × Value → H} {w : World} {base : Nat} {spare : Nat → Bool} {held : Bool}
theorem open_bytes {fuel : Nat} {cs : List Value} {x : DataW H × List MemPlace} (h : DataW.trod enc Try.prog w base spare held fuel 31 cs = some x) :
    ∃ A n c xs, cs = [.slice A n c] ∧ InB w A n c xs ∧ n ≤ c := by
  rcases open_ints Try.underlying31 Try.underlying5 (by kernel_rfl) h with ⟨hcs, _⟩ | ⟨a, l, c, zs, hcs, _, hl, hm, hz, _, hcell, hwz⟩
  · exact ⟨none, 0, 0, [], hcs, ⟨rfl, by omega, fun v hv => by simp at hv, Rp.nil _ _ _⟩, by omega⟩
  · refine ⟨some a, l, c, zs.take l, hcs, ⟨?_, ?_, ?_, ?_⟩, hl⟩
    · rw [List.length_take, hz]; split <;> omega
    · unfold maxLen at hm; omega
    · intro v hv
      have := bounds_u8 (hwz v (List.mem_of_mem_take hv))
      omega
    · intro hx
      refine ⟨a, rfl, (fun ⟨a, e, _⟩ => by cases e), fun j hj => ?_⟩
      have hj2 : j < l ∧ j < zs.length := by rw [List.length_take] at hj; omega
      rw [hcell j hj2.2, List.getElem?_take, if_pos hj2.1]
      simp

end
end Go.Proofs.Ytjdojnbpchommaa
