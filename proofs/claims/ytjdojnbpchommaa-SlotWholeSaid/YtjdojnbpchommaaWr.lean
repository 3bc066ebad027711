/-
  What is proved here: what a writer's calls do to what it holds, whether there is a writer or not, spoiled or not.
-/
import Derived.Test.YtjdojnbpchommaaPut
namespace Go.Proofs.Ytjdojnbpchommaa
open Go.ChangeShapes Go.WideShapes Go.ChangeAt Go.RowKit
set_option linter.unusedVariables false
set_option maxRecDepth 20000

/-- what a writer holds: there is none; it is spoiled; these bytes -/
inductive WS where
  | none
  | bad
  | good (bs : List Int)
def WS.put : WS → List Int → WS
  | .none, _ => .none
  | .bad, _ => .bad
  | .good bs, xs => .good (bs ++ xs)
def WS.spoil : WS → WS
  | .none => .none
  | _ => .bad
def WS.len : WS → Nat
  | .good bs => bs.length
  | _ => 0
theorem WS.put_nil (st : WS) : st.put [] = st := by cases st <;> simp [WS.put]
theorem WS.put_put (st : WS) (xs ys : List Int) : (st.put xs).put ys = st.put (xs ++ ys) := by cases st <;> simp [WS.put]
theorem WS.len_put (st : WS) (xs : List Int) : (st.put xs).len ≤ st.len + xs.length := by cases st <;> simp [WS.put, WS.len]
theorem WS.len_spoil (st : WS) : st.spoil.len = 0 := by cases st <;> simp [WS.spoil, WS.len]

def WRep (w : World) (p : Option Addr) : WS → Prop
  | .none => p = none
  | .bad => ∃ b, p = some ⟨b, 0, none⟩ ∧ WSp w b
  | .good bs => ∃ b, p = some ⟨b, 0, none⟩ ∧ WAt w b bs

section
variable {S S' : Nat → Prop} {a b c w w' : World}
theorem Only.to {g : Nat} (h : Only g w w') : OnlyS (Of (some ⟨g, 0, none⟩)) w w' :=
  ⟨h.os, h.tape, h.output, h.size, fun k hk hn => h.block k hk (fun e => hn ⟨_, rfl, e⟩)⟩
end

theorem WSp.lt {w : World} {b : Nat} (h : WSp w b) : b < w.heap.size := by obtain ⟨c, h1, _⟩ := h; exact h1.lt
theorem WAt.lt {w : World} {b : Nat} {bs : List Int} (h : WAt w b bs) : b < w.heap.size := by obtain ⟨c, full, h1, _⟩ := h; exact h1.lt
theorem WRep.lt {w : World} {p : Option Addr} {st : WS} (h : WRep w p st) {k : Nat} (hk : Of p k) : k < w.heap.size := by
  obtain ⟨a, rfl, rfl⟩ := hk
  cases st with
  | none => cases h
  | bad => obtain ⟨b, e, h⟩ := h; injection e with e; subst e; exact h.lt
  | good bs => obtain ⟨b, e, h⟩ := h; injection e with e; subst e; exact h.lt
/-- a writer is kept where its own block, and the blocks of writers, are -/
theorem WRep.keep {w w' : World} {p : Option Addr} {st : WS} (h : WRep w p st) (hp : ∀ k, Of p k → w'.heap[k]? = w.heap[k]?) (hk : ∀ g cs, Blk w g 95 cs → w'.heap[g]? = w.heap[g]?) : WRep w' p st := by
  cases st with
  | none => exact h
  | bad => obtain ⟨b, rfl, h⟩ := h; exact ⟨b, rfl, h.keep (hp b ⟨_, rfl, rfl⟩)⟩
  | good bs => obtain ⟨b, rfl, h⟩ := h; exact ⟨b, rfl, h.keep (hp b ⟨_, rfl, rfl⟩) hk⟩
theorem WRep.alloc {w : World} {p : Option Addr} {st : WS} (h : WRep w p st) (o : Obj) : WRep (w.alloc o) p st :=
  h.keep (fun k hk => Below.heap_alloc w o k (h.lt hk)) (fun g cs hg => Below.heap_alloc w o g hg.lt)
theorem WRep.drew {w : World} {p : Option Addr} {st : WS} (h : WRep w p st) : WRep w.drew p st := h.keep (fun _ _ => rfl) (fun _ _ _ => rfl)
theorem WRep.below {w w' : World} {p : Option Addr} {st : WS} (h : WRep w p st) (hb : Below w.heap.size w w') : WRep w' p st :=
  h.keep (fun k hk => hb.block k (h.lt hk)) (fun g cs hg => hb.block g hg.lt)

theorem wput_any (p : Option Addr) (st : WS) (A : Option Addr) (cap : Nat) (xs : List Int) (w : World) (h : WRep w p st) (hr : Rp w p A xs) (hl : st.len + xs.length < 1000000000000) :
    Calls Try.prog 52 #[.pointer p, .slice A xs.length cap] w fun e w' => e = .returned (.tuple #[]) ∧ WRep w' p (st.put xs) ∧ OnlyS (Of p) w w' := by
  cases st with
  | none =>
    obtain rfl : p = none := h
    exact (wput_nil _ w).mono fun e w' ⟨he, hw⟩ => ⟨he, rfl, by subst hw; exact OnlyS.refl _ _⟩
  | bad =>
    obtain ⟨b, rfl, h⟩ := h
    exact (wput_sp b _ w h).mono fun e w' ⟨he, hw⟩ => ⟨he, ⟨b, rfl, by subst hw; exact h⟩, by subst hw; exact OnlyS.refl _ _⟩
  | good bs =>
    obtain ⟨b, rfl, h⟩ := h
    refine (wput_ok b bs xs A cap w h (fun hx => ?_) hl).mono fun e w' ⟨he, hw, ho⟩ => ⟨he, ⟨b, rfl, hw⟩, ho.to⟩
    obtain ⟨ad, e, hne, hc⟩ := hr hx
    exact ⟨ad, e, fun e => hne ⟨_, rfl, e⟩, hc⟩

/-- the bytes of a number, the most significant first -/
def be (x : Int) : Nat → List Int
  | 0 => []
  | n + 1 => x / 256 ^ n % 256 :: be x n
theorem be_length (x : Int) (n : Nat) : (be x n).length = n := by
  induction n with
  | zero => rfl
  | succ n ih => simp [be, ih]

theorem wnumber_any (p : Option Addr) (st : WS) (x : Int) (size : Nat) (w : World) (h : WRep w p st) (hx : 0 ≤ x ∧ x < 18446744073709551616) (hs : size ≤ 8) (hl : st.len < 900000000000) :
    Calls Try.prog 50 #[.pointer p, .int .u64 x, .int .i64 size] w fun e w' => e = .returned (.tuple #[]) ∧ WRep w' p (st.put (be x size)) ∧ OnlyS (Of p) w w' := by
  obtain ⟨hx1, hx2⟩ := hx
  go_enter Try.func50, Try.ntmps50
  go_wp2
  go_loopw [6] (fun i wr => ∃ (k : Nat) (pre : List Int), k ≤ size ∧ i = .int .i64 ((k : Int) - 1) ∧ pre ++ be x k = be x size ∧ WRep wr p (st.put pre) ∧ OnlyS (Of p) w wr) (fun i _ => (intOf i + 1).toNat)
  case atStart => exact ⟨size, [], by omega, rfl, rfl, by rw [WS.put_nil]; exact h, OnlyS.refl _ _⟩
  case round =>
    obtain ⟨k, pre, hk, rfl, hpre, hat, hon⟩ := hrel
    have HP := hid hpre; have HA := hid hat; have HO := hid hon
    clear hpre hat hon h
    cases k with
    | zero =>
      go_wp2
      go_end0
      have e := HP.out
      simp only [be, List.append_nil] at e
      exact ⟨rfl, by rw [← e]; exact HA.out, HO.out⟩
    | succ k =>
      have hk2 : k < 8 := by omega
      obtain ⟨i, hi⟩ : ∃ i : Int, i = k := ⟨_, rfl⟩
      have hi2 : ((k + 1 : Nat) : Int) - 1 = i := by omega
      rw [hi2]
      have hi0 : 0 ≤ i := by omega
      have hi8 : i < 8 := by omega
      have HI := hid hi
      clear hi hi2
      have HC := hid (wput_any p (st.put pre) (some ⟨wr.heap.size, 0, none⟩) 1 [x / 2 ^ (8 * i).toNat % 256] (wr.alloc (.cells #[.int .u8 (x / 2 ^ (8 * i).toNat % 256)] 5))
        (HA.out.alloc _)
        (fun _ => ⟨_, rfl, fun ho => absurd (HA.out.lt ho) (Nat.lt_irrefl _), fun j hj => by
          have hj0 : j = 0 := by simp at hj; omega
          subst hj0
          simp [Addr.add, (Blk.new wr 5 #[.int .u8 (x / 2 ^ (8 * i).toNat % 256)]).cell]⟩)
        (by
          have h1 := WS.len_put st pre
          have h2 : pre.length ≤ size := by have := congrArg List.length HP.out; simp only [List.length_append, be_length] at this; omega
          simp; omega))
      have HE : Hid (x / 2 ^ (8 * i).toNat % 256 = x / 256 ^ k % 256) := by
        have e1 : (8 * i).toNat = 8 * k := by have := HI.out; omega
        have e2 : (2 : Int) ^ (8 * k) = 256 ^ k := by rw [Int.pow_mul]; rfl
        show _ = _
        rw [e1, e2]
      go_wp2_with (go_at_call 52; refine HC.out.mono ?_; rintro e w1 ⟨rfl, hw1, ho1⟩; have HW1 := hid hw1; have HO1 := hid ho1; clear hw1 ho1)
      go_roundw
      case rel =>
        have hi2 := HI.out
        have e1 := HP.out
        refine ⟨k, pre ++ [x / 256 ^ k % 256], by omega, by rw [hi2], ?_, ?_, ?_⟩
        · rw [← e1, List.append_assoc]; rfl
        · rw [← WS.put_put, ← HE.out]; exact HW1.out
        · exact (HO.out.alloc _).trans HO1.out
      case measure => simp [intOf]; omega
end Go.Proofs.Ytjdojnbpchommaa
