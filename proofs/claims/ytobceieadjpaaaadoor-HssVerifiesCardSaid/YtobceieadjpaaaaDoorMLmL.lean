/-
  What is proved here: words for the statements on keys for one signature: a key that came in, and what both sides answer of the public key.
-/
import Derived.Test.YtobceieadjpaaaaDoorMKf1
import Derived.Test.YtobceieadjpaaaaDoorMKd1
set_option linter.unusedSimpArgs false
set_option linter.unusedVariables false
namespace Go.Proofs.YtobceieadjpaaaaDoor
open Go.ChangeShapes Go.WideShapes Go.ChangeAt Go.RowKit
set_option linter.unusedVariables false
set_option maxRecDepth 20000

section
variable {w : World} {b : Nat} {k : Int} {id : List Int} {q : Int} {sd : List Int}
theorem lkey_0 (h : Blk w b 28 (lkeyC k id q sd)) : w.cell? ⟨b, 0, none⟩ = some (.int .i64 k) := by rw [h.cell]; rfl
theorem lkey_17 (h : Blk w b 28 (lkeyC k id q sd)) (hi : Idn id) : w.cell? ⟨b, 17, none⟩ = some (.int .u32 q) := by
  rw [h.cell]
  unfold lkeyC
  rw [List.getElem?_toArray, show (17 : Nat) = 16 + 1 from rfl, List.getElem?_cons_succ, List.getElem?_append_right (by rw [u8s_length, hi.len]; omega), u8s_length, hi.len]
  rfl
theorem lkey_id (h : Blk w b 28 (lkeyC k id q sd)) (hi : Idn id) : w.rangeAt b 1 (u8s id) := fun j v hv => by
  rw [h.cell]
  unfold lkeyC
  have hj : j < (u8s id).length := by
    rcases Nat.lt_or_ge j (u8s id).length with h1 | h1
    · exact h1
    · rw [List.getElem?_eq_none h1] at hv; cases hv
  rw [List.getElem?_toArray, Nat.add_comm 1 j, List.getElem?_cons_succ, List.getElem?_append_left hj]
  exact hv
theorem lkey_sd (h : Blk w b 28 (lkeyC k id q sd)) (hi : Idn id) : w.rangeAt b 18 (u8s sd) := fun j v hv => by
  rw [h.cell]
  unfold lkeyC
  rw [List.getElem?_toArray, show 18 + j = (17 + j) + 1 by omega, List.getElem?_cons_succ, List.getElem?_append_right (by rw [u8s_length, hi.len]; omega), u8s_length, hi.len, show 17 + j - 16 = j + 1 by omega, List.getElem?_cons_succ]
  exact hv
end
/-- what both sides answer of the public key: K and n -/
structure PubAns (k : Int) (id : List Int) (q : Int) (sd : List Int) (w : World) (K : List Int) (n : Int) : Prop where
  ky : Ky K
  n01 : n = 0 ∨ n = 1
  code : ∀ w1, Below w.heap.size w w1 → Calls Tryd.prog 61 #[.int .i64 k, .agg (u8s id).toArray, .int .u32 q, .agg (u8s sd).toArray] w1 fun e w' => e = .returned (.tuple #[.agg (u8s K).toArray, .int .i64 n]) ∧ Below w1.heap.size w1 w'
  ref : ∀ w1, Calls Tryd.prog 110 #[.int .i64 k, .agg (u8s id).toArray, .int .u32 q, .agg (u8s sd).toArray] w1 fun e w' => e = .returned (.tuple #[.agg (u8s K).toArray, .int .i64 n]) ∧ Below w1.heap.size w1 w'
theorem zeroK_ky : Ky zeroK := ky_zero
theorem pub_ans (k : Int) (id : List Int) (q : Int) (sd : List Int) (w : World) (hi : Idn id) (hq : 0 ≤ q ∧ q < 4294967296) (hs : Ky sd) (ht : Tab w) :
    ∃ K n, PubAns k id q sd w K n ∧ ((Kd k ∧ n = 0 ∧ K = pubK k id q sd) ∨ (kbits k = 0 ∧ n = 1)) := by
  by_cases hk : kbits k = 0
  · have hno : k ≠ 1 ∧ k ≠ 2 ∧ k ≠ 3 ∧ k ≠ 4 := by
      rcases kd_cases k with rfl | rfl | rfl | rfl | h
      · exact absurd hk (by decide)
      · exact absurd hk (by decide)
      · exact absurd hk (by decide)
      · exact absurd hk (by decide)
      · exact h
    exact ⟨zeroK, 1, ⟨zeroK_ky, .inr rfl, fun w1 _ => lPublic_no k id q sd w1 hno hi hq hs, fun w1 => kPublic_no k id q sd w1 hk⟩, .inr ⟨hk, rfl⟩⟩
  · have hkd := kbits_kd hk
    exact ⟨pubK k id q sd, 0, ⟨under_ky _ _ _ _, .inl rfl, fun w1 hb => lPublic_kd k id q sd w1 hkd hi hq hs (ht.below hb), fun w1 => kPublic_kd k id q sd w1 hkd hi hq hs⟩, .inl ⟨hkd, rfl, rfl⟩⟩
end Go.Proofs.YtobceieadjpaaaaDoor
