/-
  What is proved here: what both sides answer of a signature: the same bytes and the same number.
-/
import Derived.Test.YtpgadjbmloicgaaDoorMSg1
import Derived.Test.YtpgadjbmloicgaaDoorMLmL
import Derived.Test.YtpgadjbmloicgaaDoorMKa2
import Derived.Test.YtpgadjbmloicgaaDoorMHa2
set_option linter.unusedSimpArgs false
set_option linter.unusedVariables false
namespace Go.Proofs.YtpgadjbmloicgaaDoor
open Go.ChangeShapes Go.WideShapes Go.ChangeAt Go.RowKit
set_option linter.unusedVariables false
set_option maxRecDepth 20000

theorem kSign_no (k : Int) (id : List Int) (q : Int) (seed : List Int) (A : Option Addr) (m c : Nat) (w : World) (hk : kbits k = 0) :
    Calls Tryd.prog 58 #[.int .i64 k, .agg (u8s id).toArray, .int .u32 q, .agg (u8s seed).toArray, .slice A m c] w fun e w' => e = .returned (.tuple #[.slice none 0 0, .int .i64 1]) ∧ Below w.heap.size w w' := by
  obtain ⟨hk1, hk2, hb0⟩ := blks2 w (u8s id).toArray (u8s seed).toArray 23 26
  have B0 := hid hb0
  have CB := hid (kBits_any k)
  rw [hk] at CB
  clear hk1 hk2 hb0 hk
  go_enter Tryd.func58, Tryd.ntmps58
  go_wp2_with fail
  refine (CB.out _).mono ?_; rintro e w1 ⟨rfl, rfl⟩
  go_wp2
  refine bodyPost_ret (results_tt rfl _ _) rfl ?_
  exact ⟨rfl, B0.out⟩
theorem signK_length {k : Int} (hk : Kd k) (id : List Int) (q : Int) (seed msg : List Int) : (signK k id q seed msg).length = ksize k := by
  unfold signK saltOf
  have h0 : (begn id q 65533 seed).length = 32 := (under_ky _ _ _ _).len
  have h1 := rowsOf_length (kchains k) (fun i => steps id q i (begn id q i seed) 0 (dgt k (hashed id q (begn id q 65533 seed) msg) i)) (fun i => (steps_ky (show Ky (begn id q i seed) from under_ky _ _ _ _) _ _).len)
  rw [List.length_append, List.length_append, be_length, h0, h1]
  rcases hk with rfl | rfl | rfl | rfl <;> decide
/-- what both sides answer of a signature: SG and n -/
structure SgnAns (k : Int) (id : List Int) (q : Int) (sd : List Int) (A : Option Addr) (m c : Nat) (w : World) (SG : List Int) (n : Int) : Prop where
  n01 : n = 0 ∨ n = 1
  ln : SG.length < 10000
  code : ∀ w1, Below w.heap.size w w1 → Calls Tryd.prog 14 #[.int .i64 k, .agg (u8s id).toArray, .int .u32 q, .agg (u8s sd).toArray, .slice A m c] w1 fun e w' => ∃ A1 c1, e = .returned (.tuple #[.slice A1 SG.length c1, .int .i64 n]) ∧ Rp w' none A1 SG ∧ Below w1.heap.size w1 w'
  ref : ∀ w1, Below w.heap.size w w1 → Calls Tryd.prog 58 #[.int .i64 k, .agg (u8s id).toArray, .int .u32 q, .agg (u8s sd).toArray, .slice A m c] w1 fun e w' => ∃ A1 c1, e = .returned (.tuple #[.slice A1 SG.length c1, .int .i64 n]) ∧ Rp w' none A1 SG ∧ Below w1.heap.size w1 w'
theorem sgn_ans (k : Int) (id : List Int) (q : Int) (sd : List Int) (A : Option Addr) (m c : Nat) (L : List Int) (w : World) (hi : Idn id) (hq : 0 ≤ q ∧ q < 4294967296) (hs : Ky sd) (h : InB w A m c L) (hc : m ≤ c) (hl : L.length < 100000) (ht : Tab w) :
    ∃ SG n, SgnAns k id q sd A m c w SG n ∧ ((Kd k ∧ n = 0 ∧ SG = signK k id q sd L) ∨ (kbits k = 0 ∧ n = 1 ∧ SG = [])) := by
  obtain ⟨h1, h2, h3, h4⟩ := h
  by_cases hk : kbits k = 0
  · have hno : k ≠ 1 ∧ k ≠ 2 ∧ k ≠ 3 ∧ k ≠ 4 := by
      rcases kd_cases k with rfl | rfl | rfl | rfl | h
      · exact absurd hk (by decide)
      · exact absurd hk (by decide)
      · exact absurd hk (by decide)
      · exact absurd hk (by decide)
      · exact h
    refine ⟨[], 1, ⟨.inr rfl, by simp, fun w1 _ => (lSign_no k id q sd A m c w1 hno hi hq hs).mono fun e w' he => ⟨none, 0, he.1, Rp.nil _ _ _, he.2⟩, fun w1 _ => (kSign_no k id q sd A m c w1 hk).mono fun e w' he => ⟨none, 0, he.1, Rp.nil _ _ _, he.2⟩⟩, .inr ⟨hk, rfl, rfl⟩⟩
  · have hkd := kbits_kd hk
    have hln := signK_length hkd id q sd L
    refine ⟨signK k id q sd L, 0, ⟨.inl rfl, by rw [hln]; have := kchains_le k; unfold ksize; split <;> omega, fun w1 hb => (lSign_kd k id q sd A m c L w1 hkd hi hq hs h1.symm (h4.belowN hb) h3 (by omega) hc (ht.below hb)).mono fun e w' he => ?_, fun w1 hb => (kSign_kd k id q sd A m c L w1 hkd hi hq hs h1.symm (h4.belowN hb) h3 hl).mono fun e w' he => ?_⟩, .inl ⟨hkd, rfl, rfl⟩⟩
    · obtain ⟨g, he, hge, hbk, hbl⟩ := he
      rw [hln]
      exact ⟨_, _, he, blk_rp hbk, hbl⟩
    · obtain ⟨A', c', he, hf, hb⟩ := he
      exact ⟨A', c', he, hf.rp0, hb⟩
end Go.Proofs.YtpgadjbmloicgaaDoor
