/-
  What is proved here: all messages have the signature that the chapter says: the walk of the statement.
-/
import Derived.Test.YteiflhgmgdibgaaDoorMLmSn
set_option linter.unusedSimpArgs false
set_option linter.unusedVariables false
namespace Go.Proofs.YteiflhgmgdibgaaDoor
open Go.ChangeShapes Go.WideShapes Go.ChangeAt Go.RowKit
set_option linter.unusedVariables false
set_option maxRecDepth 20000

set_option maxHeartbeats 4000000 in
theorem signs_walk (k : Int) (id : List Int) (q : Int) (sd : List Int) (A : Option Addr) (n c : Nat) (L : List Int) (w : World) (hid0 : id.length = 16 ∧ Bs id) (hq : 0 ≤ q ∧ q < 4294967296) (hs : Ky sd) (h : InB w A n c L) (hc : n ≤ c) (ht : Tab w) :
    Calls Tryd.prog 4 #[.agg (lkeyC k id q sd), .slice A n c] w fun e w' => e = .returned (.bool true) ∧ Below w.heap.size w w' := by
  have hi : Idn id := ⟨hid0.1, hid0.2⟩
  have IDI := hid (id_info hi); have SDI := hid (hash_info hs.len)
  have HII := hid hi
  have B0 : Hid (Below w.heap.size w (w.alloc (.cells (lkeyC k id q sd) 28))) := (Below.refl _ _).alloc (Nat.le_refl _) _
  have L0 := hid (Blk.new w 28 (lkeyC k id q sd))
  rcases Nat.lt_or_ge 500 n with hbig | hsm
  · have hb1 : (500 : Int) < (n : Int) := by omega
    clear hid0 hq hs h hc ht hi hbig
    go_enter Tryd.func4, Tryd.ntmps4
    go_wp2_with (go_at_call 10; refine (kawake_any _).mono ?_; rintro e w6 ⟨rfl, hb6⟩; have B0 := hid (B0.out.trans (hb6.mono B0.out.size)); clear hb6)
    go_ret
    exact ⟨rfl, B0.out⟩
  · obtain ⟨SG, nn, hA, _⟩ := sgn_ans k id q sd A n c L w hi hq hs h hc (by rw [h.1]; omega) ht
    have HC := hid hA.code; have HR := hid hA.ref; have HLN : Hid (SG.length < 1000000000000) := by show _ < _; have := hA.ln; omega
    have hn := hA.n01
    have hs1 : ¬ ((500 : Int) < (n : Int)) := by omega
    clear hid0 hq hs h hc ht hi hsm hA
    go_enter Tryd.func4, Tryd.ntmps4
    go_wp2_with (first
      | (go_at_call 10; refine (kawake_any _).mono ?_; rintro e w1 ⟨rfl, hb1⟩; have L1 := hid (L0.out.below hb1); have B1 := hid (B0.out.trans (hb1.mono B0.out.size)); have c0 := lkey_0 L1.out; have c17 := lkey_17 L1.out HII.out; clear hb1)
      | (refine load_at rfl 23 (.tmp 20) rfl w.heap.size 1 rfl (u8s id) _ (lkey_id L1.out HII.out) Tryd.underlying23 rfl IDI.out (u8s id).toArray rfl ?_)
      | (refine load_at rfl 26 (.tmp 24) rfl w.heap.size 18 rfl (u8s sd) _ (lkey_sd L1.out HII.out) Tryd.underlying26 rfl SDI.out (u8s sd).toArray rfl ?_)
      | (go_at_call 11; refine (HC.out _ B1.out).mono ?_; rintro e w2 ⟨A1, c1, rfl, hr1, hb2⟩; have L2 := hid (L1.out.below hb2); have B2 := hid (B1.out.trans (hb2.mono B1.out.size)); have R2 := hid hr1; have d0 := lkey_0 L2.out; have d17 := lkey_17 L2.out HII.out; clear hb2 hr1)
      | (refine load_at rfl 23 (.tmp 33) rfl w.heap.size 1 rfl (u8s id) _ (lkey_id L2.out HII.out) Tryd.underlying23 rfl IDI.out (u8s id).toArray rfl ?_)
      | (refine load_at rfl 26 (.tmp 37) rfl w.heap.size 18 rfl (u8s sd) _ (lkey_sd L2.out HII.out) Tryd.underlying26 rfl SDI.out (u8s sd).toArray rfl ?_)
      | (go_at_call 12; refine (HR.out _ B2.out).mono ?_; rintro e w3 ⟨A2, c2, rfl, hr2, hb3⟩; have B3 := hid (B2.out.trans (hb3.mono B2.out.size)); have R3 := hid (R2.out.belowN hb3); have S3 := hid hr2; clear hb3 hr2)
      | (go_at_call 13; refine (Same_quiet A1 A2 c1 c2 SG SG w3 R3.out S3.out HLN.out HLN.out).mono ?_; rintro e w4 ⟨rfl, q4, rfl⟩))
    go_ret
    exact ⟨rfl, below_drewN B3.out q4⟩
end Go.Proofs.YteiflhgmgdibgaaDoor
