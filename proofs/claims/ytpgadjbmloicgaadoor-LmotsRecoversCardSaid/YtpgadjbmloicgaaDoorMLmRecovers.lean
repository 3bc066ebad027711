/-
  What is proved here: of all bytes as a signature both sides say the same: the walk of the statement.
-/
import Derived.Test.YtpgadjbmloicgaaDoorMLmSn
import Derived.Test.YtpgadjbmloicgaaDoorMLmR1
import Derived.Test.YtpgadjbmloicgaaDoorMLmRk
set_option linter.unusedSimpArgs false
set_option linter.unusedVariables false
namespace Go.Proofs.YtpgadjbmloicgaaDoor
open Go.ChangeShapes Go.WideShapes Go.ChangeAt Go.RowKit
set_option linter.unusedVariables false
set_option maxRecDepth 20000

theorem recK_ky (id : List Int) (q : Int) (msg sig : List Int) : Ky (recK id q msg sig) := by
  unfold recK
  split
  · exact under_ky _ _ _ _
  · exact ⟨by unfold zeroK; simp, fun v hv => by have := List.eq_of_mem_replicate hv; omega⟩

set_option maxHeartbeats 4000000 in
theorem recovers_walk (k : Int) (id : List Int) (q : Int) (sd : List Int) (A : Option Addr) (n c : Nat) (L : List Int) (A2 : Option Addr) (n2 c2 : Nat) (L2 : List Int) (w : World) (hid0 : id.length = 16 ∧ Bs id) (hq : 0 ≤ q ∧ q < 4294967296) (hs : Ky sd) (h : InB w A n c L) (hc : n ≤ c) (h2 : InB w A2 n2 c2 L2) (hc2 : n2 ≤ c2) (ht : Tab w) :
    Calls Tryd.prog 3 #[.agg (lkeyC k id q sd), .slice A n c, .slice A2 n2 c2] w fun e w' => e = .returned (.bool true) ∧ Below w.heap.size w w' := by
  obtain ⟨Z, HZ, hZ0, hZs⟩ := zero_Hash
  have hz32 : Z.size = 32 := by rw [HZ.out, List.size_toArray, u8s_length]; simp
  have hi : Idn id := ⟨hid0.1, hid0.2⟩
  have IDI := hid (id_info hi); have SDI := hid (hash_info hs.len)
  have HII := hid hi
  have B0 : Hid (Below w.heap.size w (w.alloc (.cells (lkeyC k id q sd) 28))) := (Below.refl _ _).alloc (Nat.le_refl _) _
  have L0 := hid (Blk.new w 28 (lkeyC k id q sd))
  obtain ⟨h1, h1', h3, h4⟩ := h
  obtain ⟨g1, g1', g3, g4⟩ := h2
  rcases Nat.lt_or_ge 500 n with hbig | hsm
  · have hb1 : (500 : Int) < (n : Int) := by omega
    clear hid0 hq hs h1 h1' h3 h4 g1 g1' g3 g4 hc hc2 ht hi hbig hz32
    go_enter Tryd.func3, Tryd.ntmps3
    go_wp2_with (go_at_call 11; refine (kawake_any _).mono ?_; rintro e w6 ⟨rfl, hb6⟩; have B0 := hid (B0.out.trans (hb6.mono B0.out.size)); clear hb6)
    go_ret
    exact ⟨rfl, B0.out⟩
  · rcases Nat.lt_or_ge 9000 n2 with hbig | hsm2
    · have hb1 : ¬ (500 : Int) < (n : Int) := by omega
      have hb2 : (9000 : Int) < (n2 : Int) := by omega
      clear hid0 hq hs h1 h1' h3 h4 g1 g1' g3 g4 hc hc2 ht hi hbig hz32 hsm
      go_enter Tryd.func3, Tryd.ntmps3
      go_wp2_with (go_at_call 11; refine (kawake_any _).mono ?_; rintro e w6 ⟨rfl, hb6⟩; have B0 := hid (B0.out.trans (hb6.mono B0.out.size)); clear hb6)
      go_ret
      exact ⟨rfl, B0.out⟩
    · have hb1 : ¬ (500 : Int) < (n : Int) := by omega
      have hb2 : ¬ (9000 : Int) < (n2 : Int) := by omega
      have CL := hid (fun w1 (hb : Below w.heap.size w w1) => lRecover_any id q A n c L A2 n2 c2 L2 w1 hi hq h1.symm (h4.belowN hb) h3 (by omega) hc g1.symm (g4.belowN hb) g3 (by omega) (ht.below hb))
      have CK := hid (fun w1 (hb : Below w.heap.size w w1) => kRecover_any id q A n c L A2 n2 c2 L2 w1 hi hq h1.symm (h4.belowN hb) h3 (by omega) g1.symm (g4.belowN hb) g3 (by omega) hc2)
      have hky := recK_ky id q L L2
      generalize recK id q L L2 = RK at CL CK hky
      generalize sigB L2 = bb at CL CK
      have HI := hid (info_hash RK hky.len); have HIL := hid (hash_info hky.len)
      have HZ32 : Hid (Z.size = (u8s RK).toArray.size) := hz32.trans (hash_size hky.len).symm
      have HEQ : Hid (∀ w : World, (binOp .eql 26 (.agg (u8s RK).toArray) (.agg (u8s RK).toArray)).run Tryd.prog w = .ok (.bool true) w) := fun w => by
        have h := eql_hash RK RK hky.bs hky.bs hky.len hky.len w
        rw [decide_eq_true rfl] at h
        exact h
      have heq := HEQ.out
      clear hid0 hq hs h1 h1' h3 h4 g1 g1' g3 g4 hc hc2 ht hi hz32 hsm hsm2 hky
      go_enter Tryd.func3, Tryd.ntmps3
      go_wp2_with (first
        | (go_at_call 11; refine (kawake_any _).mono ?_; rintro e w1 ⟨rfl, hb1⟩; have L1 := hid (L0.out.below hb1); have B1 := hid (B0.out.trans (hb1.mono B0.out.size)); have c17 := lkey_17 L1.out HII.out; clear hb1)
        | (refine load_at rfl 23 (.tmp 25) rfl w.heap.size 1 rfl (u8s id) _ (lkey_id L1.out HII.out) Tryd.underlying23 rfl IDI.out (u8s id).toArray rfl ?_)
        | (go_at_call 12; refine (CL.out _ B1.out).mono ?_; rintro e w2 ⟨rfl, hb2⟩; have L2 := hid (L1.out.below hb2); have B2 := hid (B1.out.trans (hb2.mono B1.out.size)); clear hb2)
        | (refine wpList_store_row rfl 26 (.tmp 7) (.tmp 32) rfl w2.heap.size (u8s RK).toArray rfl rfl 26 Z (Blk.new w2 26 Z) HI.out HZ32.out (u8s_all RK) ?_; have hbb : Below w2.heap.size w2 ((w2.alloc (.cells Z 26)).setRow w2.heap.size (u8s RK).toArray) := below_setRow ((Below.refl _ _).alloc (Nat.le_refl _) _) (Nat.le_refl _) _; have P3 : Hid (Blk ((w2.alloc (.cells Z 26)).setRow w2.heap.size (u8s RK).toArray) w2.heap.size 26 (u8s RK).toArray) := (Blk.new w2 26 Z).row _; have L3 := hid (L2.out.below hbb); have B3 := hid (B2.out.trans (hbb.mono B2.out.size)); have d17 := lkey_17 L3.out HII.out; clear hbb; generalize (w2.alloc (.cells Z 26)).setRow w2.heap.size (u8s RK).toArray = w3 at P3 L3 B3 d17 ⊢)
        | (refine load_at rfl 23 (.tmp 35) rfl w.heap.size 1 rfl (u8s id) _ (lkey_id L3.out HII.out) Tryd.underlying23 rfl IDI.out (u8s id).toArray rfl ?_)
        | (go_at_call 13; refine (CK.out _ B3.out).mono ?_; rintro e w4 ⟨rfl, hb4⟩; have P4 := hid (P3.out.below hb4); have B4 := hid (B3.out.trans (hb4.mono B3.out.size)); clear hb4)
        | (refine wpList_store_row rfl 26 (.tmp 9) (.tmp 42) rfl w4.heap.size (u8s RK).toArray rfl rfl 26 Z (Blk.new w4 26 Z) HI.out HZ32.out (u8s_all RK) ?_; have hbb : Below w4.heap.size w4 ((w4.alloc (.cells Z 26)).setRow w4.heap.size (u8s RK).toArray) := below_setRow ((Below.refl _ _).alloc (Nat.le_refl _) _) (Nat.le_refl _) _; have Q5 : Hid (Blk ((w4.alloc (.cells Z 26)).setRow w4.heap.size (u8s RK).toArray) w4.heap.size 26 (u8s RK).toArray) := (Blk.new w4 26 Z).row _; have P5 := hid (P4.out.below hbb); have B5 := hid (B4.out.trans (hbb.mono B4.out.size)); clear hbb; generalize (w4.alloc (.cells Z 26)).setRow w4.heap.size (u8s RK).toArray = w5 at Q5 P5 B5 ⊢)
        | (refine load_at rfl 26 (.tmp 7) rfl w2.heap.size 0 rfl (u8s RK) _ (blk_row P5.out) Tryd.underlying26 rfl HIL.out (u8s RK).toArray rfl ?_)
        | (refine load_at rfl 26 (.tmp 9) rfl w4.heap.size 0 rfl (u8s RK) _ (blk_row Q5.out) Tryd.underlying26 rfl HIL.out (u8s RK).toArray rfl ?_))
      go_ret
      exact ⟨rfl, B5.out⟩
end Go.Proofs.YtpgadjbmloicgaaDoor
