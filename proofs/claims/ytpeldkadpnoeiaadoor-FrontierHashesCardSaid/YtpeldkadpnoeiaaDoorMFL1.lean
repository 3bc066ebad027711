/-
  What is proved here: all entries and hashes have the hashes that the chapter says: the walk of the statement.
-/
import Derived.Test.YtpeldkadpnoeiaaDoorMF4
import Derived.Test.YtpeldkadpnoeiaaDoorMF5
import Derived.Test.YtpeldkadpnoeiaaDoorMF2
set_option linter.unusedSimpArgs false
set_option linter.unusedVariables false
namespace Go.Proofs.YtpeldkadpnoeiaaDoor
open Go.ChangeShapes Go.WideShapes Go.ChangeAt Go.RowKit
set_option linter.unusedVariables false
set_option linter.unusedSimpArgs false
set_option maxRecDepth 20000

set_option maxHeartbeats 8000000 in
theorem fhashes_walk {A : Option Addr} {n c : Nat} {b x y : List Int} {w : World} (h : InB w A n c b) (hc : n ≤ c) (hx : H32 x) (hy : H32 y) (ht : Tab w) :
    Calls Tryd.prog 3 #[.slice A n c, hV x, hV y] w fun e w' => e = .returned (.bool true) ∧ Below w.heap.size w w' := by
  obtain ⟨hl, hm, hb, hr⟩ := h
  have k1 := (Blk.new w 24 (hc32 x)).alloc (.cells (hc32 y) 24)
  have k2 := Blk.new (w.alloc (.cells (hc32 x) 24)) 24 (hc32 y)
  rw [show (w.alloc (.cells (hc32 x) 24)).heap.size = w.heap.size + 1 by simp] at k2
  have b1 : Below w.heap.size w ((w.alloc (.cells (hc32 x) 24)).alloc (.cells (hc32 y) 24)) := ((Below.refl _ _).alloc (Nat.le_refl _) _).alloc (by simp) _
  have B1 := hid b1
  have HIX := hid (info_hash x hx.len); have HIY := hid (info_hash y hy.len)
  have J1 := hid k1; have J2 := hid k2
  have CA := hid (fun (w' : World) (hb : Below w.heap.size w w') => fawake_any w' (ht.below hb))
  by_cases h5 : n ≤ 500
  · have h5' : ¬ ((500 : Int) < (n : Int)) := by omega
    have CL0 := hid (fun (w' : World) (hb' : Below w.heap.size w w') => fLeaf_any (n := n) (c := c) (hr.belowN hb') hb hl.symm (by omega) hc (ht.below hb'))
    have CG0 := hid (fun (w' : World) (hb' : Below w.heap.size w w') => gLeaf_any (n := n) (c := c) (hr.belowN hb') hb hl.symm (by omega))
    have CN0 := hid (fun (w' : World) (hb' : Below w.heap.size w w') => fNode_any hx hy (ht.below hb'))
    have CM := hid (fun (w' : World) => gNode_any (w := w') hx hy)
    have q1 := fun w => eql_h (leafF b) (leafF b) (h32_sum _) (h32_sum _) w
    have q2 := fun w => eql_h (ndF x y) (ndF x y) (h32_sum _) (h32_sum _) w
    rw [decide_eq_true rfl] at q1 q2
    generalize leafF b = S1 at CL0 CG0 q1
    generalize ndF x y = S2 at CN0 CM q2
    clear k1 k2 b1 hx hy ht hr hl hb
    go_enter Tryd.func3, Tryd.ntmps3
    go_wp2_with (go_at_call 9; refine (CA.out _ B1.out).mono ?_; rintro e w2 ⟨rfl, hb2⟩; have B2 := hid (B1.out.trans (hb2.mono B1.out.size)); have K1 := hid (J1.out.below hb2); have K2 := hid (J2.out.below hb2); clear hb2)
    have CL : Hid (∀ w' : World, Below w2.heap.size w2 w' → _) := fun w' hb' => CL0.out w' (B2.out.trans (hb'.mono B2.out.size))
    have CG : Hid (∀ w' : World, Below w2.heap.size w2 w' → _) := fun w' hb' => CG0.out w' (B2.out.trans (hb'.mono B2.out.size))
    have CN : Hid (∀ w' : World, Below w2.heap.size w2 w' → _) := fun w' hb' => CN0.out w' (B2.out.trans (hb'.mono B2.out.size))
    clear CL0 CG0 CN0
    refine wp_region_held (S := fun w' => Hid (Below w2.heap.size w2 w')) (by kernel_rfl) ?_
    change wpAnyH _ _ _ _ _ _ _ _ w2.drew
    have Gx0 : Hid (Below w2.heap.size w2 w2.drew) := (Below.refl _ _).drew
    generalize w2.drew = x0 at Gx0  ⊢
    refine wpAnyH_take (i := 0) (oi := { dst := some 15, op := _, type := _, pos := _, after := _, guard := _ }) (v := ?_) rfl (by kernel_rfl) (by kernel_rfl) (by kernel_rfl) (fun _ _ _ h => h) (Or.inl ⟨by kernel_rfl, ?_⟩) Gx0 ?_
    rotate_left
    · (intro w hSw; go_simp; try with_reducible rfl)
    try simp only [Act.put, List.setIfInBounds_toArray, List.set_cons_zero, List.set_cons_succ]
    refine wpAnyH_take (i := 2) (oi := { dst := some 17, op := _, type := _, pos := _, after := _, guard := _ }) (v := ?_) rfl (by kernel_rfl) (by kernel_rfl) (by kernel_rfl) (fun _ _ _ h => h) (Or.inl ⟨by kernel_rfl, ?_⟩) Gx0 ?_
    rotate_left
    · (intro w hSw; go_simp; try with_reducible rfl)
    try simp only [Act.put, List.setIfInBounds_toArray, List.set_cons_zero, List.set_cons_succ]
    refine wpAnyH_ready (rs := [1]) (by kernel_rfl) (by simp) ?_
    refine (AllReadyH.cons (o := { dst := some 16, op := _, type := _, pos := _, after := _, guard := _ }) rfl (fun Qc hQc => ?_) AllReadyH.nil)
    go_simp
    go_at_call 10
    refine (CL.out x0 Gx0.out).mono ?_
    rintro e x1 ⟨rfl, hb⟩
    have Gx1 := hid (Gx0.out.trans (hb.mono Gx0.out.size))
    clear hb
    go_wp2_with fail
    refine hQc.out _ _ Gx1 (fun hHeld => ?_)
    clear hQc Qc hHeld
    try simp only [Act.put, List.setIfInBounds_toArray, List.set_cons_zero, List.set_cons_succ]
    refine wpAnyH_ready (rs := [3]) (by kernel_rfl) (by simp) ?_
    refine (AllReadyH.cons (o := { dst := some 18, op := _, type := _, pos := _, after := _, guard := _ }) rfl (fun Qc hQc => ?_) AllReadyH.nil)
    go_simp
    go_at_call 11
    refine (CG.out x1 Gx1.out).mono ?_
    rintro e x2 ⟨rfl, hb⟩
    have Gx2 := hid (Gx1.out.trans (hb.mono Gx1.out.size))
    clear hb
    go_wp2_with fail
    refine hQc.out _ _ Gx2 (fun hHeld => ?_)
    clear hQc Qc hHeld
    try simp only [Act.put, List.setIfInBounds_toArray, List.set_cons_zero, List.set_cons_succ]
    refine wpAnyH_take (i := 4) (oi := { dst := some 19, op := _, type := _, pos := _, after := _, guard := _ }) (v := ?_) rfl (by kernel_rfl) (by kernel_rfl) (by kernel_rfl) (fun _ _ _ h => h) (Or.inl ⟨by kernel_rfl, ?_⟩) Gx2 ?_
    rotate_left
    · (intro w hSw; go_simp; try with_reducible rfl)
    try simp only [Act.put, List.setIfInBounds_toArray, List.set_cons_zero, List.set_cons_succ]
    refine wpAnyH_take (i := 5) (oi := { dst := some 20, op := _, type := _, pos := _, after := _, guard := _ }) (v := ?_) rfl (by kernel_rfl) (by kernel_rfl) (by kernel_rfl) (fun _ _ _ h => h) (Or.inl ⟨by kernel_rfl, ?_⟩) Gx2 ?_
    rotate_left
    · (intro w hSw; go_simp; try with_reducible rfl)
    try simp only [Act.put, List.setIfInBounds_toArray, List.set_cons_zero, List.set_cons_succ]
    refine wpAnyH_take (i := 6) (oi := { dst := some 21, op := _, type := _, pos := _, after := _, guard := _ }) (v := .agg (hc32 x)) rfl (by kernel_rfl) (by kernel_rfl) (by kernel_rfl) (fun _ _ _ h => h) (yieldsIf_load_mid (cs := u8s x) (by rfl) _ _ rfl _ _ rfl _ (fun w' hSw => blk_row (K1.out.below hSw.out)) Tryd.underlying24 rfl HIX.out) Gx2 ?_
    try simp only [Act.put, List.setIfInBounds_toArray, List.set_cons_zero, List.set_cons_succ]
    refine wpAnyH_take (i := 7) (oi := { dst := some 22, op := _, type := _, pos := _, after := _, guard := _ }) (v := .agg (hc32 y)) rfl (by kernel_rfl) (by kernel_rfl) (by kernel_rfl) (fun _ _ _ h => h) (yieldsIf_load_mid (cs := u8s y) (by rfl) _ _ rfl _ _ rfl _ (fun w' hSw => blk_row (K2.out.below hSw.out)) Tryd.underlying24 rfl HIY.out) Gx2 ?_
    try simp only [Act.put, List.setIfInBounds_toArray, List.set_cons_zero, List.set_cons_succ]
    refine wpAnyH_take (i := 9) (oi := { dst := some 24, op := _, type := _, pos := _, after := _, guard := _ }) (v := .agg (hc32 x)) rfl (by kernel_rfl) (by kernel_rfl) (by kernel_rfl) (fun _ _ _ h => h) (yieldsIf_load_mid (cs := u8s x) (by rfl) _ _ rfl _ _ rfl _ (fun w' hSw => blk_row (K1.out.below hSw.out)) Tryd.underlying24 rfl HIX.out) Gx2 ?_
    try simp only [Act.put, List.setIfInBounds_toArray, List.set_cons_zero, List.set_cons_succ]
    refine wpAnyH_take (i := 10) (oi := { dst := some 25, op := _, type := _, pos := _, after := _, guard := _ }) (v := .agg (hc32 y)) rfl (by kernel_rfl) (by kernel_rfl) (by kernel_rfl) (fun _ _ _ h => h) (yieldsIf_load_mid (cs := u8s y) (by rfl) _ _ rfl _ _ rfl _ (fun w' hSw => blk_row (K2.out.below hSw.out)) Tryd.underlying24 rfl HIY.out) Gx2 ?_
    try simp only [Act.put, List.setIfInBounds_toArray, List.set_cons_zero, List.set_cons_succ]
    refine wpAnyH_ready (rs := [8]) (by kernel_rfl) (by simp) ?_
    refine (AllReadyH.cons (o := { dst := some 23, op := _, type := _, pos := _, after := _, guard := _ }) rfl (fun Qc hQc => ?_) AllReadyH.nil)
    go_simp
    go_at_call 12
    refine (CN.out x2 Gx2.out).mono ?_
    rintro e x3 ⟨rfl, hb⟩
    have Gx3 := hid (Gx2.out.trans (hb.mono Gx2.out.size))
    clear hb
    go_wp2_with fail
    refine hQc.out _ _ Gx3 (fun hHeld => ?_)
    clear hQc Qc hHeld
    try simp only [Act.put, List.setIfInBounds_toArray, List.set_cons_zero, List.set_cons_succ]
    refine wpAnyH_ready (rs := [11]) (by kernel_rfl) (by simp) ?_
    refine (AllReadyH.cons (o := { dst := some 26, op := _, type := _, pos := _, after := _, guard := _ }) rfl (fun Qc hQc => ?_) AllReadyH.nil)
    go_simp
    go_at_call 13
    refine (CM.out x3).mono ?_
    rintro e x4 ⟨rfl, hb⟩
    have Gx4 := hid (Gx3.out.trans (hb.mono Gx3.out.size))
    clear hb
    go_wp2_with fail
    refine hQc.out _ _ Gx4 (fun hHeld => ?_)
    clear hQc Qc hHeld
    try simp only [Act.put, List.setIfInBounds_toArray, List.set_cons_zero, List.set_cons_succ]
    refine wpAnyH_take (i := 12) (oi := { dst := some 27, op := _, type := _, pos := _, after := _, guard := _ }) (v := ?_) rfl (by kernel_rfl) (by kernel_rfl) (by kernel_rfl) (fun _ _ _ h => h) (Or.inl ⟨by kernel_rfl, ?_⟩) Gx4 ?_
    rotate_left
    · (intro w hSw; go_simp; try with_reducible rfl)
    try simp only [Act.put, List.setIfInBounds_toArray, List.set_cons_zero, List.set_cons_succ]
    refine wpAnyH_take (i := 13) (oi := { dst := some 28, op := _, type := _, pos := _, after := _, guard := _ }) (v := ?_) rfl (by kernel_rfl) (by kernel_rfl) (by kernel_rfl) (fun _ _ _ h => h) (Or.inl ⟨by kernel_rfl, ?_⟩) Gx4 ?_
    rotate_left
    · (intro w hSw; go_simp; try with_reducible rfl)
    try simp only [Act.put, List.setIfInBounds_toArray, List.set_cons_zero, List.set_cons_succ]
    refine wpAnyH_take (i := 14) (oi := { dst := some 6, op := _, type := _, pos := _, after := _, guard := _ }) (v := ?_) rfl (by kernel_rfl) (by kernel_rfl) (by kernel_rfl) (fun _ _ _ h => h) (Or.inl ⟨by kernel_rfl, ?_⟩) Gx4 ?_
    rotate_left
    · (intro w hSw; go_simp; try with_reducible rfl)
    try simp only [Act.put, List.setIfInBounds_toArray, List.set_cons_zero, List.set_cons_succ]
    refine wpAnyH_done (by kernel_rfl) ?_ _
    try simp only [Act.put, List.setIfInBounds_toArray, List.set_cons_zero, List.set_cons_succ]
    go_wp2
    go_ret
    exact ⟨rfl, B2.out.trans (Gx4.out.mono B2.out.size)⟩
  · have h5' : (500 : Int) < (n : Int) := by omega
    clear k1 k2 b1 hx hy ht hr hl hb
    go_enter Tryd.func3, Tryd.ntmps3
    go_wp2_with (go_at_call 9; first
      | (refine (CA.out _ B1.out).mono ?_; rintro e w2 ⟨rfl, hb2⟩; have B2 := hid (B1.out.trans (hb2.mono B1.out.size)); clear hb2 B1)
      | (refine (CA.out _ B2.out).mono ?_; rintro e w3 ⟨rfl, hb3⟩; have B3 := hid (B2.out.trans (hb3.mono B2.out.size)); clear hb3))
    go_ret
    exact ⟨rfl, B3.out⟩
end Go.Proofs.YtpeldkadpnoeiaaDoor
