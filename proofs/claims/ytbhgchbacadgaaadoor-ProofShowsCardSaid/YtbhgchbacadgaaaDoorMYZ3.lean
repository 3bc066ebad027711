/-
  What is proved here: of all trees and keys the proof is the chapter's: the walk of the statement.
-/
import Derived.Test.YtbhgchbacadgaaaDoorMYZ1
import Derived.Test.YtbhgchbacadgaaaDoorMY29
set_option linter.unusedSimpArgs false
set_option linter.unusedVariables false
namespace Go.Proofs.YtbhgchbacadgaaaDoor
open Go.ChangeShapes Go.WideShapes Go.ChangeAt Go.RowKit
set_option linter.unusedVariables false
set_option linter.unusedSimpArgs false
set_option maxRecDepth 20000

set_option maxHeartbeats 8000000 in
theorem shows_walk {w : World} {A0 : Option Addr} {m c0 : Nat} {P : List KV} {K : List Int} (h : InP w A0 m P) (hK : Ky K) (ht : Tab w) : Calls Tryd.prog 6 #[.slice A0 m c0, .agg (kc K)] w fun e w' => e = .returned (.bool true) ∧ Below w.heap.size w w' := by
  have K1 : Hid (Blk (w.alloc (.cells (kc K) 24)) w.heap.size 24 (kc K)) := Blk.new w 24 _
  have B0 : Hid (Below w.heap.size w (w.alloc (.cells (kc K) 24))) := (Below.refl _ _).alloc (Nat.le_refl _) _
  have CA := hid (fun w1 (hb : Below w.heap.size w w1) => qawake_any w1 (ht.below hb))
  have hml : m ≤ 9223372036854775807 := h.2.1
  by_cases hm : 20 < m
  · have hm' : (20 : Int) < (m : Int) := by omega
    clear h
    go_enter Tryd.func6, Tryd.ntmps6
    go_wp2_with (first
      | (go_at_call 26; refine (CA.out _ B0.out).mono ?_; rintro e w1 ⟨rfl, hb⟩; have B1 := hid (B0.out.trans (hb.mono B0.out.size)); clear hb)
      | (go_at_call 26; refine (CA.out _ B1.out).mono ?_; rintro e w2 ⟨rfl, hb⟩; have B2 := hid (B1.out.trans (hb.mono B1.out.size)); clear hb))
    go_ret
    exact ⟨rfl, B2.out⟩
  · have hm' : ¬ (20 : Int) < (m : Int) := by omega
    have hd1 : decide ((20 : Int) < (m : Int)) = false := decide_eq_false hm'
    obtain ⟨Y, HY, hY0, hYs⟩ := zero_qproof
    have CB := hid (fun w1 (hb : Below w.heap.size w w1) => xBuilt_any (c0 := c0) (h.below hb) (by omega) (ht.below hb))
    have HPL : Hid (P.length ≤ 20) := by show _ ≤ _; rw [h.1]; omega
    have HM : Hid (m ≤ 100) := by show m ≤ 100; omega
    have HK := hid hK; have HT := hid ht; have HIN := hid h
    have HKI := hid (u8s_info hK)
    clear h hm hK ht
    go_enter Tryd.func6, Tryd.ntmps6
    go_upto_region 4 with (first
      | (go_at_call 26; refine (CA.out _ B0.out).mono ?_; rintro e w1 ⟨rfl, hb⟩; have B1 := hid (B0.out.trans (hb.mono B0.out.size)); have K2 := hid (K1.out.below hb); clear hb)
      | (go_at_call 20; refine (CB.out _ B1.out).mono ?_; rintro e w3 ⟨f, ti, g, b, N, A, c, tv, T, rfl, hbt⟩; have BT := hid hbt; clear hbt))
    have B3 := hid (B1.out.trans (BT.out.bl.mono B1.out.size))
    have K3 := hid (K2.out.below BT.out.bl)
    have HLT : Hid (lstO T = allL P) := by show _ = _; rw [BT.out.l, List.take_length]
    have HTO : Hid (TOk T) := tat_ok BT.out.t
    have hsz : szO T ≤ 20 := Nat.le_trans BT.out.sz HPL.out
    have hll : (lstO T).length ≤ 20 := by have e : szO T = (lstO T).length := by cases T <;> rfl
                                          omega
    have CS := hid (tree_show BT.out.fo BT.out.t (by omega) HK.out (HT.out.below B3.out))
    have HPK := hid (showP_ok (K := K) HTO.out)
    have HPL2 := hid (Nat.le_trans (showP_len (K := K) (T := T)) hll)
    have HLL := hid hll
    have CZ0 := fun (x : World) (A9 : Option Addr) (n9 c9 : Nat) (hin : InP x A9 n9 (allL P)) (hc : n9 ≤ c9) (hs : n9 < 500) => zShow_any (w := x) (T := T) (K := K) HTO.out (by rw [HLT.out]; exact hin) hc HK.out hs
    have CZ := hid CZ0
    rw [HLT.out] at HLL
    generalize showP K T = p at CS HPK HPL2 CZ
    clear hsz hll CA CB BT B0 K1 B1 K2 CZ0 HTO HLT hd1
    have c3 := blk_key K3.out
    have S3 : Hid (Below w3.heap.size w3 w3) := Below.refl _ _
    go_upto_region 5 with (first
      | (refine load_at rfl 24 (.tmp 3) rfl w.heap.size 0 rfl (u8s K) _ (blk_key K3.out) Tryd.underlying24 rfl HKI.out (kc K) rfl ?_)
      | (go_at_call 27; refine CS.out.mono ?_; clear CS; rintro e w6 ⟨A5, c5, rfl, hin5, hb⟩; have IN6 := hid hin5; have B6 := hid (B3.out.trans (hb.mono B3.out.size)); have K6 := hid (K3.out.below hb); have HI2 := hid (proof_info2 HPK.out (.slice A5 p.ss.length c5)); have HL2 := hid (proof_info HPK.out (.slice A5 p.ss.length c5)); have HZ2 : Hid (Y.size = (prc (.slice A5 p.ss.length c5) p).toArray.size) := (by show _ = _; rw [HY.out, List.size_toArray, List.size_toArray, qZ_ok.len, HPK.out.len]); clear hin5 hb)
      | (refine wpList_store_row rfl 66 (.tmp 7) (.tmp 27) rfl w6.heap.size (prc (.slice A5 p.ss.length c5) p).toArray rfl rfl 66 Y (Blk.new w6 66 Y) HI2.out HZ2.out pr_one ?_))
    have BX : Hid (Below w6.heap.size w6 ((w6.alloc (.cells Y 66)).setRow w6.heap.size (prc (.slice A5 p.ss.length c5) p).toArray)) := below_setRow ((Below.refl _ _).alloc (Nat.le_refl _) _) (Nat.le_refl _) _
    have N7 : Hid (PrAt ((w6.alloc (.cells Y 66)).setRow w6.heap.size (prc (.slice A5 p.ss.length c5) p).toArray) w6.heap.size (.slice A5 p.ss.length c5) p) := ((Blk.new w6 66 Y).row _).pr HPK.out
    have B7 := hid (B6.out.trans (BX.out.mono B6.out.size)); have K7 := hid (K6.out.below BX.out); have IN7 := hid (IN6.out.below BX.out)
    clear BX B6 K6 K3 IN6 HI2 HZ2 c3 S3
    generalize (w6.alloc (.cells Y 66)).setRow w6.heap.size (prc (.slice A5 p.ss.length c5) p).toArray = w7 at N7 B7 K7 IN7 ⊢
    generalize w6.heap.size = g7 at N7 ⊢
    have KR7 := hid (blk_key K7.out)
    go_upto_region 5 with (fail)
    refine wp_region_held (S := fun w' => Hid (Below w7.heap.size w7 w')) (by kernel_rfl) ?_
    change wpAnyH _ _ _ _ _ _ _ _ w7.drew
    have Gx0 : Hid (Below w7.heap.size w7 w7.drew) := (Below.refl _ _).drew
    generalize w7.drew = x0 at Gx0  ⊢
    refine wpAnyH_take (i := 0) (oi := { dst := some 29, op := _, type := _, pos := _, after := _, guard := _ }) (v := ?_) rfl (by kernel_rfl) (by kernel_rfl) (by kernel_rfl) (fun _ _ _ h => h) (Or.inl ⟨by kernel_rfl, ?_⟩) Gx0 ?_
    rotate_left
    · (intro w hSw; go_simp; try with_reducible rfl)
    try simp only [Act.put, List.setIfInBounds_toArray, List.set_cons_zero, List.set_cons_succ]
    refine wpAnyH_take (i := 1) (oi := { dst := some 30, op := _, type := _, pos := _, after := _, guard := _ }) (v := ?_) rfl (by kernel_rfl) (by kernel_rfl) (by kernel_rfl) (fun _ _ _ h => h) (Or.inl ⟨by kernel_rfl, ?_⟩) Gx0 ?_
    rotate_left
    · (intro w hSw; go_simp; try with_reducible rfl)
    try simp only [Act.put, List.setIfInBounds_toArray, List.set_cons_zero, List.set_cons_succ]
    refine wpAnyH_take (i := 2) (oi := { dst := some 31, op := _, type := _, pos := _, after := _, guard := _ }) (v := ?_) rfl (by kernel_rfl) (by kernel_rfl) (by kernel_rfl) (fun _ _ _ h => h) (Or.inl ⟨by kernel_rfl, ?_⟩) Gx0 ?_
    rotate_left
    · (intro w hSw; go_simp; try with_reducible rfl)
    try simp only [Act.put, List.setIfInBounds_toArray, List.set_cons_zero, List.set_cons_succ]
    refine wpAnyH_take (i := 3) (oi := { dst := some 32, op := _, type := _, pos := _, after := _, guard := _ }) (v := .agg ((prc (.slice A5 p.ss.length c5) p).toArray)) rfl (by kernel_rfl) (by kernel_rfl) (by kernel_rfl) (fun _ _ _ h => h) (yieldsIf_load_mid (cs := (prc (.slice A5 p.ss.length c5) p)) (by rfl) _ _ rfl _ _ rfl _ (fun w' hSw => (rng_bel hSw.out N7.out.all)) Tryd.underlying66 rfl HL2.out) Gx0 ?_
    try simp only [Act.put, List.setIfInBounds_toArray, List.set_cons_zero, List.set_cons_succ]
    refine wpAnyH_take (i := 5) (oi := { dst := some 34, op := _, type := _, pos := _, after := _, guard := _ }) (v := ?_) rfl (by kernel_rfl) (by kernel_rfl) (by kernel_rfl) (fun _ _ _ h => h) (Or.inl ⟨by kernel_rfl, ?_⟩) Gx0 ?_
    rotate_left
    · (intro w hSw; go_simp; try with_reducible rfl)
    try simp only [Act.put, List.setIfInBounds_toArray, List.set_cons_zero, List.set_cons_succ]
    refine wpAnyH_take (i := 7) (oi := { dst := some 36, op := _, type := _, pos := _, after := _, guard := _ }) (v := .agg (kc K)) rfl (by kernel_rfl) (by kernel_rfl) (by kernel_rfl) (fun _ _ _ h => h) (yieldsIf_load_mid (cs := u8s K) (by rfl) _ _ rfl _ _ rfl _ (fun w' hSw => (rng_bel hSw.out KR7.out)) Tryd.underlying24 rfl HKI.out) Gx0 ?_
    try simp only [Act.put, List.setIfInBounds_toArray, List.set_cons_zero, List.set_cons_succ]
    refine wpAnyH_ready (rs := [4]) (by kernel_rfl) (by simp) ?_
    refine (AllReadyH.cons (o := { dst := some 33, op := _, type := _, pos := _, after := _, guard := _ }) rfl (fun Qc hQc => ?_) AllReadyH.nil)
    go_simp
    go_at_call 29
    refine (qTo_any (c := c5) x0 (IN7.out.below Gx0.out) HPK.out (by have := HPL2.out; omega)).mono ?_
    rintro e x1 ⟨A8, c8, rfl, hin8, hb⟩
    have Gx1 := hid (Gx0.out.trans (hb.mono Gx0.out.size))
    have IN8 := hid hin8
    clear hb hin8
    go_wp2_with fail
    refine hQc.out _ _ Gx1 (fun hHeld => ?_)
    clear hQc Qc hHeld
    try simp only [Act.put, List.setIfInBounds_toArray, List.set_cons_zero, List.set_cons_succ]
    refine wpAnyH_ready (rs := [6]) (by kernel_rfl) (by simp) ?_
    refine (AllReadyH.cons (o := { dst := some 35, op := _, type := _, pos := _, after := _, guard := _ }) rfl (fun Qc hQc => ?_) AllReadyH.nil)
    go_simp
    go_at_call 12
    refine (yAll_any (c0 := c0) x1 (HIN.out.below (B7.out.trans (Gx1.out.mono B7.out.size))) HM.out).mono ?_
    rintro e x2 ⟨v9, rfl, ho, hb⟩
    have Gx2 := hid (Gx1.out.trans (hb.mono Gx1.out.size))
    have IN9 := hid (IN8.out.below hb)
    obtain ⟨A9, c9, hv, hc9⟩ := ho.cap
    obtain ⟨m9, hm9⟩ : ∃ m9, m9 = (allL P).length := ⟨_, rfl⟩
    rw [← hm9] at hv hc9
    subst hv
    have CZ9 := hid (CZ.out x2 A9 m9 c9 (ho.in (by have := HLL.out; omega)) hc9 (by have := HLL.out; omega))
    clear hb ho hm9 hc9
    go_wp2_with fail
    refine hQc.out _ _ Gx2 (fun hHeld => ?_)
    clear hQc Qc hHeld
    try simp only [Act.put, List.setIfInBounds_toArray, List.set_cons_zero, List.set_cons_succ]
    refine wpAnyH_ready (rs := [8]) (by kernel_rfl) (by simp) ?_
    refine (AllReadyH.cons (o := { dst := some 37, op := _, type := _, pos := _, after := _, guard := _ }) rfl (fun Qc hQc => ?_) AllReadyH.nil)
    go_simp
    go_at_call 30
    refine CZ9.out.mono ?_
    clear CZ9
    rintro e x3 ⟨A10, c10, rfl, hin10, hb⟩
    have Gx3 := hid (Gx2.out.trans (hb.mono Gx2.out.size))
    have CSa := hid (zSame_yes (c := c8) (c2 := c10) x3 (IN9.out.below hb) hin10 HPK.out)
    clear hb hin10
    go_wp2_with fail
    refine hQc.out _ _ Gx3 (fun hHeld => ?_)
    clear hQc Qc hHeld
    try simp only [Act.put, List.setIfInBounds_toArray, List.set_cons_zero, List.set_cons_succ]
    refine wpAnyH_ready (rs := [9]) (by kernel_rfl) (by simp) ?_
    refine (AllReadyH.cons (o := { dst := some 38, op := _, type := _, pos := _, after := _, guard := _ }) rfl (fun Qc hQc => ?_) AllReadyH.nil)
    go_simp
    go_at_call 28
    refine (CSa.out).mono ?_
    rintro e x4 ⟨rfl, hb⟩
    have Gx4 := hid (Gx3.out.trans (hb.mono Gx3.out.size))
    clear hb
    go_wp2_with fail
    refine hQc.out _ _ Gx4 (fun hHeld => ?_)
    clear hQc Qc hHeld
    try simp only [Act.put, List.setIfInBounds_toArray, List.set_cons_zero, List.set_cons_succ]
    refine wpAnyH_take (i := 10) (oi := { dst := some 39, op := _, type := _, pos := _, after := _, guard := _ }) (v := ?_) rfl (by kernel_rfl) (by kernel_rfl) (by kernel_rfl) (fun _ _ _ h => h) (Or.inl ⟨by kernel_rfl, ?_⟩) Gx4 ?_
    rotate_left
    · (intro w hSw; go_simp; try with_reducible rfl)
    try simp only [Act.put, List.setIfInBounds_toArray, List.set_cons_zero, List.set_cons_succ]
    refine wpAnyH_take (i := 11) (oi := { dst := some 4, op := _, type := _, pos := _, after := _, guard := _ }) (v := ?_) rfl (by kernel_rfl) (by kernel_rfl) (by kernel_rfl) (fun _ _ _ h => h) (Or.inl ⟨by kernel_rfl, ?_⟩) Gx4 ?_
    rotate_left
    · (intro w hSw; go_simp; try with_reducible rfl)
    try simp only [Act.put, List.setIfInBounds_toArray, List.set_cons_zero, List.set_cons_succ]
    refine wpAnyH_done (by kernel_rfl) ?_ _
    try simp only [Act.put, List.setIfInBounds_toArray, List.set_cons_zero, List.set_cons_succ]
    have BF := hid (B7.out.trans (Gx4.out.mono B7.out.size))
    go_wp2
    go_ret
    exact ⟨rfl, BF.out⟩
end Go.Proofs.YtbhgchbacadgaaaDoor
