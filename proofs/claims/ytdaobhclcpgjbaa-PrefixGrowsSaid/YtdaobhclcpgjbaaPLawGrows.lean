/-
  What is proved here: a prefix is within what it is without its last bit, is the child of that by that bit, and both children meet in it: the walk of the statement.
-/
import Derived.Test.YtdaobhclcpgjbaaPGrow0
namespace Go.Proofs.Ytdaobhclcpgjbaa
open Go.ChangeShapes Go.WideShapes Go.ChangeAt Go.RowKit
set_option linter.unusedVariables false

/-- what lies where, ahead of the last two statements -/
structure Gr (w : World) (K : List Int) (n gp ga gb : Nat) (w' : World) : Prop where
  b0 : Blk w' w.heap.size 23 (kc K)
  b1 : Blk w' gp 30 (pc n (cut K n))
  b2 : Blk w' ga 30 (pc (n + 1) (cut K n))
  b3 : Blk w' gb 30 (pc (n + 1) (setb (cut K n) n))
  bl : Below w.heap.size w w'
section
variable {w : World} {K : List Int} {n gp ga gb : Nat} {w' w2 : World}
theorem Gr.below (h : Gr w K n gp ga gb w') (hb : Below w'.heap.size w' w2) : Gr w K n gp ga gb w2 := ⟨h.b0.below hb, h.b1.below hb, h.b2.below hb, h.b3.below hb, h.bl.trans (hb.mono h.bl.size)⟩
theorem Gr.drew (h : Gr w K n gp ga gb w') : Gr w K n gp ga gb w'.drew := ⟨h.b0, h.b1, h.b2, h.b3, h.bl.drew⟩
theorem Gr.alloc (h : Gr w K n gp ga gb w') (o : Obj) : Gr w K n gp ga gb (w'.alloc o) := ⟨h.b0.alloc o, h.b1.alloc o, h.b2.alloc o, h.b3.alloc o, h.bl.alloc h.bl.size o⟩
theorem Gr.row (h : Gr w K n gp ga gb w') {g : Nat} (h0 : w.heap.size < g) (h1 : gp ≠ g) (h2 : ga ≠ g) (h3 : gb ≠ g) (cs : Array Value) : Gr w K n gp ga gb (w'.setRow g cs) := ⟨h.b0.rowFar (by omega) cs, h.b1.rowFar h1 cs, h.b2.rowFar h2 cs, h.b3.rowFar h3 cs, below_setRow h.bl (by omega) cs⟩
end
set_option maxRecDepth 10000 in
set_option maxHeartbeats 8000000 in
theorem grows_nat (K : List Int) (n : Nat) (hK : Ky K) (hn : n < 256) (w : World) :
    Calls Try.prog 7 #[.agg (kc K), .int .u8 n] w fun e w' => e = .returned (.bool true) ∧ Below w.heap.size w w' := by
  obtain ⟨Z, HZ, hZ0, hZs⟩ := zero_pre
  have K0 : Hid (Blk (w.alloc (.cells (kc K) 23)) w.heap.size 23 (kc K)) := Blk.new w 23 _
  have B0 : Hid (Below w.heap.size w (w.alloc (.cells (kc K) 23))) := (Below.refl _ _).alloc (Nat.le_refl _) _
  have hP := cut_ky K n
  have hS := setb_ky (cut K n) n
  have CA := hid pawake_any
  have cc := fun w => pCut_any K hK n w
  rw [lim_nat n (by omega)] at cc
  have CC := hid cc
  have c1 := fun w => pChild_any n (cut K n) 0 hP w
  rw [ch_0 K n hn] at c1
  have C1 := hid c1
  have c2 := fun w => pChild_any n (cut K n) 1 hP w
  rw [ch_1 K n hn] at c2
  have C2 := hid c2
  have c3 := fun w => pMeet_any (n + 1) (n + 1) (cut K n) (setb (cut K n) n) hP hS w
  rw [meet_ch K n hn] at c3
  have C3 := hid c3
  have c4 := fun w => pWithin_any n (n + 1) (cut K n) (cut K n) hP hP w
  rw [wth_ch0 K n hn] at c4
  have C4 := hid c4
  have c5 := fun w => pWithin_any n (n + 1) (cut K n) (setb (cut K n) n) hP hS w
  rw [wth_ch1 K n hn] at c5
  have C5 := hid c5
  have c6 := fun w => pWithin_any (n + 1) n (cut K n) (cut K n) hP hP w
  rw [wth_back K n (cut K n)] at c6
  have C6 := hid c6
  have c7 := fun w => pChild_any n (cut K n) (bit K n) hP w
  rw [ch_bit K n hn] at c7
  have CB := hid (fun w => pBit_in K hK n hn w)
  have cd := fun w => pCut_any K hK (n + 1) w
  rw [show lim ((n : Int) + 1) = n + 1 by unfold lim; omega] at cd
  have CD := hid cd
  have C8 := hid (fun w => pHolds_any (n + 1) (cut K n) K hP hK w)
  have C9 := hid (fun w => pHolds_any (n + 1) (setb (cut K n) n) K hS hK w)
  have hx := hld_xor K n hn
  have HNE : Hid (∀ w, (binOp .neq 30 (.agg (pc n (cut K n))) (.agg (pc n (cut K n)))).run Try.prog w = .ok (.bool false) w) := fun w => by
    have h := neq_pre n n (cut K n) (cut K n) hP hP w
    rwa [decide_eq_true (⟨rfl, rfl⟩ : (n : Int) = n ∧ cut K n = cut K n)] at h
  have hQ := cut_ky K (n + 1)
  have HEQ : Hid (∀ w, (binOp .eql 30 (.agg (pc (n + 1) (cut K (n + 1)))) (.agg (pc (n + 1) (cut K (n + 1))))).run Try.prog w = .ok (.bool true) w) := fun w => by
    have h := eql_pre (n + 1) (n + 1) (cut K (n + 1)) (cut K (n + 1)) hQ hQ w
    rwa [decide_eq_true (⟨rfl, rfl⟩ : (n : Int) + 1 = n + 1 ∧ cut K (n + 1) = cut K (n + 1))] at h
  have HI1 := hid (pc_info n hP)
  have HI2 := hid (pc_info (n + 1) hP)
  have HI3 := hid (pc_info (n + 1) hS)
  have HI4 := hid (pc_info (n + 1) hQ)
  have HZ1 : Hid (Z.size = (pc n (cut K n)).size) := by show _ = _; rw [HZ.out, pc_size 0 zk_ky, pc_size _ hP]
  have HZ2 : Hid (Z.size = (pc (n + 1) (cut K n)).size) := by show _ = _; rw [HZ.out, pc_size 0 zk_ky, pc_size _ hP]
  have HZ3 : Hid (Z.size = (pc (n + 1) (setb (cut K n) n)).size) := by show _ = _; rw [HZ.out, pc_size 0 zk_ky, pc_size _ hS]
  have HZ4 : Hid (Z.size = (pc (n + 1) (cut K (n + 1))).size) := by show _ = _; rw [HZ.out, pc_size 0 zk_ky, pc_size _ hQ]
  generalize bit K n = b at c7 CB
  generalize hld ((n : Int) + 1) (cut K n) K = u at C8 hx
  generalize hld ((n : Int) + 1) (setb (cut K n) n) K = v at C9 hx
  have C7 := hid c7
  have HX := hid hx
  have i0 : (0 : Int) ≤ (n : Int) := by omega
  have i1 : (n : Int) < 256 := by omega
  have s1 : IntKind.i64.wrap (n : Int) = n := IntWalk.i64_in _ (by omega)
  clear c1 c2 c3 c4 c5 c6 c7 cc cd hx
  go_enter Try.func7, Try.ntmps7
  go_wp2_with (first
    | (refine load_at rfl 23 (.tmp 2) rfl w.heap.size 0 rfl (u8s K) _ (blk_key K0.out) Try.underlying23 rfl (u8s_info hK) (kc K) rfl ?_)
    | (go_at_call 18; refine (CC.out _).mono ?_; rintro e w1 ⟨rfl, hb1⟩; have L0 := hid (K0.out.below hb1); have B1 := hid (B0.out.trans (hb1.mono B0.out.size)); have hw1 : w.heap.size < w1.heap.size := L0.out.lt; have M0 : Hid (Blk ((w1.alloc (.cells Z 30)).setRow w1.heap.size (pc n (cut K n))) w.heap.size 23 (kc K)) := (L0.out.alloc _).rowFar (by omega) _; have M1 : Hid (Blk ((w1.alloc (.cells Z 30)).setRow w1.heap.size (pc n (cut K n))) w1.heap.size 30 (pc n (cut K n))) := (Blk.new w1 30 Z).row _; have MB : Hid (Below w.heap.size w ((w1.alloc (.cells Z 30)).setRow w1.heap.size (pc n (cut K n)))) := below_setRow (B1.out.alloc (by omega) _) (by omega) _; clear hb1 L0 B1 K0 B0)
    | (refine wpList_store_row rfl 30 (.tmp 5) (.tmp 15) rfl w1.heap.size (pc n (cut K n)) rfl rfl 30 Z (Blk.new w1 30 Z) HI1.out HZ1.out (pc_one _ _) ?_)
    | (refine load_at rfl 30 (.tmp 5) rfl w1.heap.size 0 rfl (.int .i64 n :: u8s (cut K n)) _ (blk_pre M1.out) Try.underlying30 rfl (pcl_info _ hP) (pc n (cut K n)) rfl ?_)
    | (go_at_call 16; (with_reducible refine (C1.out _).mono ?_); rintro e w2 ⟨rfl, hb2⟩; have N0 := hid (M0.out.below hb2); have N1 := hid (M1.out.below hb2); have NB := hid (MB.out.trans (hb2.mono MB.out.size)); have hw2 : w1.heap.size < w2.heap.size := N1.out.lt; have P0 : Hid (Blk ((w2.alloc (.cells Z 30)).setRow w2.heap.size (pc (n + 1) (cut K n))) w.heap.size 23 (kc K)) := (N0.out.alloc _).rowFar (by omega) _; have P1 : Hid (Blk ((w2.alloc (.cells Z 30)).setRow w2.heap.size (pc (n + 1) (cut K n))) w1.heap.size 30 (pc n (cut K n))) := (N1.out.alloc _).rowFar (by omega) _; have P2 : Hid (Blk ((w2.alloc (.cells Z 30)).setRow w2.heap.size (pc (n + 1) (cut K n))) w2.heap.size 30 (pc (n + 1) (cut K n))) := (Blk.new w2 30 Z).row _; have PB : Hid (Below w.heap.size w ((w2.alloc (.cells Z 30)).setRow w2.heap.size (pc (n + 1) (cut K n)))) := below_setRow (NB.out.alloc (by omega) _) (by omega) _; clear hb2 M0 M1 MB N0 N1 NB)
    | (refine wpList_store_row rfl 30 (.tmp 6) (.tmp 19) rfl w2.heap.size (pc (n + 1) (cut K n)) rfl rfl 30 Z (Blk.new w2 30 Z) HI2.out HZ2.out (pc_one _ _) ?_)
    | (refine load_at rfl 30 (.tmp 5) rfl w1.heap.size 0 rfl (.int .i64 n :: u8s (cut K n)) _ (blk_pre P1.out) Try.underlying30 rfl (pcl_info _ hP) (pc n (cut K n)) rfl ?_)
    | (go_at_call 16; (with_reducible refine (C2.out _).mono ?_); rintro e w3 ⟨rfl, hb3⟩; have R0 := hid (P0.out.below hb3); have R1 := hid (P1.out.below hb3); have R2 := hid (P2.out.below hb3); have RB := hid (PB.out.trans (hb3.mono PB.out.size)); have hw3 : w2.heap.size < w3.heap.size := R2.out.lt; have S0 := hid (Gr.mk (w' := ((w3.alloc (.cells Z 30)).setRow w3.heap.size (pc (n + 1) (setb (cut K n) n)))) ((R0.out.alloc _).rowFar (by omega) _) ((R1.out.alloc _).rowFar (by omega) _) ((R2.out.alloc _).rowFar (by omega) _) ((Blk.new w3 30 Z).row _) (below_setRow (RB.out.alloc (by omega) _) (by omega) _)); clear hb3 P0 P1 P2 PB R0 R1 R2 RB)
    | (refine wpList_store_row rfl 30 (.tmp 8) (.tmp 24) rfl w3.heap.size (pc (n + 1) (setb (cut K n) n)) rfl rfl 30 Z (Blk.new w3 30 Z) HI3.out HZ3.out (pc_one _ _) ?_))
  try go_frame
  generalize ((w3.alloc (.cells Z 30)).setRow w3.heap.size (pc (n + 1) (setb (cut K n) n))) = w4 at S0 ⊢
  obtain ⟨gp, hgp⟩ : ∃ gp, gp = w1.heap.size := ⟨_, rfl⟩
  obtain ⟨ga, hga⟩ : ∃ ga, ga = w2.heap.size := ⟨_, rfl⟩
  obtain ⟨gb, hgb⟩ : ∃ gb, gb = w3.heap.size := ⟨_, rfl⟩
  rw [← hgp, ← hga, ← hgb] at S0 ⊢
  rw [← hgp] at hw1 hw2
  rw [← hga] at hw2 hw3
  rw [← hgb] at hw3
  clear hgp hga hgb
  have hne := HNE.out
  refine region_kept (Kp w4) (by kernel_rfl) (by kernel_rfl) (kp_begin w4) ?_
  repeat (first
    | go_big_quiet_skip
    | (go_big_quiet_want; refine quiet_load 30 (.tmp 5) rfl gp 0 rfl (.int .i64 n :: u8s (cut K n)) _ (fun p => kp_pre S0.out.b1 p) Try.underlying30 rfl (pcl_info _ hP) (pc n (cut K n)) rfl ?_; go_big_quiet_on; simp only [Act.put, List.setIfInBounds_toArray, List.set_cons_zero, List.set_cons_succ])
    | (go_big_quiet_want; refine quiet_load 30 (.tmp 6) rfl ga 0 rfl (.int .i64 (n + 1) :: u8s (cut K n)) _ (fun p => kp_pre S0.out.b2 p) Try.underlying30 rfl (pcl_info _ hP) (pc (n + 1) (cut K n)) rfl ?_; go_big_quiet_on; simp only [Act.put, List.setIfInBounds_toArray, List.set_cons_zero, List.set_cons_succ])
    | (go_big_quiet_want; refine quiet_load 30 (.tmp 8) rfl gb 0 rfl (.int .i64 (n + 1) :: u8s (setb (cut K n) n)) _ (fun p => kp_pre S0.out.b3 p) Try.underlying30 rfl (pcl_info _ hS) (pc (n + 1) (setb (cut K n) n)) rfl ?_; go_big_quiet_on; simp only [Act.put, List.setIfInBounds_toArray, List.set_cons_zero, List.set_cons_succ])
    | (go_big_quiet_want; go_big_quiet_op; first | go_big_quiet_on | go_big_quiet_call (first | (go_at_call 9; with_reducible exact kp_call (CA.out _)) | (go_at_call 24; with_reducible exact kp_call (C3.out _)) | (go_at_call 26; with_reducible exact kp_call (C4.out _)) | (go_at_call 26; with_reducible exact kp_call (C5.out _)) | (go_at_call 26; with_reducible exact kp_call (C6.out _)))))
  refine wpQuiet_nil ?_
  intro _ hw'
  obtain ⟨p, hw''⟩ := hw'
  have T0 := hid (S0.out.below p.h)
  subst hw''
  clear S0 hne
  generalize p.w = w5 at T0 ⊢
  go_upto_region 6 with (fail)
  go_cut [10, 11] (fun s10 s11 wx => ∃ gc, s10 = .pointer (some ⟨gc, 0, none⟩) ∧ s11 = .bool true ∧ Hid (Gr w K n gp ga gb wx) ∧ Hid (Blk wx gc 30 (pc (n + 1) (cut K (n + 1)))))
  case first =>
    refine wp_region_held (S := fun w' => Hid (Gr w K n gp ga gb w')) (by kernel_rfl) ?_
    change wpAnyH _ _ _ _ _ _ _ _ w5.drew
    have G0 := hid (T0.out.drew)
    clear T0
    generalize w5.drew = x0 at G0 ⊢
    refine wpAnyH_take (i := 0) (oi := { dst := some 61, op := _, type := _, pos := _, after := _, guard := _ }) (v := .agg (pc n (cut K n))) rfl (by kernel_rfl) (by kernel_rfl) (by kernel_rfl) (fun _ _ _ h => h) (yieldsIf_load_mid (cs := .int .i64 n :: u8s (cut K n)) (by rfl) _ _ rfl _ _ rfl _ (fun w' hSw => blk_pre (Hid.out hSw).b1) Try.underlying30 rfl (pcl_info _ hP)) (by assumption) ?_
    try simp only [Act.put, List.setIfInBounds_toArray, List.set_cons_zero, List.set_cons_succ]
    refine wpAnyH_take (i := 1) (oi := { dst := some 62, op := _, type := _, pos := _, after := _, guard := _ }) (v := .agg (kc K)) rfl (by kernel_rfl) (by kernel_rfl) (by kernel_rfl) (fun _ _ _ h => h) (yieldsIf_load_mid (cs := u8s K) (by rfl) _ _ rfl _ _ rfl _ (fun w' hSw => blk_key (Hid.out hSw).b0) Try.underlying23 rfl (u8s_info hK)) (by assumption) ?_
    try simp only [Act.put, List.setIfInBounds_toArray, List.set_cons_zero, List.set_cons_succ]
    refine wpAnyH_take (i := 2) (oi := { dst := some 63, op := _, type := _, pos := _, after := _, guard := _ }) (v := ?_) rfl (by kernel_rfl) (by kernel_rfl) (by kernel_rfl) (fun _ _ _ h => h) (Or.inl ⟨by kernel_rfl, ?_⟩) (by assumption) ?_
    rotate_left
    · (intro w hSw; go_simp; try with_reducible rfl)
    try simp only [Act.put, List.setIfInBounds_toArray, List.set_cons_zero, List.set_cons_succ]
    refine wpAnyH_take (i := 3) (oi := { dst := some 64, op := _, type := _, pos := _, after := _, guard := _ }) (v := ?_) rfl (by kernel_rfl) (by kernel_rfl) (by kernel_rfl) (fun _ _ _ h => h) (Or.inl ⟨by kernel_rfl, ?_⟩) (by assumption) ?_
    rotate_left
    · (intro w hSw; go_simp; try with_reducible rfl)
    try simp only [Act.put, List.setIfInBounds_toArray, List.set_cons_zero, List.set_cons_succ]
    refine wpAnyH_ready (rs := [4, 9]) (by kernel_rfl) (by simp) ?_
    refine AllReadyH.cons (o := { dst := some 65, op := _, type := _, pos := _, after := _, guard := _ }) rfl (fun Qc hQc => ?_) (AllReadyH.cons (o := { dst := some 10, op := _, type := _, pos := _, after := _, guard := _ }) rfl (fun Qc hQc => ?_) AllReadyH.nil)
    ·
      go_simp
      go_at_call 10; refine (CB.out _).mono ?_; rintro e x1 ⟨rfl, hb⟩; have G1 := hid (G0.out.below hb); clear hb
      go_wp2_with fail
      refine hQc.out _ _ G1 (fun hHeld => ?_)
      clear hQc Qc G0
      try simp only [Act.put, List.setIfInBounds_toArray, List.set_cons_zero, List.set_cons_succ]
      refine wpAnyH_ready (rs := [5, 9]) (by kernel_rfl) (by simp) ?_
      refine AllReadyH.cons (o := { dst := some 66, op := _, type := _, pos := _, after := _, guard := _ }) rfl (fun Qc hQc => ?_) (AllReadyH.cons (o := { dst := some 10, op := _, type := _, pos := _, after := _, guard := _ }) rfl (fun Qc hQc => ?_) AllReadyH.nil)
      ·
        go_simp
        go_at_call 16; refine (C7.out _).mono ?_; rintro e x2 ⟨rfl, hb⟩; have G2 := hid (G1.out.below hb); clear hb
        go_wp2_with fail
        refine hQc.out _ _ G2 (fun hHeld => ?_)
        clear hQc Qc G1
        try simp only [Act.put, List.setIfInBounds_toArray, List.set_cons_zero, List.set_cons_succ]
        refine wpAnyH_take (i := 6) (oi := { dst := some 60, op := _, type := _, pos := _, after := _, guard := _ }) (v := ?_) rfl (by kernel_rfl) (by kernel_rfl) (by kernel_rfl) (fun _ _ _ h => h) (Or.inl ⟨by kernel_rfl, ?_⟩) (by assumption) ?_
        rotate_left
        · (intro w hSw; go_simp; try with_reducible rfl)
        try simp only [Act.put, List.setIfInBounds_toArray, List.set_cons_zero, List.set_cons_succ]
        refine wpAnyH_take (i := 7) (oi := { dst := some 67, op := _, type := _, pos := _, after := _, guard := _ }) (v := ?_) rfl (by kernel_rfl) (by kernel_rfl) (by kernel_rfl) (fun _ _ _ h => h) (Or.inl ⟨by kernel_rfl, ?_⟩) (by assumption) ?_
        rotate_left
        · (intro w hSw; go_simp; try with_reducible rfl)
        try simp only [Act.put, List.setIfInBounds_toArray, List.set_cons_zero, List.set_cons_succ]
        refine wpAnyH_take (i := 8) (oi := { dst := some 68, op := _, type := _, pos := _, after := _, guard := _ }) (v := ?_) rfl (by kernel_rfl) (by kernel_rfl) (by kernel_rfl) (fun _ _ _ h => h) (Or.inl ⟨by kernel_rfl, ?_⟩) (by assumption) ?_
        rotate_left
        · (intro w hSw; go_simp; try with_reducible rfl)
        try simp only [Act.put, List.setIfInBounds_toArray, List.set_cons_zero, List.set_cons_succ]
        refine wpAnyH_ready (rs := [9]) (by kernel_rfl) (by simp) ?_
        refine AllReadyH.cons (o := { dst := some 10, op := _, type := _, pos := _, after := _, guard := _ }) rfl (fun Qc hQc => ?_) AllReadyH.nil
        go_simp
        have G3 := hid (G2.out.alloc (.cells Z 30))
        have Z3 : Hid (Blk (x2.alloc (.cells Z 30)) x2.heap.size 30 Z) := Blk.new _ _ _
        have l0 := G2.out.b0.lt; have l1 := G2.out.b1.lt; have l2 := G2.out.b2.lt; have l3 := G2.out.b3.lt
        obtain ⟨gc, hgc⟩ : ∃ gc, gc = x2.heap.size := ⟨_, rfl⟩
        rw [← hgc] at Z3 l0 l1 l2 l3 ⊢
        refine hQc.out _ _ G3 (fun hHeld => ?_)
        clear hQc Qc G2 hgc
        generalize x2.alloc (.cells Z 30) = x3 at G3 Z3 hHeld ⊢
        try simp only [Act.put, List.setIfInBounds_toArray, List.set_cons_zero, List.set_cons_succ]
        refine wpAnyH_ready (rs := [10]) (by kernel_rfl) (by simp) ?_
        refine AllReadyH.cons (o := { dst := none, op := _, type := _, pos := _, after := _, guard := _ }) rfl (fun Qc hQc => ?_) AllReadyH.nil
        rw [if_pos (by rfl)]
        refine wp_store_row 30 (.tmp 10) (.tmp 67) rfl gc (pc (n + 1) (cut K (n + 1))) rfl rfl 30 Z Z3.out HI4.out HZ4.out (pc_one _ _) ?_
        have GZ := hid (G3.out.row l0 (by omega) (by omega) (by omega) (pc (n + 1) (cut K (n + 1))))
        have ZZ := hid (Z3.out.row (pc (n + 1) (cut K (n + 1))))
        refine hQc.out _ _ GZ (fun hHeld => ?_)
        clear hQc Qc
        generalize x3.setRow gc (pc (n + 1) (cut K (n + 1))) = xz at GZ ZZ hHeld ⊢
        try simp only [Act.put, List.setIfInBounds_toArray, List.set_cons_zero, List.set_cons_succ]
        refine wpAnyH_take (i := 11) (oi := { dst := some 11, op := _, type := _, pos := _, after := _, guard := _ }) (v := ?_) rfl (by kernel_rfl) (by kernel_rfl) (by kernel_rfl) (fun _ _ _ h => h) (Or.inl ⟨by kernel_rfl, ?_⟩) (by assumption) ?_
        rotate_left
        · (intro w hSw; go_simp; try with_reducible rfl)
        try simp only [Act.put, List.setIfInBounds_toArray, List.set_cons_zero, List.set_cons_succ]
        refine wpAnyH_done (by kernel_rfl) ?_ _
        try simp only [Act.put, List.setIfInBounds_toArray, List.set_cons_zero, List.set_cons_succ]

        go_wp2

        go_meet
        exact ⟨gc, rfl, rfl, GZ, ZZ⟩
      ·
        go_simp
        have G4 := hid (G1.out.alloc (.cells Z 30))
        have Z4 : Hid (Blk (x1.alloc (.cells Z 30)) x1.heap.size 30 Z) := Blk.new _ _ _
        have l0 := G1.out.b0.lt; have l1 := G1.out.b1.lt; have l2 := G1.out.b2.lt; have l3 := G1.out.b3.lt
        obtain ⟨gc, hgc⟩ : ∃ gc, gc = x1.heap.size := ⟨_, rfl⟩
        rw [← hgc] at Z4 l0 l1 l2 l3 ⊢
        refine hQc.out _ _ G4 (fun hHeld => ?_)
        clear hQc Qc G1 hgc
        generalize x1.alloc (.cells Z 30) = x4 at G4 Z4 hHeld ⊢
        try simp only [Act.put, List.setIfInBounds_toArray, List.set_cons_zero, List.set_cons_succ]
        refine wpAnyH_ready (rs := [5]) (by kernel_rfl) (by simp) ?_
        refine AllReadyH.cons (o := { dst := some 66, op := _, type := _, pos := _, after := _, guard := _ }) rfl (fun Qc hQc => ?_) AllReadyH.nil
        go_simp
        go_at_call 16; refine (C7.out _).mono ?_; rintro e x5 ⟨rfl, hb⟩; have G5 := hid (G4.out.below hb); have Z5 := hid (Z4.out.below hb); clear hb
        go_wp2_with fail
        refine hQc.out _ _ G5 (fun hHeld => ?_)
        clear hQc Qc G4
        try simp only [Act.put, List.setIfInBounds_toArray, List.set_cons_zero, List.set_cons_succ]
        refine wpAnyH_take (i := 6) (oi := { dst := some 60, op := _, type := _, pos := _, after := _, guard := _ }) (v := ?_) rfl (by kernel_rfl) (by kernel_rfl) (by kernel_rfl) (fun _ _ _ h => h) (Or.inl ⟨by kernel_rfl, ?_⟩) (by assumption) ?_
        rotate_left
        · (intro w hSw; go_simp; try with_reducible rfl)
        try simp only [Act.put, List.setIfInBounds_toArray, List.set_cons_zero, List.set_cons_succ]
        refine wpAnyH_take (i := 7) (oi := { dst := some 67, op := _, type := _, pos := _, after := _, guard := _ }) (v := ?_) rfl (by kernel_rfl) (by kernel_rfl) (by kernel_rfl) (fun _ _ _ h => h) (Or.inl ⟨by kernel_rfl, ?_⟩) (by assumption) ?_
        rotate_left
        · (intro w hSw; go_simp; try with_reducible rfl)
        try simp only [Act.put, List.setIfInBounds_toArray, List.set_cons_zero, List.set_cons_succ]
        refine wpAnyH_take (i := 8) (oi := { dst := some 68, op := _, type := _, pos := _, after := _, guard := _ }) (v := ?_) rfl (by kernel_rfl) (by kernel_rfl) (by kernel_rfl) (fun _ _ _ h => h) (Or.inl ⟨by kernel_rfl, ?_⟩) (by assumption) ?_
        rotate_left
        · (intro w hSw; go_simp; try with_reducible rfl)
        try simp only [Act.put, List.setIfInBounds_toArray, List.set_cons_zero, List.set_cons_succ]
        refine wpAnyH_ready (rs := [10]) (by kernel_rfl) (by simp) ?_
        refine AllReadyH.cons (o := { dst := none, op := _, type := _, pos := _, after := _, guard := _ }) rfl (fun Qc hQc => ?_) AllReadyH.nil
        rw [if_pos (by rfl)]
        refine wp_store_row 30 (.tmp 10) (.tmp 67) rfl gc (pc (n + 1) (cut K (n + 1))) rfl rfl 30 Z Z5.out HI4.out HZ4.out (pc_one _ _) ?_
        have GZ := hid (G5.out.row l0 (by omega) (by omega) (by omega) (pc (n + 1) (cut K (n + 1))))
        have ZZ := hid (Z5.out.row (pc (n + 1) (cut K (n + 1))))
        refine hQc.out _ _ GZ (fun hHeld => ?_)
        clear hQc Qc
        generalize x5.setRow gc (pc (n + 1) (cut K (n + 1))) = xz at GZ ZZ hHeld ⊢
        try simp only [Act.put, List.setIfInBounds_toArray, List.set_cons_zero, List.set_cons_succ]
        refine wpAnyH_take (i := 11) (oi := { dst := some 11, op := _, type := _, pos := _, after := _, guard := _ }) (v := ?_) rfl (by kernel_rfl) (by kernel_rfl) (by kernel_rfl) (fun _ _ _ h => h) (Or.inl ⟨by kernel_rfl, ?_⟩) (by assumption) ?_
        rotate_left
        · (intro w hSw; go_simp; try with_reducible rfl)
        try simp only [Act.put, List.setIfInBounds_toArray, List.set_cons_zero, List.set_cons_succ]
        refine wpAnyH_done (by kernel_rfl) ?_ _
        try simp only [Act.put, List.setIfInBounds_toArray, List.set_cons_zero, List.set_cons_succ]

        go_wp2

        go_meet
        exact ⟨gc, rfl, rfl, GZ, ZZ⟩
    ·
      go_simp
      have G6 := hid (G0.out.alloc (.cells Z 30))
      have Z6 : Hid (Blk (x0.alloc (.cells Z 30)) x0.heap.size 30 Z) := Blk.new _ _ _
      have l0 := G0.out.b0.lt; have l1 := G0.out.b1.lt; have l2 := G0.out.b2.lt; have l3 := G0.out.b3.lt
      obtain ⟨gc, hgc⟩ : ∃ gc, gc = x0.heap.size := ⟨_, rfl⟩
      rw [← hgc] at Z6 l0 l1 l2 l3 ⊢
      refine hQc.out _ _ G6 (fun hHeld => ?_)
      clear hQc Qc G0 hgc
      generalize x0.alloc (.cells Z 30) = x6 at G6 Z6 hHeld ⊢
      try simp only [Act.put, List.setIfInBounds_toArray, List.set_cons_zero, List.set_cons_succ]
      refine wpAnyH_ready (rs := [4]) (by kernel_rfl) (by simp) ?_
      refine AllReadyH.cons (o := { dst := some 65, op := _, type := _, pos := _, after := _, guard := _ }) rfl (fun Qc hQc => ?_) AllReadyH.nil
      go_simp
      go_at_call 10; refine (CB.out _).mono ?_; rintro e x7 ⟨rfl, hb⟩; have G7 := hid (G6.out.below hb); have Z7 := hid (Z6.out.below hb); clear hb
      go_wp2_with fail
      refine hQc.out _ _ G7 (fun hHeld => ?_)
      clear hQc Qc G6
      try simp only [Act.put, List.setIfInBounds_toArray, List.set_cons_zero, List.set_cons_succ]
      refine wpAnyH_ready (rs := [5]) (by kernel_rfl) (by simp) ?_
      refine AllReadyH.cons (o := { dst := some 66, op := _, type := _, pos := _, after := _, guard := _ }) rfl (fun Qc hQc => ?_) AllReadyH.nil
      go_simp
      go_at_call 16; refine (C7.out _).mono ?_; rintro e x8 ⟨rfl, hb⟩; have G8 := hid (G7.out.below hb); have Z8 := hid (Z7.out.below hb); clear hb
      go_wp2_with fail
      refine hQc.out _ _ G8 (fun hHeld => ?_)
      clear hQc Qc G7
      try simp only [Act.put, List.setIfInBounds_toArray, List.set_cons_zero, List.set_cons_succ]
      refine wpAnyH_take (i := 6) (oi := { dst := some 60, op := _, type := _, pos := _, after := _, guard := _ }) (v := ?_) rfl (by kernel_rfl) (by kernel_rfl) (by kernel_rfl) (fun _ _ _ h => h) (Or.inl ⟨by kernel_rfl, ?_⟩) (by assumption) ?_
      rotate_left
      · (intro w hSw; go_simp; try with_reducible rfl)
      try simp only [Act.put, List.setIfInBounds_toArray, List.set_cons_zero, List.set_cons_succ]
      refine wpAnyH_take (i := 7) (oi := { dst := some 67, op := _, type := _, pos := _, after := _, guard := _ }) (v := ?_) rfl (by kernel_rfl) (by kernel_rfl) (by kernel_rfl) (fun _ _ _ h => h) (Or.inl ⟨by kernel_rfl, ?_⟩) (by assumption) ?_
      rotate_left
      · (intro w hSw; go_simp; try with_reducible rfl)
      try simp only [Act.put, List.setIfInBounds_toArray, List.set_cons_zero, List.set_cons_succ]
      refine wpAnyH_take (i := 8) (oi := { dst := some 68, op := _, type := _, pos := _, after := _, guard := _ }) (v := ?_) rfl (by kernel_rfl) (by kernel_rfl) (by kernel_rfl) (fun _ _ _ h => h) (Or.inl ⟨by kernel_rfl, ?_⟩) (by assumption) ?_
      rotate_left
      · (intro w hSw; go_simp; try with_reducible rfl)
      try simp only [Act.put, List.setIfInBounds_toArray, List.set_cons_zero, List.set_cons_succ]
      refine wpAnyH_ready (rs := [10]) (by kernel_rfl) (by simp) ?_
      refine AllReadyH.cons (o := { dst := none, op := _, type := _, pos := _, after := _, guard := _ }) rfl (fun Qc hQc => ?_) AllReadyH.nil
      rw [if_pos (by rfl)]
      refine wp_store_row 30 (.tmp 10) (.tmp 67) rfl gc (pc (n + 1) (cut K (n + 1))) rfl rfl 30 Z Z8.out HI4.out HZ4.out (pc_one _ _) ?_
      have GZ := hid (G8.out.row l0 (by omega) (by omega) (by omega) (pc (n + 1) (cut K (n + 1))))
      have ZZ := hid (Z8.out.row (pc (n + 1) (cut K (n + 1))))
      refine hQc.out _ _ GZ (fun hHeld => ?_)
      clear hQc Qc
      generalize x8.setRow gc (pc (n + 1) (cut K (n + 1))) = xz at GZ ZZ hHeld ⊢
      try simp only [Act.put, List.setIfInBounds_toArray, List.set_cons_zero, List.set_cons_succ]
      refine wpAnyH_take (i := 11) (oi := { dst := some 11, op := _, type := _, pos := _, after := _, guard := _ }) (v := ?_) rfl (by kernel_rfl) (by kernel_rfl) (by kernel_rfl) (fun _ _ _ h => h) (Or.inl ⟨by kernel_rfl, ?_⟩) (by assumption) ?_
      rotate_left
      · (intro w hSw; go_simp; try with_reducible rfl)
      try simp only [Act.put, List.setIfInBounds_toArray, List.set_cons_zero, List.set_cons_succ]
      refine wpAnyH_done (by kernel_rfl) ?_ _
      try simp only [Act.put, List.setIfInBounds_toArray, List.set_cons_zero, List.set_cons_succ]

      go_wp2

      go_meet
      exact ⟨gc, rfl, rfl, GZ, ZZ⟩
  case rest =>
    obtain ⟨gc, rfl, rfl, GR, ZR⟩ := hcut
    have heq := HEQ.out
    clear T0
    go_wp2
    have hx := HX.out
    cases u <;> cases v <;> first | (exact absurd hx (by decide)) | skip
    all_goals
      refine region_kept (Kp wc) (by kernel_rfl) (by kernel_rfl) (kp_begin wc) ?_
      repeat (first
        | go_big_quiet_skip
        | (go_big_quiet_want; refine quiet_load 23 (.tmp 2) rfl w.heap.size 0 rfl (u8s K) _ (fun p => kp_key GR.out.b0 p) Try.underlying23 rfl (u8s_info hK) (kc K) rfl ?_; go_big_quiet_on; simp only [Act.put, List.setIfInBounds_toArray, List.set_cons_zero, List.set_cons_succ])
        | (go_big_quiet_want; refine quiet_load 30 (.tmp 6) rfl ga 0 rfl (.int .i64 (n + 1) :: u8s (cut K n)) _ (fun p => kp_pre GR.out.b2 p) Try.underlying30 rfl (pcl_info _ hP) (pc (n + 1) (cut K n)) rfl ?_; go_big_quiet_on; simp only [Act.put, List.setIfInBounds_toArray, List.set_cons_zero, List.set_cons_succ])
        | (go_big_quiet_want; refine quiet_load 30 (.tmp 8) rfl gb 0 rfl (.int .i64 (n + 1) :: u8s (setb (cut K n) n)) _ (fun p => kp_pre GR.out.b3 p) Try.underlying30 rfl (pcl_info _ hS) (pc (n + 1) (setb (cut K n) n)) rfl ?_; go_big_quiet_on; simp only [Act.put, List.setIfInBounds_toArray, List.set_cons_zero, List.set_cons_succ])
        | (go_big_quiet_want; refine quiet_load 30 (.tmp 10) rfl gc 0 rfl (.int .i64 (n + 1) :: u8s (cut K (n + 1))) _ (fun p => kp_pre ZR.out p) Try.underlying30 rfl (pcl_info _ hQ) (pc (n + 1) (cut K (n + 1))) rfl ?_; go_big_quiet_on; simp only [Act.put, List.setIfInBounds_toArray, List.set_cons_zero, List.set_cons_succ])
        | (go_big_quiet_want; go_big_quiet_op; first | go_big_quiet_on | go_big_quiet_call (first | (go_at_call 18; with_reducible exact kp_call (CD.out _)) | (go_at_call 22; with_reducible exact kp_call (C8.out _)) | (go_at_call 22; with_reducible exact kp_call (C9.out _)))))
      refine wpQuiet_nil ?_
      intro _ hw'
      obtain ⟨p, hw''⟩ := hw'
      have BZ := hid (GR.out.bl.trans (Below.mono p.h GR.out.bl.size))
      subst hw''
      go_wp2
      go_ret
      exact ⟨rfl, BZ.out⟩
theorem grows_walk (K : List Int) (n : Int) (hK : Ky K) (hn : 0 ≤ n ∧ n ≤ 255) (w : World) :
    Calls Try.prog 7 #[.agg (kc K), .int .u8 n] w fun e w' => e = .returned (.bool true) ∧ Below w.heap.size w w' := by
  obtain ⟨m, rfl⟩ : ∃ m : Nat, n = m := ⟨n.toNat, by omega⟩
  exact grows_nat K m hK (by omega) w
end Go.Proofs.Ytdaobhclcpgjbaa
