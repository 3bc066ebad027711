/-
  What is proved here: a key is held by just its own prefixes: the walk of the statement.
-/
import Derived.Test.YtdaobhclcpgjbaaPGrow0
namespace Go.Proofs.Ytdaobhclcpgjbaa
open Go.ChangeShapes Go.WideShapes Go.ChangeAt Go.RowKit
set_option linter.unusedVariables false

/-- both keys lie where they lay -/
structure Ow (w : World) (K O : List Int) (w' : World) : Prop where
  b0 : Blk w' w.heap.size 23 (kc K)
  b1 : Blk w' (w.heap.size + 1) 23 (kc O)
  bl : Below w.heap.size w w'
section
variable {w : World} {K O : List Int} {w' w2 : World}
theorem Ow.below (h : Ow w K O w') (hb : Below w'.heap.size w' w2) : Ow w K O w2 := ⟨h.b0.below hb, h.b1.below hb, h.bl.trans (hb.mono h.bl.size)⟩
theorem Ow.drew (h : Ow w K O w') : Ow w K O w'.drew := ⟨h.b0, h.b1, h.bl.drew⟩
theorem Ow.alloc (h : Ow w K O w') (o : Obj) : Ow w K O (w'.alloc o) := ⟨h.b0.alloc o, h.b1.alloc o, h.bl.alloc h.bl.size o⟩
theorem Ow.row (h : Ow w K O w') {g : Nat} (h0 : w.heap.size + 1 < g) (cs : Array Value) : Ow w K O (w'.setRow g cs) := ⟨h.b0.rowFar (by omega) cs, h.b1.rowFar (by omega) cs, below_setRow h.bl (by omega) cs⟩
end
theorem hld_own (K O : List Int) (m : Nat) (h : m ≤ 256) : hld m (cut O m) K = decide (cut K m = cut O m) := by
  unfold hld
  rw [show ((m : Int)).toNat = m by omega, decide_eq_decide]
  exact ⟨fun h => h.2.2, fun h => ⟨by omega, by omega, h⟩⟩
set_option maxRecDepth 10000 in
set_option maxHeartbeats 8000000 in
theorem own_nat (K O : List Int) (m : Nat) (n : Int) (hK : Ky K) (hO : Ky O) (hn : 0 ≤ n ∧ n ≤ 65535) (hm : n % 257 = m) (w : World) :
    Calls Try.prog 6 #[.agg (kc K), .agg (kc O), .int .u16 n] w fun e w' => e = .returned (.bool true) ∧ Below w.heap.size w w' := by
  obtain ⟨Z, HZ, hZ0, hZs⟩ := zero_pre
  obtain ⟨hk1, hk2, hb0⟩ := one_blks w (kc K) (kc O) 23 23
  have G0 := hid (Ow.mk hk1 hk2 hb0)
  clear hk1 hk2 hb0
  have hm256 : m ≤ 256 := by omega
  have hP := cut_ky K m
  have hQ := cut_ky O m
  have CA := hid pawake_any
  have ck := fun w => pCut_any K hK m w
  have co := fun w => pCut_any O hO m w
  rw [lim_nat m hm256] at ck co
  have CK := hid ck; have CO := hid co
  have cf := fun w => pFormed_any m (cut K m) hP w
  rw [frm_cut K m hm256] at cf
  have CF := hid cf
  have c1 := fun w => pHolds_any m (cut K m) K hP hK w
  rw [hld_own K K m hm256, decide_eq_true rfl] at c1
  have C1 := hid c1
  have c2 := fun w => pHolds_any m (cut O m) K hQ hK w
  rw [hld_own K O m hm256] at c2
  have CS := hid (fun w => pShared_any K O hK hO w)
  have hle := le_shr_iff (K := K) (L := O) hm256
  have heq := fun w => eql_pre m m (cut K m) (cut O m) hP hQ w
  have he : decide ((m : Int) = m ∧ cut K m = cut O m) = decide (cut K m = cut O m) := by
    rw [decide_eq_decide]
    exact ⟨fun h => h.2, fun h => ⟨rfl, h⟩⟩
  rw [he] at heq
  have HIP := hid (pc_info m hP); have HIQ := hid (pc_info m hQ)
  have HZP : Hid (Z.size = (pc m (cut K m)).size) := by show _ = _; rw [HZ.out, pc_size 0 zk_ky, pc_size _ hP]
  have HZQ : Hid (Z.size = (pc m (cut O m)).size) := by show _ = _; rw [HZ.out, pc_size 0 zk_ky, pc_size _ hQ]
  generalize shr K O = S at CS hle
  have hcase : (decide (cut K m = cut O m) = true ∧ m ≤ S) ∨ (decide (cut K m = cut O m) = false ∧ ¬ m ≤ S) := by
    by_cases h : m ≤ S
    · exact Or.inl ⟨decide_eq_true (hle.1 h), h⟩
    · exact Or.inr ⟨decide_eq_false (fun h2 => h (hle.2 h2)), h⟩
  generalize decide (cut K m = cut O m) = v at c2 heq hcase
  have C2 := hid c2; have HEQ := hid heq; have HCASE := hid hcase; have HM := hid hm
  obtain ⟨n0, n1⟩ := hn
  clear ck co cf c1 c2 hle heq he hcase
  go_enter Try.func6, Try.ntmps6
  go_wp2_with fail
  generalize (w.alloc (.cells (kc K) 23)).alloc (.cells (kc O) 23) = w0 at G0 ⊢
  go_upto_region 2 with (fail)
  go_cut [8, 9] (fun s8 s9 wx => ∃ gp gq, s8 = .pointer (some ⟨gp, 0, none⟩) ∧ s9 = .pointer (some ⟨gq, 0, none⟩) ∧ Hid (Ow w K O wx) ∧ Hid (Blk wx gp 30 (pc m (cut K m))) ∧ Hid (Blk wx gq 30 (pc m (cut O m))))
  case first =>
    refine wp_region_held (S := fun w' => Hid (Ow w K O w')) (by kernel_rfl) ?_
    change wpAnyH _ _ _ _ _ _ _ _ w0.drew
    have H0 := hid (G0.out.drew)
    clear G0
    generalize w0.drew = x0 at H0 ⊢
    refine wpAnyH_take (i := 0) (oi := { dst := some 13, op := _, type := _, pos := _, after := _, guard := _ }) (v := .agg (kc K)) rfl (by kernel_rfl) (by kernel_rfl) (by kernel_rfl) (fun _ _ _ h => h) (yieldsIf_load_mid (cs := u8s K) (by rfl) _ _ rfl _ _ rfl _ (fun w' hSw => blk_key (Hid.out hSw).b0) Try.underlying23 rfl (u8s_info hK)) (by assumption) ?_
    try simp only [Act.put, List.setIfInBounds_toArray, List.set_cons_zero, List.set_cons_succ]
    refine wpAnyH_take (i := 1) (oi := { dst := some 14, op := _, type := _, pos := _, after := _, guard := _ }) (v := ?_) rfl (by kernel_rfl) (by kernel_rfl) (by kernel_rfl) (fun _ _ _ h => h) (Or.inl ⟨by kernel_rfl, ?_⟩) (by assumption) ?_
    rotate_left
    · (intro w hSw; go_simp; try with_reducible rfl)
    try simp only [Act.put, List.setIfInBounds_toArray, List.set_cons_zero, List.set_cons_succ]
    refine wpAnyH_take (i := 3) (oi := { dst := some 16, op := _, type := _, pos := _, after := _, guard := _ }) (v := .agg (kc O)) rfl (by kernel_rfl) (by kernel_rfl) (by kernel_rfl) (fun _ _ _ h => h) (yieldsIf_load_mid (cs := u8s O) (by rfl) _ _ rfl _ _ rfl _ (fun w' hSw => blk_key (Hid.out hSw).b1) Try.underlying23 rfl (u8s_info hO)) (by assumption) ?_
    try simp only [Act.put, List.setIfInBounds_toArray, List.set_cons_zero, List.set_cons_succ]
    refine wpAnyH_take (i := 4) (oi := { dst := some 17, op := _, type := _, pos := _, after := _, guard := _ }) (v := ?_) rfl (by kernel_rfl) (by kernel_rfl) (by kernel_rfl) (fun _ _ _ h => h) (Or.inl ⟨by kernel_rfl, ?_⟩) (by assumption) ?_
    rotate_left
    · (intro w hSw; go_simp; try with_reducible rfl)
    try simp only [Act.put, List.setIfInBounds_toArray, List.set_cons_zero, List.set_cons_succ]
    refine wpAnyH_ready (rs := [2, 6, 7]) (by kernel_rfl) (by simp) ?_
    refine AllReadyH.cons (o := { dst := some 15, op := _, type := _, pos := _, after := _, guard := _ }) rfl (fun Qc hQc => ?_) (AllReadyH.cons (o := { dst := some 8, op := _, type := _, pos := _, after := _, guard := _ }) rfl (fun Qc hQc => ?_) (AllReadyH.cons (o := { dst := some 9, op := _, type := _, pos := _, after := _, guard := _ }) rfl (fun Qc hQc => ?_) AllReadyH.nil))
    ·
      go_simp
      go_at_call 18; (with_reducible refine (CK.out _).mono ?_); rintro e x1 ⟨rfl, hb⟩; have G1 := hid (H0.out.below hb); clear hb
      go_wp2_with fail
      refine hQc.out _ _ G1 (fun hHeld => ?_)
      clear hQc Qc H0 
      try simp only [Act.put, List.setIfInBounds_toArray, List.set_cons_zero, List.set_cons_succ]
      refine wpAnyH_ready (rs := [5, 6, 7]) (by kernel_rfl) (by simp) ?_
      refine AllReadyH.cons (o := { dst := some 18, op := _, type := _, pos := _, after := _, guard := _ }) rfl (fun Qc hQc => ?_) (AllReadyH.cons (o := { dst := some 8, op := _, type := _, pos := _, after := _, guard := _ }) rfl (fun Qc hQc => ?_) (AllReadyH.cons (o := { dst := some 9, op := _, type := _, pos := _, after := _, guard := _ }) rfl (fun Qc hQc => ?_) AllReadyH.nil))
      ·
        go_simp
        go_at_call 18; (with_reducible refine (CO.out _).mono ?_); rintro e x2 ⟨rfl, hb⟩; have G2 := hid (G1.out.below hb); clear hb
        go_wp2_with fail
        refine hQc.out _ _ G2 (fun hHeld => ?_)
        clear hQc Qc G1 
        try simp only [Act.put, List.setIfInBounds_toArray, List.set_cons_zero, List.set_cons_succ]
        refine wpAnyH_ready (rs := [6, 7]) (by kernel_rfl) (by simp) ?_
        refine AllReadyH.cons (o := { dst := some 8, op := _, type := _, pos := _, after := _, guard := _ }) rfl (fun Qc hQc => ?_) (AllReadyH.cons (o := { dst := some 9, op := _, type := _, pos := _, after := _, guard := _ }) rfl (fun Qc hQc => ?_) AllReadyH.nil)
        ·
          go_simp
          have G3 := hid (G2.out.alloc (.cells Z 30))
          have Zp3 : Hid (Blk (x2.alloc (.cells Z 30)) x2.heap.size 30 Z) := Blk.new _ _ _
          have lp := G2.out.b1.lt
          obtain ⟨gp, hg⟩ : ∃ gp, gp = x2.heap.size := ⟨_, rfl⟩
          rw [← hg] at Zp3 lp ⊢
          refine hQc.out _ _ G3 (fun hHeld => ?_)
          clear hQc Qc G2 hg 
          generalize x2.alloc (.cells Z 30) = x3 at G3 Zp3 hHeld ⊢
          try simp only [Act.put, List.setIfInBounds_toArray, List.set_cons_zero, List.set_cons_succ]
          refine wpAnyH_ready (rs := [7]) (by kernel_rfl) (by simp) ?_
          refine AllReadyH.cons (o := { dst := some 9, op := _, type := _, pos := _, after := _, guard := _ }) rfl (fun Qc hQc => ?_) AllReadyH.nil
          go_simp
          have G4 := hid (G3.out.alloc (.cells Z 30))
          have Zq4 : Hid (Blk (x3.alloc (.cells Z 30)) x3.heap.size 30 Z) := Blk.new _ _ _
          have Zp4 := hid (Zp3.out.alloc (.cells Z 30))
          have lpq := Zp3.out.lt
          have lq := G3.out.b1.lt
          obtain ⟨gq, hg⟩ : ∃ gq, gq = x3.heap.size := ⟨_, rfl⟩
          rw [← hg] at Zq4 lq lpq ⊢
          refine hQc.out _ _ G4 (fun hHeld => ?_)
          clear hQc Qc G3 hg Zp3
          generalize x3.alloc (.cells Z 30) = x4 at G4 Zp4 Zq4 hHeld ⊢
          try simp only [Act.put, List.setIfInBounds_toArray, List.set_cons_zero, List.set_cons_succ]
          refine wpAnyH_ready (rs := [8]) (by kernel_rfl) (by simp) ?_
          refine AllReadyH.cons (o := { dst := none, op := _, type := _, pos := _, after := _, guard := _ }) rfl (fun Qc hQc => ?_) AllReadyH.nil
          rw [if_pos (by rfl)]
          refine wp_store_row 30 (.tmp 8) (.tmp 15) rfl gp (pc m (cut K m)) rfl rfl 30 Z Zp4.out HIP.out HZP.out (pc_one _ _) ?_
          have GY := hid (G4.out.row lp (pc m (cut K m)))
          have YP := hid (Zp4.out.row (pc m (cut K m)))
          have YQ := hid ((Zq4.out.rowFar (by omega) (pc m (cut K m)) : Blk (x4.setRow gp (pc m (cut K m))) gq 30 Z))
          refine hQc.out _ _ GY (fun hHeld => ?_)
          clear hQc Qc G4 Zp4 Zq4
          generalize x4.setRow gp (pc m (cut K m)) = xy at GY YP YQ hHeld ⊢
          try simp only [Act.put, List.setIfInBounds_toArray, List.set_cons_zero, List.set_cons_succ]
          refine wpAnyH_ready (rs := [9]) (by kernel_rfl) (by simp) ?_
          refine AllReadyH.cons (o := { dst := none, op := _, type := _, pos := _, after := _, guard := _ }) rfl (fun Qc hQc => ?_) AllReadyH.nil
          rw [if_pos (by rfl)]
          refine wp_store_row 30 (.tmp 9) (.tmp 18) rfl gq (pc m (cut O m)) rfl rfl 30 Z YQ.out HIQ.out HZQ.out (pc_one _ _) ?_
          have GZ := hid (GY.out.row lq (pc m (cut O m)))
          have ZQ := hid (YQ.out.row (pc m (cut O m)))
          have ZP := hid ((YP.out.rowFar (by omega) (pc m (cut O m)) : Blk (xy.setRow gq (pc m (cut O m))) gp 30 (pc m (cut K m))))
          refine hQc.out _ _ GZ (fun hHeld => ?_)
          clear hQc Qc GY YP YQ
          generalize xy.setRow gq (pc m (cut O m)) = xz at GZ ZP ZQ hHeld ⊢
          try simp only [Act.put, List.setIfInBounds_toArray, List.set_cons_zero, List.set_cons_succ]
          refine wpAnyH_done (by kernel_rfl) ?_ _
          try simp only [Act.put, List.setIfInBounds_toArray, List.set_cons_zero, List.set_cons_succ]
          go_wp2
          go_meet
          exact ⟨gp, gq, rfl, rfl, GZ, ZP, ZQ⟩
        ·
          go_simp
          have G5 := hid (G2.out.alloc (.cells Z 30))
          have Zq5 : Hid (Blk (x2.alloc (.cells Z 30)) x2.heap.size 30 Z) := Blk.new _ _ _
          have lq := G2.out.b1.lt
          obtain ⟨gq, hg⟩ : ∃ gq, gq = x2.heap.size := ⟨_, rfl⟩
          rw [← hg] at Zq5 lq ⊢
          refine hQc.out _ _ G5 (fun hHeld => ?_)
          clear hQc Qc G2 hg 
          generalize x2.alloc (.cells Z 30) = x5 at G5 Zq5 hHeld ⊢
          try simp only [Act.put, List.setIfInBounds_toArray, List.set_cons_zero, List.set_cons_succ]
          refine wpAnyH_ready (rs := [6]) (by kernel_rfl) (by simp) ?_
          refine AllReadyH.cons (o := { dst := some 8, op := _, type := _, pos := _, after := _, guard := _ }) rfl (fun Qc hQc => ?_) AllReadyH.nil
          go_simp
          have G6 := hid (G5.out.alloc (.cells Z 30))
          have Zp6 : Hid (Blk (x5.alloc (.cells Z 30)) x5.heap.size 30 Z) := Blk.new _ _ _
          have Zq6 := hid (Zq5.out.alloc (.cells Z 30))
          have lpq := Zq5.out.lt
          have lp := G5.out.b1.lt
          obtain ⟨gp, hg⟩ : ∃ gp, gp = x5.heap.size := ⟨_, rfl⟩
          rw [← hg] at Zp6 lp lpq ⊢
          refine hQc.out _ _ G6 (fun hHeld => ?_)
          clear hQc Qc G5 hg Zq5
          generalize x5.alloc (.cells Z 30) = x6 at G6 Zq6 Zp6 hHeld ⊢
          try simp only [Act.put, List.setIfInBounds_toArray, List.set_cons_zero, List.set_cons_succ]
          refine wpAnyH_ready (rs := [8]) (by kernel_rfl) (by simp) ?_
          refine AllReadyH.cons (o := { dst := none, op := _, type := _, pos := _, after := _, guard := _ }) rfl (fun Qc hQc => ?_) AllReadyH.nil
          rw [if_pos (by rfl)]
          refine wp_store_row 30 (.tmp 8) (.tmp 15) rfl gp (pc m (cut K m)) rfl rfl 30 Z Zp6.out HIP.out HZP.out (pc_one _ _) ?_
          have GY := hid (G6.out.row lp (pc m (cut K m)))
          have YP := hid (Zp6.out.row (pc m (cut K m)))
          have YQ := hid ((Zq6.out.rowFar (by omega) (pc m (cut K m)) : Blk (x6.setRow gp (pc m (cut K m))) gq 30 Z))
          refine hQc.out _ _ GY (fun hHeld => ?_)
          clear hQc Qc G6 Zq6 Zp6
          generalize x6.setRow gp (pc m (cut K m)) = xy at GY YP YQ hHeld ⊢
          try simp only [Act.put, List.setIfInBounds_toArray, List.set_cons_zero, List.set_cons_succ]
          refine wpAnyH_ready (rs := [9]) (by kernel_rfl) (by simp) ?_
          refine AllReadyH.cons (o := { dst := none, op := _, type := _, pos := _, after := _, guard := _ }) rfl (fun Qc hQc => ?_) AllReadyH.nil
          rw [if_pos (by rfl)]
          refine wp_store_row 30 (.tmp 9) (.tmp 18) rfl gq (pc m (cut O m)) rfl rfl 30 Z YQ.out HIQ.out HZQ.out (pc_one _ _) ?_
          have GZ := hid (GY.out.row lq (pc m (cut O m)))
          have ZQ := hid (YQ.out.row (pc m (cut O m)))
          have ZP := hid ((YP.out.rowFar (by omega) (pc m (cut O m)) : Blk (xy.setRow gq (pc m (cut O m))) gp 30 (pc m (cut K m))))
          refine hQc.out _ _ GZ (fun hHeld => ?_)
          clear hQc Qc GY YP YQ
          generalize xy.setRow gq (pc m (cut O m)) = xz at GZ ZP ZQ hHeld ⊢
          try simp only [Act.put, List.setIfInBounds_toArray, List.set_cons_zero, List.set_cons_succ]
          refine wpAnyH_done (by kernel_rfl) ?_ _
          try simp only [Act.put, List.setIfInBounds_toArray, List.set_cons_zero, List.set_cons_succ]
          go_wp2
          go_meet
          exact ⟨gp, gq, rfl, rfl, GZ, ZP, ZQ⟩
      ·
        go_simp
        have G7 := hid (G1.out.alloc (.cells Z 30))
        have Zp7 : Hid (Blk (x1.alloc (.cells Z 30)) x1.heap.size 30 Z) := Blk.new _ _ _
        have lp := G1.out.b1.lt
        obtain ⟨gp, hg⟩ : ∃ gp, gp = x1.heap.size := ⟨_, rfl⟩
        rw [← hg] at Zp7 lp ⊢
        refine hQc.out _ _ G7 (fun hHeld => ?_)
        clear hQc Qc G1 hg 
        generalize x1.alloc (.cells Z 30) = x7 at G7 Zp7 hHeld ⊢
        try simp only [Act.put, List.setIfInBounds_toArray, List.set_cons_zero, List.set_cons_succ]
        refine wpAnyH_ready (rs := [5, 7]) (by kernel_rfl) (by simp) ?_
        refine AllReadyH.cons (o := { dst := some 18, op := _, type := _, pos := _, after := _, guard := _ }) rfl (fun Qc hQc => ?_) (AllReadyH.cons (o := { dst := some 9, op := _, type := _, pos := _, after := _, guard := _ }) rfl (fun Qc hQc => ?_) AllReadyH.nil)
        ·
          go_simp
          go_at_call 18; (with_reducible refine (CO.out _).mono ?_); rintro e x8 ⟨rfl, hb⟩; have G8 := hid (G7.out.below hb); have Zp8 := hid (Zp7.out.below hb); clear hb
          go_wp2_with fail
          refine hQc.out _ _ G8 (fun hHeld => ?_)
          clear hQc Qc G7 Zp7
          try simp only [Act.put, List.setIfInBounds_toArray, List.set_cons_zero, List.set_cons_succ]
          refine wpAnyH_ready (rs := [7]) (by kernel_rfl) (by simp) ?_
          refine AllReadyH.cons (o := { dst := some 9, op := _, type := _, pos := _, after := _, guard := _ }) rfl (fun Qc hQc => ?_) AllReadyH.nil
          go_simp
          have G9 := hid (G8.out.alloc (.cells Z 30))
          have Zq9 : Hid (Blk (x8.alloc (.cells Z 30)) x8.heap.size 30 Z) := Blk.new _ _ _
          have Zp9 := hid (Zp8.out.alloc (.cells Z 30))
          have lpq := Zp8.out.lt
          have lq := G8.out.b1.lt
          obtain ⟨gq, hg⟩ : ∃ gq, gq = x8.heap.size := ⟨_, rfl⟩
          rw [← hg] at Zq9 lq lpq ⊢
          refine hQc.out _ _ G9 (fun hHeld => ?_)
          clear hQc Qc G8 hg Zp8
          generalize x8.alloc (.cells Z 30) = x9 at G9 Zp9 Zq9 hHeld ⊢
          try simp only [Act.put, List.setIfInBounds_toArray, List.set_cons_zero, List.set_cons_succ]
          refine wpAnyH_ready (rs := [8]) (by kernel_rfl) (by simp) ?_
          refine AllReadyH.cons (o := { dst := none, op := _, type := _, pos := _, after := _, guard := _ }) rfl (fun Qc hQc => ?_) AllReadyH.nil
          rw [if_pos (by rfl)]
          refine wp_store_row 30 (.tmp 8) (.tmp 15) rfl gp (pc m (cut K m)) rfl rfl 30 Z Zp9.out HIP.out HZP.out (pc_one _ _) ?_
          have GY := hid (G9.out.row lp (pc m (cut K m)))
          have YP := hid (Zp9.out.row (pc m (cut K m)))
          have YQ := hid ((Zq9.out.rowFar (by omega) (pc m (cut K m)) : Blk (x9.setRow gp (pc m (cut K m))) gq 30 Z))
          refine hQc.out _ _ GY (fun hHeld => ?_)
          clear hQc Qc G9 Zp9 Zq9
          generalize x9.setRow gp (pc m (cut K m)) = xy at GY YP YQ hHeld ⊢
          try simp only [Act.put, List.setIfInBounds_toArray, List.set_cons_zero, List.set_cons_succ]
          refine wpAnyH_ready (rs := [9]) (by kernel_rfl) (by simp) ?_
          refine AllReadyH.cons (o := { dst := none, op := _, type := _, pos := _, after := _, guard := _ }) rfl (fun Qc hQc => ?_) AllReadyH.nil
          rw [if_pos (by rfl)]
          refine wp_store_row 30 (.tmp 9) (.tmp 18) rfl gq (pc m (cut O m)) rfl rfl 30 Z YQ.out HIQ.out HZQ.out (pc_one _ _) ?_
          have GZ := hid (GY.out.row lq (pc m (cut O m)))
          have ZQ := hid (YQ.out.row (pc m (cut O m)))
          have ZP := hid ((YP.out.rowFar (by omega) (pc m (cut O m)) : Blk (xy.setRow gq (pc m (cut O m))) gp 30 (pc m (cut K m))))
          refine hQc.out _ _ GZ (fun hHeld => ?_)
          clear hQc Qc GY YP YQ
          generalize xy.setRow gq (pc m (cut O m)) = xz at GZ ZP ZQ hHeld ⊢
          try simp only [Act.put, List.setIfInBounds_toArray, List.set_cons_zero, List.set_cons_succ]
          refine wpAnyH_done (by kernel_rfl) ?_ _
          try simp only [Act.put, List.setIfInBounds_toArray, List.set_cons_zero, List.set_cons_succ]
          go_wp2
          go_meet
          exact ⟨gp, gq, rfl, rfl, GZ, ZP, ZQ⟩
        ·
          go_simp
          have G10 := hid (G7.out.alloc (.cells Z 30))
          have Zq10 : Hid (Blk (x7.alloc (.cells Z 30)) x7.heap.size 30 Z) := Blk.new _ _ _
          have Zp10 := hid (Zp7.out.alloc (.cells Z 30))
          have lpq := Zp7.out.lt
          have lq := G7.out.b1.lt
          obtain ⟨gq, hg⟩ : ∃ gq, gq = x7.heap.size := ⟨_, rfl⟩
          rw [← hg] at Zq10 lq lpq ⊢
          refine hQc.out _ _ G10 (fun hHeld => ?_)
          clear hQc Qc G7 hg Zp7
          generalize x7.alloc (.cells Z 30) = x10 at G10 Zp10 Zq10 hHeld ⊢
          try simp only [Act.put, List.setIfInBounds_toArray, List.set_cons_zero, List.set_cons_succ]
          refine wpAnyH_ready (rs := [5]) (by kernel_rfl) (by simp) ?_
          refine AllReadyH.cons (o := { dst := some 18, op := _, type := _, pos := _, after := _, guard := _ }) rfl (fun Qc hQc => ?_) AllReadyH.nil
          go_simp
          go_at_call 18; (with_reducible refine (CO.out _).mono ?_); rintro e x11 ⟨rfl, hb⟩; have G11 := hid (G10.out.below hb); have Zp11 := hid (Zp10.out.below hb); have Zq11 := hid (Zq10.out.below hb); clear hb
          go_wp2_with fail
          refine hQc.out _ _ G11 (fun hHeld => ?_)
          clear hQc Qc G10 Zp10 Zq10
          try simp only [Act.put, List.setIfInBounds_toArray, List.set_cons_zero, List.set_cons_succ]
          refine wpAnyH_ready (rs := [8]) (by kernel_rfl) (by simp) ?_
          refine AllReadyH.cons (o := { dst := none, op := _, type := _, pos := _, after := _, guard := _ }) rfl (fun Qc hQc => ?_) AllReadyH.nil
          rw [if_pos (by rfl)]
          refine wp_store_row 30 (.tmp 8) (.tmp 15) rfl gp (pc m (cut K m)) rfl rfl 30 Z Zp11.out HIP.out HZP.out (pc_one _ _) ?_
          have GY := hid (G11.out.row lp (pc m (cut K m)))
          have YP := hid (Zp11.out.row (pc m (cut K m)))
          have YQ := hid ((Zq11.out.rowFar (by omega) (pc m (cut K m)) : Blk (x11.setRow gp (pc m (cut K m))) gq 30 Z))
          refine hQc.out _ _ GY (fun hHeld => ?_)
          clear hQc Qc G11 Zp11 Zq11
          generalize x11.setRow gp (pc m (cut K m)) = xy at GY YP YQ hHeld ⊢
          try simp only [Act.put, List.setIfInBounds_toArray, List.set_cons_zero, List.set_cons_succ]
          refine wpAnyH_ready (rs := [9]) (by kernel_rfl) (by simp) ?_
          refine AllReadyH.cons (o := { dst := none, op := _, type := _, pos := _, after := _, guard := _ }) rfl (fun Qc hQc => ?_) AllReadyH.nil
          rw [if_pos (by rfl)]
          refine wp_store_row 30 (.tmp 9) (.tmp 18) rfl gq (pc m (cut O m)) rfl rfl 30 Z YQ.out HIQ.out HZQ.out (pc_one _ _) ?_
          have GZ := hid (GY.out.row lq (pc m (cut O m)))
          have ZQ := hid (YQ.out.row (pc m (cut O m)))
          have ZP := hid ((YP.out.rowFar (by omega) (pc m (cut O m)) : Blk (xy.setRow gq (pc m (cut O m))) gp 30 (pc m (cut K m))))
          refine hQc.out _ _ GZ (fun hHeld => ?_)
          clear hQc Qc GY YP YQ
          generalize xy.setRow gq (pc m (cut O m)) = xz at GZ ZP ZQ hHeld ⊢
          try simp only [Act.put, List.setIfInBounds_toArray, List.set_cons_zero, List.set_cons_succ]
          refine wpAnyH_done (by kernel_rfl) ?_ _
          try simp only [Act.put, List.setIfInBounds_toArray, List.set_cons_zero, List.set_cons_succ]
          go_wp2
          go_meet
          exact ⟨gp, gq, rfl, rfl, GZ, ZP, ZQ⟩
      ·
        go_simp
        have G12 := hid (G1.out.alloc (.cells Z 30))
        have Zq12 : Hid (Blk (x1.alloc (.cells Z 30)) x1.heap.size 30 Z) := Blk.new _ _ _
        have lq := G1.out.b1.lt
        obtain ⟨gq, hg⟩ : ∃ gq, gq = x1.heap.size := ⟨_, rfl⟩
        rw [← hg] at Zq12 lq ⊢
        refine hQc.out _ _ G12 (fun hHeld => ?_)
        clear hQc Qc G1 hg 
        generalize x1.alloc (.cells Z 30) = x12 at G12 Zq12 hHeld ⊢
        try simp only [Act.put, List.setIfInBounds_toArray, List.set_cons_zero, List.set_cons_succ]
        refine wpAnyH_ready (rs := [5, 6]) (by kernel_rfl) (by simp) ?_
        refine AllReadyH.cons (o := { dst := some 18, op := _, type := _, pos := _, after := _, guard := _ }) rfl (fun Qc hQc => ?_) (AllReadyH.cons (o := { dst := some 8, op := _, type := _, pos := _, after := _, guard := _ }) rfl (fun Qc hQc => ?_) AllReadyH.nil)
        ·
          go_simp
          go_at_call 18; (with_reducible refine (CO.out _).mono ?_); rintro e x13 ⟨rfl, hb⟩; have G13 := hid (G12.out.below hb); have Zq13 := hid (Zq12.out.below hb); clear hb
          go_wp2_with fail
          refine hQc.out _ _ G13 (fun hHeld => ?_)
          clear hQc Qc G12 Zq12
          try simp only [Act.put, List.setIfInBounds_toArray, List.set_cons_zero, List.set_cons_succ]
          refine wpAnyH_ready (rs := [6]) (by kernel_rfl) (by simp) ?_
          refine AllReadyH.cons (o := { dst := some 8, op := _, type := _, pos := _, after := _, guard := _ }) rfl (fun Qc hQc => ?_) AllReadyH.nil
          go_simp
          have G14 := hid (G13.out.alloc (.cells Z 30))
          have Zp14 : Hid (Blk (x13.alloc (.cells Z 30)) x13.heap.size 30 Z) := Blk.new _ _ _
          have Zq14 := hid (Zq13.out.alloc (.cells Z 30))
          have lpq := Zq13.out.lt
          have lp := G13.out.b1.lt
          obtain ⟨gp, hg⟩ : ∃ gp, gp = x13.heap.size := ⟨_, rfl⟩
          rw [← hg] at Zp14 lp lpq ⊢
          refine hQc.out _ _ G14 (fun hHeld => ?_)
          clear hQc Qc G13 hg Zq13
          generalize x13.alloc (.cells Z 30) = x14 at G14 Zq14 Zp14 hHeld ⊢
          try simp only [Act.put, List.setIfInBounds_toArray, List.set_cons_zero, List.set_cons_succ]
          refine wpAnyH_ready (rs := [8]) (by kernel_rfl) (by simp) ?_
          refine AllReadyH.cons (o := { dst := none, op := _, type := _, pos := _, after := _, guard := _ }) rfl (fun Qc hQc => ?_) AllReadyH.nil
          rw [if_pos (by rfl)]
          refine wp_store_row 30 (.tmp 8) (.tmp 15) rfl gp (pc m (cut K m)) rfl rfl 30 Z Zp14.out HIP.out HZP.out (pc_one _ _) ?_
          have GY := hid (G14.out.row lp (pc m (cut K m)))
          have YP := hid (Zp14.out.row (pc m (cut K m)))
          have YQ := hid ((Zq14.out.rowFar (by omega) (pc m (cut K m)) : Blk (x14.setRow gp (pc m (cut K m))) gq 30 Z))
          refine hQc.out _ _ GY (fun hHeld => ?_)
          clear hQc Qc G14 Zq14 Zp14
          generalize x14.setRow gp (pc m (cut K m)) = xy at GY YP YQ hHeld ⊢
          try simp only [Act.put, List.setIfInBounds_toArray, List.set_cons_zero, List.set_cons_succ]
          refine wpAnyH_ready (rs := [9]) (by kernel_rfl) (by simp) ?_
          refine AllReadyH.cons (o := { dst := none, op := _, type := _, pos := _, after := _, guard := _ }) rfl (fun Qc hQc => ?_) AllReadyH.nil
          rw [if_pos (by rfl)]
          refine wp_store_row 30 (.tmp 9) (.tmp 18) rfl gq (pc m (cut O m)) rfl rfl 30 Z YQ.out HIQ.out HZQ.out (pc_one _ _) ?_
          have GZ := hid (GY.out.row lq (pc m (cut O m)))
          have ZQ := hid (YQ.out.row (pc m (cut O m)))
          have ZP := hid ((YP.out.rowFar (by omega) (pc m (cut O m)) : Blk (xy.setRow gq (pc m (cut O m))) gp 30 (pc m (cut K m))))
          refine hQc.out _ _ GZ (fun hHeld => ?_)
          clear hQc Qc GY YP YQ
          generalize xy.setRow gq (pc m (cut O m)) = xz at GZ ZP ZQ hHeld ⊢
          try simp only [Act.put, List.setIfInBounds_toArray, List.set_cons_zero, List.set_cons_succ]
          refine wpAnyH_done (by kernel_rfl) ?_ _
          try simp only [Act.put, List.setIfInBounds_toArray, List.set_cons_zero, List.set_cons_succ]
          go_wp2
          go_meet
          exact ⟨gp, gq, rfl, rfl, GZ, ZP, ZQ⟩
        ·
          go_simp
          have G15 := hid (G12.out.alloc (.cells Z 30))
          have Zp15 : Hid (Blk (x12.alloc (.cells Z 30)) x12.heap.size 30 Z) := Blk.new _ _ _
          have Zq15 := hid (Zq12.out.alloc (.cells Z 30))
          have lpq := Zq12.out.lt
          have lp := G12.out.b1.lt
          obtain ⟨gp, hg⟩ : ∃ gp, gp = x12.heap.size := ⟨_, rfl⟩
          rw [← hg] at Zp15 lp lpq ⊢
          refine hQc.out _ _ G15 (fun hHeld => ?_)
          clear hQc Qc G12 hg Zq12
          generalize x12.alloc (.cells Z 30) = x15 at G15 Zq15 Zp15 hHeld ⊢
          try simp only [Act.put, List.setIfInBounds_toArray, List.set_cons_zero, List.set_cons_succ]
          refine wpAnyH_ready (rs := [5]) (by kernel_rfl) (by simp) ?_
          refine AllReadyH.cons (o := { dst := some 18, op := _, type := _, pos := _, after := _, guard := _ }) rfl (fun Qc hQc => ?_) AllReadyH.nil
          go_simp
          go_at_call 18; (with_reducible refine (CO.out _).mono ?_); rintro e x16 ⟨rfl, hb⟩; have G16 := hid (G15.out.below hb); have Zq16 := hid (Zq15.out.below hb); have Zp16 := hid (Zp15.out.below hb); clear hb
          go_wp2_with fail
          refine hQc.out _ _ G16 (fun hHeld => ?_)
          clear hQc Qc G15 Zq15 Zp15
          try simp only [Act.put, List.setIfInBounds_toArray, List.set_cons_zero, List.set_cons_succ]
          refine wpAnyH_ready (rs := [8]) (by kernel_rfl) (by simp) ?_
          refine AllReadyH.cons (o := { dst := none, op := _, type := _, pos := _, after := _, guard := _ }) rfl (fun Qc hQc => ?_) AllReadyH.nil
          rw [if_pos (by rfl)]
          refine wp_store_row 30 (.tmp 8) (.tmp 15) rfl gp (pc m (cut K m)) rfl rfl 30 Z Zp16.out HIP.out HZP.out (pc_one _ _) ?_
          have GY := hid (G16.out.row lp (pc m (cut K m)))
          have YP := hid (Zp16.out.row (pc m (cut K m)))
          have YQ := hid ((Zq16.out.rowFar (by omega) (pc m (cut K m)) : Blk (x16.setRow gp (pc m (cut K m))) gq 30 Z))
          refine hQc.out _ _ GY (fun hHeld => ?_)
          clear hQc Qc G16 Zq16 Zp16
          generalize x16.setRow gp (pc m (cut K m)) = xy at GY YP YQ hHeld ⊢
          try simp only [Act.put, List.setIfInBounds_toArray, List.set_cons_zero, List.set_cons_succ]
          refine wpAnyH_ready (rs := [9]) (by kernel_rfl) (by simp) ?_
          refine AllReadyH.cons (o := { dst := none, op := _, type := _, pos := _, after := _, guard := _ }) rfl (fun Qc hQc => ?_) AllReadyH.nil
          rw [if_pos (by rfl)]
          refine wp_store_row 30 (.tmp 9) (.tmp 18) rfl gq (pc m (cut O m)) rfl rfl 30 Z YQ.out HIQ.out HZQ.out (pc_one _ _) ?_
          have GZ := hid (GY.out.row lq (pc m (cut O m)))
          have ZQ := hid (YQ.out.row (pc m (cut O m)))
          have ZP := hid ((YP.out.rowFar (by omega) (pc m (cut O m)) : Blk (xy.setRow gq (pc m (cut O m))) gp 30 (pc m (cut K m))))
          refine hQc.out _ _ GZ (fun hHeld => ?_)
          clear hQc Qc GY YP YQ
          generalize xy.setRow gq (pc m (cut O m)) = xz at GZ ZP ZQ hHeld ⊢
          try simp only [Act.put, List.setIfInBounds_toArray, List.set_cons_zero, List.set_cons_succ]
          refine wpAnyH_done (by kernel_rfl) ?_ _
          try simp only [Act.put, List.setIfInBounds_toArray, List.set_cons_zero, List.set_cons_succ]
          go_wp2
          go_meet
          exact ⟨gp, gq, rfl, rfl, GZ, ZP, ZQ⟩
    ·
      go_simp
      have G17 := hid (H0.out.alloc (.cells Z 30))
      have Zp17 : Hid (Blk (x0.alloc (.cells Z 30)) x0.heap.size 30 Z) := Blk.new _ _ _
      have lp := H0.out.b1.lt
      obtain ⟨gp, hg⟩ : ∃ gp, gp = x0.heap.size := ⟨_, rfl⟩
      rw [← hg] at Zp17 lp ⊢
      refine hQc.out _ _ G17 (fun hHeld => ?_)
      clear hQc Qc H0 hg 
      generalize x0.alloc (.cells Z 30) = x17 at G17 Zp17 hHeld ⊢
      try simp only [Act.put, List.setIfInBounds_toArray, List.set_cons_zero, List.set_cons_succ]
      refine wpAnyH_ready (rs := [2, 7]) (by kernel_rfl) (by simp) ?_
      refine AllReadyH.cons (o := { dst := some 15, op := _, type := _, pos := _, after := _, guard := _ }) rfl (fun Qc hQc => ?_) (AllReadyH.cons (o := { dst := some 9, op := _, type := _, pos := _, after := _, guard := _ }) rfl (fun Qc hQc => ?_) AllReadyH.nil)
      ·
        go_simp
        go_at_call 18; (with_reducible refine (CK.out _).mono ?_); rintro e x18 ⟨rfl, hb⟩; have G18 := hid (G17.out.below hb); have Zp18 := hid (Zp17.out.below hb); clear hb
        go_wp2_with fail
        refine hQc.out _ _ G18 (fun hHeld => ?_)
        clear hQc Qc G17 Zp17
        try simp only [Act.put, List.setIfInBounds_toArray, List.set_cons_zero, List.set_cons_succ]
        refine wpAnyH_ready (rs := [5, 7]) (by kernel_rfl) (by simp) ?_
        refine AllReadyH.cons (o := { dst := some 18, op := _, type := _, pos := _, after := _, guard := _ }) rfl (fun Qc hQc => ?_) (AllReadyH.cons (o := { dst := some 9, op := _, type := _, pos := _, after := _, guard := _ }) rfl (fun Qc hQc => ?_) AllReadyH.nil)
        ·
          go_simp
          go_at_call 18; (with_reducible refine (CO.out _).mono ?_); rintro e x19 ⟨rfl, hb⟩; have G19 := hid (G18.out.below hb); have Zp19 := hid (Zp18.out.below hb); clear hb
          go_wp2_with fail
          refine hQc.out _ _ G19 (fun hHeld => ?_)
          clear hQc Qc G18 Zp18
          try simp only [Act.put, List.setIfInBounds_toArray, List.set_cons_zero, List.set_cons_succ]
          refine wpAnyH_ready (rs := [7]) (by kernel_rfl) (by simp) ?_
          refine AllReadyH.cons (o := { dst := some 9, op := _, type := _, pos := _, after := _, guard := _ }) rfl (fun Qc hQc => ?_) AllReadyH.nil
          go_simp
          have G20 := hid (G19.out.alloc (.cells Z 30))
          have Zq20 : Hid (Blk (x19.alloc (.cells Z 30)) x19.heap.size 30 Z) := Blk.new _ _ _
          have Zp20 := hid (Zp19.out.alloc (.cells Z 30))
          have lpq := Zp19.out.lt
          have lq := G19.out.b1.lt
          obtain ⟨gq, hg⟩ : ∃ gq, gq = x19.heap.size := ⟨_, rfl⟩
          rw [← hg] at Zq20 lq lpq ⊢
          refine hQc.out _ _ G20 (fun hHeld => ?_)
          clear hQc Qc G19 hg Zp19
          generalize x19.alloc (.cells Z 30) = x20 at G20 Zp20 Zq20 hHeld ⊢
          try simp only [Act.put, List.setIfInBounds_toArray, List.set_cons_zero, List.set_cons_succ]
          refine wpAnyH_ready (rs := [8]) (by kernel_rfl) (by simp) ?_
          refine AllReadyH.cons (o := { dst := none, op := _, type := _, pos := _, after := _, guard := _ }) rfl (fun Qc hQc => ?_) AllReadyH.nil
          rw [if_pos (by rfl)]
          refine wp_store_row 30 (.tmp 8) (.tmp 15) rfl gp (pc m (cut K m)) rfl rfl 30 Z Zp20.out HIP.out HZP.out (pc_one _ _) ?_
          have GY := hid (G20.out.row lp (pc m (cut K m)))
          have YP := hid (Zp20.out.row (pc m (cut K m)))
          have YQ := hid ((Zq20.out.rowFar (by omega) (pc m (cut K m)) : Blk (x20.setRow gp (pc m (cut K m))) gq 30 Z))
          refine hQc.out _ _ GY (fun hHeld => ?_)
          clear hQc Qc G20 Zp20 Zq20
          generalize x20.setRow gp (pc m (cut K m)) = xy at GY YP YQ hHeld ⊢
          try simp only [Act.put, List.setIfInBounds_toArray, List.set_cons_zero, List.set_cons_succ]
          refine wpAnyH_ready (rs := [9]) (by kernel_rfl) (by simp) ?_
          refine AllReadyH.cons (o := { dst := none, op := _, type := _, pos := _, after := _, guard := _ }) rfl (fun Qc hQc => ?_) AllReadyH.nil
          rw [if_pos (by rfl)]
          refine wp_store_row 30 (.tmp 9) (.tmp 18) rfl gq (pc m (cut O m)) rfl rfl 30 Z YQ.out HIQ.out HZQ.out (pc_one _ _) ?_
          have GZ := hid (GY.out.row lq (pc m (cut O m)))
          have ZQ := hid (YQ.out.row (pc m (cut O m)))
          have ZP := hid ((YP.out.rowFar (by omega) (pc m (cut O m)) : Blk (xy.setRow gq (pc m (cut O m))) gp 30 (pc m (cut K m))))
          refine hQc.out _ _ GZ (fun hHeld => ?_)
          clear hQc Qc GY YP YQ
          generalize xy.setRow gq (pc m (cut O m)) = xz at GZ ZP ZQ hHeld ⊢
          try simp only [Act.put, List.setIfInBounds_toArray, List.set_cons_zero, List.set_cons_succ]
          refine wpAnyH_done (by kernel_rfl) ?_ _
          try simp only [Act.put, List.setIfInBounds_toArray, List.set_cons_zero, List.set_cons_succ]
          go_wp2
          go_meet
          exact ⟨gp, gq, rfl, rfl, GZ, ZP, ZQ⟩
        ·
          go_simp
          have G21 := hid (G18.out.alloc (.cells Z 30))
          have Zq21 : Hid (Blk (x18.alloc (.cells Z 30)) x18.heap.size 30 Z) := Blk.new _ _ _
          have Zp21 := hid (Zp18.out.alloc (.cells Z 30))
          have lpq := Zp18.out.lt
          have lq := G18.out.b1.lt
          obtain ⟨gq, hg⟩ : ∃ gq, gq = x18.heap.size := ⟨_, rfl⟩
          rw [← hg] at Zq21 lq lpq ⊢
          refine hQc.out _ _ G21 (fun hHeld => ?_)
          clear hQc Qc G18 hg Zp18
          generalize x18.alloc (.cells Z 30) = x21 at G21 Zp21 Zq21 hHeld ⊢
          try simp only [Act.put, List.setIfInBounds_toArray, List.set_cons_zero, List.set_cons_succ]
          refine wpAnyH_ready (rs := [5]) (by kernel_rfl) (by simp) ?_
          refine AllReadyH.cons (o := { dst := some 18, op := _, type := _, pos := _, after := _, guard := _ }) rfl (fun Qc hQc => ?_) AllReadyH.nil
          go_simp
          go_at_call 18; (with_reducible refine (CO.out _).mono ?_); rintro e x22 ⟨rfl, hb⟩; have G22 := hid (G21.out.below hb); have Zp22 := hid (Zp21.out.below hb); have Zq22 := hid (Zq21.out.below hb); clear hb
          go_wp2_with fail
          refine hQc.out _ _ G22 (fun hHeld => ?_)
          clear hQc Qc G21 Zp21 Zq21
          try simp only [Act.put, List.setIfInBounds_toArray, List.set_cons_zero, List.set_cons_succ]
          refine wpAnyH_ready (rs := [8]) (by kernel_rfl) (by simp) ?_
          refine AllReadyH.cons (o := { dst := none, op := _, type := _, pos := _, after := _, guard := _ }) rfl (fun Qc hQc => ?_) AllReadyH.nil
          rw [if_pos (by rfl)]
          refine wp_store_row 30 (.tmp 8) (.tmp 15) rfl gp (pc m (cut K m)) rfl rfl 30 Z Zp22.out HIP.out HZP.out (pc_one _ _) ?_
          have GY := hid (G22.out.row lp (pc m (cut K m)))
          have YP := hid (Zp22.out.row (pc m (cut K m)))
          have YQ := hid ((Zq22.out.rowFar (by omega) (pc m (cut K m)) : Blk (x22.setRow gp (pc m (cut K m))) gq 30 Z))
          refine hQc.out _ _ GY (fun hHeld => ?_)
          clear hQc Qc G22 Zp22 Zq22
          generalize x22.setRow gp (pc m (cut K m)) = xy at GY YP YQ hHeld ⊢
          try simp only [Act.put, List.setIfInBounds_toArray, List.set_cons_zero, List.set_cons_succ]
          refine wpAnyH_ready (rs := [9]) (by kernel_rfl) (by simp) ?_
          refine AllReadyH.cons (o := { dst := none, op := _, type := _, pos := _, after := _, guard := _ }) rfl (fun Qc hQc => ?_) AllReadyH.nil
          rw [if_pos (by rfl)]
          refine wp_store_row 30 (.tmp 9) (.tmp 18) rfl gq (pc m (cut O m)) rfl rfl 30 Z YQ.out HIQ.out HZQ.out (pc_one _ _) ?_
          have GZ := hid (GY.out.row lq (pc m (cut O m)))
          have ZQ := hid (YQ.out.row (pc m (cut O m)))
          have ZP := hid ((YP.out.rowFar (by omega) (pc m (cut O m)) : Blk (xy.setRow gq (pc m (cut O m))) gp 30 (pc m (cut K m))))
          refine hQc.out _ _ GZ (fun hHeld => ?_)
          clear hQc Qc GY YP YQ
          generalize xy.setRow gq (pc m (cut O m)) = xz at GZ ZP ZQ hHeld ⊢
          try simp only [Act.put, List.setIfInBounds_toArray, List.set_cons_zero, List.set_cons_succ]
          refine wpAnyH_done (by kernel_rfl) ?_ _
          try simp only [Act.put, List.setIfInBounds_toArray, List.set_cons_zero, List.set_cons_succ]
          go_wp2
          go_meet
          exact ⟨gp, gq, rfl, rfl, GZ, ZP, ZQ⟩
      ·
        go_simp
        have G23 := hid (G17.out.alloc (.cells Z 30))
        have Zq23 : Hid (Blk (x17.alloc (.cells Z 30)) x17.heap.size 30 Z) := Blk.new _ _ _
        have Zp23 := hid (Zp17.out.alloc (.cells Z 30))
        have lpq := Zp17.out.lt
        have lq := G17.out.b1.lt
        obtain ⟨gq, hg⟩ : ∃ gq, gq = x17.heap.size := ⟨_, rfl⟩
        rw [← hg] at Zq23 lq lpq ⊢
        refine hQc.out _ _ G23 (fun hHeld => ?_)
        clear hQc Qc G17 hg Zp17
        generalize x17.alloc (.cells Z 30) = x23 at G23 Zp23 Zq23 hHeld ⊢
        try simp only [Act.put, List.setIfInBounds_toArray, List.set_cons_zero, List.set_cons_succ]
        refine wpAnyH_ready (rs := [2]) (by kernel_rfl) (by simp) ?_
        refine AllReadyH.cons (o := { dst := some 15, op := _, type := _, pos := _, after := _, guard := _ }) rfl (fun Qc hQc => ?_) AllReadyH.nil
        go_simp
        go_at_call 18; (with_reducible refine (CK.out _).mono ?_); rintro e x24 ⟨rfl, hb⟩; have G24 := hid (G23.out.below hb); have Zp24 := hid (Zp23.out.below hb); have Zq24 := hid (Zq23.out.below hb); clear hb
        go_wp2_with fail
        refine hQc.out _ _ G24 (fun hHeld => ?_)
        clear hQc Qc G23 Zp23 Zq23
        try simp only [Act.put, List.setIfInBounds_toArray, List.set_cons_zero, List.set_cons_succ]
        refine wpAnyH_ready (rs := [5]) (by kernel_rfl) (by simp) ?_
        refine AllReadyH.cons (o := { dst := some 18, op := _, type := _, pos := _, after := _, guard := _ }) rfl (fun Qc hQc => ?_) AllReadyH.nil
        go_simp
        go_at_call 18; (with_reducible refine (CO.out _).mono ?_); rintro e x25 ⟨rfl, hb⟩; have G25 := hid (G24.out.below hb); have Zp25 := hid (Zp24.out.below hb); have Zq25 := hid (Zq24.out.below hb); clear hb
        go_wp2_with fail
        refine hQc.out _ _ G25 (fun hHeld => ?_)
        clear hQc Qc G24 Zp24 Zq24
        try simp only [Act.put, List.setIfInBounds_toArray, List.set_cons_zero, List.set_cons_succ]
        refine wpAnyH_ready (rs := [8]) (by kernel_rfl) (by simp) ?_
        refine AllReadyH.cons (o := { dst := none, op := _, type := _, pos := _, after := _, guard := _ }) rfl (fun Qc hQc => ?_) AllReadyH.nil
        rw [if_pos (by rfl)]
        refine wp_store_row 30 (.tmp 8) (.tmp 15) rfl gp (pc m (cut K m)) rfl rfl 30 Z Zp25.out HIP.out HZP.out (pc_one _ _) ?_
        have GY := hid (G25.out.row lp (pc m (cut K m)))
        have YP := hid (Zp25.out.row (pc m (cut K m)))
        have YQ := hid ((Zq25.out.rowFar (by omega) (pc m (cut K m)) : Blk (x25.setRow gp (pc m (cut K m))) gq 30 Z))
        refine hQc.out _ _ GY (fun hHeld => ?_)
        clear hQc Qc G25 Zp25 Zq25
        generalize x25.setRow gp (pc m (cut K m)) = xy at GY YP YQ hHeld ⊢
        try simp only [Act.put, List.setIfInBounds_toArray, List.set_cons_zero, List.set_cons_succ]
        refine wpAnyH_ready (rs := [9]) (by kernel_rfl) (by simp) ?_
        refine AllReadyH.cons (o := { dst := none, op := _, type := _, pos := _, after := _, guard := _ }) rfl (fun Qc hQc => ?_) AllReadyH.nil
        rw [if_pos (by rfl)]
        refine wp_store_row 30 (.tmp 9) (.tmp 18) rfl gq (pc m (cut O m)) rfl rfl 30 Z YQ.out HIQ.out HZQ.out (pc_one _ _) ?_
        have GZ := hid (GY.out.row lq (pc m (cut O m)))
        have ZQ := hid (YQ.out.row (pc m (cut O m)))
        have ZP := hid ((YP.out.rowFar (by omega) (pc m (cut O m)) : Blk (xy.setRow gq (pc m (cut O m))) gp 30 (pc m (cut K m))))
        refine hQc.out _ _ GZ (fun hHeld => ?_)
        clear hQc Qc GY YP YQ
        generalize xy.setRow gq (pc m (cut O m)) = xz at GZ ZP ZQ hHeld ⊢
        try simp only [Act.put, List.setIfInBounds_toArray, List.set_cons_zero, List.set_cons_succ]
        refine wpAnyH_done (by kernel_rfl) ?_ _
        try simp only [Act.put, List.setIfInBounds_toArray, List.set_cons_zero, List.set_cons_succ]
        go_wp2
        go_meet
        exact ⟨gp, gq, rfl, rfl, GZ, ZP, ZQ⟩
    ·
      go_simp
      have G26 := hid (H0.out.alloc (.cells Z 30))
      have Zq26 : Hid (Blk (x0.alloc (.cells Z 30)) x0.heap.size 30 Z) := Blk.new _ _ _
      have lq := H0.out.b1.lt
      obtain ⟨gq, hg⟩ : ∃ gq, gq = x0.heap.size := ⟨_, rfl⟩
      rw [← hg] at Zq26 lq ⊢
      refine hQc.out _ _ G26 (fun hHeld => ?_)
      clear hQc Qc H0 hg 
      generalize x0.alloc (.cells Z 30) = x26 at G26 Zq26 hHeld ⊢
      try simp only [Act.put, List.setIfInBounds_toArray, List.set_cons_zero, List.set_cons_succ]
      refine wpAnyH_ready (rs := [2, 6]) (by kernel_rfl) (by simp) ?_
      refine AllReadyH.cons (o := { dst := some 15, op := _, type := _, pos := _, after := _, guard := _ }) rfl (fun Qc hQc => ?_) (AllReadyH.cons (o := { dst := some 8, op := _, type := _, pos := _, after := _, guard := _ }) rfl (fun Qc hQc => ?_) AllReadyH.nil)
      ·
        go_simp
        go_at_call 18; (with_reducible refine (CK.out _).mono ?_); rintro e x27 ⟨rfl, hb⟩; have G27 := hid (G26.out.below hb); have Zq27 := hid (Zq26.out.below hb); clear hb
        go_wp2_with fail
        refine hQc.out _ _ G27 (fun hHeld => ?_)
        clear hQc Qc G26 Zq26
        try simp only [Act.put, List.setIfInBounds_toArray, List.set_cons_zero, List.set_cons_succ]
        refine wpAnyH_ready (rs := [5, 6]) (by kernel_rfl) (by simp) ?_
        refine AllReadyH.cons (o := { dst := some 18, op := _, type := _, pos := _, after := _, guard := _ }) rfl (fun Qc hQc => ?_) (AllReadyH.cons (o := { dst := some 8, op := _, type := _, pos := _, after := _, guard := _ }) rfl (fun Qc hQc => ?_) AllReadyH.nil)
        ·
          go_simp
          go_at_call 18; (with_reducible refine (CO.out _).mono ?_); rintro e x28 ⟨rfl, hb⟩; have G28 := hid (G27.out.below hb); have Zq28 := hid (Zq27.out.below hb); clear hb
          go_wp2_with fail
          refine hQc.out _ _ G28 (fun hHeld => ?_)
          clear hQc Qc G27 Zq27
          try simp only [Act.put, List.setIfInBounds_toArray, List.set_cons_zero, List.set_cons_succ]
          refine wpAnyH_ready (rs := [6]) (by kernel_rfl) (by simp) ?_
          refine AllReadyH.cons (o := { dst := some 8, op := _, type := _, pos := _, after := _, guard := _ }) rfl (fun Qc hQc => ?_) AllReadyH.nil
          go_simp
          have G29 := hid (G28.out.alloc (.cells Z 30))
          have Zp29 : Hid (Blk (x28.alloc (.cells Z 30)) x28.heap.size 30 Z) := Blk.new _ _ _
          have Zq29 := hid (Zq28.out.alloc (.cells Z 30))
          have lpq := Zq28.out.lt
          have lp := G28.out.b1.lt
          obtain ⟨gp, hg⟩ : ∃ gp, gp = x28.heap.size := ⟨_, rfl⟩
          rw [← hg] at Zp29 lp lpq ⊢
          refine hQc.out _ _ G29 (fun hHeld => ?_)
          clear hQc Qc G28 hg Zq28
          generalize x28.alloc (.cells Z 30) = x29 at G29 Zq29 Zp29 hHeld ⊢
          try simp only [Act.put, List.setIfInBounds_toArray, List.set_cons_zero, List.set_cons_succ]
          refine wpAnyH_ready (rs := [8]) (by kernel_rfl) (by simp) ?_
          refine AllReadyH.cons (o := { dst := none, op := _, type := _, pos := _, after := _, guard := _ }) rfl (fun Qc hQc => ?_) AllReadyH.nil
          rw [if_pos (by rfl)]
          refine wp_store_row 30 (.tmp 8) (.tmp 15) rfl gp (pc m (cut K m)) rfl rfl 30 Z Zp29.out HIP.out HZP.out (pc_one _ _) ?_
          have GY := hid (G29.out.row lp (pc m (cut K m)))
          have YP := hid (Zp29.out.row (pc m (cut K m)))
          have YQ := hid ((Zq29.out.rowFar (by omega) (pc m (cut K m)) : Blk (x29.setRow gp (pc m (cut K m))) gq 30 Z))
          refine hQc.out _ _ GY (fun hHeld => ?_)
          clear hQc Qc G29 Zq29 Zp29
          generalize x29.setRow gp (pc m (cut K m)) = xy at GY YP YQ hHeld ⊢
          try simp only [Act.put, List.setIfInBounds_toArray, List.set_cons_zero, List.set_cons_succ]
          refine wpAnyH_ready (rs := [9]) (by kernel_rfl) (by simp) ?_
          refine AllReadyH.cons (o := { dst := none, op := _, type := _, pos := _, after := _, guard := _ }) rfl (fun Qc hQc => ?_) AllReadyH.nil
          rw [if_pos (by rfl)]
          refine wp_store_row 30 (.tmp 9) (.tmp 18) rfl gq (pc m (cut O m)) rfl rfl 30 Z YQ.out HIQ.out HZQ.out (pc_one _ _) ?_
          have GZ := hid (GY.out.row lq (pc m (cut O m)))
          have ZQ := hid (YQ.out.row (pc m (cut O m)))
          have ZP := hid ((YP.out.rowFar (by omega) (pc m (cut O m)) : Blk (xy.setRow gq (pc m (cut O m))) gp 30 (pc m (cut K m))))
          refine hQc.out _ _ GZ (fun hHeld => ?_)
          clear hQc Qc GY YP YQ
          generalize xy.setRow gq (pc m (cut O m)) = xz at GZ ZP ZQ hHeld ⊢
          try simp only [Act.put, List.setIfInBounds_toArray, List.set_cons_zero, List.set_cons_succ]
          refine wpAnyH_done (by kernel_rfl) ?_ _
          try simp only [Act.put, List.setIfInBounds_toArray, List.set_cons_zero, List.set_cons_succ]
          go_wp2
          go_meet
          exact ⟨gp, gq, rfl, rfl, GZ, ZP, ZQ⟩
        ·
          go_simp
          have G30 := hid (G27.out.alloc (.cells Z 30))
          have Zp30 : Hid (Blk (x27.alloc (.cells Z 30)) x27.heap.size 30 Z) := Blk.new _ _ _
          have Zq30 := hid (Zq27.out.alloc (.cells Z 30))
          have lpq := Zq27.out.lt
          have lp := G27.out.b1.lt
          obtain ⟨gp, hg⟩ : ∃ gp, gp = x27.heap.size := ⟨_, rfl⟩
          rw [← hg] at Zp30 lp lpq ⊢
          refine hQc.out _ _ G30 (fun hHeld => ?_)
          clear hQc Qc G27 hg Zq27
          generalize x27.alloc (.cells Z 30) = x30 at G30 Zq30 Zp30 hHeld ⊢
          try simp only [Act.put, List.setIfInBounds_toArray, List.set_cons_zero, List.set_cons_succ]
          refine wpAnyH_ready (rs := [5]) (by kernel_rfl) (by simp) ?_
          refine AllReadyH.cons (o := { dst := some 18, op := _, type := _, pos := _, after := _, guard := _ }) rfl (fun Qc hQc => ?_) AllReadyH.nil
          go_simp
          go_at_call 18; (with_reducible refine (CO.out _).mono ?_); rintro e x31 ⟨rfl, hb⟩; have G31 := hid (G30.out.below hb); have Zq31 := hid (Zq30.out.below hb); have Zp31 := hid (Zp30.out.below hb); clear hb
          go_wp2_with fail
          refine hQc.out _ _ G31 (fun hHeld => ?_)
          clear hQc Qc G30 Zq30 Zp30
          try simp only [Act.put, List.setIfInBounds_toArray, List.set_cons_zero, List.set_cons_succ]
          refine wpAnyH_ready (rs := [8]) (by kernel_rfl) (by simp) ?_
          refine AllReadyH.cons (o := { dst := none, op := _, type := _, pos := _, after := _, guard := _ }) rfl (fun Qc hQc => ?_) AllReadyH.nil
          rw [if_pos (by rfl)]
          refine wp_store_row 30 (.tmp 8) (.tmp 15) rfl gp (pc m (cut K m)) rfl rfl 30 Z Zp31.out HIP.out HZP.out (pc_one _ _) ?_
          have GY := hid (G31.out.row lp (pc m (cut K m)))
          have YP := hid (Zp31.out.row (pc m (cut K m)))
          have YQ := hid ((Zq31.out.rowFar (by omega) (pc m (cut K m)) : Blk (x31.setRow gp (pc m (cut K m))) gq 30 Z))
          refine hQc.out _ _ GY (fun hHeld => ?_)
          clear hQc Qc G31 Zq31 Zp31
          generalize x31.setRow gp (pc m (cut K m)) = xy at GY YP YQ hHeld ⊢
          try simp only [Act.put, List.setIfInBounds_toArray, List.set_cons_zero, List.set_cons_succ]
          refine wpAnyH_ready (rs := [9]) (by kernel_rfl) (by simp) ?_
          refine AllReadyH.cons (o := { dst := none, op := _, type := _, pos := _, after := _, guard := _ }) rfl (fun Qc hQc => ?_) AllReadyH.nil
          rw [if_pos (by rfl)]
          refine wp_store_row 30 (.tmp 9) (.tmp 18) rfl gq (pc m (cut O m)) rfl rfl 30 Z YQ.out HIQ.out HZQ.out (pc_one _ _) ?_
          have GZ := hid (GY.out.row lq (pc m (cut O m)))
          have ZQ := hid (YQ.out.row (pc m (cut O m)))
          have ZP := hid ((YP.out.rowFar (by omega) (pc m (cut O m)) : Blk (xy.setRow gq (pc m (cut O m))) gp 30 (pc m (cut K m))))
          refine hQc.out _ _ GZ (fun hHeld => ?_)
          clear hQc Qc GY YP YQ
          generalize xy.setRow gq (pc m (cut O m)) = xz at GZ ZP ZQ hHeld ⊢
          try simp only [Act.put, List.setIfInBounds_toArray, List.set_cons_zero, List.set_cons_succ]
          refine wpAnyH_done (by kernel_rfl) ?_ _
          try simp only [Act.put, List.setIfInBounds_toArray, List.set_cons_zero, List.set_cons_succ]
          go_wp2
          go_meet
          exact ⟨gp, gq, rfl, rfl, GZ, ZP, ZQ⟩
      ·
        go_simp
        have G32 := hid (G26.out.alloc (.cells Z 30))
        have Zp32 : Hid (Blk (x26.alloc (.cells Z 30)) x26.heap.size 30 Z) := Blk.new _ _ _
        have Zq32 := hid (Zq26.out.alloc (.cells Z 30))
        have lpq := Zq26.out.lt
        have lp := G26.out.b1.lt
        obtain ⟨gp, hg⟩ : ∃ gp, gp = x26.heap.size := ⟨_, rfl⟩
        rw [← hg] at Zp32 lp lpq ⊢
        refine hQc.out _ _ G32 (fun hHeld => ?_)
        clear hQc Qc G26 hg Zq26
        generalize x26.alloc (.cells Z 30) = x32 at G32 Zq32 Zp32 hHeld ⊢
        try simp only [Act.put, List.setIfInBounds_toArray, List.set_cons_zero, List.set_cons_succ]
        refine wpAnyH_ready (rs := [2]) (by kernel_rfl) (by simp) ?_
        refine AllReadyH.cons (o := { dst := some 15, op := _, type := _, pos := _, after := _, guard := _ }) rfl (fun Qc hQc => ?_) AllReadyH.nil
        go_simp
        go_at_call 18; (with_reducible refine (CK.out _).mono ?_); rintro e x33 ⟨rfl, hb⟩; have G33 := hid (G32.out.below hb); have Zq33 := hid (Zq32.out.below hb); have Zp33 := hid (Zp32.out.below hb); clear hb
        go_wp2_with fail
        refine hQc.out _ _ G33 (fun hHeld => ?_)
        clear hQc Qc G32 Zq32 Zp32
        try simp only [Act.put, List.setIfInBounds_toArray, List.set_cons_zero, List.set_cons_succ]
        refine wpAnyH_ready (rs := [5]) (by kernel_rfl) (by simp) ?_
        refine AllReadyH.cons (o := { dst := some 18, op := _, type := _, pos := _, after := _, guard := _ }) rfl (fun Qc hQc => ?_) AllReadyH.nil
        go_simp
        go_at_call 18; (with_reducible refine (CO.out _).mono ?_); rintro e x34 ⟨rfl, hb⟩; have G34 := hid (G33.out.below hb); have Zq34 := hid (Zq33.out.below hb); have Zp34 := hid (Zp33.out.below hb); clear hb
        go_wp2_with fail
        refine hQc.out _ _ G34 (fun hHeld => ?_)
        clear hQc Qc G33 Zq33 Zp33
        try simp only [Act.put, List.setIfInBounds_toArray, List.set_cons_zero, List.set_cons_succ]
        refine wpAnyH_ready (rs := [8]) (by kernel_rfl) (by simp) ?_
        refine AllReadyH.cons (o := { dst := none, op := _, type := _, pos := _, after := _, guard := _ }) rfl (fun Qc hQc => ?_) AllReadyH.nil
        rw [if_pos (by rfl)]
        refine wp_store_row 30 (.tmp 8) (.tmp 15) rfl gp (pc m (cut K m)) rfl rfl 30 Z Zp34.out HIP.out HZP.out (pc_one _ _) ?_
        have GY := hid (G34.out.row lp (pc m (cut K m)))
        have YP := hid (Zp34.out.row (pc m (cut K m)))
        have YQ := hid ((Zq34.out.rowFar (by omega) (pc m (cut K m)) : Blk (x34.setRow gp (pc m (cut K m))) gq 30 Z))
        refine hQc.out _ _ GY (fun hHeld => ?_)
        clear hQc Qc G34 Zq34 Zp34
        generalize x34.setRow gp (pc m (cut K m)) = xy at GY YP YQ hHeld ⊢
        try simp only [Act.put, List.setIfInBounds_toArray, List.set_cons_zero, List.set_cons_succ]
        refine wpAnyH_ready (rs := [9]) (by kernel_rfl) (by simp) ?_
        refine AllReadyH.cons (o := { dst := none, op := _, type := _, pos := _, after := _, guard := _ }) rfl (fun Qc hQc => ?_) AllReadyH.nil
        rw [if_pos (by rfl)]
        refine wp_store_row 30 (.tmp 9) (.tmp 18) rfl gq (pc m (cut O m)) rfl rfl 30 Z YQ.out HIQ.out HZQ.out (pc_one _ _) ?_
        have GZ := hid (GY.out.row lq (pc m (cut O m)))
        have ZQ := hid (YQ.out.row (pc m (cut O m)))
        have ZP := hid ((YP.out.rowFar (by omega) (pc m (cut O m)) : Blk (xy.setRow gq (pc m (cut O m))) gp 30 (pc m (cut K m))))
        refine hQc.out _ _ GZ (fun hHeld => ?_)
        clear hQc Qc GY YP YQ
        generalize xy.setRow gq (pc m (cut O m)) = xz at GZ ZP ZQ hHeld ⊢
        try simp only [Act.put, List.setIfInBounds_toArray, List.set_cons_zero, List.set_cons_succ]
        refine wpAnyH_done (by kernel_rfl) ?_ _
        try simp only [Act.put, List.setIfInBounds_toArray, List.set_cons_zero, List.set_cons_succ]
        go_wp2
        go_meet
        exact ⟨gp, gq, rfl, rfl, GZ, ZP, ZQ⟩
  case rest =>
    obtain ⟨gp, gq, rfl, rfl, GR, RP, RQ⟩ := hcut
    have heq := HEQ.out
    clear G0 hm
    rcases HCASE.out with ⟨rfl, hmS⟩ | ⟨rfl, hmS⟩
    case' inl => have d1 : decide ((m : Int) ≤ (S : Int)) = true := decide_eq_true (by omega)
    case' inl => have d2 : decide (m ≤ S) = true := decide_eq_true hmS
    case' inr => have d1 : decide ((m : Int) ≤ (S : Int)) = false := decide_eq_false (by omega)
    case' inr => have d2 : decide (m ≤ S) = false := decide_eq_false hmS
    all_goals
      go_wp2
      have hlp := fun p : PW (Kp wc) => kp_len RP.out p
      refine region_kept (Kp wc) (by kernel_rfl) (by kernel_rfl) (kp_begin wc) ?_
      repeat (first
        | go_big_quiet_skip
        | (go_big_quiet_want; refine quiet_load 23 (.tmp 3) rfl w.heap.size 0 rfl (u8s K) _ (fun p => kp_key GR.out.b0 p) Try.underlying23 rfl (u8s_info hK) (kc K) rfl ?_; go_big_quiet_on; simp only [Act.put, List.setIfInBounds_toArray, List.set_cons_zero, List.set_cons_succ])
        | (go_big_quiet_want; refine quiet_load 23 (.tmp 4) rfl (w.heap.size + 1) 0 rfl (u8s O) _ (fun p => kp_key GR.out.b1 p) Try.underlying23 rfl (u8s_info hO) (kc O) rfl ?_; go_big_quiet_on; simp only [Act.put, List.setIfInBounds_toArray, List.set_cons_zero, List.set_cons_succ])
        | (go_big_quiet_want; refine quiet_load 30 (.tmp 8) rfl gp 0 rfl (.int .i64 m :: u8s (cut K m)) _ (fun p => kp_pre RP.out p) Try.underlying30 rfl (pcl_info _ hP) (pc m (cut K m)) rfl ?_; go_big_quiet_on; simp only [Act.put, List.setIfInBounds_toArray, List.set_cons_zero, List.set_cons_succ])
        | (go_big_quiet_want; refine quiet_load 30 (.tmp 9) rfl gq 0 rfl (.int .i64 m :: u8s (cut O m)) _ (fun p => kp_pre RQ.out p) Try.underlying30 rfl (pcl_info _ hQ) (pc m (cut O m)) rfl ?_; go_big_quiet_on; simp only [Act.put, List.setIfInBounds_toArray, List.set_cons_zero, List.set_cons_succ])
        | (go_big_quiet_want; go_big_quiet_op; first | go_big_quiet_on | go_big_quiet_call (first | (go_at_call 9; with_reducible exact kp_call (CA.out _)) | (go_at_call 20; with_reducible exact kp_call (CF.out _)) | (go_at_call 22; with_reducible exact kp_call (C1.out _)) | (go_at_call 22; with_reducible exact kp_call (C2.out _)) | (go_at_call 12; with_reducible exact kp_call (CS.out _)))))
      refine wpQuiet_nil ?_
      intro _ hw'
      obtain ⟨p, hw''⟩ := hw'
      have BZ := hid (GR.out.bl.trans (Below.mono p.h GR.out.bl.size))
      subst hw''
      go_wp2
      go_ret
      exact ⟨rfl, BZ.out⟩
theorem own_walk (K O : List Int) (n : Int) (hK : Ky K) (hO : Ky O) (hn : 0 ≤ n ∧ n ≤ 65535) (w : World) :
    Calls Try.prog 6 #[.agg (kc K), .agg (kc O), .int .u16 n] w fun e w' => e = .returned (.bool true) ∧ Below w.heap.size w w' :=
  own_nat K O (n % 257).toNat n hK hO hn (by omega) w
end Go.Proofs.Ytdaobhclcpgjbaa
