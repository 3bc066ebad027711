/-
  What is proved here: the longest beginning that holds two, as the document tells it.
-/
import Derived.Test.YtdaobhclcpgjbaaPMeetY
namespace Go.Proofs.Ytdaobhclcpgjbaa
open Go.ChangeShapes Go.WideShapes Go.ChangeAt Go.RowKit
set_option linter.unusedVariables false

theorem pMeet_any (l m : Int) (B C : List Int) (hB : Ky B) (hC : Ky C) (w : World) :
    Calls Try.prog 24 #[.agg (pc l B), .agg (pc m C)] w fun e w' => e = .returned (.agg (meetV l B m C)) ∧ Below w.heap.size w w' := by
  unfold meetV
  cases h : (frm l B && frm m C)
  · rw [if_neg (by decide)]; exact pMeet_no l m B C hB hC w h
  · rw [if_pos rfl]
    rw [Bool.and_eq_true] at h
    exact pMeet_yes l m B C hB hC w h.1 h.2
set_option maxHeartbeats 2000000 in
theorem rMeet_no (l m : Int) (B C : List Int) (hB : Ky B) (hC : Ky C) (w : World) (h : (frm l B && frm m C) = false) :
    Calls Try.prog 25 #[.agg (pc l B), .agg (pc m C)] w fun e w' => e = .returned (.agg (pc 0 zk)) ∧ Below w.heap.size w w' := by
  obtain ⟨Z, HZ, hZ0, hZs⟩ := zero_pre
  obtain ⟨hk1, hk2, hk3, hb0⟩ := three_blks w (pc l B) (pc m C) Z 30 30 30
  have K1 := hid hk1; have K2 := hid hk2; have K3 := hid hk3; have B0 := hid hb0
  clear hk1 hk2 hk3 hb0
  have CF := hid (fun w => rFormed_any l B hB w)
  have CG := hid (fun w => rFormed_any m C hC w)
  have HI := hid (pc_info 0 zk_ky)
  have HZ33 : Hid (Z.size = (pc 0 zk).size) := by show _ = _; rw [HZ.out]
  generalize frm l B = v1 at CF h
  generalize frm m C = v2 at CG h
  have hcase : v1 = false ∨ v1 = true ∧ v2 = false := by cases v1 <;> cases v2 <;> simp_all
  clear h
  rcases hcase with rfl | ⟨rfl, rfl⟩
  · go_enter Try.func25, Try.ntmps25
    go_wp2_with (first
      | (refine load_at rfl 30 (.tmp 2) rfl w.heap.size 0 rfl (.int .i64 l :: u8s B) _ (blk_pre K1.out) Try.underlying30 rfl (pcl_info l hB) (pc l B) rfl ?_)
      | (go_at_call 21; refine (CF.out _).mono ?_; rintro e w1 ⟨rfl, hb1⟩; have L3 := hid (K3.out.below hb1); have B1 := hid (B0.out.trans (hb1.mono B0.out.size)); clear hb1)
      | (refine build_0 rfl rfl ?_)
      | (refine wpList_store_row rfl 30 (.tmp 4) (.tmp 14) rfl (w.heap.size + 1 + 1) (pc 0 zk) rfl rfl 30 Z L3.out HI.out HZ33.out (pc_one _ _) ?_))
    try go_frame
    refine bodyPost_ret (results_cell_row Try.results25 _ _ (w.heap.size + 1 + 1) 30 (pc 0 zk) (0, 0) _ rfl (L3.out.row _) Try.underlying30 rfl HI.out) rfl ?_
    exact ⟨rfl, below_setRow B1.out (by omega) _⟩
  · go_enter Try.func25, Try.ntmps25
    go_wp2_with (first
      | (refine load_at rfl 30 (.tmp 2) rfl w.heap.size 0 rfl (.int .i64 l :: u8s B) _ (blk_pre K1.out) Try.underlying30 rfl (pcl_info l hB) (pc l B) rfl ?_)
      | (go_at_call 21; with_reducible refine (CF.out _).mono ?_; rintro e w1 ⟨rfl, hb1⟩; have L2 := hid (K2.out.below hb1); have L3 := hid (K3.out.below hb1); have B1 := hid (B0.out.trans (hb1.mono B0.out.size)); clear hb1)
      | (refine load_at rfl 30 (.tmp 3) rfl (w.heap.size + 1) 0 rfl (.int .i64 m :: u8s C) _ (blk_pre L2.out) Try.underlying30 rfl (pcl_info m hC) (pc m C) rfl ?_)
      | (go_at_call 21; with_reducible refine (CG.out _).mono ?_; rintro e w2 ⟨rfl, hb2⟩; have M3 := hid (L3.out.below hb2); have B2 := hid (B1.out.trans (hb2.mono B1.out.size)); clear hb2)
      | (refine build_0 rfl rfl ?_)
      | (refine wpList_store_row rfl 30 (.tmp 4) (.tmp 14) rfl (w.heap.size + 1 + 1) (pc 0 zk) rfl rfl 30 Z M3.out HI.out HZ33.out (pc_one _ _) ?_))
    try go_frame
    refine bodyPost_ret (results_cell_row Try.results25 _ _ (w.heap.size + 1 + 1) 30 (pc 0 zk) (0, 0) _ rfl (M3.out.row _) Try.underlying30 rfl HI.out) rfl ?_
    exact ⟨rfl, below_setRow B2.out (by omega) _⟩
set_option maxHeartbeats 4000000 in
theorem rMeet_yes (l m : Nat) (B C : List Int) (hB : Ky B) (hC : Ky C) (w : World) (h1 : frm l B = true) (h2 : frm m C = true) :
    Calls Try.prog 25 #[.agg (pc l B), .agg (pc m C)] w fun e w' => e = .returned (.agg (pc (mt l m (shr B C)) (cut B (mt l m (shr B C))))) ∧ Below w.heap.size w w' := by
  obtain ⟨Z, HZ, hZ0, hZs⟩ := zero_pre
  obtain ⟨hk1, hk2, hk3, hb0⟩ := three_blks w (pc l B) (pc m C) Z 30 30 30
  have K1 := hid hk1; have K2 := hid hk2; have K3 := hid hk3; have B0 := hid hb0
  clear hk1 hk2 hk3 hb0
  have CF := hid (fun w => rFormed_any l B hB w)
  have CG := hid (fun w => rFormed_any m C hC w)
  rw [h1] at CF
  rw [h2] at CG
  have g1 := frm_le h1
  have g2 := frm_le h2
  clear h1 h2
  have HS := hid (shr_is B C)
  have HE := hid (fun k (h : IsShr B C k) => h.eq)
  obtain ⟨N, hNN⟩ : ∃ N, N = mt l m (shr B C) := ⟨_, rfl⟩
  have HN : Hid (N = min (min l m) (shr B C)) := by show _ = _; rw [hNN]; unfold mt; omega
  have hN : lim N = N := by have := (shr_is B C).le; rw [hNN]; unfold lim mt; omega
  rw [← hNN]
  have CC0 := fun w => rCut_any B hB N w
  rw [hN] at CC0
  have CC := hid CC0
  have HI := hid (pc_info N (cut_ky B N))
  have HZ33 : Hid (Z.size = (pc N (cut B N)).size) := by show _ = _; rw [HZ.out, pc_size 0 zk_ky, pc_size _ (cut_ky B N)]
  have hl256 : l ≤ 256 := by omega
  have hm256 : m ≤ 256 := by omega
  clear g1 g2 hNN hN CC0
  go_enter Try.func25, Try.ntmps25
  go_wp2_with (first
    | (refine load_at rfl 30 (.tmp 2) rfl w.heap.size 0 rfl (.int .i64 l :: u8s B) _ (blk_pre K1.out) Try.underlying30 rfl (pcl_info l hB) (pc l B) rfl ?_)
    | (go_at_call 21; with_reducible refine (CF.out _).mono ?_; rintro e w1 ⟨rfl, hb1⟩; have L1 := hid (K1.out.below hb1); have L2 := hid (K2.out.below hb1); have L3 := hid (K3.out.below hb1); have B1 := hid (B0.out.trans (hb1.mono B0.out.size)); clear hb1)
    | (refine load_at rfl 30 (.tmp 3) rfl (w.heap.size + 1) 0 rfl (.int .i64 m :: u8s C) _ (blk_pre L2.out) Try.underlying30 rfl (pcl_info m hC) (pc m C) rfl ?_)
    | (go_at_call 21; with_reducible refine (CG.out _).mono ?_; rintro e w2 ⟨rfl, hb2⟩; have M1 := hid (L1.out.below hb2); have M2 := hid (L2.out.below hb2); have M3 := hid (L3.out.below hb2); have MB := hid (B1.out.trans (hb2.mono B1.out.size)); clear hb2))
  clear K1 K2 K3 B0 L1 L2 L3 B1 CF CG
  go_loopw [5] (fun n wr => ∃ k : Nat, k ≤ 256 ∧ n = .int .i64 k ∧ Hid (k ≤ l ∧ k ≤ m) ∧ Hid (∀ i, i < k → bit B i = bit C i) ∧ Hid (Blk wr w.heap.size 30 (pc l B)) ∧ Hid (Blk wr (w.heap.size + 1) 30 (pc m C)) ∧ Hid (Blk wr (w.heap.size + 1 + 1) 30 Z) ∧ Hid (Below w.heap.size w wr)) (fun n _ => 256 - (intOf n).toNat)
  case atStart => exact ⟨0, Nat.zero_le _, rfl, ⟨Nat.zero_le _, Nat.zero_le _⟩, fun i hi => by omega, M1.out, M2.out, M3.out, MB.out⟩
  case round =>
    obtain ⟨k, hk, rfl, HL, HA, HK1, HK2, HK3, HB⟩ := hrel
    clear M1 M2 M3 MB
    have hl := fun p : PW (Kp wr) => kp_len HK1.out p
    have hm := fun p : PW (Kp wr) => kp_len HK2.out p
    have hcase : (k : Int) < l ∧ (k : Int) < m ∨ ¬ (k : Int) < l ∨ (k : Int) < l ∧ ¬ (k : Int) < m := by omega
    rcases hcase with ⟨hkl, hkm⟩ | hkl | ⟨hkl, hkm⟩
    · have hk256 : k < 256 := by omega
      have CA := hid (fun w => rBit_in B hB k hk256 w)
      have CB := hid (fun w => rBit_in C hC k hk256 w)
      obtain ⟨x, hx⟩ : ∃ x, x = bit B k := ⟨_, rfl⟩
      obtain ⟨y, hy⟩ : ∃ y, y = bit C k := ⟨_, rfl⟩
      rw [← hx] at CA
      rw [← hy] at CB
      have HX := hid hx; have HY := hid hy
      have HL2 : Hid (k + 1 ≤ l ∧ k + 1 ≤ m) := ⟨by omega, by omega⟩
      clear hx hy
      have d1 : decide ((k : Int) < l) = true := decide_eq_true hkl
      have d2 : decide ((k : Int) < m) = true := decide_eq_true hkm
      by_cases he : x = y
      · subst he
        go_wp2
        refine region_kept (Kp wr) (by kernel_rfl) (by kernel_rfl) (kp_begin wr) ?_
        repeat (first
          | go_big_quiet_skip
          | (go_big_quiet_want; refine quiet_load 23 (.tmp 26) rfl w.heap.size 1 rfl (u8s B) _ (fun p => kp_bits HK1.out p) Try.underlying23 rfl (u8s_info hB) (kc B) rfl ?_; go_big_quiet_on; simp only [Act.put, List.setIfInBounds_toArray, List.set_cons_zero, List.set_cons_succ])
          | (go_big_quiet_want; refine quiet_load 23 (.tmp 30) rfl (w.heap.size + 1) 1 rfl (u8s C) _ (fun p => kp_bits HK2.out p) Try.underlying23 rfl (u8s_info hC) (kc C) rfl ?_; go_big_quiet_on; simp only [Act.put, List.setIfInBounds_toArray, List.set_cons_zero, List.set_cons_succ])
          | (go_big_quiet_want; go_big_quiet_op; first | go_big_quiet_on | go_big_quiet_call (first | (with_reducible exact kp_call (CA.out _)) | (with_reducible exact kp_call (CB.out _)))))
        refine wpQuiet_nil ?_
        intro _ hw'
        obtain ⟨p, hw''⟩ := hw'
        have N1 := hid (HK1.out.below p.h)
        have N2 := hid (HK2.out.below p.h)
        have N3 := hid (HK3.out.below p.h)
        have NB := hid (HB.out.trans (Below.mono p.h HB.out.size))
        subst hw''
        clear hl hm
        generalize p.w = w5 at N1 N2 N3 NB ⊢
        go_wp2
        exact ⟨⟨k + 1, by omega, by go_num, HL2.out, fun i hi => by
          rcases Nat.lt_or_ge i k with h | h
          · exact HA.out i h
          · rw [show i = k by omega, ← HX.out, ← HY.out], N1.out, N2.out, N3.out, NB.out⟩, by simp [intOf]; omega⟩
      · have b1 : (x == y) = false := by simpa using he
        have hNk : Hid (N = k) := by
          have h1 := HE.out k ⟨hk, HA.out, fun _ => by rw [← HX.out, ← HY.out]; exact he⟩
          have h2 := HN.out
          show N = k
          omega
        clear he
        obtain rfl := hNk.out
        go_wp2
        refine region_kept (Kp wr) (by kernel_rfl) (by kernel_rfl) (kp_begin wr) ?_
        repeat (first
          | go_big_quiet_skip
          | (go_big_quiet_want; refine quiet_load 23 (.tmp 26) rfl w.heap.size 1 rfl (u8s B) _ (fun p => kp_bits HK1.out p) Try.underlying23 rfl (u8s_info hB) (kc B) rfl ?_; go_big_quiet_on; simp only [Act.put, List.setIfInBounds_toArray, List.set_cons_zero, List.set_cons_succ])
          | (go_big_quiet_want; refine quiet_load 23 (.tmp 30) rfl (w.heap.size + 1) 1 rfl (u8s C) _ (fun p => kp_bits HK2.out p) Try.underlying23 rfl (u8s_info hC) (kc C) rfl ?_; go_big_quiet_on; simp only [Act.put, List.setIfInBounds_toArray, List.set_cons_zero, List.set_cons_succ])
          | (go_big_quiet_want; go_big_quiet_op; first | go_big_quiet_on | go_big_quiet_call (first | (with_reducible exact kp_call (CA.out _)) | (with_reducible exact kp_call (CB.out _)))))
        refine wpQuiet_nil ?_
        intro _ hw'
        obtain ⟨p, hw''⟩ := hw'
        have N1 := hid (HK1.out.below p.h)
        have N2 := hid (HK2.out.below p.h)
        have N3 := hid (HK3.out.below p.h)
        have NB := hid (HB.out.trans (Below.mono p.h HB.out.size))
        subst hw''
        clear hl hm
        generalize p.w = w5 at N1 N2 N3 NB ⊢
        go_wp2_with (first
          | (refine load_at rfl 23 (.tmp 38) rfl w.heap.size 1 rfl (u8s B) _ (pc_range N1.out) Try.underlying23 rfl (u8s_info hB) (kc B) rfl ?_)
          | (go_at_call 19; refine (CC.out _).mono ?_; rintro e w6 ⟨rfl, hb6⟩; have P3 := hid (N3.out.below hb6); have PB := hid (NB.out.trans (hb6.mono NB.out.size)); clear hb6)
          | (refine wpList_store_row rfl 30 (.tmp 4) (.tmp 41) rfl (w.heap.size + 1 + 1) (pc N (cut B N)) rfl rfl 30 Z P3.out HI.out HZ33.out (pc_one _ _) ?_))
        try go_frame
        refine bodyPost_ret (results_cell_row Try.results25 _ _ (w.heap.size + 1 + 1) 30 (pc N (cut B N)) (0, 0) _ rfl (P3.out.row _) Try.underlying30 rfl HI.out) rfl ?_
        exact ⟨rfl, below_setRow PB.out (by omega) _⟩
    · have d1 : decide ((k : Int) < l) = false := decide_eq_false hkl
      have e1 : decide (k < l) = false := decide_eq_false (by omega)
      have hNk : Hid (N = k) := by
        have h1 := HL.out
        have h2 := HN.out
        have h3 := (le_shr_iff (K := B) (L := C) (n := k) hk).2 (cut_eq (fun i _ hi => HA.out i hi))
        show N = k
        omega
      obtain rfl := hNk.out
      go_wp2
      refine region_kept (Kp wr) (by kernel_rfl) (by kernel_rfl) (kp_begin wr) ?_
      repeat (first
      | go_big_quiet_skip
        | (go_big_quiet_want; refine quiet_load 23 (.tmp 26) rfl w.heap.size 1 rfl (u8s B) _ (fun p => kp_bits HK1.out p) Try.underlying23 rfl (u8s_info hB) (kc B) rfl ?_; go_big_quiet_on; simp only [Act.put, List.setIfInBounds_toArray, List.set_cons_zero, List.set_cons_succ])
        | (go_big_quiet_want; refine quiet_load 23 (.tmp 30) rfl (w.heap.size + 1) 1 rfl (u8s C) _ (fun p => kp_bits HK2.out p) Try.underlying23 rfl (u8s_info hC) (kc C) rfl ?_; go_big_quiet_on; simp only [Act.put, List.setIfInBounds_toArray, List.set_cons_zero, List.set_cons_succ])
        | (go_big_quiet_want; go_big_quiet_op; first | go_big_quiet_on | go_big_quiet_call (first | (with_reducible exact kp_call (CC.out _)) | (with_reducible exact kp_call (CC.out _)))))
      refine wpQuiet_nil ?_
      intro _ hw'
      obtain ⟨p, hw''⟩ := hw'
      have N1 := hid (HK1.out.below p.h)
      have N2 := hid (HK2.out.below p.h)
      have N3 := hid (HK3.out.below p.h)
      have NB := hid (HB.out.trans (Below.mono p.h HB.out.size))
      subst hw''
      clear hl hm
      generalize p.w = w5 at N1 N2 N3 NB ⊢
      go_wp2_with (first
        | (refine load_at rfl 23 (.tmp 38) rfl w.heap.size 1 rfl (u8s B) _ (pc_range N1.out) Try.underlying23 rfl (u8s_info hB) (kc B) rfl ?_)
        | (go_at_call 19; refine (CC.out _).mono ?_; rintro e w6 ⟨rfl, hb6⟩; have P3 := hid (N3.out.below hb6); have PB := hid (NB.out.trans (hb6.mono NB.out.size)); clear hb6)
        | (refine wpList_store_row rfl 30 (.tmp 4) (.tmp 41) rfl (w.heap.size + 1 + 1) (pc N (cut B N)) rfl rfl 30 Z P3.out HI.out HZ33.out (pc_one _ _) ?_))
      try go_frame
      refine bodyPost_ret (results_cell_row Try.results25 _ _ (w.heap.size + 1 + 1) 30 (pc N (cut B N)) (0, 0) _ rfl (P3.out.row _) Try.underlying30 rfl HI.out) rfl ?_
      exact ⟨rfl, below_setRow PB.out (by omega) _⟩
    · have d1 : decide ((k : Int) < l) = true := decide_eq_true hkl
      have d2 : decide ((k : Int) < m) = false := decide_eq_false hkm
      have e1 : decide (k < l) = true := decide_eq_true (by omega)
      have e2 : decide (k < m) = false := decide_eq_false (by omega)
      have hNk : Hid (N = k) := by
        have h1 := HL.out
        have h2 := HN.out
        have h3 := (le_shr_iff (K := B) (L := C) (n := k) hk).2 (cut_eq (fun i _ hi => HA.out i hi))
        show N = k
        omega
      obtain rfl := hNk.out
      go_wp2
      refine region_kept (Kp wr) (by kernel_rfl) (by kernel_rfl) (kp_begin wr) ?_
      repeat (first
        | go_big_quiet_skip
        | (go_big_quiet_want; refine quiet_load 23 (.tmp 26) rfl w.heap.size 1 rfl (u8s B) _ (fun p => kp_bits HK1.out p) Try.underlying23 rfl (u8s_info hB) (kc B) rfl ?_; go_big_quiet_on; simp only [Act.put, List.setIfInBounds_toArray, List.set_cons_zero, List.set_cons_succ])
        | (go_big_quiet_want; refine quiet_load 23 (.tmp 30) rfl (w.heap.size + 1) 1 rfl (u8s C) _ (fun p => kp_bits HK2.out p) Try.underlying23 rfl (u8s_info hC) (kc C) rfl ?_; go_big_quiet_on; simp only [Act.put, List.setIfInBounds_toArray, List.set_cons_zero, List.set_cons_succ])
        | (go_big_quiet_want; go_big_quiet_op; first | go_big_quiet_on | go_big_quiet_call (first | (with_reducible exact kp_call (CC.out _)) | (with_reducible exact kp_call (CC.out _)))))
      refine wpQuiet_nil ?_
      intro _ hw'
      obtain ⟨p, hw''⟩ := hw'
      have N1 := hid (HK1.out.below p.h)
      have N2 := hid (HK2.out.below p.h)
      have N3 := hid (HK3.out.below p.h)
      have NB := hid (HB.out.trans (Below.mono p.h HB.out.size))
      subst hw''
      clear hl hm
      generalize p.w = w5 at N1 N2 N3 NB ⊢
      go_wp2_with (first
        | (refine load_at rfl 23 (.tmp 38) rfl w.heap.size 1 rfl (u8s B) _ (pc_range N1.out) Try.underlying23 rfl (u8s_info hB) (kc B) rfl ?_)
        | (go_at_call 19; refine (CC.out _).mono ?_; rintro e w6 ⟨rfl, hb6⟩; have P3 := hid (N3.out.below hb6); have PB := hid (NB.out.trans (hb6.mono NB.out.size)); clear hb6)
        | (refine wpList_store_row rfl 30 (.tmp 4) (.tmp 41) rfl (w.heap.size + 1 + 1) (pc N (cut B N)) rfl rfl 30 Z P3.out HI.out HZ33.out (pc_one _ _) ?_))
      try go_frame
      refine bodyPost_ret (results_cell_row Try.results25 _ _ (w.heap.size + 1 + 1) 30 (pc N (cut B N)) (0, 0) _ rfl (P3.out.row _) Try.underlying30 rfl HI.out) rfl ?_
      exact ⟨rfl, below_setRow PB.out (by omega) _⟩
theorem rMeet_any (l m : Int) (B C : List Int) (hB : Ky B) (hC : Ky C) (w : World) :
    Calls Try.prog 25 #[.agg (pc l B), .agg (pc m C)] w fun e w' => e = .returned (.agg (meetV l B m C)) ∧ Below w.heap.size w w' := by
  unfold meetV
  cases h : (frm l B && frm m C)
  · rw [if_neg (by decide)]; exact rMeet_no l m B C hB hC w h
  · rw [if_pos rfl]
    rw [Bool.and_eq_true] at h
    obtain ⟨a, rfl⟩ : ∃ a : Nat, l = a := ⟨l.toNat, by have := frm_le h.1; omega⟩
    obtain ⟨b, rfl⟩ : ∃ b : Nat, m = b := ⟨m.toNat, by have := frm_le h.2; omega⟩
    exact rMeet_yes a b B C hB hC w h.1 h.2
end Go.Proofs.Ytdaobhclcpgjbaa
