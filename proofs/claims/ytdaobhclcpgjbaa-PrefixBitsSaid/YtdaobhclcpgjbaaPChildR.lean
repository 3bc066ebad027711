/-
  What is proved here: a beginning with a bit more, as the document tells it.
-/
import Derived.Test.YtdaobhclcpgjbaaPChildY
namespace Go.Proofs.Ytdaobhclcpgjbaa
open Go.ChangeShapes Go.WideShapes Go.ChangeAt Go.RowKit
set_option linter.unusedVariables false

set_option maxHeartbeats 4000000 in
theorem rChild_no (l : Int) (B : List Int) (b : Int) (hB : Ky B) (w : World) (h : chB l B b = false) :
    Calls Try.prog 17 #[.agg (pc l B), .int .i64 b] w fun e w' => e = .returned (.tuple #[.agg (pc 0 zk), .bool false]) ∧ Below w.heap.size w w' := by
  obtain ⟨Z, HZ, hZ0, hZs⟩ := zero_pre
  obtain ⟨hk1, hk2, hb0⟩ := one_blks w (pc l B) Z 30 30
  have K1 := hid hk1; have K2 := hid hk2; have B0 := hid hb0
  clear hk1 hk2 hb0
  have CF := hid (fun w => rFormed_any l B hB w)
  have HI := hid (pc_info 0 zk_ky)
  have HZ33 : Hid (Z.size = (pc 0 zk).size) := by show _ = _; rw [HZ.out]
  unfold chB at h
  have HFL := hid (fun h : frm l B = true => frm_le h)
  generalize frm l B = v at CF h HFL
  have hcase : v = false ∨ v = true ∧ l = 256 ∨ v = true ∧ l ≠ 256 ∧ b ≠ 0 ∧ b ≠ 1 := by
    cases v
    · exact Or.inl rfl
    · by_cases h1 : l = 256
      · exact Or.inr (Or.inl ⟨rfl, h1⟩)
      · refine Or.inr (Or.inr ⟨rfl, h1, fun h2 => ?_, fun h2 => ?_⟩)
        · simp [h1, h2] at h
        · simp [h1, h2] at h
  clear h
  rcases hcase with rfl | ⟨rfl, rfl⟩ | ⟨rfl, hl, hb0, hb1⟩
  · go_enter Try.func17, Try.ntmps17
    go_wp2_with (first
      | (refine load_at rfl 30 (.tmp 2) rfl w.heap.size 0 rfl (.int .i64 l :: u8s B) _ (blk_pre K1.out) Try.underlying30 rfl (pcl_info l hB) (pc l B) rfl ?_)
      | (go_at_call 21; refine (CF.out _).mono ?_; rintro e w1 ⟨rfl, hb1⟩; have L1 := hid (K1.out.below hb1); have L2 := hid (K2.out.below hb1); have B1 := hid (B0.out.trans (hb1.mono B0.out.size)); have c1 : w1.cell? ⟨w.heap.size, 0, none⟩ = some (.int .i64 l) := L1.out.cell 0; clear hb1)
      | (refine build_0 rfl rfl ?_)
      | (refine wpList_store_row rfl 30 (.tmp 4) (.tmp 23) rfl (w.heap.size + 1) (pc 0 zk) rfl rfl 30 Z L2.out HI.out HZ33.out (pc_one _ _) ?_))
    try go_frame
    refine bodyPost_ret (results_child Try.results17 _ _ (w.heap.size + 1) 30 (pc 0 zk) (0, 0) _ rfl (L2.out.row _) Try.underlying30 rfl HI.out) rfl ?_
    exact ⟨rfl, below_setRow B1.out (by omega) _⟩
  · go_enter Try.func17, Try.ntmps17
    go_wp2_with (first
      | (refine load_at rfl 30 (.tmp 2) rfl w.heap.size 0 rfl (.int .i64 256 :: u8s B) _ (blk_pre K1.out) Try.underlying30 rfl (pcl_info 256 hB) (pc 256 B) rfl ?_)
      | (go_at_call 21; refine (CF.out _).mono ?_; rintro e w1 ⟨rfl, hb1⟩; have L1 := hid (K1.out.below hb1); have L2 := hid (K2.out.below hb1); have B1 := hid (B0.out.trans (hb1.mono B0.out.size)); have c1 : w1.cell? ⟨w.heap.size, 0, none⟩ = some (.int .i64 256) := L1.out.cell 0; clear hb1)
      | (refine build_0 rfl rfl ?_)
      | (refine wpList_store_row rfl 30 (.tmp 4) (.tmp 23) rfl (w.heap.size + 1) (pc 0 zk) rfl rfl 30 Z L2.out HI.out HZ33.out (pc_one _ _) ?_))
    try go_frame
    refine bodyPost_ret (results_child Try.results17 _ _ (w.heap.size + 1) 30 (pc 0 zk) (0, 0) _ rfl (L2.out.row _) Try.underlying30 rfl HI.out) rfl ?_
    exact ⟨rfl, below_setRow B1.out (by omega) _⟩
  · have e1 : ¬ 255 < l := by have := HFL.out rfl; omega
    have e2 : (b != 0) = true := by simpa using hb0
    have e3 : (b != 1) = true := by simpa using hb1
    go_enter Try.func17, Try.ntmps17
    go_wp2_with (first
      | (refine load_at rfl 30 (.tmp 2) rfl w.heap.size 0 rfl (.int .i64 l :: u8s B) _ (blk_pre K1.out) Try.underlying30 rfl (pcl_info l hB) (pc l B) rfl ?_)
      | (go_at_call 21; refine (CF.out _).mono ?_; rintro e w1 ⟨rfl, hb1⟩; have L1 := hid (K1.out.below hb1); have L2 := hid (K2.out.below hb1); have B1 := hid (B0.out.trans (hb1.mono B0.out.size)); have c1 : w1.cell? ⟨w.heap.size, 0, none⟩ = some (.int .i64 l) := L1.out.cell 0; clear hb1)
      | (refine build_0 rfl rfl ?_)
      | (refine wpList_store_row rfl 30 (.tmp 4) (.tmp 23) rfl (w.heap.size + 1) (pc 0 zk) rfl rfl 30 Z L2.out HI.out HZ33.out (pc_one _ _) ?_))
    try go_frame
    refine bodyPost_ret (results_child Try.results17 _ _ (w.heap.size + 1) 30 (pc 0 zk) (0, 0) _ rfl (L2.out.row _) Try.underlying30 rfl HI.out) rfl ?_
    exact ⟨rfl, below_setRow B1.out (by omega) _⟩
set_option maxRecDepth 5000 in
set_option maxHeartbeats 4000000 in
theorem rChild_0 (n : Nat) (B : List Int) (hB : Ky B) (w : World) (hn : n < 256) (hf : frm n B = true) :
    Calls Try.prog 17 #[.agg (pc n B), .int .i64 0] w fun e w' => e = .returned (.tuple #[.agg (pc (n + 1) B), .bool true]) ∧ Below w.heap.size w w' := by
  obtain ⟨Z, HZ, hZ0, hZs⟩ := zero_pre
  obtain ⟨hk1, hk2, hb0⟩ := one_blks w (pc n B) Z 30 30
  have K1 := hid hk1; have K2 := hid hk2; have B0 := hid hb0
  clear hk1 hk2 hb0
  have CF := hid (fun w => rFormed_any n B hB w)
  rw [hf] at CF
  have CS := hid (fun w => rSet_any B hB n hn w)
  have HKY : Hid (Ky B) := hB
  have HI0 := hid (pc_info (n + 1) hB)
  have HI := hid (pc_info (n + 1) HKY.out)
  have HZ33 : Hid (Z.size = (pc (n + 1) B).size) := by show _ = _; rw [HZ.out, pc_size 0 zk_ky, pc_size _ HKY.out]
  have HZ30 : Hid (Z.size = (pc (n + 1) B).size) := by show _ = _; rw [HZ.out, pc_size 0 zk_ky, pc_size _ hB]
  have e1 : ¬ (255 : Int) < (n : Int) := by omega
  have i0 : (0 : Int) ≤ (n : Int) := by omega
  have i1 : (n : Int) < 256 := by omega
  clear hf hn
  go_enter Try.func17, Try.ntmps17
  go_wp2_with (first
      | (refine load_at rfl 30 (.tmp 2) rfl w.heap.size 0 rfl (.int .i64 n :: u8s B) _ (blk_pre K1.out) Try.underlying30 rfl (pcl_info n hB) (pc n B) rfl ?_)
      | (go_at_call 21; refine (CF.out _).mono ?_; rintro e w1 ⟨rfl, hb1⟩; have L1 := hid (K1.out.below hb1); have L2 := hid (K2.out.below hb1); have B1 := hid (B0.out.trans (hb1.mono B0.out.size)); have c1 : w1.cell? ⟨w.heap.size, 0, none⟩ = some (.int .i64 n) := L1.out.cell 0; have hw1 : w.heap.size + 1 < w1.heap.size := L2.out.lt; have M1 : Hid (Blk ((w1.alloc (.cells Z 30)).setRow w1.heap.size (pc (n + 1) B)) w.heap.size 30 (pc n B)) := (L1.out.alloc _).rowFar (by omega) _; have M2 : Hid (Blk ((w1.alloc (.cells Z 30)).setRow w1.heap.size (pc (n + 1) B)) (w.heap.size + 1) 30 Z) := (L2.out.alloc _).rowFar (by omega) _; have M3 : Hid (Blk ((w1.alloc (.cells Z 30)).setRow w1.heap.size (pc (n + 1) B)) w1.heap.size 30 (pc (n + 1) B)) := (Blk.new w1 30 Z).row _; have MB : Hid (Below w.heap.size w ((w1.alloc (.cells Z 30)).setRow w1.heap.size (pc (n + 1) B))) := below_setRow (B1.out.alloc (by omega) _) (by omega) _; have d1 : ((w1.alloc (.cells Z 30)).setRow w1.heap.size (pc (n + 1) B)).cell? ⟨w.heap.size, 0, none⟩ = some (.int .i64 n) := M1.out.cell 0; clear hb1)
      | (refine load_at rfl 23 (.tmp 27) rfl w.heap.size 1 rfl (u8s B) _ (pc_range L1.out) Try.underlying23 rfl (u8s_info hB) (kc B) rfl ?_)
      | (refine build_2 rfl (.tmp 26) (.tmp 28) rfl (n + 1) rfl B rfl hB ?_)
      | (refine wpList_store_row rfl 30 (.tmp 6) (.tmp 29) rfl w1.heap.size (pc (n + 1) B) rfl rfl 30 Z (Blk.new w1 30 Z) HI0.out HZ30.out (pc_one _ _) ?_)
      | (refine load_at rfl 30 (.tmp 6) rfl w1.heap.size 0 rfl (.int .i64 (n + 1) :: u8s B) _ (blk_pre M3.out) Try.underlying30 rfl (pcl_info _ HKY.out) (pc (n + 1) B) rfl ?_)
      | (refine wpList_store_row rfl 30 (.tmp 4) (.tmp 38) rfl (w.heap.size + 1) (pc (n + 1) B) rfl rfl 30 Z M2.out HI.out HZ33.out (pc_one _ _) ?_))
  try go_frame
  refine bodyPost_ret (results_child Try.results17 _ _ (w.heap.size + 1) 30 (pc (n + 1) B) (0, 0) _ rfl (M2.out.row _) Try.underlying30 rfl HI.out) rfl ?_
  exact ⟨rfl, below_setRow MB.out (by omega) _⟩
set_option maxRecDepth 5000 in
set_option maxHeartbeats 4000000 in
theorem rChild_1 (n : Nat) (B : List Int) (hB : Ky B) (w : World) (hn : n < 256) (hf : frm n B = true) :
    Calls Try.prog 17 #[.agg (pc n B), .int .i64 1] w fun e w' => e = .returned (.tuple #[.agg (pc (n + 1) (setb B n)), .bool true]) ∧ Below w.heap.size w w' := by
  obtain ⟨Z, HZ, hZ0, hZs⟩ := zero_pre
  obtain ⟨hk1, hk2, hb0⟩ := one_blks w (pc n B) Z 30 30
  have K1 := hid hk1; have K2 := hid hk2; have B0 := hid hb0
  clear hk1 hk2 hb0
  have CF := hid (fun w => rFormed_any n B hB w)
  rw [hf] at CF
  have CS := hid (fun w => rSet_any B hB n hn w)
  have HKY : Hid (Ky (setb B n)) := setb_ky B n
  have HI0 := hid (pc_info (n + 1) hB)
  have HI := hid (pc_info (n + 1) HKY.out)
  have HZ33 : Hid (Z.size = (pc (n + 1) (setb B n)).size) := by show _ = _; rw [HZ.out, pc_size 0 zk_ky, pc_size _ HKY.out]
  have HZ30 : Hid (Z.size = (pc (n + 1) B).size) := by show _ = _; rw [HZ.out, pc_size 0 zk_ky, pc_size _ hB]
  have e1 : ¬ (255 : Int) < (n : Int) := by omega
  have i0 : (0 : Int) ≤ (n : Int) := by omega
  have i1 : (n : Int) < 256 := by omega
  clear hf hn
  go_enter Try.func17, Try.ntmps17
  go_wp2_with (first
      | (refine load_at rfl 30 (.tmp 2) rfl w.heap.size 0 rfl (.int .i64 n :: u8s B) _ (blk_pre K1.out) Try.underlying30 rfl (pcl_info n hB) (pc n B) rfl ?_)
      | (go_at_call 21; refine (CF.out _).mono ?_; rintro e w1 ⟨rfl, hb1⟩; have L1 := hid (K1.out.below hb1); have L2 := hid (K2.out.below hb1); have B1 := hid (B0.out.trans (hb1.mono B0.out.size)); have c1 : w1.cell? ⟨w.heap.size, 0, none⟩ = some (.int .i64 n) := L1.out.cell 0; have hw1 : w.heap.size + 1 < w1.heap.size := L2.out.lt; have M1 : Hid (Blk ((w1.alloc (.cells Z 30)).setRow w1.heap.size (pc (n + 1) B)) w.heap.size 30 (pc n B)) := (L1.out.alloc _).rowFar (by omega) _; have M2 : Hid (Blk ((w1.alloc (.cells Z 30)).setRow w1.heap.size (pc (n + 1) B)) (w.heap.size + 1) 30 Z) := (L2.out.alloc _).rowFar (by omega) _; have M3 : Hid (Blk ((w1.alloc (.cells Z 30)).setRow w1.heap.size (pc (n + 1) B)) w1.heap.size 30 (pc (n + 1) B)) := (Blk.new w1 30 Z).row _; have MB : Hid (Below w.heap.size w ((w1.alloc (.cells Z 30)).setRow w1.heap.size (pc (n + 1) B))) := below_setRow (B1.out.alloc (by omega) _) (by omega) _; have d1 : ((w1.alloc (.cells Z 30)).setRow w1.heap.size (pc (n + 1) B)).cell? ⟨w.heap.size, 0, none⟩ = some (.int .i64 n) := M1.out.cell 0; clear hb1)
      | (refine load_at rfl 23 (.tmp 27) rfl w.heap.size 1 rfl (u8s B) _ (pc_range L1.out) Try.underlying23 rfl (u8s_info hB) (kc B) rfl ?_)
      | (refine build_2 rfl (.tmp 26) (.tmp 28) rfl (n + 1) rfl B rfl hB ?_)
      | (refine wpList_store_row rfl 30 (.tmp 6) (.tmp 29) rfl w1.heap.size (pc (n + 1) B) rfl rfl 30 Z (Blk.new w1 30 Z) HI0.out HZ30.out (pc_one _ _) ?_)
      | (refine load_at rfl 23 (.tmp 32) rfl w1.heap.size 1 rfl (u8s B) _ (pc_range M3.out) Try.underlying23 rfl (u8s_info hB) (kc B) rfl ?_)
      | (go_at_call 31; refine (CS.out _).mono ?_; rintro e w2 ⟨rfl, hb2⟩; have N2 := hid (M2.out.below hb2); have N3 := hid (M3.out.below hb2); have NB := hid (MB.out.trans (hb2.mono MB.out.size)); clear hb2)
      | (refine store_bits rfl (.tmp 37) (.tmp 36) rfl w1.heap.size rfl (n + 1) B (setb B n) rfl hB HKY.out N3.out ?_; intro w3 o3 of ob; have O3 := hid o3; have O2 := hid (of _ _ _ (by omega) N2.out); have OB := hid (ob _ _ (by omega) NB.out); clear o3 of ob)
      | (refine load_at rfl 30 (.tmp 6) rfl w1.heap.size 0 rfl (.int .i64 (n + 1) :: u8s (setb B n)) _ (blk_pre O3.out) Try.underlying30 rfl (pcl_info _ HKY.out) (pc (n + 1) (setb B n)) rfl ?_)
      | (refine wpList_store_row rfl 30 (.tmp 4) (.tmp 38) rfl (w.heap.size + 1) (pc (n + 1) (setb B n)) rfl rfl 30 Z O2.out HI.out HZ33.out (pc_one _ _) ?_))
  try go_frame
  refine bodyPost_ret (results_child Try.results17 _ _ (w.heap.size + 1) 30 (pc (n + 1) (setb B n)) (0, 0) _ rfl (O2.out.row _) Try.underlying30 rfl HI.out) rfl ?_
  exact ⟨rfl, below_setRow OB.out (by omega) _⟩
theorem rChild_any (l : Int) (B : List Int) (b : Int) (hB : Ky B) (w : World) :
    Calls Try.prog 17 #[.agg (pc l B), .int .i64 b] w fun e w' => e = .returned (chV l B b) ∧ Below w.heap.size w w' := by
  unfold chV
  cases h : chB l B b
  · rw [if_neg (by decide)]; exact rChild_no l B b hB w h
  · rw [if_pos rfl]
    unfold chB at h
    simp only [Bool.and_eq_true, Bool.or_eq_true, decide_eq_true_eq] at h
    obtain ⟨⟨h1, h2⟩, h3⟩ := h
    have h4 := frm_le h1
    obtain ⟨n, rfl⟩ : ∃ n : Nat, l = n := ⟨l.toNat, by omega⟩
    rcases h3 with rfl | rfl
    · exact rChild_0 n B hB w (by omega) h1
    · exact rChild_1 n B hB w (by omega) h1
end Go.Proofs.Ytdaobhclcpgjbaa
