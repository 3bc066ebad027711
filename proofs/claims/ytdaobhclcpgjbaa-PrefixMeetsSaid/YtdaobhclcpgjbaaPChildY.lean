/-
  What is proved here: a beginning with a bit more, where there is one, as the code tells it.
-/
import Derived.Test.YtdaobhclcpgjbaaPChild
import Derived.StillTailTactics
namespace Go.Proofs.Ytdaobhclcpgjbaa
open Go.ChangeShapes Go.WideShapes Go.ChangeAt Go.RowKit
set_option linter.unusedVariables false

theorem ch_or {n : Nat} {B : List Int} (hB : Ky B) (hn : n < 256) (h : frm n B = true) (b : Int) (hb : b = 0 ∨ b = 1) :
    B.set (n / 8) (bits .or .u8 (B[n / 8]?.getD 0) (rot b (7 - n % 8))) = chK n B b := by
  have hx := hB.bs.at (n / 8)
  have ho := or_rot _ hx (n % 8) (by omega)
  unfold chK
  rcases hb with rfl | rfl
  · rw [ho.1, if_neg (by decide), set_self hB]
  · have h0 : bit B n = 0 := frm_bit hB h n (Nat.le_refl _) hn
    rw [ho.2 h0, if_pos rfl, show ((n : Int)).toNat = n by omega]
    exact set_add hB n hn h0
theorem chK_ky {l : Int} {B : List Int} (hB : Ky B) (b : Int) : Ky (chK l B b) := by
  unfold chK
  split
  · exact setb_ky _ _
  · exact hB
set_option maxRecDepth 5000 in
set_option maxHeartbeats 4000000 in
theorem pChild_yes (n : Nat) (B : List Int) (b : Int) (hB : Ky B) (w : World) (hn : n < 256) (hf : frm n B = true) (hb : b = 0 ∨ b = 1) :
    Calls Try.prog 16 #[.agg (pc n B), .int .i64 b] w fun e w' => e = .returned (.tuple #[.agg (pc (n + 1) (chK n B b)), .bool true]) ∧ Below w.heap.size w w' := by
  obtain ⟨Z, HZ, hZ0, hZs⟩ := zero_pre
  obtain ⟨hk1, hk2, hb0⟩ := one_blks w (pc n B) Z 30 30
  have K1 := hid hk1; have K2 := hid hk2; have B0 := hid hb0
  clear hk1 hk2 hb0
  have CF := hid (fun w => pFormed_any n B hB w)
  rw [hf] at CF
  have hch := ch_or hB hn hf b hb
  have hky := chK_ky (l := n) hB b
  have hcell := pc_at n hB (n / 8) (by omega)
  have hx := hB.bs.at (n / 8)
  obtain ⟨x, hxx⟩ : ∃ x, x = B[n / 8]?.getD 0 := ⟨_, rfl⟩
  rw [← hxx] at hch hcell hx
  have hb1 : 0 ≤ b := by omega
  have hb2 : b < 256 := by omega
  have CR := hid (fun w => rotb_any b hb1 hb2 (-((n : Int) % 8 + 1)) (7 - n % 8) (by omega) (by have := cnt_down ⟨n % 8, by omega⟩; simpa using this) w)
  generalize rot b (7 - n % 8) = r at CR hch
  generalize chK n B b = D at hch hky ⊢
  have HCH := hid hch; have HKY := hid hky; have HC := hid hcell
  have HI := hid (pc_info (n + 1) hky)
  have HZ33 : Hid (Z.size = (pc (n + 1) D).size) := by show _ = _; rw [HZ.out, pc_size 0 zk_ky, pc_size _ hky]
  have e1 : ((n : Int) == 256) = false := by simp; omega
  have i0 : (0 : Int) ≤ (n : Int) := by omega
  have i1 : (n : Int) < 256 := by omega
  have i2 : (0 : Int) ≤ (n : Int) / 8 := by omega
  have i3 : (n : Int) / 8 < 32 := by omega
  have i4 : ((n : Int) / 8).toNat = n / 8 := by omega
  have s1 : IntKind.i64.wrap ((n : Int) % 8 + 1) = (n : Int) % 8 + 1 := IntWalk.i64_in _ (by omega)
  have s2 : IntKind.i64.wrap (-((n : Int) % 8 + 1)) = -((n : Int) % 8 + 1) := IntWalk.i64_in _ (by omega)
  have s3 : IntKind.u8.wrap b = b := by simp [IntKind.wrap, IntKind.bits, IntKind.signed]; omega
  have s4 : (n : Int).tmod 8 = (n : Int) % 8 := Int.tmod_eq_emod_of_nonneg (by omega)
  have s5 : IntKind.i64.wrap ((n : Int) / 8) = (n : Int) / 8 := IntWalk.i64_in _ (by omega)
  have s6 : IntKind.i64.wrap ((n : Int) % 8) = (n : Int) % 8 := IntWalk.i64_in _ (by omega)
  clear hch hky hcell hxx hf hn
  rcases hb with rfl | rfl
  · go_enter Try.func16, Try.ntmps16
    go_wp2_with (first
      | (refine load_at rfl 30 (.tmp 2) rfl w.heap.size 0 rfl (.int .i64 n :: u8s B) _ (blk_pre K1.out) Try.underlying30 rfl (pcl_info n hB) (pc n B) rfl ?_)
      | (go_at_call 20; refine (CF.out _).mono ?_; rintro e w1 ⟨rfl, hb1⟩; have L1 := hid (K1.out.below hb1); have L2 := hid (K2.out.below hb1); have B1 := hid (B0.out.trans (hb1.mono B0.out.size)); have c1 : w1.cell? ⟨w.heap.size, 0, none⟩ = some (.int .i64 n) := L1.out.cell 0; clear hb1))
    have c2 : w1.cell? ⟨w.heap.size, 1 + n / 8, none⟩ = some (.int .u8 x) := by rw [L1.out.cell, Nat.add_comm]; exact HC.out
    have c3 : w1.frozen? ⟨w.heap.size, 1 + n / 8, none⟩ = false := L1.out.frozen _
    refine wp_region_still_tail 17 (by kernel_rfl) (by kernel_rfl) ?_
    simp only [List.take_succ_cons, List.take_zero, List.drop_succ_cons, List.drop_zero]
    repeat still_step
    refine wpStill_step (fun K hK => ?_)
    go_simp
    refine ⟨_, (CR.out _).mono fun e w'' ⟨he, hw⟩ => ⟨he, hw.symm⟩, hK _ ?_⟩
    clear hK K
    repeat still_step
    refine wpStill_nil ?_
    change wpList _ _ _ _ _ w1.drew
    have P1 : Hid (Blk w1.drew w.heap.size 30 (pc n B)) := L1.out
    have P2 : Hid (Blk w1.drew (w.heap.size + 1) 30 Z) := L2.out
    have PB : Hid (Below w.heap.size w w1.drew) := B1.out.drew
    have d2 : w1.drew.cell? ⟨w.heap.size, 1 + n / 8, none⟩ = some (.int .u8 x) := c2
    have d3 : w1.drew.frozen? ⟨w.heap.size, 1 + n / 8, none⟩ = false := c3
    clear L1 L2 B1 c1 c2 c3
    generalize w1.drew = w2 at P1 P2 PB d2 d3 ⊢
    have q1 : Blk (w2.setCell ⟨w.heap.size, 1 + n / 8, none⟩ (.int .u8 (bits BinOp.or IntKind.u8 x r))) w.heap.size 30 (pc n D) := by
      have := P1.out.setd (1 + n / 8) (.int .u8 (bits BinOp.or IntKind.u8 x r))
      rwa [pc_set, HCH.out] at this
    have e2 : (w2.setCell ⟨w.heap.size, 1 + n / 8, none⟩ (.int .u8 (bits BinOp.or IntKind.u8 x r))).cell? ⟨w.heap.size, 0, none⟩ = some (.int .i64 n) := q1.cell 0
    have e3 : (w2.setCell ⟨w.heap.size, 1 + n / 8, none⟩ (.int .u8 (bits BinOp.or IntKind.u8 x r))).frozen? ⟨w.heap.size, 0, none⟩ = false := q1.frozen 0
    have q2 : Blk (w2.setCell ⟨w.heap.size, 1 + n / 8, none⟩ (.int .u8 (bits BinOp.or IntKind.u8 x r))) (w.heap.size + 1) 30 Z := P2.out.far (by simp) _
    have qb : Below w.heap.size w (w2.setCell ⟨w.heap.size, 1 + n / 8, none⟩ (.int .u8 (bits BinOp.or IntKind.u8 x r))) := PB.out.setCell (by simp) _
    have R1 : Hid (Blk ((w2.setCell ⟨w.heap.size, 1 + n / 8, none⟩ (.int .u8 (bits BinOp.or IntKind.u8 x r))).setCell ⟨w.heap.size, 0, none⟩ (.int .i64 (n + 1))) w.heap.size 30 (pc (n + 1) D)) := q1.setd 0 _
    have R2 : Hid (Blk ((w2.setCell ⟨w.heap.size, 1 + n / 8, none⟩ (.int .u8 (bits BinOp.or IntKind.u8 x r))).setCell ⟨w.heap.size, 0, none⟩ (.int .i64 (n + 1))) (w.heap.size + 1) 30 Z) := q2.far (by simp) _
    have RB : Hid (Below w.heap.size w ((w2.setCell ⟨w.heap.size, 1 + n / 8, none⟩ (.int .u8 (bits BinOp.or IntKind.u8 x r))).setCell ⟨w.heap.size, 0, none⟩ (.int .i64 (n + 1)))) := qb.setCell (by simp) _
    clear q1 q2 qb P1 P2 PB
    go_wp2_with (first
      | (refine load_at rfl 30 (.tmp 2) rfl w.heap.size 0 rfl (.int .i64 (n + 1) :: u8s D) _ (blk_pre R1.out) Try.underlying30 rfl (pcl_info _ HKY.out) (pc (n + 1) D) rfl ?_)
      | (refine wpList_store_row rfl 30 (.tmp 4) (.tmp 44) rfl (w.heap.size + 1) (pc (n + 1) D) rfl rfl 30 Z R2.out HI.out HZ33.out (pc_one _ _) ?_))
    try go_frame
    refine bodyPost_ret (results_child Try.results16 _ _ (w.heap.size + 1) 30 (pc (n + 1) D) (0, 0) _ rfl (R2.out.row _) Try.underlying30 rfl HI.out) rfl ?_
    exact ⟨rfl, below_setRow RB.out (by omega) _⟩
  · go_enter Try.func16, Try.ntmps16
    go_wp2_with (first
      | (refine load_at rfl 30 (.tmp 2) rfl w.heap.size 0 rfl (.int .i64 n :: u8s B) _ (blk_pre K1.out) Try.underlying30 rfl (pcl_info n hB) (pc n B) rfl ?_)
      | (go_at_call 20; refine (CF.out _).mono ?_; rintro e w1 ⟨rfl, hb1⟩; have L1 := hid (K1.out.below hb1); have L2 := hid (K2.out.below hb1); have B1 := hid (B0.out.trans (hb1.mono B0.out.size)); have c1 : w1.cell? ⟨w.heap.size, 0, none⟩ = some (.int .i64 n) := L1.out.cell 0; clear hb1))
    have c2 : w1.cell? ⟨w.heap.size, 1 + n / 8, none⟩ = some (.int .u8 x) := by rw [L1.out.cell, Nat.add_comm]; exact HC.out
    have c3 : w1.frozen? ⟨w.heap.size, 1 + n / 8, none⟩ = false := L1.out.frozen _
    refine wp_region_still_tail 17 (by kernel_rfl) (by kernel_rfl) ?_
    simp only [List.take_succ_cons, List.take_zero, List.drop_succ_cons, List.drop_zero]
    repeat still_step
    refine wpStill_step (fun K hK => ?_)
    go_simp
    refine ⟨_, (CR.out _).mono fun e w'' ⟨he, hw⟩ => ⟨he, hw.symm⟩, hK _ ?_⟩
    clear hK K
    repeat still_step
    refine wpStill_nil ?_
    change wpList _ _ _ _ _ w1.drew
    have P1 : Hid (Blk w1.drew w.heap.size 30 (pc n B)) := L1.out
    have P2 : Hid (Blk w1.drew (w.heap.size + 1) 30 Z) := L2.out
    have PB : Hid (Below w.heap.size w w1.drew) := B1.out.drew
    have d2 : w1.drew.cell? ⟨w.heap.size, 1 + n / 8, none⟩ = some (.int .u8 x) := c2
    have d3 : w1.drew.frozen? ⟨w.heap.size, 1 + n / 8, none⟩ = false := c3
    clear L1 L2 B1 c1 c2 c3
    generalize w1.drew = w2 at P1 P2 PB d2 d3 ⊢
    have q1 : Blk (w2.setCell ⟨w.heap.size, 1 + n / 8, none⟩ (.int .u8 (bits BinOp.or IntKind.u8 x r))) w.heap.size 30 (pc n D) := by
      have := P1.out.setd (1 + n / 8) (.int .u8 (bits BinOp.or IntKind.u8 x r))
      rwa [pc_set, HCH.out] at this
    have e2 : (w2.setCell ⟨w.heap.size, 1 + n / 8, none⟩ (.int .u8 (bits BinOp.or IntKind.u8 x r))).cell? ⟨w.heap.size, 0, none⟩ = some (.int .i64 n) := q1.cell 0
    have e3 : (w2.setCell ⟨w.heap.size, 1 + n / 8, none⟩ (.int .u8 (bits BinOp.or IntKind.u8 x r))).frozen? ⟨w.heap.size, 0, none⟩ = false := q1.frozen 0
    have q2 : Blk (w2.setCell ⟨w.heap.size, 1 + n / 8, none⟩ (.int .u8 (bits BinOp.or IntKind.u8 x r))) (w.heap.size + 1) 30 Z := P2.out.far (by simp) _
    have qb : Below w.heap.size w (w2.setCell ⟨w.heap.size, 1 + n / 8, none⟩ (.int .u8 (bits BinOp.or IntKind.u8 x r))) := PB.out.setCell (by simp) _
    have R1 : Hid (Blk ((w2.setCell ⟨w.heap.size, 1 + n / 8, none⟩ (.int .u8 (bits BinOp.or IntKind.u8 x r))).setCell ⟨w.heap.size, 0, none⟩ (.int .i64 (n + 1))) w.heap.size 30 (pc (n + 1) D)) := q1.setd 0 _
    have R2 : Hid (Blk ((w2.setCell ⟨w.heap.size, 1 + n / 8, none⟩ (.int .u8 (bits BinOp.or IntKind.u8 x r))).setCell ⟨w.heap.size, 0, none⟩ (.int .i64 (n + 1))) (w.heap.size + 1) 30 Z) := q2.far (by simp) _
    have RB : Hid (Below w.heap.size w ((w2.setCell ⟨w.heap.size, 1 + n / 8, none⟩ (.int .u8 (bits BinOp.or IntKind.u8 x r))).setCell ⟨w.heap.size, 0, none⟩ (.int .i64 (n + 1)))) := qb.setCell (by simp) _
    clear q1 q2 qb P1 P2 PB
    go_wp2_with (first
      | (refine load_at rfl 30 (.tmp 2) rfl w.heap.size 0 rfl (.int .i64 (n + 1) :: u8s D) _ (blk_pre R1.out) Try.underlying30 rfl (pcl_info _ HKY.out) (pc (n + 1) D) rfl ?_)
      | (refine wpList_store_row rfl 30 (.tmp 4) (.tmp 44) rfl (w.heap.size + 1) (pc (n + 1) D) rfl rfl 30 Z R2.out HI.out HZ33.out (pc_one _ _) ?_))
    try go_frame
    refine bodyPost_ret (results_child Try.results16 _ _ (w.heap.size + 1) 30 (pc (n + 1) D) (0, 0) _ rfl (R2.out.row _) Try.underlying30 rfl HI.out) rfl ?_
    exact ⟨rfl, below_setRow RB.out (by omega) _⟩
theorem pChild_any (l : Int) (B : List Int) (b : Int) (hB : Ky B) (w : World) :
    Calls Try.prog 16 #[.agg (pc l B), .int .i64 b] w fun e w' => e = .returned (chV l B b) ∧ Below w.heap.size w w' := by
  unfold chV
  cases h : chB l B b
  · rw [if_neg (by decide)]; exact pChild_no l B b hB w h
  · rw [if_pos rfl]
    unfold chB at h
    simp only [Bool.and_eq_true, Bool.or_eq_true, decide_eq_true_eq] at h
    obtain ⟨⟨h1, h2⟩, h3⟩ := h
    have h4 := frm_le h1
    obtain ⟨n, rfl⟩ : ∃ n : Nat, l = n := ⟨l.toNat, by omega⟩
    exact pChild_yes n B b hB w (by omega) h1 h3
end Go.Proofs.Ytdaobhclcpgjbaa
