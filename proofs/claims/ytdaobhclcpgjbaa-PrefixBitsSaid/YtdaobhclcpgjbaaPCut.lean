/-
  What is proved here: the beginning of a key, as the code cuts it: the walk.
-/
import Derived.Test.YtdaobhclcpgjbaaPCut0
import Derived.StillTailTactics
namespace Go.Proofs.Ytdaobhclcpgjbaa
open Go.ChangeShapes Go.WideShapes Go.ChangeAt Go.RowKit
set_option linter.unusedVariables false

set_option maxHeartbeats 1000000 in
theorem pCut_any (K : List Int) (hK : Ky K) (n : Int) (w : World) :
    Calls Try.prog 18 #[.agg (kc K), .int .i64 n] w fun e w' => e = .returned (.agg (pc (lim n) (cut K (lim n)))) ∧ Below w.heap.size w w' := by
  obtain ⟨Z, HZ, hZ0, hZs⟩ := zero_pre
  obtain ⟨hk1, hk2, hk3, hb0⟩ := three_blks w (kc K) Z Z 23 30 30
  have K1 := hid hk1; have K2 := hid hk2; have K3 := hid hk3; have B0 := hid hb0
  clear hk1 hk2 hk3 hb0
  obtain ⟨N, hN⟩ : ∃ N, N = lim n := ⟨_, rfl⟩
  have HN := hid hN
  rw [← hN]
  clear hN
  have HI := hid (pc_info N zk_ky)
  have HZ33 : Hid (Z.size = (pc N zk).size) := by show _ = _; rw [HZ.out, pc_size 0 zk_ky, pc_size _ zk_ky]
  have HI2 := hid (pc_info N (cut_ky K N))
  have HZ34 : Hid (Z.size = (pc N (cut K N)).size) := by show _ = _; rw [HZ.out, pc_size 0 zk_ky, pc_size _ (cut_ky K N)]
  go_enter Try.func18, Try.ntmps18
  go_upto_region 1 with (fail)
  go_cut [1] (fun s1 wx => s1 = .int .i64 N ∧ wx = (w.alloc (.cells (kc K) 23)).alloc (.cells Z 30))
  case first =>
    have hn : n < 0 ∧ N = 0 ∨ 256 < n ∧ N = 256 ∨ 0 ≤ n ∧ n ≤ 256 ∧ n = N := by
      have := HN.out
      unfold lim at this
      omega
    rcases hn with ⟨h1, rfl⟩ | ⟨h1, rfl⟩ | ⟨h0, h1, rfl⟩
    · go_wp2
      go_meet
      exact ⟨rfl, rfl⟩
    · have h0 : 0 ≤ n := by omega
      go_wp2
      go_meet
      exact ⟨rfl, rfl⟩
    · go_wp2
      go_meet
      exact ⟨rfl, rfl⟩
  case rest =>
    obtain ⟨rfl, rfl⟩ := hcut
    have hN256 : N ≤ 256 := by have := HN.out; unfold lim at this; omega
    have i0 : (0 : Int) ≤ (N : Int) := by omega
    have i1 : (N : Int) ≤ 256 := by omega
    go_wp2_with (first
      | (refine build_1 rfl (.tmp 15) rfl N rfl ?_)
      | (refine wpList_store_row rfl 30 (.tmp 7) (.tmp 16) rfl (w.heap.size + 1 + 1) (pc N zk) rfl rfl 30 Z K3.out HI.out HZ33.out (pc_one _ _) ?_))
    have L1 : Hid (Blk ((((w.alloc (.cells (kc K) 23)).alloc (.cells Z 30)).alloc (.cells Z 30)).setRow (w.heap.size + 1 + 1) (pc N zk)) w.heap.size 23 (kc K)) := K1.out.rowFar (by omega) _
    have L2 : Hid (Blk ((((w.alloc (.cells (kc K) 23)).alloc (.cells Z 30)).alloc (.cells Z 30)).setRow (w.heap.size + 1 + 1) (pc N zk)) (w.heap.size + 1) 30 Z) := K2.out.rowFar (by omega) _
    have L3 : Hid (Blk ((((w.alloc (.cells (kc K) 23)).alloc (.cells Z 30)).alloc (.cells Z 30)).setRow (w.heap.size + 1 + 1) (pc N zk)) (w.heap.size + 1 + 1) 30 (pc N zk)) := K3.out.row _
    have LB : Hid (Below w.heap.size w ((((w.alloc (.cells (kc K) 23)).alloc (.cells Z 30)).alloc (.cells Z 30)).setRow (w.heap.size + 1 + 1) (pc N zk))) := below_setRow B0.out (by omega) _
    clear K1 K2 K3 B0
    generalize (((w.alloc (.cells (kc K) 23)).alloc (.cells Z 30)).alloc (.cells Z 30)).setRow (w.heap.size + 1 + 1) (pc N zk) = w1 at L1 L2 L3 LB ⊢
    have q0 : (0 : Int) ≤ (N : Int) / 8 := by omega
    have q1 : (N : Int) / 8 ≤ 32 := by omega
    have q2 : ((N : Int) / 8).toNat = N / 8 := by omega
    have hT : (K.take (N / 8)).length = N / 8 := by rw [List.length_take, hK.len]; omega
    have HN1 : Hid ((u8s (K.take (N / 8))).length = Nat.min 32 (N / 8)) := by
      show _ = min 32 (N / 8)
      rw [u8s_length, hT]; omega
    have HP : Hid (0 < (u8s (K.take (N / 8))).length → (some ⟨w.heap.size + 1 + 1, 1, none⟩ : Option Addr) = some ⟨w.heap.size + 1 + 1, 1, none⟩ ∧ ∃ ad, (some ⟨w.heap.size, 0, none⟩ : Option Addr) = some ad ∧ ∀ j v, (u8s (K.take (N / 8)))[j]? = some v → w1.drew.cell? (ad.add j) = some v) := fun _ => ⟨rfl, _, rfl, fun j v hv => by
      rw [Addr.add_mid, L1.out.drew.cell, Nat.zero_add, kc, List.getElem?_toArray]
      unfold u8s at hv ⊢
      rw [List.map_take, List.getElem?_take] at hv
      split at hv
      · exact hv
      · cases hv⟩
    have HF : Hid (1 + (u8s (K.take (N / 8))).length ≤ (Value.int .i64 (N : Int) :: u8s zk).length) := by
      show _ ≤ _
      rw [List.length_cons, u8s_length, u8s_length, hT, zk_ky.len]; omega
    have HBB : Hid (Below (w.heap.size + 1 + 1) w1 w1.drew) := (Below.refl _ _).drew
    have HSP := hid (splice_pre N hK (N / 8) (by omega))
    have HG : Hid (w1.drew.heap[w.heap.size + 1 + 1]? = some (.cells (Value.int .i64 (N : Int) :: u8s zk).toArray 30 (0, 0))) := L3.out
    clear hT
    try go_frame
    go_region_law ((with_reducible refine step_copy_splice (d := .tmp 19) (s := .tmp 20) (dT := 46) (sT := 46) (elem := 5) (dp := some (⟨w.heap.size + 1 + 1, 1, none⟩ : Addr)) (sp := some (⟨w.heap.size, 0, none⟩ : Addr)) (dLen := N / 8) (dCap := 32) (sLen := 32) (sCap := 32) (g := w.heap.size + 1 + 1) (off := 1) (cur := Value.int .i64 (N : Int) :: u8s zk) (t := 30) (cs := u8s (K.take (N / 8))) (B := w.heap.size + 1 + 1) (w0 := w1) ?_ ?_ ?_ ?_ ?_ ?_ ?_ ?_ ?_ ?_ ?_ ?_ ?_ ?_); rfl; rfl; exact Try.underlying46; kernel_rfl; go_simp; go_simp; exact HG.out; exact HN1.out; exact HP.out; exact HF.out; exact u8s_one _; exact HBB.out; exact Nat.le_refl _; intro w4 hg4 hb4)
    have M1 := hid (L1.out.same (hb4.block _ (by omega)))
    have M2 := hid (L2.out.same (hb4.block _ (by omega)))
    have M3 : Hid (Blk w4 (w.heap.size + 1 + 1) 30 (pc N (cp K (N / 8)))) := by
      show _ = _
      rw [← HSP.out]; exact hg4.out
    have MB := hid (LB.out.trans (hb4.mono (by omega)))
    clear hg4 hb4 L1 L2 L3 LB HG HBB HF HP HN1 HSP
    by_cases hr : N % 8 = 0
    · have HC := hid (cp_cut hK (N / 8) (by omega))
      rw [show 8 * (N / 8) = N by omega] at HC
      have hri : (N : Int) % 8 = 0 := by omega
      rw [HC.out] at M3
      clear hr HC
      go_wp2_with (first
        | (refine load_at rfl 30 (.tmp 7) rfl (w.heap.size + 1 + 1) 0 rfl (.int .i64 N :: u8s (cut K N)) _ (blk_pre M3.out) Try.underlying30 rfl (pcl_info _ (cut_ky K N)) (pc N (cut K N)) rfl ?_)
        | (refine wpList_store_row rfl 30 (.tmp 4) (.tmp 33) rfl (w.heap.size + 1) (pc N (cut K N)) rfl rfl 30 Z M2.out HI2.out HZ34.out (pc_one _ _) ?_))
      try go_frame
      refine bodyPost_ret (results_cell_row Try.results18 _ _ (w.heap.size + 1) 30 (pc N (cut K N)) (0, 0) _ rfl (M2.out.row _) Try.underlying30 rfl HI2.out) rfl ?_
      exact ⟨rfl, below_setRow MB.out (by omega) _⟩
    · have hlt32 : N / 8 < 32 := by omega
      have HC := hid (mask_cut hK (N / 8) (N % 8) hlt32 (by omega) (by omega))
      rw [show 8 * (N / 8) + N % 8 = N by omega] at HC
      have c1 : w4.cell? ⟨w.heap.size, N / 8, none⟩ = some (.int .u8 (K[N / 8]?.getD 0)) := by rw [M1.out.cell]; exact kc_at hK _ hlt32
      obtain ⟨b, hb⟩ : ∃ b, b = K[N / 8]?.getD 0 := ⟨_, rfl⟩
      rw [← hb] at c1 HC
      have r0 : (0 : Int) < (N : Int) % 8 := by omega
      have r1 : (N : Int) % 8 < 8 := by omega
      have r2 : ((N : Int) % 8).toNat = N % 8 := by omega
      have q3 : (N : Int) / 8 < 32 := by omega
      have hcp : (cp K (N / 8)).length = 32 := (cp_ky hK _ (by omega)).len
      have c3 : ∃ v, w4.cell? ⟨w.heap.size + 1 + 1, 1 + N / 8, none⟩ = some v := by
        rw [M3.out.cell, Nat.add_comm 1, pc_at N (cp_ky hK _ (by omega)) _ hlt32]; exact ⟨_, rfl⟩
      obtain ⟨u, c3⟩ := c3
      have c4 : w4.frozen? ⟨w.heap.size + 1 + 1, 1 + N / 8, none⟩ = false := M3.out.frozen _
      clear hr hb hcp
      go_wp2
      refine wp_region_still_tail 9 (by kernel_rfl) (by kernel_rfl) ?_
      simp only [List.take_succ_cons, List.take_zero, List.drop_succ_cons, List.drop_zero]
      repeat still_step
      refine wpStill_nil ?_
      change wpList _ _ _ _ _ w4.drew
      have d3 : w4.drew.cell? ⟨w.heap.size + 1 + 1, 1 + N / 8, none⟩ = some u := c3
      have d4 : w4.drew.frozen? ⟨w.heap.size + 1 + 1, 1 + N / 8, none⟩ = false := c4
      have P2 : Hid (Blk w4.drew (w.heap.size + 1) 30 Z) := M2.out
      have P3 : Hid (Blk w4.drew (w.heap.size + 1 + 1) 30 (pc N (cp K (N / 8)))) := M3.out
      have PB : Hid (Below w.heap.size w w4.drew) := MB.out.drew
      clear c1 c3 c4 M1 M2 M3 MB
      generalize w4.drew = w5 at d3 d4 P2 P3 PB ⊢
      have R2 : Hid (Blk (w5.setCell ⟨w.heap.size + 1 + 1, 1 + N / 8, none⟩ (.int .u8 (bits BinOp.andNot IntKind.u8 b (255 / 2 ^ (N % 8))))) (w.heap.size + 1) 30 Z) := P2.out.far (by simp) _
      have R3 : Hid (Blk (w5.setCell ⟨w.heap.size + 1 + 1, 1 + N / 8, none⟩ (.int .u8 (bits BinOp.andNot IntKind.u8 b (255 / 2 ^ (N % 8))))) (w.heap.size + 1 + 1) 30 (pc N (cut K N))) := by
        have := P3.out.setd (1 + N / 8) (.int .u8 (bits BinOp.andNot IntKind.u8 b (255 / 2 ^ (N % 8))))
        rwa [pc_set, HC.out] at this
      have RB : Hid (Below w.heap.size w (w5.setCell ⟨w.heap.size + 1 + 1, 1 + N / 8, none⟩ (.int .u8 (bits BinOp.andNot IntKind.u8 b (255 / 2 ^ (N % 8)))))) := PB.out.setCell (by simp; omega) _
      clear P2 P3 PB HC
      go_wp2_with (first
        | (refine load_at rfl 30 (.tmp 7) rfl (w.heap.size + 1 + 1) 0 rfl (.int .i64 N :: u8s (cut K N)) _ (blk_pre R3.out) Try.underlying30 rfl (pcl_info _ (cut_ky K N)) (pc N (cut K N)) rfl ?_)
        | (refine wpList_store_row rfl 30 (.tmp 4) (.tmp 33) rfl (w.heap.size + 1) (pc N (cut K N)) rfl rfl 30 Z R2.out HI2.out HZ34.out (pc_one _ _) ?_))
      try go_frame
      refine bodyPost_ret (results_cell_row Try.results18 _ _ (w.heap.size + 1) 30 (pc N (cut K N)) (0, 0) _ rfl (R2.out.row _) Try.underlying30 rfl HI2.out) rfl ?_
      exact ⟨rfl, below_setRow RB.out (by omega) _⟩
end Go.Proofs.Ytdaobhclcpgjbaa
