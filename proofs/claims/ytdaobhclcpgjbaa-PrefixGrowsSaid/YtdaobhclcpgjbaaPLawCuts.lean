/-
  What is proved here: of all keys the prefixes are told, and of all prefixes whether they are formed, hold a key, and what they are with a bit more: the walk of the statement.
-/
import Derived.Test.YtdaobhclcpgjbaaPLaw1
namespace Go.Proofs.Ytdaobhclcpgjbaa
open Go.ChangeShapes Go.WideShapes Go.ChangeAt Go.RowKit
set_option linter.unusedVariables false

theorem chV_form (l : Int) (B : List Int) (b : Int) (hB : Ky B) : ∃ n D t, Ky D ∧ chV l B b = .tuple #[.agg (pc n D), .bool t] := by
  unfold chV
  split
  · exact ⟨_, _, _, chK_ky hB b, rfl⟩
  · exact ⟨_, _, _, zk_ky, rfl⟩
set_option maxRecDepth 5000 in
set_option maxHeartbeats 4000000 in
theorem cuts_walk (K : List Int) (i : Int) (l : Int) (B : List Int) (hK : Ky K) (hB : Ky B) (w : World) :
    Calls Try.prog 4 #[.agg (kc K), .int .i64 i, .agg (pc l B)] w fun e w' => e = .returned (.bool true) ∧ Below w.heap.size w w' := by
  obtain ⟨Z, HZ, hZ0, hZs⟩ := zero_pre
  obtain ⟨hk1, hk2, hb0⟩ := one_blks w (kc K) (pc l B) 23 30
  have K1 := hid hk1; have K2 := hid hk2; have B0 := hid hb0
  clear hk1 hk2 hb0
  have CA := hid pawake_any
  have C1 := hid (fun w => pCut_any K hK i w)
  have C2 := hid (fun w => rCut_any K hK i w)
  have C3 := hid (fun w => pFormed_any l B hB w)
  have C4 := hid (fun w => rFormed_any l B hB w)
  have C5 := hid (fun w => pHolds_any l B K hB hK w)
  have C6 := hid (fun w => rHolds_any l B K hB hK w)
  have C7 := hid (fun w => pChild_any l B i hB w)
  have C8 := hid (fun w => rChild_any l B i hB w)
  obtain ⟨n, D, t, hD, hV⟩ := chV_form l B i hB
  rw [hV] at C7 C8
  have heq := fun w => eql_pre n n D D hD hD w
  rw [decide_eq_true (⟨rfl, rfl⟩ : n = n ∧ D = D)] at heq
  have hcut := cut_ky K (lim i)
  have heq2 := fun w => eql_pre (lim i) (lim i) (cut K (lim i)) (cut K (lim i)) hcut hcut w
  rw [decide_eq_true (⟨rfl, rfl⟩ : (lim i : Int) = lim i ∧ cut K (lim i) = cut K (lim i))] at heq2
  have HI := hid (pc_info n hD)
  have HZ33 : Hid (Z.size = (pc n D).size) := by show _ = _; rw [HZ.out, pc_size 0 zk_ky, pc_size _ hD]
  generalize cut K (lim i) = Q at C1 C2 heq2 hcut
  generalize ((lim i : Nat) : Int) = N at C1 C2 heq2
  generalize frm l B = v at C3 C4
  generalize hld l B K = u at C5 C6
  have HEQ := hid heq; have HEQ2 := hid heq2
  clear hV hcut heq heq2
  go_enter Try.func4, Try.ntmps4
  go_wp2_with (first
    | (refine load_at rfl 30 (.tmp 5) rfl (w.heap.size + 1) 0 rfl (.int .i64 l :: u8s B) _ (blk_pre K2.out) Try.underlying30 rfl (pcl_info l hB) (pc l B) rfl ?_)
    | (go_at_call 16; refine (C7.out _).mono ?_; rintro e w1 ⟨rfl, hb1⟩; have L1 := hid (K1.out.below hb1); have L2 := hid (K2.out.below hb1); have B1 := hid (B0.out.trans (hb1.mono B0.out.size)); have hw1 : w.heap.size + 1 < w1.heap.size := L2.out.lt; have M1 : Hid (Blk ((w1.alloc (.cells Z 30)).setRow w1.heap.size (pc n D)) w.heap.size 23 (kc K)) := (L1.out.alloc _).rowFar (by omega) _; have M2 : Hid (Blk ((w1.alloc (.cells Z 30)).setRow w1.heap.size (pc n D)) (w.heap.size + 1) 30 (pc l B)) := (L2.out.alloc _).rowFar (by omega) _; have M3 : Hid (Blk ((w1.alloc (.cells Z 30)).setRow w1.heap.size (pc n D)) w1.heap.size 30 (pc n D)) := (Blk.new w1 30 Z).row _; have MB : Hid (Below w.heap.size w ((w1.alloc (.cells Z 30)).setRow w1.heap.size (pc n D))) := below_setRow (B1.out.alloc (by omega) _) (by omega) _; clear hb1 L1 L2 B1 K1 K2 B0)
    | (refine wpList_store_row rfl 30 (.tmp 7) (.tmp 15) rfl w1.heap.size (pc n D) rfl rfl 30 Z (Blk.new w1 30 Z) HI.out HZ33.out (pc_one _ _) ?_)
    | (refine load_at rfl 30 (.tmp 5) rfl (w.heap.size + 1) 0 rfl (.int .i64 l :: u8s B) _ (blk_pre M2.out) Try.underlying30 rfl (pcl_info l hB) (pc l B) rfl ?_)
    | (go_at_call 17; refine (C8.out _).mono ?_; rintro e w2 ⟨rfl, hb2⟩; have N1 := hid (M1.out.below hb2); have N2 := hid (M2.out.below hb2); have N3 := hid (M3.out.below hb2); have NB := hid (MB.out.trans (hb2.mono MB.out.size)); have hw2 : w1.heap.size < w2.heap.size := N3.out.lt; have P1 : Hid (Blk ((w2.alloc (.cells Z 30)).setRow w2.heap.size (pc n D)) w.heap.size 23 (kc K)) := (N1.out.alloc _).rowFar (by omega) _; have P2 : Hid (Blk ((w2.alloc (.cells Z 30)).setRow w2.heap.size (pc n D)) (w.heap.size + 1) 30 (pc l B)) := (N2.out.alloc _).rowFar (by omega) _; have P3 : Hid (Blk ((w2.alloc (.cells Z 30)).setRow w2.heap.size (pc n D)) w1.heap.size 30 (pc n D)) := (N3.out.alloc _).rowFar (by omega) _; have P4 : Hid (Blk ((w2.alloc (.cells Z 30)).setRow w2.heap.size (pc n D)) w2.heap.size 30 (pc n D)) := (Blk.new w2 30 Z).row _; have PB : Hid (Below w.heap.size w ((w2.alloc (.cells Z 30)).setRow w2.heap.size (pc n D))) := below_setRow (NB.out.alloc (by omega) _) (by omega) _; clear hb2 M1 M2 M3 MB N1 N2 N3 NB)
    | (refine wpList_store_row rfl 30 (.tmp 9) (.tmp 21) rfl w2.heap.size (pc n D) rfl rfl 30 Z (Blk.new w2 30 Z) HI.out HZ33.out (pc_one _ _) ?_))
  try go_frame
  generalize (w2.alloc (.cells Z 30)).setRow w2.heap.size (pc n D) = w0 at P1 P2 P3 P4 PB ⊢
  have heq := HEQ.out; have heq2 := HEQ2.out
  refine region_kept (Kp w0) (by kernel_rfl) (by kernel_rfl) (kp_begin w0) ?_
  repeat (first
    | go_big_quiet_skip
    | (go_big_quiet_want; refine quiet_load 23 (.tmp 3) rfl w.heap.size 0 rfl (u8s K) _ (fun p => kp_key P1.out p) Try.underlying23 rfl (u8s_info hK) (kc K) rfl ?_; go_big_quiet_on; simp only [Act.put, List.setIfInBounds_toArray, List.set_cons_zero, List.set_cons_succ])
    | (go_big_quiet_want; refine quiet_load 30 (.tmp 5) rfl (w.heap.size + 1) 0 rfl (.int .i64 l :: u8s B) _ (fun p => kp_pre P2.out p) Try.underlying30 rfl (pcl_info l hB) (pc l B) rfl ?_; go_big_quiet_on; simp only [Act.put, List.setIfInBounds_toArray, List.set_cons_zero, List.set_cons_succ])
    | (go_big_quiet_want; refine quiet_load 30 (.tmp 7) rfl w1.heap.size 0 rfl (.int .i64 n :: u8s D) _ (fun p => kp_pre P3.out p) Try.underlying30 rfl (pcl_info n hD) (pc n D) rfl ?_; go_big_quiet_on; simp only [Act.put, List.setIfInBounds_toArray, List.set_cons_zero, List.set_cons_succ])
    | (go_big_quiet_want; refine quiet_load 30 (.tmp 9) rfl w2.heap.size 0 rfl (.int .i64 n :: u8s D) _ (fun p => kp_pre P4.out p) Try.underlying30 rfl (pcl_info n hD) (pc n D) rfl ?_; go_big_quiet_on; simp only [Act.put, List.setIfInBounds_toArray, List.set_cons_zero, List.set_cons_succ])
    | (go_big_quiet_want; go_big_quiet_op; first | go_big_quiet_on | go_big_quiet_call (first
      | (go_at_call 9; with_reducible exact kp_call (CA.out _))
      | (go_at_call 18; with_reducible exact kp_call (C1.out _))
      | (go_at_call 19; with_reducible exact kp_call (C2.out _))
      | (go_at_call 20; with_reducible exact kp_call (C3.out _))
      | (go_at_call 21; with_reducible exact kp_call (C4.out _))
      | (go_at_call 22; with_reducible exact kp_call (C5.out _))
      | (go_at_call 23; with_reducible exact kp_call (C6.out _)))))
  refine wpQuiet_nil ?_
  intro _ hw'
  obtain ⟨p, hw''⟩ := hw'
  subst hw''
  go_wp2
  go_ret
  exact ⟨rfl, PB.out.trans (Below.mono p.h PB.out.size)⟩
end Go.Proofs.Ytdaobhclcpgjbaa
