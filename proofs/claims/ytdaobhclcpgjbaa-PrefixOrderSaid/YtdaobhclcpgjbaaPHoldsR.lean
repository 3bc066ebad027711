/-
  What is proved here: whether a beginning holds a key, or another beginning, as the document tells it.
-/
import Derived.Test.YtdaobhclcpgjbaaPWithin
import Derived.Test.YtdaobhclcpgjbaaPSharedR
namespace Go.Proofs.Ytdaobhclcpgjbaa
open Go.ChangeShapes Go.WideShapes Go.ChangeAt Go.RowKit
set_option linter.unusedVariables false

set_option maxHeartbeats 1000000 in
theorem rHolds_any (l : Int) (B K : List Int) (hB : Ky B) (hK : Ky K) (w : World) :
    Calls Try.prog 23 #[.agg (pc l B), .agg (kc K)] w fun e w' => e = .returned (.bool (hld l B K)) ∧ Below w.heap.size w w' := by
  obtain ⟨hk1, hk2, hb0⟩ := one_blks w (pc l B) (kc K) 30 23
  have K1 := hid hk1; have K2 := hid hk2; have B0 := hid hb0
  clear hk1 hk2 hb0
  have CF := hid (fun w => rFormed_any l B hB w)
  have CS := hid (fun w => rShared_any B K hB hK w)
  rw [← hld_ref hB]
  generalize frm l B = v at CF ⊢
  generalize shr B K = S at CS ⊢
  cases v
  · go_enter Try.func23, Try.ntmps23
    go_wp2
    generalize (w.alloc (.cells (pc l B) 30)).alloc (.cells (kc K) 23) = w0 at K1 K2 B0 ⊢
    refine region_kept (Kp w0) (by kernel_rfl) (by kernel_rfl) (kp_begin w0) ?_
    repeat (first
      | go_big_quiet_skip
      | (go_big_quiet_want; refine quiet_load 30 (.tmp 2) rfl w.heap.size 0 rfl (.int .i64 l :: u8s B) _ (fun p => kp_pre K1.out p) Try.underlying30 rfl (pcl_info l hB) (pc l B) rfl ?_; go_big_quiet_on; simp only [Act.put, List.setIfInBounds_toArray, List.set_cons_zero, List.set_cons_succ])
      | (go_big_quiet_want; go_big_quiet_op; first | go_big_quiet_on | go_big_quiet_call (with_reducible exact kp_call (CF.out _))))
    refine wpQuiet_nil ?_
    intro _ hw'
    obtain ⟨p, hw''⟩ := hw'
    subst hw''
    go_wp2
    go_ret
    exact ⟨rfl, B0.out.trans (Below.mono p.h B0.out.size)⟩
  · go_enter Try.func23, Try.ntmps23
    go_wp2
    generalize (w.alloc (.cells (pc l B) 30)).alloc (.cells (kc K) 23) = w0 at K1 K2 B0 ⊢
    have hl := fun p : PW (Kp w0) => kp_len K1.out p
    refine region_kept (Kp w0) (by kernel_rfl) (by kernel_rfl) (kp_begin w0) ?_
    repeat (first
      | go_big_quiet_skip
      | (go_big_quiet_want; refine quiet_load 30 (.tmp 2) rfl w.heap.size 0 rfl (.int .i64 l :: u8s B) _ (fun p => kp_pre K1.out p) Try.underlying30 rfl (pcl_info l hB) (pc l B) rfl ?_; go_big_quiet_on; simp only [Act.put, List.setIfInBounds_toArray, List.set_cons_zero, List.set_cons_succ])
      | (go_big_quiet_want; refine quiet_load 23 (.tmp 8) rfl w.heap.size 1 rfl (u8s B) _ (fun p => kp_bits K1.out p) Try.underlying23 rfl (u8s_info hB) (kc B) rfl ?_; go_big_quiet_on; simp only [Act.put, List.setIfInBounds_toArray, List.set_cons_zero, List.set_cons_succ])
      | (go_big_quiet_want; refine quiet_load 23 (.tmp 3) rfl (w.heap.size + 1) 0 rfl (u8s K) _ (fun p => kp_key K2.out p) Try.underlying23 rfl (u8s_info hK) (kc K) rfl ?_; go_big_quiet_on; simp only [Act.put, List.setIfInBounds_toArray, List.set_cons_zero, List.set_cons_succ])
      | (go_big_quiet_want; go_big_quiet_op; first | go_big_quiet_on | go_big_quiet_call (first | (with_reducible exact kp_call (CF.out _)) | (with_reducible exact kp_call (CS.out _)))))
    refine wpQuiet_nil ?_
    intro _ hw'
    obtain ⟨p, hw''⟩ := hw'
    subst hw''
    go_wp2
    go_ret
    exact ⟨congrArg (fun q : Bool => Ending.returned (.bool q)) (by simp), B0.out.trans (Below.mono p.h B0.out.size)⟩
set_option maxHeartbeats 2000000 in
theorem rWithin_any (l m : Int) (B C : List Int) (hB : Ky B) (hC : Ky C) (w : World) :
    Calls Try.prog 27 #[.agg (pc l B), .agg (pc m C)] w fun e w' => e = .returned (.bool (wth l B m C)) ∧ Below w.heap.size w w' := by
  obtain ⟨hk1, hk2, hb0⟩ := one_blks w (pc l B) (pc m C) 30 30
  have K1 := hid hk1; have K2 := hid hk2; have B0 := hid hb0
  clear hk1 hk2 hb0
  have CF := hid (fun w => rFormed_any l B hB w)
  have CG := hid (fun w => rFormed_any m C hC w)
  have CS := hid (fun w => rShared_any B C hB hC w)
  unfold wth
  rw [← hld_ref hB]
  generalize frm l B = v1 at CF ⊢
  generalize frm m C = v2 at CG ⊢
  generalize shr B C = S at CS ⊢
  have hcase : v1 = false ∨ v1 = true ∧ v2 = false ∨ v1 = true ∧ v2 = true ∧ decide (l ≤ m) = true ∨ v1 = true ∧ v2 = true ∧ decide (l ≤ m) = false := by
    cases v1 <;> cases v2 <;> cases decide (l ≤ m) <;> simp
  rcases hcase with rfl | ⟨rfl, rfl⟩ | ⟨rfl, rfl, hlm⟩ | ⟨rfl, rfl, hlm⟩
  all_goals
    go_enter Try.func27, Try.ntmps27
    go_wp2
    generalize (w.alloc (.cells (pc l B) 30)).alloc (.cells (pc m C) 30) = w0 at K1 K2 B0 ⊢
    have hl := fun p : PW (Kp w0) => kp_len K1.out p
    have hm := fun p : PW (Kp w0) => kp_len K2.out p
    refine region_kept (Kp w0) (by kernel_rfl) (by kernel_rfl) (kp_begin w0) ?_
    repeat (first
      | go_big_quiet_skip
      | (go_big_quiet_want; refine quiet_load 30 (.tmp 2) rfl w.heap.size 0 rfl (.int .i64 l :: u8s B) _ (fun p => kp_pre K1.out p) Try.underlying30 rfl (pcl_info l hB) (pc l B) rfl ?_; go_big_quiet_on; simp only [Act.put, List.setIfInBounds_toArray, List.set_cons_zero, List.set_cons_succ])
      | (go_big_quiet_want; refine quiet_load 30 (.tmp 3) rfl (w.heap.size + 1) 0 rfl (.int .i64 m :: u8s C) _ (fun p => kp_pre K2.out p) Try.underlying30 rfl (pcl_info m hC) (pc m C) rfl ?_; go_big_quiet_on; simp only [Act.put, List.setIfInBounds_toArray, List.set_cons_zero, List.set_cons_succ])
      | (go_big_quiet_want; refine quiet_load 23 (.tmp 19) rfl w.heap.size 1 rfl (u8s B) _ (fun p => kp_bits K1.out p) Try.underlying23 rfl (u8s_info hB) (kc B) rfl ?_; go_big_quiet_on; simp only [Act.put, List.setIfInBounds_toArray, List.set_cons_zero, List.set_cons_succ])
      | (go_big_quiet_want; refine quiet_load 23 (.tmp 21) rfl (w.heap.size + 1) 1 rfl (u8s C) _ (fun p => kp_bits K2.out p) Try.underlying23 rfl (u8s_info hC) (kc C) rfl ?_; go_big_quiet_on; simp only [Act.put, List.setIfInBounds_toArray, List.set_cons_zero, List.set_cons_succ])
      | (go_big_quiet_want; go_big_quiet_op; first | go_big_quiet_on | go_big_quiet_call (first | (with_reducible exact kp_call (CF.out _)) | (with_reducible exact kp_call (CG.out _)) | (with_reducible exact kp_call (CS.out _)))))
    refine wpQuiet_nil ?_
    intro _ hw'
    obtain ⟨p, hw''⟩ := hw'
    subst hw''
    go_wp2
    go_ret
    exact ⟨congrArg (fun q : Bool => Ending.returned (.bool q)) (by simp [*]), B0.out.trans (Below.mono p.h B0.out.size)⟩
end Go.Proofs.Ytdaobhclcpgjbaa
