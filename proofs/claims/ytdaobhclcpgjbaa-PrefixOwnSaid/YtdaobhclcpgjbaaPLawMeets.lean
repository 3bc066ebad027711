/-
  What is proved here: of all two prefixes the longest one that holds both is told, and whether the one holds the other one: the walk of the statement.
-/
import Derived.Test.YtdaobhclcpgjbaaPLaw1
namespace Go.Proofs.Ytdaobhclcpgjbaa
open Go.ChangeShapes Go.WideShapes Go.ChangeAt Go.RowKit
set_option linter.unusedVariables false

theorem meetV_form (l m : Int) (B C : List Int) : ∃ n D, Ky D ∧ meetV l B m C = pc n D := by
  unfold meetV
  split
  · exact ⟨_, _, cut_ky _ _, rfl⟩
  · exact ⟨_, _, zk_ky, rfl⟩
set_option maxRecDepth 5000 in
set_option maxHeartbeats 2000000 in
theorem meets_walk (l : Int) (B : List Int) (m : Int) (C : List Int) (hB : Ky B) (hC : Ky C) (w : World) :
    Calls Try.prog 5 #[.agg (pc l B), .agg (pc m C)] w fun e w' => e = .returned (.bool true) ∧ Below w.heap.size w w' := by
  obtain ⟨hk1, hk2, hb0⟩ := one_blks w (pc l B) (pc m C) 30 30
  have K1 := hid hk1; have K2 := hid hk2; have B0 := hid hb0
  clear hk1 hk2 hb0
  have CA := hid pawake_any
  have C1 := hid (fun w => pMeet_any l m B C hB hC w)
  have C2 := hid (fun w => rMeet_any l m B C hB hC w)
  have C3 := hid (fun w => pWithin_any l m B C hB hC w)
  have C4 := hid (fun w => rWithin_any l m B C hB hC w)
  obtain ⟨n, D, hD, hV⟩ := meetV_form l m B C
  rw [hV] at C1 C2
  have heq := fun w => eql_pre n n D D hD hD w
  rw [decide_eq_true (⟨rfl, rfl⟩ : n = n ∧ D = D)] at heq
  generalize wth l B m C = v at C3 C4
  clear hV
  go_enter Try.func5, Try.ntmps5
  go_wp2
  generalize (w.alloc (.cells (pc l B) 30)).alloc (.cells (pc m C) 30) = w0 at K1 K2 B0 ⊢
  refine region_kept (Kp w0) (by kernel_rfl) (by kernel_rfl) (kp_begin w0) ?_
  repeat (first
    | go_big_quiet_skip
    | (go_big_quiet_want; refine quiet_load 30 (.tmp 2) rfl w.heap.size 0 rfl (.int .i64 l :: u8s B) _ (fun p => kp_pre K1.out p) Try.underlying30 rfl (pcl_info l hB) (pc l B) rfl ?_; go_big_quiet_on; simp only [Act.put, List.setIfInBounds_toArray, List.set_cons_zero, List.set_cons_succ])
    | (go_big_quiet_want; refine quiet_load 30 (.tmp 3) rfl (w.heap.size + 1) 0 rfl (.int .i64 m :: u8s C) _ (fun p => kp_pre K2.out p) Try.underlying30 rfl (pcl_info m hC) (pc m C) rfl ?_; go_big_quiet_on; simp only [Act.put, List.setIfInBounds_toArray, List.set_cons_zero, List.set_cons_succ])
    | (go_big_quiet_want; go_big_quiet_op; first | go_big_quiet_on | go_big_quiet_call (first
      | (go_at_call 9; with_reducible exact kp_call (CA.out _))
      | (go_at_call 24; with_reducible exact kp_call (C1.out _))
      | (go_at_call 25; with_reducible exact kp_call (C2.out _))
      | (go_at_call 26; with_reducible exact kp_call (C3.out _))
      | (go_at_call 27; with_reducible exact kp_call (C4.out _)))))
  refine wpQuiet_nil ?_
  intro _ hw'
  obtain ⟨p, hw''⟩ := hw'
  subst hw''
  go_wp2
  go_ret
  exact ⟨rfl, B0.out.trans (Below.mono p.h B0.out.size)⟩
end Go.Proofs.Ytdaobhclcpgjbaa
