/-
  What is proved here: of two different keys one is less; what is less goes through: the walk of the statement.
-/
import Derived.Test.YtdaobhclcpgjbaaPLaw1
namespace Go.Proofs.Ytdaobhclcpgjbaa
open Go.ChangeShapes Go.WideShapes Go.ChangeAt Go.RowKit
set_option linter.unusedVariables false

theorem order_cases (K L M : List Int) (hK : Ky K) (hL : Ky L) :
    (lss K L = true ∧ lss L K = false ∧ decide (K = L) = false ∧ lss L M = true ∧ lss K M = true) ∨ (lss K L = true ∧ lss L K = false ∧ decide (K = L) = false ∧ lss L M = false) ∨
    (lss K L = false ∧ lss L K = true ∧ decide (K = L) = false) ∨ (lss K L = false ∧ lss L K = false ∧ decide (K = L) = true) := by
  cases h : lss K L
  · by_cases he : K = L
    · exact Or.inr (Or.inr (Or.inr ⟨rfl, by subst he; exact h, decide_eq_true he⟩))
    · exact Or.inr (Or.inr (Or.inl ⟨rfl, lss_total hK hL he h, decide_eq_false he⟩))
  · have he : ¬ K = L := fun e => by subst e; rw [lss_self] at h; cases h
    cases h2 : lss L M
    · exact Or.inr (Or.inl ⟨rfl, lss_asym h, decide_eq_false he, rfl⟩)
    · exact Or.inl ⟨rfl, lss_asym h, decide_eq_false he, rfl, lss_trans h h2⟩
set_option maxRecDepth 10000 in
set_option maxHeartbeats 8000000 in
theorem order_walk (K L M : List Int) (hK : Ky K) (hL : Ky L) (hM : Ky M) (w : World) :
    Calls Try.prog 8 #[.agg (kc K), .agg (kc L), .agg (kc M)] w fun e w' => e = .returned (.bool true) ∧ Below w.heap.size w w' := by
  obtain ⟨hk1, hk2, hk3, hb0⟩ := three_blks w (kc K) (kc L) (kc M) 23 23 23
  have K1 := hid hk1; have K2 := hid hk2; have K3 := hid hk3; have B0 := hid hb0
  clear hk1 hk2 hk3 hb0
  have CA := hid pawake_any
  have C1 := hid (fun w => pLess_any K L hK hL w)
  have C2 := hid (fun w => pLess_any L M hL hM w)
  have C3 := hid (fun w => pLess_any K M hK hM w)
  have C4 := hid (fun w => pLess_any L K hL hK w)
  have C5 := hid (fun w => pLess_any K K hK hK w)
  rw [lss_self] at C5
  have heq := fun w => eql_key K L hK hL w
  have hcase := order_cases K L M hK hL
  generalize lss K L = x at C1 hcase
  generalize lss L M = y at C2 hcase
  generalize lss K M = z at C3 hcase
  generalize lss L K = r at C4 hcase
  generalize decide (K = L) = e at heq hcase
  rcases hcase with ⟨rfl, rfl, rfl, rfl, rfl⟩ | ⟨rfl, rfl, rfl, rfl⟩ | ⟨rfl, rfl, rfl⟩ | ⟨rfl, rfl, rfl⟩
  all_goals
    go_enter Try.func8, Try.ntmps8
    go_wp2
    generalize ((w.alloc (.cells (kc K) 23)).alloc (.cells (kc L) 23)).alloc (.cells (kc M) 23) = w0 at K1 K2 K3 B0 ⊢
    refine region_kept (Kp w0) (by kernel_rfl) (by kernel_rfl) (kp_begin w0) ?_
    repeat (first
      | go_big_quiet_skip
      | (go_big_quiet_want; refine quiet_load 23 (.tmp 3) rfl w.heap.size 0 rfl (u8s K) _ (fun p => kp_key K1.out p) Try.underlying23 rfl (u8s_info hK) (kc K) rfl ?_; go_big_quiet_on; simp only [Act.put, List.setIfInBounds_toArray, List.set_cons_zero, List.set_cons_succ])
      | (go_big_quiet_want; refine quiet_load 23 (.tmp 4) rfl (w.heap.size + 1) 0 rfl (u8s L) _ (fun p => kp_key K2.out p) Try.underlying23 rfl (u8s_info hL) (kc L) rfl ?_; go_big_quiet_on; simp only [Act.put, List.setIfInBounds_toArray, List.set_cons_zero, List.set_cons_succ])
      | (go_big_quiet_want; refine quiet_load 23 (.tmp 5) rfl (w.heap.size + 1 + 1) 0 rfl (u8s M) _ (fun p => kp_key K3.out p) Try.underlying23 rfl (u8s_info hM) (kc M) rfl ?_; go_big_quiet_on; simp only [Act.put, List.setIfInBounds_toArray, List.set_cons_zero, List.set_cons_succ])
      | (go_big_quiet_want; go_big_quiet_op; first | go_big_quiet_on | go_big_quiet_call (first | (with_reducible exact kp_call (C1.out _)) | (with_reducible exact kp_call (C2.out _)) | (with_reducible exact kp_call (C3.out _)))))
    refine wpQuiet_nil ?_
    intro _ hw'
    obtain ⟨p, hw''⟩ := hw'
    have M1 := hid (K1.out.below p.h)
    have M2 := hid (K2.out.below p.h)
    have MB := hid (B0.out.trans (Below.mono p.h B0.out.size))
    subst hw''
    generalize p.w = w5 at M1 M2 MB ⊢
    go_wp2
    refine region_kept (Kp w5) (by kernel_rfl) (by kernel_rfl) (kp_begin w5) ?_
    repeat (first
      | go_big_quiet_skip
      | (go_big_quiet_want; refine quiet_load 23 (.tmp 3) rfl w.heap.size 0 rfl (u8s K) _ (fun p => kp_key M1.out p) Try.underlying23 rfl (u8s_info hK) (kc K) rfl ?_; go_big_quiet_on; simp only [Act.put, List.setIfInBounds_toArray, List.set_cons_zero, List.set_cons_succ])
      | (go_big_quiet_want; refine quiet_load 23 (.tmp 4) rfl (w.heap.size + 1) 0 rfl (u8s L) _ (fun p => kp_key M2.out p) Try.underlying23 rfl (u8s_info hL) (kc L) rfl ?_; go_big_quiet_on; simp only [Act.put, List.setIfInBounds_toArray, List.set_cons_zero, List.set_cons_succ])
      | (go_big_quiet_want; go_big_quiet_op; first | go_big_quiet_on | go_big_quiet_call (first | (go_at_call 9; with_reducible exact kp_call (CA.out _)) | (with_reducible exact kp_call (C4.out _)) | (with_reducible exact kp_call (C5.out _)))))
    refine wpQuiet_nil ?_
    intro _ hw'
    obtain ⟨p2, hw2⟩ := hw'
    subst hw2
    go_wp2
    go_ret
    exact ⟨rfl, MB.out.trans (Below.mono p2.h MB.out.size)⟩
end Go.Proofs.Ytdaobhclcpgjbaa
