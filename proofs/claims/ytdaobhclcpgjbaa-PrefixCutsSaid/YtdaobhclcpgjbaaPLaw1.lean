/-
  What is proved here: the fixed fact that each statement on prefixes asks first; that of all keys and numbers the bit is told, how many bits two keys share, and which is less: the walk of the statement.
-/
import Derived.Test.YtdaobhclcpgjbaaPChildR
import Derived.Test.YtdaobhclcpgjbaaPLess
namespace Go.Proofs.Ytdaobhclcpgjbaa
open Go.ChangeShapes Go.WideShapes Go.ChangeAt Go.RowKit
set_option linter.unusedVariables false

def k64 : List Int := 64 :: List.replicate 31 0
theorem k64_ky : Ky k64 := ⟨by simp [k64], fun v hv => by
  unfold k64 at hv
  rcases List.mem_cons.1 hv with rfl | h
  · omega
  · have := (List.mem_replicate.1 h).2
    omega⟩
theorem built_64 : Try.prog.built 23 [(0, .int .u8 64)] = some (kc k64) := by kernel_rfl
theorem build_64 {ops : Array Oper} {rest : List Oper} {o : Oper} {a : Act} {w : World} {Q : Exit → Act → World → Prop} (hg : o.guard = none) (ho : o.op = .build 23 #[(0, .const (.int .u8 64))])
    (h : wpList Try.prog ops Q rest (a.put o.dst (.agg (kc k64))) w) : wpList Try.prog ops Q (o :: rest) a w := by
  have e : (Array.map (fun (i, x) => (i, a.eval x)) #[((0 : Nat), Operand.const (.int .u8 64))]).toList = [(0, .int .u8 64)] := by simp [Act.eval]
  refine wpList_build hg 23 _ ho (by rw [e, built_64]; rfl) ?_
  rw [e, built_64]
  exact h
theorem build_g {ops : Array Oper} {rest : List Oper} {o : Oper} {a : Act} {w : World} {Q : Exit → Act → World → Prop} (hw : Region.wanted o (yielded ops a.tmps) = true) (ho : o.op = .build 30 #[])
    (h : wpList Try.prog ops Q rest (a.put o.dst (.agg (pc 0 zk))) w) : wpList Try.prog ops Q (o :: rest) a w := by
  have e : (Array.map (fun (i, x) => (i, a.eval x)) (#[] : Array (Nat × Operand))).toList = [] := by simp
  unfold wpList
  rw [if_pos hw]
  refine Or.inl (wp_build 30 #[] ho (by rw [e, built_none]; rfl) ?_)
  rw [e, built_none]
  exact h
theorem frm_zero : frm 0 zk = true := by
  unfold frm
  exact decide_eq_true ⟨by decide, by decide, cut_0 zk⟩
set_option maxHeartbeats 1000000 in
theorem pawake_any (w : World) : Calls Try.prog 9 #[] w fun e w' => e = .returned (.bool true) ∧ Below w.heap.size w w' := by
  have CB : Hid (∀ w, Calls Try.prog 10 #[.agg (kc k64), .int .i64 1] w fun e w' => e = .returned (.int .i64 1) ∧ Below w.heap.size w w') := fun w => pBit_in k64 k64_ky 1 (by decide) w
  have CF := hid (fun w => pFormed_any 0 zk zk_ky w)
  rw [frm_zero] at CF
  go_enter Try.func9, Try.ntmps9
  go_wp2_with (first
    | (refine build_64 rfl rfl ?_)
    | (go_at_call 10; refine (CB.out _).mono ?_; rintro e w1 ⟨rfl, hb1⟩; have B1 := hid hb1; clear hb1)
    | (refine build_g rfl rfl ?_)
    | (go_at_call 20; refine (CF.out _).mono ?_; rintro e w2 ⟨rfl, hb2⟩; have B2 := hid (B1.out.trans (hb2.mono B1.out.size)); clear hb2))
  go_ret
  exact ⟨rfl, B2.out⟩
set_option maxRecDepth 5000 in
set_option maxHeartbeats 2000000 in
theorem bits_walk (K L : List Int) (i : Int) (hK : Ky K) (hL : Ky L) (w : World) :
    Calls Try.prog 3 #[.agg (kc K), .agg (kc L), .int .i64 i] w fun e w' => e = .returned (.bool true) ∧ Below w.heap.size w w' := by
  obtain ⟨hk1, hk2, hb0⟩ := one_blks w (kc K) (kc L) 23 23
  have K1 := hid hk1; have K2 := hid hk2; have B0 := hid hb0
  clear hk1 hk2 hb0
  have CA := hid pawake_any
  have C1 := hid (fun w => pBit_any K hK i w)
  have C2 := hid (fun w => rBit_any K hK i w)
  have C3 := hid (fun w => pShared_any K L hK hL w)
  have C4 := hid (fun w => rShared_any K L hK hL w)
  have C5 := hid (fun w => pLess_any K L hK hL w)
  have C6 := hid (fun w => rLess_any K L hK hL w)
  generalize bitI K i = x at C1 C2
  generalize shr K L = S at C3 C4
  generalize lss K L = v at C5 C6
  go_enter Try.func3, Try.ntmps3
  go_wp2
  generalize (w.alloc (.cells (kc K) 23)).alloc (.cells (kc L) 23) = w0 at K1 K2 B0 ⊢
  refine region_kept (Kp w0) (by kernel_rfl) (by kernel_rfl) (kp_begin w0) ?_
  repeat (first
    | go_big_quiet_skip
    | (go_big_quiet_want; refine quiet_load 23 (.tmp 3) rfl w.heap.size 0 rfl (u8s K) _ (fun p => kp_key K1.out p) Try.underlying23 rfl (u8s_info hK) (kc K) rfl ?_; go_big_quiet_on; simp only [Act.put, List.setIfInBounds_toArray, List.set_cons_zero, List.set_cons_succ])
    | (go_big_quiet_want; refine quiet_load 23 (.tmp 4) rfl (w.heap.size + 1) 0 rfl (u8s L) _ (fun p => kp_key K2.out p) Try.underlying23 rfl (u8s_info hL) (kc L) rfl ?_; go_big_quiet_on; simp only [Act.put, List.setIfInBounds_toArray, List.set_cons_zero, List.set_cons_succ])
    | (go_big_quiet_want; go_big_quiet_op; first | go_big_quiet_on | go_big_quiet_call (first
      | (go_at_call 9; with_reducible exact kp_call (CA.out _))
      | (go_at_call 10; with_reducible exact kp_call (C1.out _))
      | (go_at_call 11; with_reducible exact kp_call (C2.out _))
      | (go_at_call 12; with_reducible exact kp_call (C3.out _))
      | (go_at_call 13; with_reducible exact kp_call (C4.out _))
      | (go_at_call 14; with_reducible exact kp_call (C5.out _))
      | (go_at_call 15; with_reducible exact kp_call (C6.out _)))))
  refine wpQuiet_nil ?_
  intro _ hw'
  obtain ⟨p, hw''⟩ := hw'
  subst hw''
  go_wp2
  go_ret
  exact ⟨rfl, B0.out.trans (Below.mono p.h B0.out.size)⟩
end Go.Proofs.Ytdaobhclcpgjbaa
