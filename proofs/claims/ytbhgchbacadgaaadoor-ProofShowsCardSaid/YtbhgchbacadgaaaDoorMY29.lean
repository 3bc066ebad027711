/-
  What is proved here: the reference's Same of two proofs that are the same.
-/
import Derived.Test.YtbhgchbacadgaaaDoorMY25
import Derived.Test.YtbhgchbacadgaaaDoorMY9
set_option linter.unusedSimpArgs false
set_option linter.unusedVariables false
namespace Go.Proofs.YtbhgchbacadgaaaDoor
open Go.ChangeShapes Go.WideShapes Go.ChangeAt Go.RowKit
set_option linter.unusedVariables false
set_option linter.unusedSimpArgs false
set_option maxRecDepth 20000

theorem equal_pre_self (l : Int) (B : List Int) (hB : Ky B) (w : World) : (Op.equalIn (9998 + 1) 55 (.agg (pc l B)) (.agg (pc l B))).run Tryd.prog w = .ok true w := by
  have hf : ∃ f0 f1 : Field, (Tryd.prog.fieldsOf 55).toList = [f0, f1] ∧ f0.name ≠ "_" ∧ f1.name ≠ "_" ∧ f0.type = 3 ∧ f1.type = 24 ∧ f0.offset = 0 ∧ f1.offset = 1 := by
    refine ⟨_, _, by (have := Tryd.underlying55; unfold Program.fieldsOf; rw [this]), by decide, by decide, rfl, rfl, rfl, rfl⟩
  obtain ⟨f0, f1, e1, n0, n1, t0, t1, o0, o1⟩ := hf
  rw [run_equalIn_struct w 9998 55 _ _ (by kernel_rfl) (by kernel_rfl), e1]
  simp only [Op.eqFields, t0, t1, o0, o1]
  rw [if_pos n0, if_pos n1]
  simp only [Sem.run_bind, part_len, part_bits l B hB, Result.andThen_ok, run_equalIn_int w 9997 3 .i64 .i64 l l Tryd.underlying3, equal_key 9996 B B hB hB, Sem.run_ite, Sem.run_pure]
  simp
theorem part_sp {s : QS} (hs : s.Ok) (w : World) : (Go.part 55 (stc s).toArray 0).run Tryd.prog w = .ok (.agg (pc s.n s.b)) w := by
  have h : (isAgg 55).run Tryd.prog w = .ok true w := by kernel_rfl
  have e : (List.take 33 (stc s)).toArray = pc s.n s.b := by
    show (List.take 33 ((.int .i64 s.n :: u8s s.b) ++ u8s s.o)).toArray = (Value.int .i64 s.n :: u8s s.b).toArray
    rw [List.take_left' (by rw [List.length_cons, u8s_length, hs.b.len])]
  unfold Go.part
  simp [Sem.run_bind, h, Result.andThen_ok, e]
theorem part_so {s : QS} (hs : s.Ok) (w : World) : (Go.part 24 (stc s).toArray 33).run Tryd.prog w = .ok (.agg (kc s.o)) w := by
  have h : (isAgg 24).run Tryd.prog w = .ok true w := by kernel_rfl
  have e : (List.take 32 (List.drop 33 (stc s))).toArray = kc s.o := by
    show (List.take 32 (List.drop 33 ((.int .i64 s.n :: u8s s.b) ++ u8s s.o))).toArray = (u8s s.o).toArray
    rw [List.drop_left' (by rw [List.length_cons, u8s_length, hs.b.len]), List.take_of_length_le (by rw [u8s_length, hs.o.len]; decide)]
  unfold Go.part
  simp [Sem.run_bind, h, Result.andThen_ok, e]
theorem equal_step (s : QS) (hs : s.Ok) (w : World) : (Op.equalIn (9999 + 1) 130 (.agg (stc s).toArray) (.agg (stc s).toArray)).run Tryd.prog w = .ok true w := by
  have hf : ∃ f0 f1 : Field, (Tryd.prog.fieldsOf 130).toList = [f0, f1] ∧ f0.name ≠ "_" ∧ f1.name ≠ "_" ∧ f0.type = 55 ∧ f1.type = 24 ∧ f0.offset = 0 ∧ f1.offset = 33 := by
    refine ⟨_, _, by (have := Tryd.underlying130; unfold Program.fieldsOf; rw [this]), by decide, by decide, rfl, rfl, rfl, rfl⟩
  obtain ⟨f0, f1, e1, n0, n1, t0, t1, o0, o1⟩ := hf
  rw [run_equalIn_struct w 9999 130 _ _ (by kernel_rfl) (by kernel_rfl), e1]
  simp only [Op.eqFields, t0, t1, o0, o1]
  rw [if_pos n0, if_pos n1]
  simp only [Sem.run_bind, part_sp hs, part_so hs, Result.andThen_ok, equal_pre_self s.n s.b hs.b, equal_key 9997 s.o s.o hs.o hs.o, Sem.run_ite, Sem.run_pure]
  simp
set_option maxHeartbeats 8000000 in
theorem zSame_yes {A A2 : Option Addr} {n c c2 : Nat} {q : QP} (w : World) (hP : InS w A n q.ss) (hQ : InS w A2 n q.ss) (hq : q.Ok) :
    Calls Tryd.prog 28 #[.agg (prc (.slice A n c) q).toArray, .agg (prc (.slice A2 n c2) q).toArray] w fun e w' => e = .returned (.bool true) ∧ Below w.heap.size w w' := by
  obtain ⟨hk1, hk2, hb0⟩ := two_blks w (prc (.slice A n c) q).toArray (prc (.slice A2 n c2) q).toArray 72 72
  have HP := hid (fun (w1 : World) (hb : Below w.heap.size w w1) => hP.below hb); have HQ := hid (fun (w1 : World) (hb : Below w.heap.size w w1) => hQ.below hb)
  have HO := hid hq
  have hmax := hP.max
  have B0 := hid hb0
  have K1 := hid hk1; have K2 := hid hk2
  have HKI := hid (u8s_info hq.k); have HVI := hid (u8s_info hq.v); have HLI := hid (u8s_info hq.l); have HRI := hid (u8s_info hq.r)
  have HPI := hid (pcl_info q.n hq.b)
  clear hk1 hk2 hb0 hP hQ
  go_enter Tryd.func28, Tryd.ntmps28
  go_upto_region 1 with (fail)
  generalize (w.alloc (.cells (prc (.slice A n c) q).toArray 72)).alloc (.cells (prc (.slice A2 n c2) q).toArray 72) = w0 at B0 K1 K2 ⊢
  have s1 := (K1.out.pr HO.out).steps
  have s2 := (K2.out.pr HO.out).steps
  go_wp2
  clear s1 s2
  go_loopw [5] (fun iv wr => ∃ (i : Nat), i ≤ n ∧ iv = .int .i64 (i : Nat) ∧ Hid (Below w0.heap.size w0 wr)) (fun iv _ => n - (intOf iv).toNat)
  case atStart => exact ⟨0, Nat.zero_le _, rfl, Below.refl _ _⟩
  case round =>
    obtain ⟨i, hi, rfl, BL⟩ := hrel
    have s1 := (K1.out.below BL.out |>.pr HO.out).steps
    have s2 := (K2.out.below BL.out |>.pr HO.out).steps
    by_cases hlt : i < n
    · have BW := B0.out.trans (BL.out.mono B0.out.size)
      obtain ⟨b, oo, rfl, _, hat⟩ := (HP.out _ BW).at' (by omega)
      obtain ⟨b2, o2, rfl, _, hat2⟩ := (HQ.out _ BW).at' (by omega)
      obtain ⟨s, hs⟩ : ∃ s, q.ss[i]? = some s := ⟨_, List.getElem?_eq_getElem (by have := (HP.out _ BW).len; omega)⟩
      have hso := HO.out.ss s (List.mem_of_getElem? hs)
      have HSI : Hid ((Tryd.prog.info? 130).map (·.size) = some (stc s).length) := by show _ = _; rw [hso.len]; kernel_rfl
      have RPA := hid (fun p : PW (Kp wr) => rng_bel p.h (hat i s hs))
      have RQA := hid (fun p : PW (Kp wr) => rng_bel p.h (hat2 i s hs))
      have cl1 := fun p : PW (Kp wr) => cell_bel p.h s1
      have cl2 := fun p : PW (Kp wr) => cell_bel p.h s2
      have hlt2 : (i : Int) < n := by omega
      have heq := fun w => equal_step s hso w
      clear hat hat2 hs hso BW
      go_upto_region 6 with (fail)
      refine region_kept (Kp wr) (by kernel_rfl) (by kernel_rfl) (kp_begin wr) ?_
      repeat (first
        | go_big_quiet_skip
        | (go_big_quiet_want; refine quiet_load 130 (.tmp 23) rfl b (oo + i * 65) rfl (stc s) _ (fun p => RPA.out p) Tryd.underlying130 rfl HSI.out (stc s).toArray rfl ?_; go_big_quiet_on; simp only [Act.put, List.setIfInBounds_toArray, List.set_cons_zero, List.set_cons_succ])
        | (go_big_quiet_want; refine quiet_load 130 (.tmp 28) rfl b2 (o2 + i * 65) rfl (stc s) _ (fun p => RQA.out p) Tryd.underlying130 rfl HSI.out (stc s).toArray rfl ?_; go_big_quiet_on; simp only [Act.put, List.setIfInBounds_toArray, List.set_cons_zero, List.set_cons_succ])
        | (go_big_quiet_want; go_big_quiet_op; first | go_big_quiet_on))
      refine wpQuiet_nil ?_
      intro _ hw'
      obtain ⟨p9, hw''⟩ := hw'
      subst hw''
      clear heq cl1 cl2
      have BLB := hid (BL.out.trans (p9.h.mono BL.out.size))
      generalize p9.w = wB at BLB ⊢
      go_wp2
      go_roundw
      case rel => exact ⟨i + 1, by omega, by go_num, BLB⟩
      case measure => simp [intOf]; omega
    · obtain rfl : i = n := by omega
      have hnl : ¬ ((i : Int) < (i : Int)) := by omega
      have P1 := hid ((K1.out.below BL.out).pr HO.out); have P2 := hid ((K2.out.below BL.out).pr HO.out)
      have d1 := P1.out.end; have d2 := P2.out.end
      have ek := fun w => equal_key 9998 q.k q.k HO.out.k HO.out.k w
      have ev := fun w => equal_key 9998 q.v q.v HO.out.v HO.out.v w
      have el := fun w => equal_key 9998 q.l q.l HO.out.l HO.out.l w
      have er := fun w => equal_key 9998 q.r q.r HO.out.r HO.out.r w
      have ep := fun w => eql_pre q.n q.n q.b q.b HO.out.b HO.out.b w
      rw [decide_eq_true rfl] at ek ev el er
      rw [decide_eq_true ⟨rfl, rfl⟩] at ep
      go_wp2_with (first
        | (refine load_at rfl 24 (.tmp 37) rfl w.heap.size 2 rfl (u8s q.k) _ P1.out.key Tryd.underlying24 rfl HKI.out (kc q.k) rfl ?_)
        | (refine load_at rfl 24 (.tmp 39) rfl (w.heap.size + 1) 2 rfl (u8s q.k) _ P2.out.key Tryd.underlying24 rfl HKI.out (kc q.k) rfl ?_)
        | (refine load_at rfl 24 (.tmp 44) rfl w.heap.size 34 rfl (u8s q.v) _ P1.out.val Tryd.underlying24 rfl HVI.out (kc q.v) rfl ?_)
        | (refine load_at rfl 24 (.tmp 46) rfl (w.heap.size + 1) 34 rfl (u8s q.v) _ P2.out.val Tryd.underlying24 rfl HVI.out (kc q.v) rfl ?_)
        | (refine load_at rfl 55 (.tmp 51) rfl w.heap.size 66 rfl (.int .i64 q.n :: u8s q.b) _ P1.out.pre Tryd.underlying55 rfl HPI.out (pc q.n q.b) rfl ?_)
        | (refine load_at rfl 55 (.tmp 53) rfl (w.heap.size + 1) 66 rfl (.int .i64 q.n :: u8s q.b) _ P2.out.pre Tryd.underlying55 rfl HPI.out (pc q.n q.b) rfl ?_)
        | (refine load_at rfl 24 (.tmp 58) rfl w.heap.size 99 rfl (u8s q.l) _ P1.out.left Tryd.underlying24 rfl HLI.out (kc q.l) rfl ?_)
        | (refine load_at rfl 24 (.tmp 60) rfl (w.heap.size + 1) 99 rfl (u8s q.l) _ P2.out.left Tryd.underlying24 rfl HLI.out (kc q.l) rfl ?_)
        | (refine load_at rfl 24 (.tmp 65) rfl w.heap.size 131 rfl (u8s q.r) _ P1.out.right Tryd.underlying24 rfl HRI.out (kc q.r) rfl ?_)
        | (refine load_at rfl 24 (.tmp 67) rfl (w.heap.size + 1) 131 rfl (u8s q.r) _ P2.out.right Tryd.underlying24 rfl HRI.out (kc q.r) rfl ?_))
      go_ret
      exact ⟨rfl, B0.out.trans (BL.out.mono B0.out.size)⟩
end Go.Proofs.YtbhgchbacadgaaaDoor
