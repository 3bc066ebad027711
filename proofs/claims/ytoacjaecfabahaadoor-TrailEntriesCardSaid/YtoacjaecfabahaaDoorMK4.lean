/-
  What is proved here: of all trails, and all that is said, it is told whether they are right: the walk of the statement.
-/
import Derived.Test.YtoacjaecfabahaaDoorMJI
import Derived.Test.YtoacjaecfabahaaDoorMJS
import Derived.Test.YtoacjaecfabahaaDoorMK2
import Derived.Deep.QuietTactic
set_option linter.unusedSimpArgs false
set_option linter.unusedVariables false
namespace Go.Proofs.YtoacjaecfabahaaDoor
open Go.ChangeShapes Go.WideShapes Go.ChangeAt Go.RowKit
set_option linter.unusedVariables false
set_option linter.unusedSimpArgs false
set_option maxRecDepth 20000

theorem op_g {ops : Array Oper} {rest : List Oper} {o : Oper} {a : Act} {w : World} {Q : Exit → Act → World → Prop} (p : Op) (ho : o.op = p) (h : wpList Tryd.prog ops Q (o :: rest) a w) : wpList Tryd.prog ops Q (o :: rest) a w := h
set_option maxHeartbeats 16000000 in
theorem tchecks_walk {M N : Int} {A B : Option Addr} {n c m d : Nat} {Ah Be : List (List Int)} {h r : List Int} {w : World} (hA : InH w A n Ah) (hnc : n ≤ c) (hB : InH w B m Be) (hmd : m ≤ d) (hM : -9223372036854775808 ≤ M ∧ M ≤ 9223372036854775807) (hh : H32 h) (hr : H32 r) (hTb0 : Tab w) (hTd0 : TabD w) :
    Calls Tryd.prog 7 #[.agg (tlc A n c B m d), .agg (sdc M N h r)] w fun e w' => e = .returned (.bool true) ∧ Below w.heap.size w w' := by
  have CA := hid (fun (w' : World) (hb : Below w.heap.size w w') => jawake_any w' (hTb0.below hb) (hTd0.below hb))
  have k1 := (Blk.new w 51 (tlc A n c B m d)).alloc (.cells (sdc M N h r) 57)
  have k2 := Blk.new (w.alloc (.cells (tlc A n c B m d) 51)) 57 (sdc M N h r)
  rw [show (w.alloc (.cells (tlc A n c B m d) 51)).heap.size = w.heap.size + 1 by simp] at k2
  have b1 : Below w.heap.size w ((w.alloc (.cells (tlc A n c B m d) 51)).alloc (.cells (sdc M N h r) 57)) := ((Below.refl _ _).alloc (Nat.le_refl _) _).alloc (by simp) _
  have KT0 := hid k1; have KS0 := hid k2; have B0 := hid b1
  have cfw := fun (w' : World) => jfew_any A n c B m d w'
  have HA := hid hA; have HB := hid hB; have HNC := hid hnc; have HMD := hid hmd; have HMM := hid hM; have HH := hid hh; have HR := hid hr; have HTb := hid hTb0; have HTd := hid hTd0
  have HIH := hid (info_hash h hh.len); have HIR := hid (info_hash r hr.len)
  have hz1 := zero_jTrail
  obtain ⟨Z, HZ, hZ0, hZs⟩ := zero_Hash
  clear k1 k2 b1 hA hB hnc hmd hM hh hr hTb0 hTd0
  by_cases hf : n ≤ 70 ∧ m ≤ 70
  · have HN := hid (show n < 1000000 by omega); have HM := hid (show m < 1000000 by omega)
    have ef : (decide (n ≤ 70) && decide (m ≤ 70)) = true := by simp [hf.1, hf.2]
    simp only [ef] at cfw
    have CF := hid cfw
    clear cfw ef hf
    go_enter Tryd.func7, Tryd.ntmps7
    go_upto_region 3 with (first
      | (go_at_call 25; refine (CA.out _ B0.out).mono ?_; rintro e w1 ⟨rfl, hb⟩; have B1 := hid (B0.out.trans (hb.mono B0.out.size)); have KT1 := hid (KT0.out.below hb); have KS1 := hid (KS0.out.below hb); clear hb)
      | (refine load_at rfl 51 (.tmp 2) rfl w.heap.size 0 rfl _ _ (fblk_rng KT1.out) Tryd.underlying51 rfl (info_jrTrail _ _) (tlc A n c B m d) rfl ?_)
      | (go_at_call 31; refine (CF.out _).mono ?_; rintro e w2 ⟨rfl, hb⟩; have B2 := hid (B1.out.trans (hb.mono B1.out.size)); have KT2 := hid (KT1.out.below hb); have KS2 := hid (KS1.out.below hb); clear hb))
    go_upto_region 4 with (refine load_at rfl 51 (.tmp 2) rfl w.heap.size 0 rfl _ _ (fblk_rng KT2.out) Tryd.underlying51 rfl (info_jrTrail _ _) (tlc A n c B m d) rfl ?_)
    have hb3 : Below w2.heap.size w2 (w2.alloc (.cells (tlc A n c B m d) 48)) := (Below.refl _ _).alloc (Nat.le_refl _) _
    have K5 := hid (Blk.new w2 48 (tlc A n c B m d))
    have KT := hid (KT2.out.below hb3); have KS := hid (KS2.out.below hb3); have B3 := hid (B2.out.trans (hb3.mono B2.out.size))
    obtain ⟨g5, hg5⟩ : ∃ g5, g5 = w2.heap.size := ⟨_, rfl⟩
    rw [← hg5] at K5 ⊢
    generalize w2.alloc (.cells (tlc A n c B m d) 48) = wf at K5 KT KS B3 ⊢
    clear hg5 hb3 KT0 KS0 B0 KT1 KS1 B1 KT2 KS2 B2
    have c1 := fun (w' : World) (hb : Below wf.heap.size wf w') => jIsEntry_any (i := M) (k := N) (c := c) (d := d) (HA.out.below (B3.out.trans (hb.mono B3.out.size))) (HB.out.below (B3.out.trans (hb.mono B3.out.size))) HN.out HM.out HH.out HR.out (HTb.out.below (B3.out.trans (hb.mono B3.out.size))) (HTd.out.below (B3.out.trans (hb.mono B3.out.size)))
    have c2 := fun (w' : World) (hb : Below wf.heap.size wf w') => jrIsEntry_any (i := M) (k := N) (HA.out.below (B3.out.trans (hb.mono B3.out.size))) (HB.out.below (B3.out.trans (hb.mono B3.out.size))) HN.out HM.out HNC.out HMD.out HH.out HR.out HMM.out
    have c3 := fun (w' : World) (hb : Below wf.heap.size wf w') => jIsGrowth_any (i := M) (k := N) (c := c) (d := d) (HA.out.below (B3.out.trans (hb.mono B3.out.size))) (HB.out.below (B3.out.trans (hb.mono B3.out.size))) HN.out HM.out HH.out HR.out (HTb.out.below (B3.out.trans (hb.mono B3.out.size))) (HTd.out.below (B3.out.trans (hb.mono B3.out.size)))
    have c4 := fun (w' : World) (hb : Below wf.heap.size wf w') => jrIsGrowth_any (i := M) (k := N) (HA.out.below (B3.out.trans (hb.mono B3.out.size))) (HB.out.below (B3.out.trans (hb.mono B3.out.size))) HN.out HM.out HNC.out HMD.out HH.out HR.out
    generalize ieB M (IntKind.i64.wrap (M + 1)) N Ah h Be r = v1 at c1 c2
    generalize igB M N Ah Be h r = v2 at c3 c4
    have C1 := hid c1; have C2 := hid c2; have C3 := hid c3; have C4 := hid c4
    have hv1 : (v1 != v1) = false := by simp
    have hv2 : (v2 != v2) = false := by simp
    have cl0 := fun p : PW (Kp wf) => (KS.out.below p.h).cell 0
    have cl1 := fun p : PW (Kp wf) => (KS.out.below p.h).cell 1
    have s0 : (sdc M N h r)[0]? = some (.int .i64 M) := rfl
    have s1 : (sdc M N h r)[1]? = some (.int .i64 N) := rfl
    simp only [s0] at cl0
    simp only [s1] at cl1
    clear c1 c2 c3 c4 s0 s1
    refine region_kept (Kp wf) (by kernel_rfl) (by kernel_rfl) (kp_begin wf) ?_
    repeat (first
      | go_big_quiet_skip
      | (go_big_quiet_want; refine quiet_load 48 (.tmp 5) rfl g5 0 rfl (tlc A n c B m d).toList _ (fun p => fblk_rng (K5.out.below p.h)) Tryd.underlying48 rfl (info_jTrail _ _) (tlc A n c B m d) rfl ?_; go_big_quiet_on; simp only [Act.put, List.setIfInBounds_toArray, List.set_cons_zero, List.set_cons_succ])
      | (go_big_quiet_want; refine quiet_load 51 (.tmp 2) rfl w.heap.size 0 rfl (tlc A n c B m d).toList _ (fun p => fblk_rng (KT.out.below p.h)) Tryd.underlying51 rfl (info_jrTrail _ _) (tlc A n c B m d) rfl ?_; go_big_quiet_on; simp only [Act.put, List.setIfInBounds_toArray, List.set_cons_zero, List.set_cons_succ])
      | (go_big_quiet_want; refine quiet_load 33 (.tmp 27) rfl (w.heap.size + 1) 2 rfl (u8s h) _ (fun p => said_h (KS.out.below p.h)) Tryd.underlying33 rfl HIH.out (hc32 h) rfl ?_; go_big_quiet_on; simp only [Act.put, List.setIfInBounds_toArray, List.set_cons_zero, List.set_cons_succ])
      | (go_big_quiet_want; refine quiet_load 33 (.tmp 37) rfl (w.heap.size + 1) 2 rfl (u8s h) _ (fun p => said_h (KS.out.below p.h)) Tryd.underlying33 rfl HIH.out (hc32 h) rfl ?_; go_big_quiet_on; simp only [Act.put, List.setIfInBounds_toArray, List.set_cons_zero, List.set_cons_succ])
      | (go_big_quiet_want; refine quiet_load 33 (.tmp 49) rfl (w.heap.size + 1) 2 rfl (u8s h) _ (fun p => said_h (KS.out.below p.h)) Tryd.underlying33 rfl HIH.out (hc32 h) rfl ?_; go_big_quiet_on; simp only [Act.put, List.setIfInBounds_toArray, List.set_cons_zero, List.set_cons_succ])
      | (go_big_quiet_want; refine quiet_load 33 (.tmp 59) rfl (w.heap.size + 1) 2 rfl (u8s h) _ (fun p => said_h (KS.out.below p.h)) Tryd.underlying33 rfl HIH.out (hc32 h) rfl ?_; go_big_quiet_on; simp only [Act.put, List.setIfInBounds_toArray, List.set_cons_zero, List.set_cons_succ])
      | (go_big_quiet_want; refine quiet_load 33 (.tmp 29) rfl (w.heap.size + 1) 34 rfl (u8s r) _ (fun p => said_r' (KS.out.below p.h) HH.out.len) Tryd.underlying33 rfl HIR.out (hc32 r) rfl ?_; go_big_quiet_on; simp only [Act.put, List.setIfInBounds_toArray, List.set_cons_zero, List.set_cons_succ])
      | (go_big_quiet_want; refine quiet_load 33 (.tmp 39) rfl (w.heap.size + 1) 34 rfl (u8s r) _ (fun p => said_r' (KS.out.below p.h) HH.out.len) Tryd.underlying33 rfl HIR.out (hc32 r) rfl ?_; go_big_quiet_on; simp only [Act.put, List.setIfInBounds_toArray, List.set_cons_zero, List.set_cons_succ])
      | (go_big_quiet_want; refine quiet_load 33 (.tmp 51) rfl (w.heap.size + 1) 34 rfl (u8s r) _ (fun p => said_r' (KS.out.below p.h) HH.out.len) Tryd.underlying33 rfl HIR.out (hc32 r) rfl ?_; go_big_quiet_on; simp only [Act.put, List.setIfInBounds_toArray, List.set_cons_zero, List.set_cons_succ])
      | (go_big_quiet_want; refine quiet_load 33 (.tmp 61) rfl (w.heap.size + 1) 34 rfl (u8s r) _ (fun p => said_r' (KS.out.below p.h) HH.out.len) Tryd.underlying33 rfl HIR.out (hc32 r) rfl ?_; go_big_quiet_on; simp only [Act.put, List.setIfInBounds_toArray, List.set_cons_zero, List.set_cons_succ])
      | (go_big_quiet_want; go_big_quiet_op; first | go_big_quiet_on | go_big_quiet_call (first
        | (go_at_call 32; with_reducible exact kp_call (C1.out _ (PW.h _)))
        | (go_at_call 33; with_reducible exact kp_call (C2.out _ (PW.h _)))
        | (go_at_call 34; with_reducible exact kp_call (C3.out _ (PW.h _)))
        | (go_at_call 35; with_reducible exact kp_call (C4.out _ (PW.h _))))))
    refine wpQuiet_nil ?_
    intro _ hw'
    obtain ⟨p, hw''⟩ := hw'
    subst hw''
    have B4 := hid (B3.out.trans (p.h.mono B3.out.size))
    have KT4 := hid (KT.out.below p.h); have KS4 := hid (KS.out.below p.h); have K54 := hid (K5.out.below p.h)
    clear cl0 cl1 C1 C2 C3 C4 hv1 hv2
    obtain ⟨w4, hw4⟩ : ∃ w4, w4 = p.w := ⟨_, rfl⟩
    rw [← hw4] at B4 KT4 KS4 K54 ⊢
    clear hw4 KT KS K5 B3
    have cl0 : w4.cell? ⟨w.heap.size + 1, 0, none⟩ = some (.int .i64 M) := KS4.out.cell 0
    have cl1 : w4.cell? ⟨w.heap.size + 1, 1, none⟩ = some (.int .i64 N) := KS4.out.cell 1
    by_cases hbad : M < 0 ∨ N ≤ M ∨ 2147483647 < N
    · by_cases h1 : M < 0
      · clear hbad
        go_wp2
        go_ret
        exact ⟨rfl, B4.out⟩
      · by_cases h2 : N ≤ M
        · clear hbad
          go_wp2
          go_ret
          exact ⟨rfl, B4.out⟩
        · have h3 : 2147483647 < N := by omega
          clear hbad
          go_wp2
          go_ret
          exact ⟨rfl, B4.out⟩
    · have h1 : ¬ M < 0 := fun h => hbad (.inl h)
      have h2 : ¬ N ≤ M := fun h => hbad (.inr (.inl h))
      have h3 : ¬ 2147483647 < N := fun h => hbad (.inr (.inr h))
      obtain ⟨i1, hi1⟩ : ∃ i1, i1 = M + 1 := ⟨_, rfl⟩
      have hw1 : IntKind.i64.wrap i1 = i1 := IntWalk.i64_in _ (by omega)
      have q1 : M + 1 = i1 := hi1.symm
      have t0 : w4.cell? ⟨w.heap.size, 0, none⟩ = some (.slice A n c) := KT4.out.cell 0
      go_upto_region 9 with ((with_reducible refine op_g (.build 29 _) rfl ?_); refine wpList_build rfl 29 _ rfl (built_gRng12 _ _ _ _) ?_)
      have b5 : Below w4.heap.size w4 (w4.alloc (.cells (rgc 0 M (.slice A n c)) 29)) := (Below.refl _ _).alloc (Nat.le_refl _) _
      have K6 := hid (Blk.new w4 29 (rgc 0 M (.slice A n c)))
      have KT5 := hid (KT4.out.below b5); have KS5 := hid (KS4.out.below b5); have K55 := hid (K54.out.below b5); have B5 := hid (B4.out.trans (b5.mono B4.out.size))
      clear t0 cl0 cl1 b5 KT4 KS4 K54 B4
      obtain ⟨g6, hg6⟩ : ∃ g6, g6 = w4.heap.size := ⟨_, rfl⟩
      rw [← hg6] at K6 ⊢
      generalize w4.alloc (.cells (rgc 0 M (.slice A n c)) 29) = w5 at K6 KT5 KS5 K55 B5 ⊢
      clear hg6
      obtain ⟨v7, hv7⟩ : ∃ v7, v7 = allV ⟨0, M, Ah⟩ ⟨M, i1, [h]⟩ ⟨i1, N, Be⟩ := ⟨_, rfl⟩
      obtain ⟨v9, hv9⟩ : ∃ v9, v9 = rtV 0 M Ah := ⟨_, rfl⟩
      obtain ⟨v11, hv11⟩ : ∃ v11, v11 = allV ⟨0, M, Ah⟩ ⟨M, N, Be⟩ ⟨N, N, []⟩ := ⟨_, rfl⟩
      have o7 : H32 v7 := by rw [hv7]; exact allV_h32 HA.out.ok (fun f hf => by rw [List.mem_singleton.1 hf]; exact HH.out) HB.out.ok
      have o9 : H32 v9 := by rw [hv9]; exact rtV_ok HA.out.ok
      have o11 : H32 v11 := by rw [hv11]; exact allV_h32 HA.out.ok HB.out.ok (fun f hf => by cases hf)
      have ca1 := fun (w' : World) (hb : Below w.heap.size w w') (g : Nat) (h1' : InH w' (some ⟨g, 0, none⟩) 1 [h]) => gAll_any (r := ⟨0, M, Ah⟩) (s := ⟨M, i1, [h]⟩) (t := ⟨i1, N, Be⟩) (HA.out.below hb) h1' (HB.out.below hb) HN.out (by decide) HM.out HNC.out (Nat.le_refl 1) HMD.out
      have cr := fun (w' : World) (hb : Below w.heap.size w w') => gRoot_x (x := 0) (y := M) (HA.out.below hb) HN.out HNC.out
      have ca2 := fun (w' : World) (hb : Below w.heap.size w w') => gAll_any (r := ⟨0, M, Ah⟩) (s := ⟨M, N, Be⟩) (t := ⟨N, N, []⟩) (C := none) (p := 0) (q := 0) (HA.out.below hb) (HB.out.below hb) (InH.nil w' none) HN.out HM.out (by decide) HNC.out HMD.out (Nat.le_refl 0)
      unfold AlA at ca1 ca2
      unfold RtA at cr
      simp only [← hv7] at ca1
      simp only [← hv9] at cr
      simp only [← hv11] at ca2
      generalize allB ⟨0, M, Ah⟩ ⟨M, i1, [h]⟩ ⟨i1, N, Be⟩ = b7 at ca1
      generalize rtQ 0 M Ah.length = b9 at cr
      generalize allB ⟨0, M, Ah⟩ ⟨M, N, Be⟩ ⟨N, N, []⟩ = b11 at ca2
      have hb5 : Below w5.heap.size w5 (w5.alloc (.cells (hcs [h]).toArray 33)) := (Below.refl _ _).alloc (Nat.le_refl _) _
      have nb : Blk (w5.alloc (.cells (hcs [h]).toArray 33)) w5.heap.size 33 (hcs [h]).toArray := Blk.new w5 33 (hcs [h]).toArray
      have hin1 : InH (w5.alloc (.cells (hcs [h]).toArray 33)) (some ⟨w5.heap.size, 0, none⟩) 1 [h] := inh_blk nb (fun f hf => by rw [List.mem_singleton.1 hf]; exact HH.out) (by simp)
      have B6 := hid (B5.out.trans (hb5.mono B5.out.size))
      have CA1 : Hid (Calls Tryd.prog 36 #[.agg (rgc 0 M (.slice A n c)), .agg (rgc M i1 (.slice (some ⟨w5.heap.size, 0, none⟩) 1 1)), .agg (rgc i1 N (.slice B m d))] (w5.alloc (.cells (hcs [h]).toArray 33)) fun e w' => e = .returned (.tuple #[hV v7, .bool b7]) ∧ Below (w5.alloc (.cells (hcs [h]).toArray 33)).heap.size (w5.alloc (.cells (hcs [h]).toArray 33)) w') := ca1 _ B6.out w5.heap.size hin1
      have CR := hid cr
      have CA2 : Hid (∀ (w' : World), Below w.heap.size w w' → Calls Tryd.prog 36 #[.agg (rgc 0 M (.slice A n c)), .agg (rgc M N (.slice B m d)), .agg (rgc N N (.slice none 0 0))] w' fun e w'' => e = .returned (.tuple #[hV v11, .bool b11]) ∧ Below w'.heap.size w' w'') := fun w' hb => ca2 w' hb
      have HI7 := hid (info_hash v7 o7.len); have HI9 := hid (info_hash v9 o9.len); have HI11 := hid (info_hash v11 o11.len)
      have HZ7 := hid (hz_size HZ o7); have HZ9 := hid (hz_size HZ o9); have HZ11 := hid (hz_size HZ o11)
      have HO7 := hid o7; have HO9 := hid o9; have HO11 := hid o11
      have s0 : w5.cell? ⟨w.heap.size + 1, 0, none⟩ = some (.int .i64 M) := KS5.out.cell 0
      have KS6 := hid (KS5.out.below hb5); have KT6 := hid (KT5.out.below hb5); have K56 := hid (K55.out.below hb5); have K66 := hid (K6.out.below hb5)
      have s01 : (w5.alloc (.cells (hcs [h]).toArray 33)).cell? ⟨w.heap.size + 1, 0, none⟩ = some (.int .i64 M) := KS6.out.cell 0
      have s1 : (w5.alloc (.cells (hcs [h]).toArray 33)).cell? ⟨w.heap.size + 1, 1, none⟩ = some (.int .i64 N) := KS6.out.cell 1
      have t1 : (w5.alloc (.cells (hcs [h]).toArray 33)).cell? ⟨w.heap.size, 1, none⟩ = some (.slice B m d) := KT6.out.cell 1
      clear hv7 hv9 hv11 o7 o9 o11 ca1 cr ca2 hb5 nb hin1 hi1 hbad
      go_upto_region 10 with (first
        | (with_reducible refine load_g 29 (.tmp 6) rfl ?_; refine load_pl 29 (.tmp 6) rfl rfl g6 0 rfl _ _ (gblk_rng K6.out) Tryd.underlying29 rfl (info_gRng _ _ _) (rgc 0 M (.slice A n c)) rfl ?_)
        | ((with_reducible refine op_g (.build 29 _) rfl ?_); refine wpList_build rfl 29 _ rfl (built_gRng _ _ _ _ _) ?_)
        | ((with_reducible refine op_g (.load 33 (.tmp 93)) rfl ?_); refine load_pl 33 (.tmp 93) rfl rfl (w.heap.size + 1) 2 rfl (u8s h) _ (said_h KS5.out) Tryd.underlying33 rfl HIH.out (hc32 h) rfl ?_)
        | ((with_reducible refine op_g (.buildSlice 22 1 _) rfl ?_); refine wpList_hash_one rfl (.tmp 94) rfl h HH.out rfl ?_)
        | (go_at_call 36; go_loud (have hj := CA1.out; with_reducible refine hj.mono ?_; clear hj); rintro e w7 ⟨rfl, hb⟩; have hb' := below_setRow (hb.alloc hb.size (.cells Z 33)) hb.size (hc32 v7); have B7 := hid (B6.out.trans (hb'.mono B6.out.size)); have KS7 := hid (KS6.out.below hb'); have KT7 := hid (KT6.out.below hb'); have K57 := hid (K56.out.below hb'); have K67 := hid (K66.out.below hb'); have KZ := hid (Blk.new w7 33 Z); have KV7 := hid (KZ.out.row (hc32 v7)); clear hb hb')
        | ((with_reducible refine op_g (.store 33 (.tmp 7) (.tmp 106)) rfl ?_); refine wpList_store_row rfl 33 (.tmp 7) (.tmp 106) rfl w7.heap.size (hc32 v7) rfl rfl 33 Z KZ.out HI7.out HZ7.out (u8s_all _) ?_))
      clear s0 s01 s1 t1 KS5 KT5 K55 K6 KS6 KT6 K56 K66 B5 B6 KZ CA1
      obtain ⟨g7, hg7⟩ : ∃ g7, g7 = w7.heap.size := ⟨_, rfl⟩
      rw [← hg7] at KS7 KT7 K57 K67 KV7 B7 ⊢
      generalize (w7.alloc (.cells Z 33)).setRow g7 (hc32 v7) = x7 at B7 KS7 KT7 K57 K67 KV7 ⊢
      clear hg7
      go_upto_region 11 with (first
        | (with_reducible refine load_g 29 (.tmp 6) rfl ?_; refine load_pl 29 (.tmp 6) rfl rfl g6 0 rfl _ _ (gblk_rng K67.out) Tryd.underlying29 rfl (info_gRng _ _ _) (rgc 0 M (.slice A n c)) rfl ?_)
        | (go_at_call 22; go_loud (have hj := CR.out _ B7.out; with_reducible refine hj.mono ?_; clear hj); rintro e w8 ⟨rfl, hb⟩; have hb' := below_setRow (hb.alloc hb.size (.cells Z 33)) hb.size (hc32 v9); have B8 := hid (B7.out.trans (hb'.mono B7.out.size)); have KS8 := hid (KS7.out.below hb'); have KT8 := hid (KT7.out.below hb'); have K58 := hid (K57.out.below hb'); have K68 := hid (K67.out.below hb'); have KV78 := hid (KV7.out.below hb'); have KZ := hid (Blk.new w8 33 Z); have KV9 := hid (KZ.out.row (hc32 v9)); clear hb hb')
        | ((with_reducible refine op_g (.store 33 (.tmp 9) (.tmp 111)) rfl ?_); refine wpList_store_row rfl 33 (.tmp 9) (.tmp 111) rfl w8.heap.size (hc32 v9) rfl rfl 33 Z KZ.out HI9.out HZ9.out (u8s_all _) ?_))
      clear KS7 KT7 K57 K67 KV7 B7 KZ CR
      obtain ⟨g9, hg9⟩ : ∃ g9, g9 = w8.heap.size := ⟨_, rfl⟩
      rw [← hg9] at KS8 KT8 K58 K68 KV78 KV9 B8 ⊢
      generalize (w8.alloc (.cells Z 33)).setRow g9 (hc32 v9) = x8 at B8 KS8 KT8 K58 K68 KV78 KV9 ⊢
      clear hg9
      have s0 : x8.cell? ⟨w.heap.size + 1, 0, none⟩ = some (.int .i64 M) := KS8.out.cell 0
      have s1 : x8.cell? ⟨w.heap.size + 1, 1, none⟩ = some (.int .i64 N) := KS8.out.cell 1
      have t1 : x8.cell? ⟨w.heap.size, 1, none⟩ = some (.slice B m d) := KT8.out.cell 1
      go_upto_region 12 with (first
        | (with_reducible refine load_g 29 (.tmp 6) rfl ?_; refine load_pl 29 (.tmp 6) rfl rfl g6 0 rfl _ _ (gblk_rng K68.out) Tryd.underlying29 rfl (info_gRng _ _ _) (rgc 0 M (.slice A n c)) rfl ?_)
        | ((with_reducible refine op_g (.build 29 _) rfl ?_); refine wpList_build rfl 29 _ rfl (built_gRng _ _ _ _ _) ?_)
        | ((with_reducible refine op_g (.build 29 _) rfl ?_); refine wpList_build rfl 29 _ rfl (built_gRng2 _ _) ?_)
        | (go_at_call 36; go_loud (have hj := CA2.out _ B8.out; with_reducible refine hj.mono ?_; clear hj); rintro e w9 ⟨rfl, hb⟩; have hb' := below_setRow (hb.alloc hb.size (.cells Z 33)) hb.size (hc32 v11); have B9 := hid (B8.out.trans (hb'.mono B8.out.size)); have KS := hid (KS8.out.below hb'); have KT := hid (KT8.out.below hb'); have K5 := hid (K58.out.below hb'); have K7 := hid (KV78.out.below hb'); have K9 := hid (KV9.out.below hb'); have KZ := hid (Blk.new w9 33 Z); have KV11 := hid (KZ.out.row (hc32 v11)); clear hb hb')
        | ((with_reducible refine op_g (.store 33 (.tmp 11) (.tmp 128)) rfl ?_); refine wpList_store_row rfl 33 (.tmp 11) (.tmp 128) rfl w9.heap.size (hc32 v11) rfl rfl 33 Z KZ.out HI11.out HZ11.out (u8s_all _) ?_))
      clear s0 s1 t1 KS8 KT8 K58 K68 KV78 KV9 B8 KZ CA2
      obtain ⟨g11, hg11⟩ : ∃ g11, g11 = w9.heap.size := ⟨_, rfl⟩
      have K11 := KV11
      clear KV11
      rw [← hg11] at KS KT K5 K7 K9 K11 B9 ⊢
      generalize (w9.alloc (.cells Z 33)).setRow g11 (hc32 v11) = x9 at B9 KS KT K5 K7 K9 K11 ⊢
      clear hg11
      have c1 := fun (w' : World) (hb : Below x9.heap.size x9 w') => jIsEntry_any (i := M) (k := N) (c := c) (d := d) (HA.out.below (B9.out.trans (hb.mono B9.out.size))) (HB.out.below (B9.out.trans (hb.mono B9.out.size))) HN.out HM.out HH.out HO7.out (HTb.out.below (B9.out.trans (hb.mono B9.out.size))) (HTd.out.below (B9.out.trans (hb.mono B9.out.size)))
      have c2 := fun (w' : World) (hb : Below x9.heap.size x9 w') => jrIsEntry_any (i := M) (k := N) (HA.out.below (B9.out.trans (hb.mono B9.out.size))) (HB.out.below (B9.out.trans (hb.mono B9.out.size))) HN.out HM.out HNC.out HMD.out HH.out HO7.out HMM.out
      have c3 := fun (w' : World) (hb : Below x9.heap.size x9 w') => jIsGrowth_any (i := M) (k := N) (c := c) (d := d) (HA.out.below (B9.out.trans (hb.mono B9.out.size))) (HB.out.below (B9.out.trans (hb.mono B9.out.size))) HN.out HM.out HO9.out HO11.out (HTb.out.below (B9.out.trans (hb.mono B9.out.size))) (HTd.out.below (B9.out.trans (hb.mono B9.out.size)))
      have c4 := fun (w' : World) (hb : Below x9.heap.size x9 w') => jrIsGrowth_any (i := M) (k := N) (HA.out.below (B9.out.trans (hb.mono B9.out.size))) (HB.out.below (B9.out.trans (hb.mono B9.out.size))) HN.out HM.out HNC.out HMD.out HO9.out HO11.out
      generalize ieB M (IntKind.i64.wrap (M + 1)) N Ah h Be v7 = v1 at c1 c2
      generalize igB M N Ah Be v9 v11 = v2 at c3 c4
      have C1 := hid c1; have C2 := hid c2; have C3 := hid c3; have C4 := hid c4
      have hv1 : (v1 == v1) = true := by simp
      have hv2 : (v2 == v2) = true := by simp
      have cl0 := fun p : PW (Kp x9) => (KS.out.below p.h).cell 0
      have cl1 := fun p : PW (Kp x9) => (KS.out.below p.h).cell 1
      have s0 : (sdc M N h r)[0]? = some (.int .i64 M) := rfl
      have s1 : (sdc M N h r)[1]? = some (.int .i64 N) := rfl
      simp only [s0] at cl0
      simp only [s1] at cl1
      clear c1 c2 c3 c4 s0 s1
      refine region_kept (Kp x9) (by kernel_rfl) (by kernel_rfl) (kp_begin x9) ?_
      repeat (first
        | go_big_quiet_skip
        | (go_big_quiet_want; refine quiet_load 48 (.tmp 5) rfl g5 0 rfl (tlc A n c B m d).toList _ (fun p => fblk_rng (K5.out.below p.h)) Tryd.underlying48 rfl (info_jTrail _ _) (tlc A n c B m d) rfl ?_; go_big_quiet_on; simp only [Act.put, List.setIfInBounds_toArray, List.set_cons_zero, List.set_cons_succ])
        | (go_big_quiet_want; refine quiet_load 51 (.tmp 2) rfl w.heap.size 0 rfl (tlc A n c B m d).toList _ (fun p => fblk_rng (KT.out.below p.h)) Tryd.underlying51 rfl (info_jrTrail _ _) (tlc A n c B m d) rfl ?_; go_big_quiet_on; simp only [Act.put, List.setIfInBounds_toArray, List.set_cons_zero, List.set_cons_succ])
        | (go_big_quiet_want; refine quiet_load 33 (.tmp 135) rfl (w.heap.size + 1) 2 rfl (u8s h) _ (fun p => said_h (KS.out.below p.h)) Tryd.underlying33 rfl HIH.out (hc32 h) rfl ?_; go_big_quiet_on; simp only [Act.put, List.setIfInBounds_toArray, List.set_cons_zero, List.set_cons_succ])
        | (go_big_quiet_want; refine quiet_load 33 (.tmp 144) rfl (w.heap.size + 1) 2 rfl (u8s h) _ (fun p => said_h (KS.out.below p.h)) Tryd.underlying33 rfl HIH.out (hc32 h) rfl ?_; go_big_quiet_on; simp only [Act.put, List.setIfInBounds_toArray, List.set_cons_zero, List.set_cons_succ])
        | (go_big_quiet_want; refine quiet_load 33 (.tmp 7) rfl g7 0 rfl (u8s v7) _ (fun p => blk_row (K7.out.below p.h)) Tryd.underlying33 rfl HI7.out (hc32 v7) rfl ?_; go_big_quiet_on; simp only [Act.put, List.setIfInBounds_toArray, List.set_cons_zero, List.set_cons_succ])
        | (go_big_quiet_want; refine quiet_load 33 (.tmp 9) rfl g9 0 rfl (u8s v9) _ (fun p => blk_row (K9.out.below p.h)) Tryd.underlying33 rfl HI9.out (hc32 v9) rfl ?_; go_big_quiet_on; simp only [Act.put, List.setIfInBounds_toArray, List.set_cons_zero, List.set_cons_succ])
        | (go_big_quiet_want; refine quiet_load 33 (.tmp 11) rfl g11 0 rfl (u8s v11) _ (fun p => blk_row (K11.out.below p.h)) Tryd.underlying33 rfl HI11.out (hc32 v11) rfl ?_; go_big_quiet_on; simp only [Act.put, List.setIfInBounds_toArray, List.set_cons_zero, List.set_cons_succ])
        | (go_big_quiet_want; go_big_quiet_op; first | go_big_quiet_on | go_big_quiet_call (first
          | (go_at_call 32; with_reducible exact kp_call (C1.out _ (PW.h _)))
          | (go_at_call 33; with_reducible exact kp_call (C2.out _ (PW.h _)))
          | (go_at_call 34; with_reducible exact kp_call (C3.out _ (PW.h _)))
          | (go_at_call 35; with_reducible exact kp_call (C4.out _ (PW.h _))))))
      refine wpQuiet_nil ?_
      intro _ hw'
      obtain ⟨p, hw''⟩ := hw'
      subst hw''
      go_wp2
      go_ret
      exact ⟨by simp, B9.out.trans (p.h.mono B9.out.size)⟩
  · have ef : (decide (n ≤ 70) && decide (m ≤ 70)) = false := by
      rcases Nat.lt_or_ge 70 n with h1 | h1
      · simp [show ¬ n ≤ 70 by omega]
      · simp [show ¬ m ≤ 70 by omega]
    simp only [ef] at cfw
    have CF := hid cfw
    clear cfw ef hf
    go_enter Tryd.func7, Tryd.ntmps7
    go_upto_region 2 with (first
      | (go_at_call 25; refine (CA.out _ B0.out).mono ?_; rintro e w1 ⟨rfl, hb⟩; have B1 := hid (B0.out.trans (hb.mono B0.out.size)); have KT1 := hid (KT0.out.below hb); clear hb)
      | (refine load_at rfl 51 (.tmp 2) rfl w.heap.size 0 rfl _ _ (fblk_rng KT1.out) Tryd.underlying51 rfl (info_jrTrail _ _) (tlc A n c B m d) rfl ?_)
      | (go_at_call 31; refine (CF.out _).mono ?_; rintro e w2 ⟨rfl, hb⟩; have B2 := hid (B1.out.trans (hb.mono B1.out.size)); clear hb))
    go_wp2_with (go_at_call 25; refine (CA.out _ B2.out).mono ?_; rintro e w3 ⟨rfl, hb⟩; have B3 := hid (B2.out.trans (hb.mono B2.out.size)); clear hb)
    go_ret
    exact ⟨rfl, B3.out⟩
end Go.Proofs.YtoacjaecfabahaaDoor
