/-
  What is proved here: who has a right trail of a list's root for an entry that isn't at that place has two different texts with one hash: the walk of the statement.
-/
import Derived.Test.YtoacjaecfabahaaDoorMJB
import Derived.Test.YtoacjaecfabahaaDoorMK4
import Derived.Deep.QuietTactic
set_option linter.unusedSimpArgs false
set_option linter.unusedVariables false
namespace Go.Proofs.YtoacjaecfabahaaDoor
open Go.ChangeShapes Go.WideShapes Go.ChangeAt Go.RowKit
set_option linter.unusedVariables false
set_option linter.unusedSimpArgs false
set_option maxRecDepth 20000

set_option maxHeartbeats 16000000 in
theorem tentries_walk {M N : Int} {A A1 B1 : Option Addr} {n c n1 c1 m1 d1 : Nat} {L Ah Be : List (List Int)} {h r : List Int} {w : World} (hL : InH w A n L) (hnc : n ≤ c) (hA : InH w A1 n1 Ah) (hnc1 : n1 ≤ c1) (hB : InH w B1 m1 Be) (hmd1 : m1 ≤ d1) (hM : -9223372036854775808 ≤ M ∧ M ≤ 9223372036854775807) (hh : H32 h) (hr : H32 r) (hTb0 : Tab w) (hTd0 : TabD w) :
    Calls Tryd.prog 9 #[.slice A n c, .agg (tlc A1 n1 c1 B1 m1 d1), .agg (sdc M N h r)] w fun e w' => e = .returned (.bool true) ∧ Below w.heap.size w w' := by
  have k1 := (Blk.new w 51 (tlc A1 n1 c1 B1 m1 d1)).alloc (.cells (sdc M N h r) 57)
  have k2 := Blk.new (w.alloc (.cells (tlc A1 n1 c1 B1 m1 d1) 51)) 57 (sdc M N h r)
  rw [show (w.alloc (.cells (tlc A1 n1 c1 B1 m1 d1) 51)).heap.size = w.heap.size + 1 by simp] at k2
  have b1 : Below w.heap.size w ((w.alloc (.cells (tlc A1 n1 c1 B1 m1 d1) 51)).alloc (.cells (sdc M N h r) 57)) := ((Below.refl _ _).alloc (Nat.le_refl _) _).alloc (by simp) _
  obtain ⟨w0, hw0⟩ : ∃ w0, w0 = (w.alloc (.cells (tlc A1 n1 c1 B1 m1 d1) 51)).alloc (.cells (sdc M N h r) 57) := ⟨_, rfl⟩
  rw [← hw0] at k1 k2 b1
  have KT := hid k1; have KS := hid k2; have B0 := hid b1
  have HL := hid hL; have HA := hid hA; have HB := hid hB
  have HTb := hid (hTb0.below b1); have HTd := hid (hTd0.below b1)
  have CA := hid (fun (w' : World) (hb : Below w0.heap.size w0 w') => jawake_any w' (HTb.out.below hb) (HTd.out.below hb))
  have cf := fun (w' : World) => jfew_any A1 n1 c1 B1 m1 d1 w'
  have HIH := hid (info_hash h hh.len)
  have cl0 := fun p : PW (Kp w0) => (KS.out.below p.h).cell 0
  have s0 : (sdc M N h r)[0]? = some (.int .i64 M) := rfl
  simp only [s0] at cl0
  have HNC := hid hnc; have HNC1 := hid hnc1; have HMD1 := hid hmd1; have HH := hid hh; have HMM := hid hM
  clear s0 k1 k2 b1 hA hB hTb0 hTd0 hnc1 hmd1 hr hM
  by_cases h40 : n ≤ 40
  · have h40' : ¬ ((40 : Int) < (n : Int)) := by omega
    by_cases hf : n1 ≤ 70 ∧ m1 ≤ 70
    · have ef : (decide (n1 ≤ 70) && decide (m1 ≤ 70)) = true := by simp [hf.1, hf.2]
      simp only [ef] at cf
      have CF := hid cf
      obtain ⟨rt, hrt⟩ : ∃ rt, rt = rootL ndF emp L := ⟨_, rfl⟩
      have hro : H32 rt := by rw [hrt]; exact root_ok hL.ok
      have clr := fun (w' : World) (hb : Below w0.heap.size w0 w') => gList_any (c := c) ((hL.below B0.out).below hb) (show n < 1000000 by omega) hnc
      simp only [← hrt] at clr
      have CL := hid clr
      obtain ⟨v, hv⟩ : ∃ v, v = ieB M (IntKind.i64.wrap (M + 1)) (n : Int) Ah h Be rt := ⟨_, rfl⟩
      have ci := fun (w' : World) (hb : Below w0.heap.size w0 w') => jIsEntry_any (i := M) (k := (n : Int)) (c := c1) (d := d1) ((HA.out.below B0.out).below hb) ((HB.out.below B0.out).below hb) (show n1 < 1000000 by omega) (show m1 < 1000000 by omega) HH.out hro (HTb.out.below hb) (HTd.out.below hb)
      simp only [← hv] at ci
      have CI := hid ci
      have HV := hid hv; have HRT := hid hrt
      have HN1 := hid hf.1; have HM1 := hid hf.2
      have hl := hL.1
      cases v with
      | false =>
        clear cf ef hf hrt hro clr hv ci hL hnc hh hl h40
        go_enter Tryd.func9, Tryd.ntmps9
        go_upto_region 1 with fail
        rw [← hw0]
        clear hw0
        refine region_kept (Kp w0) (by kernel_rfl) (by kernel_rfl) (kp_begin w0) ?_
        repeat (first
          | go_big_quiet_skip
          | (go_big_quiet_want; refine quiet_load 51 (.tmp 4) rfl w.heap.size 0 rfl (tlc A1 n1 c1 B1 m1 d1).toList _ (fun p => fblk_rng (KT.out.below p.h)) Tryd.underlying51 rfl (info_jrTrail _ _) (tlc A1 n1 c1 B1 m1 d1) rfl ?_; go_big_quiet_on; simp only [Act.put, List.setIfInBounds_toArray, List.set_cons_zero, List.set_cons_succ])
          | (go_big_quiet_want; refine quiet_load 33 (.tmp 25) rfl (w.heap.size + 1) 2 rfl (u8s h) _ (fun p => said_h (KS.out.below p.h)) Tryd.underlying33 rfl HIH.out (hc32 h) rfl ?_; go_big_quiet_on; simp only [Act.put, List.setIfInBounds_toArray, List.set_cons_zero, List.set_cons_succ])
          | (go_big_quiet_want; go_big_quiet_op; first | go_big_quiet_on | go_big_quiet_call (first
            | (go_at_call 25; with_reducible exact kp_call (CA.out _ (PW.h _)))
            | (go_at_call 31; with_reducible exact kp_call (CF.out _))
            | (go_at_call 19; with_reducible exact kp_call (CL.out _ (PW.h _)))
            | (go_at_call 32; with_reducible exact kp_call (CI.out _ (PW.h _))))))
        refine wpQuiet_nil ?_
        intro _ hw'
        obtain ⟨p, hw''⟩ := hw'
        subst hw''
        have BX := hid (B0.out.trans (p.h.mono B0.out.size))
        go_wp2_with (go_at_call 25; refine (CA.out _ p.h).mono ?_; rintro e wy ⟨rfl, hb⟩; have BY := hid (BX.out.trans (hb.mono BX.out.size)); clear hb)
        go_ret
        exact ⟨rfl, BY.out⟩
      | true =>
        obtain ⟨i, rfl, hin, hga, hgb, hcl⟩ := entry_clash (M := M) (i1 := IntKind.i64.wrap (M + 1)) hl (by omega) HA.out.ok HB.out.ok HH.out hL.ok (by
          by_cases h9 : M = 9223372036854775807
          · exact .inr (by subst h9; decide)
          · exact .inl (IntWalk.i64_in _ (by have := HMM.out; omega))) (by rw [← HRT.out]; exact HV.out.symm)
        obtain ⟨b, o, K, rfl, hK, h32, hblt, hrr⟩ := hL.at hin
        have hKD : L[i]?.getD [] = K := by rw [hK]; rfl
        have hin2 : ¬ ((n : Int) ≤ (i : Int)) := by omega
        have hin3 : ¬ ((i : Int) < 0) := by omega
        have hin4 : (i : Int) < (n : Int) := by omega
        have HIN := hid hin; have HN40 := hid h40
        have HKR := hid (fun (w' : World) (hb : Below w.heap.size w w') => show w'.rangeAt b (o + i * 32) (u8s K) from rng_below hrr hb hblt)
        have HIK := hid (info_hash K h32.len)
        have heq := fun w => eql_h K h h32 HH.out w
        have HGA := hid hga; have HGB := hid hgb; have HCL := hid hcl; have HKD := hid hKD
        have HLO := hid (fun q (hq : q ∈ L) => hL.ok q hq)
        have HHL := hid hl
        clear hga hgb hcl hK h32 hblt hrr hKD
        clear cf ef hf hrt hro clr hv ci hL hnc hh hl h40
        go_enter Tryd.func9, Tryd.ntmps9
        go_upto_region 1 with fail
        rw [← hw0]
        clear hw0
        refine region_kept (Kp w0) (by kernel_rfl) (by kernel_rfl) (kp_begin w0) ?_
        repeat (first
          | go_big_quiet_skip
          | (go_big_quiet_want; refine quiet_load 51 (.tmp 4) rfl w.heap.size 0 rfl (tlc A1 n1 c1 B1 m1 d1).toList _ (fun p => fblk_rng (KT.out.below p.h)) Tryd.underlying51 rfl (info_jrTrail _ _) (tlc A1 n1 c1 B1 m1 d1) rfl ?_; go_big_quiet_on; simp only [Act.put, List.setIfInBounds_toArray, List.set_cons_zero, List.set_cons_succ])
          | (go_big_quiet_want; refine quiet_load 33 (.tmp 25) rfl (w.heap.size + 1) 2 rfl (u8s h) _ (fun p => said_h (KS.out.below p.h)) Tryd.underlying33 rfl HIH.out (hc32 h) rfl ?_; go_big_quiet_on; simp only [Act.put, List.setIfInBounds_toArray, List.set_cons_zero, List.set_cons_succ])
          | (go_big_quiet_want; go_big_quiet_op; first | go_big_quiet_on | go_big_quiet_call (first
            | (go_at_call 25; with_reducible exact kp_call (CA.out _ (PW.h _)))
            | (go_at_call 31; with_reducible exact kp_call (CF.out _))
            | (go_at_call 19; with_reducible exact kp_call (CL.out _ (PW.h _)))
            | (go_at_call 32; with_reducible exact kp_call (CI.out _ (PW.h _))))))
        refine wpQuiet_nil ?_
        intro _ hw'
        obtain ⟨p, hw''⟩ := hw'
        subst hw''
        have B4 := hid (B0.out.trans (p.h.mono B0.out.size))
        have KT4 := hid (KT.out.below p.h); have KS4 := hid (KS.out.below p.h)
        obtain ⟨w4, hw4⟩ : ∃ w4, w4 = p.w := ⟨_, rfl⟩
        rw [← hw4] at B4 KT4 KS4 ⊢
        clear hw4 cl0
        have m0 : w4.cell? ⟨w.heap.size + 1, 0, none⟩ = some (.int .i64 (i : Int)) := KS4.out.cell 0
        have cl0 := fun p : PW (Kp w4) => (KS4.out.below p.h).cell 0
        have s0 : (sdc (i : Int) N h r)[0]? = some (.int .i64 (i : Int)) := rfl
        simp only [s0] at cl0
        clear s0 CI CL CF
        by_cases hKh : K = h
        · rw [decide_eq_true hKh] at heq
          clear hKh
          go_upto_region 5 with fail
          refine region_kept (Kp w4) (by kernel_rfl) (by kernel_rfl) (kp_begin w4) ?_
          repeat (first
            | go_big_quiet_skip
            | (go_big_quiet_want; refine quiet_load 33 (.tmp 46) rfl b (o + i * 32) rfl (u8s K) _ (fun p => HKR.out _ (B4.out.trans (p.h.mono B4.out.size))) Tryd.underlying33 rfl HIK.out (hc32 K) rfl ?_; go_big_quiet_on; simp only [Act.put, List.setIfInBounds_toArray, List.set_cons_zero, List.set_cons_succ])
            | (go_big_quiet_want; refine quiet_load 33 (.tmp 48) rfl (w.heap.size + 1) 2 rfl (u8s h) _ (fun p => said_h (KS4.out.below p.h)) Tryd.underlying33 rfl HIH.out (hc32 h) rfl ?_; go_big_quiet_on; simp only [Act.put, List.setIfInBounds_toArray, List.set_cons_zero, List.set_cons_succ])
            | (go_big_quiet_want; go_big_quiet_op; first | go_big_quiet_on))
          refine wpQuiet_nil ?_
          intro _ hw'
          obtain ⟨p, hw''⟩ := hw'
          subst hw''
          go_wp2
          go_ret
          exact ⟨rfl, B4.out.trans (p.h.mono B4.out.size)⟩
        · rw [decide_eq_false hKh] at heq
          have CLR := hid (HCL.out (by rw [HKD.out]; exact hKh))
          clear hKh
          go_upto_region 5 with fail
          refine region_kept (Kp w4) (by kernel_rfl) (by kernel_rfl) (kp_begin w4) ?_
          repeat (first
            | go_big_quiet_skip
            | (go_big_quiet_want; refine quiet_load 33 (.tmp 46) rfl b (o + i * 32) rfl (u8s K) _ (fun p => HKR.out _ (B4.out.trans (p.h.mono B4.out.size))) Tryd.underlying33 rfl HIK.out (hc32 K) rfl ?_; go_big_quiet_on; simp only [Act.put, List.setIfInBounds_toArray, List.set_cons_zero, List.set_cons_succ])
            | (go_big_quiet_want; refine quiet_load 33 (.tmp 48) rfl (w.heap.size + 1) 2 rfl (u8s h) _ (fun p => said_h (KS4.out.below p.h)) Tryd.underlying33 rfl HIH.out (hc32 h) rfl ?_; go_big_quiet_on; simp only [Act.put, List.setIfInBounds_toArray, List.set_cons_zero, List.set_cons_succ])
            | (go_big_quiet_want; go_big_quiet_op; first | go_big_quiet_on))
          refine wpQuiet_nil ?_
          intro _ hw'
          obtain ⟨p, hw''⟩ := hw'
          subst hw''
          go_upto_region 7 with fail
          have B5 := hid (B4.out.trans (p.h.mono B4.out.size))
          have KT5 := hid (KT4.out.below p.h); have KS5 := hid (KS4.out.below p.h)
          obtain ⟨w5, hw5⟩ : ∃ w5, w5 = p.w := ⟨_, rfl⟩
          rw [← hw5] at B5 KT5 KS5 ⊢
          clear hw5 cl0 m0
          have m0 : w5.cell? ⟨w.heap.size + 1, 0, none⟩ = some (.int .i64 (i : Int)) := KS5.out.cell 0
          have hb6 : Below w5.heap.size w5 (w5.alloc (.cells (hcs [h]).toArray 33)) := (Below.refl _ _).alloc (Nat.le_refl _) _
          have nb : Blk (w5.alloc (.cells (hcs [h]).toArray 33)) w5.heap.size 33 (hcs [h]).toArray := Blk.new w5 33 (hcs [h]).toArray
          have B6 := hid (B5.out.trans (hb6.mono B5.out.size))
          have hc1 : InH (w5.alloc (.cells (hcs [h]).toArray 33)) (some ⟨w5.heap.size, 0, none⟩) 1 [h] := inh_blk nb (fun f hf => by rw [List.mem_singleton.1 hf]; exact HH.out) (by simp)
          have la := HA.out.1; have lb := HB.out.1
          have hct := jrTexts_any (x := i) (y := i + 1) (z := n) (q := 1) (HA.out.below B6.out) (HB.out.below B6.out) hc1 HNC1.out HMD1.out (Nat.le_refl _) rfl HIN.out (by have := HN40.out; omega) (Nat.le_refl _) (by have := HGA.out; omega) (by have := HGB.out; omega) (by rw [seg_one]; rfl)
          obtain ⟨X1, hX1⟩ : ∃ X1, X1 = allX 0 (seg 0 i ++ seg i (i + 1) ++ seg (i + 1) n) (Ah ++ [h] ++ Be) := ⟨_, rfl⟩
          have hel : (Ah ++ [h] ++ Be).length = (seg 0 i ++ seg i (i + 1) ++ seg (i + 1) n).length := by
            rw [List.length_append, List.length_append, List.length_append, List.length_append, HGA.out, HGB.out, seg_one]; rfl
          have hok := allX_ok (a := 0) hel (fun q hq => by
            rcases List.mem_append.1 hq with hq | hq
            · rcases List.mem_append.1 hq with hq | hq
              · exact HA.out.ok q hq
              · rw [List.mem_singleton.1 hq]; exact HH.out
            · exact HB.out.ok q hq)
          have hfew := allX_few (a := 0) hel (by rw [← hel, List.length_append, List.length_append]; have := HN1.out; have := HM1.out; simp; omega)
          rw [← hX1] at hct hok hfew
          unfold TxA at hct
          have CT := hid hct
          have ctr := fun (w' : World) (hb : Below w.heap.size w w') => jrTree_any (c := c) (HL.out.below hb) (by have := HN40.out; omega) HNC.out
          unfold TxA at ctr
          have CR := hid ctr
          obtain ⟨T1, hT1⟩ : ∃ T1, T1 = txs X1 := ⟨_, rfl⟩
          obtain ⟨T2, hT2⟩ : ∃ T2, T2 = txs (tX L) := ⟨_, rfl⟩
          have o1 := txs_ok hok
          have o2 := txs_ok (P := tX L) (treeX_ok L.length HLO.out)
          have f2 : (txs (tX L)).length ≤ 1000 := by rw [txs_len]; have h1 := tX_len L.length L; have h2 := HHL.out; have h3 := HN40.out; have h4 : (tX L).length = (treeX ndF emp Prod.mk L.length L).length := rfl; omega
          have ccl : clashV T1 T2 = true := by rw [hT1, hT2, hX1]; exact CLR.out
          rw [← hT1] at CT o1 hfew
          simp only [← hT2] at CR o2 f2
          have CCL := hid ccl; have O1 := hid o1; have O2 := hid o2; have F1 := hid hfew; have F2 := hid f2
          clear hT1 hT2 o1 o2 f2 ccl hfew hok hel hX1 hct ctr hb6 nb hc1 la lb CLR
          go_wp2_with (first
            | ((with_reducible refine load_g 51 (.tmp 4) rfl ?_); refine load_pl 51 (.tmp 4) rfl rfl w.heap.size 0 rfl _ _ (fblk_rng KT5.out) Tryd.underlying51 rfl (info_jrTrail _ _) (tlc A1 n1 c1 B1 m1 d1) rfl ?_)
            | ((with_reducible refine op_g (.load 33 (.tmp 56)) rfl ?_); refine load_pl 33 (.tmp 56) rfl rfl (w.heap.size + 1) 2 rfl (u8s h) _ (said_h KS5.out) Tryd.underlying33 rfl HIH.out (hc32 h) rfl ?_)
            | ((with_reducible refine op_g (.buildSlice 22 1 _) rfl ?_); refine wpList_hash_one rfl (.tmp 57) rfl h HH.out rfl ?_)
            | (go_at_call 38; go_loud (have hj := CT.out; with_reducible refine hj.mono ?_; clear hj); rintro e w7 ⟨v7, rfl, h7⟩; obtain ⟨A7, c7, hv7⟩ := h7.tx.len; subst hv7; have S7 := hid h7; have B7 := hid (B6.out.trans (h7.bl.mono B6.out.size)); clear h7)
            | (go_at_call 39; go_loud (have hj := CR.out _ B7.out; with_reducible refine hj.mono ?_; clear hj); rintro e w8 ⟨v8, rfl, h8⟩; obtain ⟨A8, c8, hv8⟩ := h8.tx.len; subst hv8; have B8 := hid (B7.out.trans (h8.bl.mono B7.out.size)); have R7 := hid ((S7.out.tx.below h8.bl).in O1.out.1 O1.out.2 F1.out); have R8 := hid (h8.tx.in O2.out.1 O2.out.2 F2.out); have cc := cClash_any (c := c7) (d := c8) w8 R7.out R8.out O1.out.2 O2.out.2; rw [CCL.out] at cc; have CC := hid cc; clear h8 cc)
            | (go_at_call 37; go_loud (have hj := CC.out; with_reducible refine hj.mono ?_; clear hj); rintro e w9 ⟨rfl, hb⟩; have B9 := hid (B8.out.trans (hb.mono B8.out.size)); clear hb))
          go_ret
          exact ⟨rfl, B9.out⟩

    · have ef : (decide (n1 ≤ 70) && decide (m1 ≤ 70)) = false := by
        rcases Nat.lt_or_ge 70 n1 with h1 | h1
        · simp [show ¬ n1 ≤ 70 by omega]
        · simp [show ¬ m1 ≤ 70 by omega]
      simp only [ef] at cf
      have CF := hid cf
      clear cf ef hf hL hnc hh h40
      go_enter Tryd.func9, Tryd.ntmps9
      go_upto_region 1 with fail
      rw [← hw0]
      clear hw0
      refine region_kept (Kp w0) (by kernel_rfl) (by kernel_rfl) (kp_begin w0) ?_
      repeat (first
        | go_big_quiet_skip
        | (go_big_quiet_want; refine quiet_load 51 (.tmp 4) rfl w.heap.size 0 rfl (tlc A1 n1 c1 B1 m1 d1).toList _ (fun p => fblk_rng (KT.out.below p.h)) Tryd.underlying51 rfl (info_jrTrail _ _) (tlc A1 n1 c1 B1 m1 d1) rfl ?_; go_big_quiet_on; simp only [Act.put, List.setIfInBounds_toArray, List.set_cons_zero, List.set_cons_succ])
        | (go_big_quiet_want; refine quiet_load 33 (.tmp 25) rfl (w.heap.size + 1) 2 rfl (u8s h) _ (fun p => said_h (KS.out.below p.h)) Tryd.underlying33 rfl HIH.out (hc32 h) rfl ?_; go_big_quiet_on; simp only [Act.put, List.setIfInBounds_toArray, List.set_cons_zero, List.set_cons_succ])
        | (go_big_quiet_want; go_big_quiet_op; first | go_big_quiet_on | go_big_quiet_call (first
          | (go_at_call 25; with_reducible exact kp_call (CA.out _ (PW.h _)))
          | (go_at_call 31; with_reducible exact kp_call (CF.out _)))))
      refine wpQuiet_nil ?_
      intro _ hw'
      obtain ⟨p, hw''⟩ := hw'
      subst hw''
      have BX := hid (B0.out.trans (p.h.mono B0.out.size))
      go_wp2_with (go_at_call 25; refine (CA.out _ p.h).mono ?_; rintro e wy ⟨rfl, hb⟩; have BY := hid (BX.out.trans (hb.mono BX.out.size)); clear hb)
      go_ret
      exact ⟨rfl, BY.out⟩
  · have h40' : (40 : Int) < (n : Int) := by omega
    have CF := hid cf
    clear cf hL hnc hh h40
    go_enter Tryd.func9, Tryd.ntmps9
    go_upto_region 1 with fail
    rw [← hw0]
    clear hw0
    refine region_kept (Kp w0) (by kernel_rfl) (by kernel_rfl) (kp_begin w0) ?_
    repeat (first
      | go_big_quiet_skip
      | (go_big_quiet_want; refine quiet_load 51 (.tmp 4) rfl w.heap.size 0 rfl (tlc A1 n1 c1 B1 m1 d1).toList _ (fun p => fblk_rng (KT.out.below p.h)) Tryd.underlying51 rfl (info_jrTrail _ _) (tlc A1 n1 c1 B1 m1 d1) rfl ?_; go_big_quiet_on; simp only [Act.put, List.setIfInBounds_toArray, List.set_cons_zero, List.set_cons_succ])
      | (go_big_quiet_want; refine quiet_load 33 (.tmp 25) rfl (w.heap.size + 1) 2 rfl (u8s h) _ (fun p => said_h (KS.out.below p.h)) Tryd.underlying33 rfl HIH.out (hc32 h) rfl ?_; go_big_quiet_on; simp only [Act.put, List.setIfInBounds_toArray, List.set_cons_zero, List.set_cons_succ])
      | (go_big_quiet_want; go_big_quiet_op; first | go_big_quiet_on | go_big_quiet_call (first
        | (go_at_call 25; with_reducible exact kp_call (CA.out _ (PW.h _))))))
    refine wpQuiet_nil ?_
    intro _ hw'
    obtain ⟨p, hw''⟩ := hw'
    subst hw''
    have BX := hid (B0.out.trans (p.h.mono B0.out.size))
    go_wp2_with (go_at_call 25; refine (CA.out _ p.h).mono ?_; rintro e wy ⟨rfl, hb⟩; have BY := hid (BX.out.trans (hb.mono BX.out.size)); clear hb)
    go_ret
    exact ⟨rfl, BY.out⟩
end Go.Proofs.YtoacjaecfabahaaDoor
