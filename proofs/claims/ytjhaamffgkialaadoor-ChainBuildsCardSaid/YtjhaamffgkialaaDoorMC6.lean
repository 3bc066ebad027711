/-
  What is proved here: what the document says a chain is, and with which commitment.
-/
import Derived.Test.YtjhaamffgkialaaDoorMC1
import Derived.Laws.OwnMore
set_option linter.unusedSimpArgs false
set_option linter.unusedVariables false
namespace Go.Proofs.YtjhaamffgkialaaDoor
open Go.ChangeShapes Go.WideShapes Go.ChangeAt Go.RowKit
set_option linter.unusedVariables false
set_option linter.unusedSimpArgs false
set_option maxRecDepth 20000

theorem okV_no {C : Vs → List Int} {m : Nat} {L : List Vs} {k : Nat} (hk : k < L.length) (h : stF C L k = false) : okF C m L = false := by
  cases he : okF C m L with
  | false => rfl
  | true =>
    have := ((okV_iff C m L).1 he).2 k hk
    rw [h] at this
    cases this
theorem stBad {C : Vs → List Int} {L : List Vs} {k : Nat} (h : ¬ ((vAt L k).n = (k : Int) + 1 ∧ 1 ≤ (vAt L k).e ∧ (vAt L k).e ≤ 2147483647 ∧ (vAt L k).v.length ≤ 64)) : stF C L k = false := by
  unfold stF; rw [decide_eq_false h]; rfl
theorem stBad2 {C : Vs → List Int} {L : List Vs} {k : Nat} (h : ¬ (if k = 0 then (vAt L k).b = zH else ((vAt L (k - 1)).e < (vAt L k).e ∧ (vAt L k).b = C (vAt L (k - 1))))) : stF C L k = false := by
  unfold stF
  by_cases h0 : k = 0
  · rw [if_pos h0] at h ⊢; rw [decide_eq_false h, Bool.and_false]
  · rw [if_neg h0] at h ⊢; rw [decide_eq_false h, Bool.and_false]
theorem stGood {C : Vs → List Int} {L : List Vs} {k : Nat} (h1 : (vAt L k).n = (k : Int) + 1) (h2 : 1 ≤ (vAt L k).e) (h3 : (vAt L k).e ≤ 2147483647) (h4 : (vAt L k).v.length ≤ 64) (h : if k = 0 then (vAt L k).b = zH else ((vAt L (k - 1)).e < (vAt L k).e ∧ (vAt L k).b = C (vAt L (k - 1)))) : stF C L k = true := by
  unfold stF
  rw [decide_eq_true ⟨h1, h2, h3, h4⟩]
  by_cases h0 : k = 0
  · rw [if_pos h0] at h ⊢; rw [decide_eq_true h]; rfl
  · rw [if_neg h0] at h ⊢; rw [decide_eq_true h]; rfl
set_option maxHeartbeats 16000000 in
theorem rform_any {A B : Option Addr} {n c c2 : Nat} {lab : List Int} {L : List Vs} {w : World} (h : Lbl w A c lab) (hL : InV w B n L) (hv : ∀ q ∈ L, q.v.length ≤ 300) (hn : n ≤ 1000) :
    Calls Tryd.prog 44 #[.slice A lab.length c, .slice B n c2] w fun e w' => e = .returned (.bool (okF (cm lab) lab.length L)) ∧ Below w.heap.size w w' := by
  have H := hid h; have HL := hid hL; have HV := hid hv
  have LL := hid hL.len
  obtain ⟨m, hm⟩ : ∃ m, m = lab.length := ⟨_, rfl⟩
  have hm2 : m ≤ 300 := by rw [hm]; exact h.len
  rw [← hm]
  have HM := hid hm
  have HOK := hid (okV_iff (cm lab) m L)
  clear h hL hv hm
  go_enter Tryd.func44, Tryd.ntmps44
  by_cases hm0 : m = 0
  · have HR : Hid (okF (cm lab) m L = false) := by
      show _ = _
      cases he : okF (cm lab) m L with
      | false => rfl
      | true => have := (HOK.out.1 he).1.1; omega
    subst hm0
    go_wp2
    go_ret
    rw [HR.out]
    exact ⟨rfl, Below.refl _ _⟩
  have hm0b : ((m : Int) == 0) = false := by simp; omega
  have hm0c : ¬ (m : Int) = 0 := by omega
  by_cases hm3 : 32 < m
  · have HR : Hid (okF (cm lab) m L = false) := by
      show _ = _
      cases he : okF (cm lab) m L with
      | false => rfl
      | true => have := (HOK.out.1 he).1.2.1; omega
    have hm3b : (32 : Int) < (m : Int) := by omega
    go_wp2
    go_ret
    rw [HR.out]
    exact ⟨rfl, Below.refl _ _⟩
  have hm3b : ¬ (32 : Int) < (m : Int) := by omega
  by_cases hn0 : n = 0
  · have HR : Hid (okF (cm lab) m L = false) := by
      show _ = _
      cases he : okF (cm lab) m L with
      | false => rfl
      | true => have := (HOK.out.1 he).1.2.2; rw [LL.out] at this; omega
    subst hn0
    go_wp2
    go_ret
    rw [HR.out]
    exact ⟨rfl, Below.refl _ _⟩
  have hn0b : ((n : Int) == 0) = false := by simp; omega
  have hn0c : ¬ (n : Int) = 0 := by omega
  have HG : Hid (0 < m ∧ m ≤ 32 ∧ 0 < n) := ⟨by omega, by omega, by omega⟩
  obtain ⟨res, hres⟩ : ∃ res, res = okF (cm lab) m L := ⟨_, rfl⟩
  rw [← hres]
  have HRES := hid hres
  clear hres
  go_wp2
  clear hm0b hm0c hm3b hn0b hn0c
  go_loopw [5] (fun i wr => ∃ k : Nat, k ≤ n ∧ i = .int .i64 (k : Nat) ∧ Hid (∀ j, j < k → stF (cm lab) L j = true) ∧ Hid (Below w.heap.size w wr)) (fun i _ => n - (intOf i).toNat)
  case atStart => exact ⟨0, Nat.zero_le _, rfl, (fun j hj => absurd hj (Nat.not_lt_zero _)), Below.refl _ _⟩
  case round =>
    obtain ⟨k, hk, rfl, HE, BL⟩ := hrel
    by_cases hkn : k < n
    · have hlt : ((k : Int) < (n : Int)) := by omega
      obtain ⟨b, oo, V, rfl, hbl, hat, harg, hq⟩ := HL.out.at hkn
      have RA := hid (crng_bel BL.out hat.all)
      have DI := hid (vlenR V harg.ok); have DJ := hid (vinfoR V harg.ok)
      have OK := hid harg.ok
      obtain ⟨_, Bv, dv, hVe, hdv, hrv⟩ := harg
      have RV := hid hrv
      have NO := hid (fun (hs : stF (cm lab) L k = false) => okV_no (m := m) (by rw [LL.out]; exact hkn) hs)
      have HKN := hid hkn
      obtain ⟨ZV, hzv, hzv0, hzvs⟩ : ∃ Z : Array Value, Hid (Z = (vcs (.slice none 0 0) vZ).toArray) ∧ (¬ Z = #[]) ∧ ∀ w : World, Sem.run Tryd.prog (zeroValue 69) w = Result.ok (.agg Z) w := by
        refine ⟨_, rfl, fun h => ?_, fun w => by kernel_rfl⟩
        have := congrArg Array.size h
        rw [List.size_toArray, vcs_length _ vZ_ok] at this
        exact absurd this (by decide)
      have HZV : Hid (ZV.size = (vcs V (vAt L k)).toArray.size) := by show _ = _; rw [hzv.out, List.size_toArray, List.size_toArray, vcs_length _ vZ_ok, vcs_length _ OK.out]
      have HVO := hid (vcs_all (V := V) (by rw [hVe]; rfl) (vAt L k))
      have KB : Hid (Blk (wr.alloc (.cells ZV 69)) wr.heap.size 69 ZV) := Blk.new wr 69 ZV
      have BA : Hid (Below w.heap.size w ((wr.alloc (.cells ZV 69)).setRow wr.heap.size (vcs V (vAt L k)).toArray)) := below_setRow (BL.out.alloc BL.out.size _) BL.out.size _
      have KC := hid (KB.out.row (vcs V (vAt L k)).toArray)
      have HVE := hid hVe
      clear hat hq hbl hzv hdv hrv hVe
      go_upto_region 7 with (first
        | (refine wpList_load_mid rfl 69 (.tmp 28) rfl b (oo + k * 67) rfl (vcs V (vAt L k)) _ RA.out Tryd.underlying69 rfl DI.out ?_)
        | (refine wpList_store_row rfl 69 (.tmp 6) (.tmp 29) rfl wr.heap.size (vcs V (vAt L k)).toArray rfl rfl 69 ZV KB.out DJ.out HZV.out HVO.out ?_))
      generalize (wr.alloc (.cells ZV 69)).setRow wr.heap.size (vcs V (vAt L k)).toArray = w2 at BA KC ⊢
      generalize wr.heap.size = g6 at KC ⊢
      have hvc := KC.out.vc OK.out
      have cn := hvc.n
      have ce : w2.cell? ⟨g6, 1, none⟩ = some (.int .i64 (vAt L k).e) := hvc.e
      have cv : w2.cell? ⟨g6, 66, none⟩ = some (.slice Bv (vAt L k).v.length dv) := by have := hvc.v; rw [Nat.zero_add, HVE.out] at this; exact this
      have RB : Hid (w2.rangeAt g6 34 (u8s (vAt L k).b)) := by have := hvc.b; rw [Nat.zero_add] at this; exact this
      have HB1 := hid (hinfo OK.out.b)
      have HOB := hid OK.out.b
      clear hvc KB RA DJ DI HZV HVO hzv0 hzvs
      have HXI : Hid (-9223372036854775808 ≤ (vAt L k).e ∧ (vAt L k).e ≤ 9223372036854775807) := OK.out.e
      obtain ⟨x1, hx1⟩ : ∃ x, x = (vAt L k).n := ⟨_, rfl⟩
      obtain ⟨x2, hx2⟩ : ∃ x, x = (vAt L k).e := ⟨_, rfl⟩
      obtain ⟨x4, hx4⟩ : ∃ x, x = (vAt L k).v.length := ⟨_, rfl⟩
      rw [← hx1] at cn; rw [← hx2] at ce HXI; rw [← hx4] at cv
      have X1 := hid hx1; have X2 := hid hx2; have X4 := hid hx4
      clear hx1 hx2 hx4
      have hadd : IntKind.i64.wrap ((k : Int) + 1) = (k : Int) + 1 := IntWalk.i64_in _ (by omega)
      by_cases h1 : x1 = (k : Int) + 1
      ·
        by_cases h2 : x2 < 1
        ·
          have HF : Hid (res = false) := by show _ = _; rw [HRES.out]; exact NO.out (stBad (fun h => by have := h.2.1; have := X2.out; omega))
          go_wp2
          go_ret
          rw [HF.out]
          exact ⟨rfl, BA.out⟩

        by_cases h3 : 2147483647 < x2
        ·
          have HF : Hid (res = false) := by show _ = _; rw [HRES.out]; exact NO.out (stBad (fun h => by have := h.2.2.1; have := X2.out; omega))
          go_wp2
          go_ret
          rw [HF.out]
          exact ⟨rfl, BA.out⟩

        by_cases h4 : 64 < x4
        ·
          have HF : Hid (res = false) := by show _ = _; rw [HRES.out]; exact NO.out (stBad (fun h => by have := h.2.2.2; have := X4.out; omega))
          have h4b : (64 : Int) < (x4 : Int) := by omega
          go_wp2
          go_ret
          rw [HF.out]
          exact ⟨rfl, BA.out⟩

        have h4b : ¬ (64 : Int) < (x4 : Int) := by omega
        have G4 : Hid ((vAt L k).n = (k : Int) + 1 ∧ 1 ≤ (vAt L k).e ∧ (vAt L k).e ≤ 2147483647 ∧ (vAt L k).v.length ≤ 64) := ⟨by rw [← X1.out]; exact h1, by rw [← X2.out]; omega, by rw [← X2.out]; omega, by rw [← X4.out]; omega⟩
        subst h1
        go_upto_region 9 with (fail)
        clear cn cv h2 h3 h4 h4b
        by_cases hk0 : k = 0
        ·
          subst hk0
          have heq := fun w => cneq_hash (vAt L 0).b zH HOB.out hh_zero w
          obtain ⟨v3, hv3⟩ : ∃ v3, v3 = decide ((vAt L 0).b = zH) := ⟨_, rfl⟩
          rw [← hv3] at heq
          have HV3 := hid hv3
          clear hv3
          cases v3 with
          | false =>
            have HF : Hid (res = false) := by show _ = _; rw [HRES.out]; exact NO.out (stBad2 (fun h => by rw [if_pos rfl] at h; have := HV3.out; rw [decide_eq_true h] at this; cases this))
            go_wp2_with (first
              | (refine load_mid_g (by rfl) 26 (.tmp 54) rfl g6 34 rfl (u8s (vAt L 0).b) _ RB.out Tryd.underlying26 rfl HB1.out ?_)
              | (refine cbuild_h0g (by rfl) rfl ?_))
            go_ret
            rw [HF.out]
            exact ⟨rfl, BA.out⟩

          | true =>
            go_upto_region 11 with (first
              | (refine load_mid_g (by rfl) 26 (.tmp 54) rfl g6 34 rfl (u8s (vAt L 0).b) _ RB.out Tryd.underlying26 rfl HB1.out ?_)
              | (refine cbuild_h0g (by rfl) rfl ?_))
            clear heq
            refine region_kept (Kp w2) (by kernel_rfl) (by kernel_rfl) (kp_begin w2) ?_
            repeat (first
              | go_big_quiet_skip
              | (go_big_quiet_want; go_big_quiet_op; first | go_big_quiet_on))
            refine wpQuiet_nil ?_
            intro _ hw'
            obtain ⟨p9, hw''⟩ := hw'
            subst hw''
            have BL9 := hid (BA.out.trans (Below.mono p9.h BA.out.size))
            go_wp2
            go_roundw
            case rel =>
              refine ⟨0 + 1, by omega, by go_num, ?_, BL9.out⟩
              intro j hj
              have : j = 0 := by omega
              subst this
              obtain ⟨a1, a2, a3, a4⟩ := G4.out
              exact stGood a1 a2 a3 a4 (by rw [if_pos rfl]; have := HV3.out; exact of_decide_eq_true this.symm)
            case measure => simp [intOf]; omega
        ·
          have hk0b : ((k : Int) == 0) = false := by simp; omega
          have hk0c : ¬ (k : Int) = 0 := by omega
          have hk0d : (0 : Int) < (k : Int) := by omega
          have hk0e : 0 < k := by omega
          go_upto_region 11 with (fail)
          have hkm : k - 1 < n := by omega
          obtain ⟨b', oo', V', hbe, hbl', hat', harg', hq'⟩ := HL.out.at hkm
          injection hbe with hbe
          injection hbe with hb1 hb2
          subst hb1 hb2
          have hvl' := HL.out.shorts HV.out hkm
          have hsub : (k : Int) - 1 = ((k - 1 : Nat) : Int) := by omega
          obtain ⟨k1, hk1⟩ : ∃ k1, k1 = k - 1 := ⟨_, rfl⟩
          rw [← hk1] at hat' harg' hvl' hsub hkm
          have HK1 := hid hk1
          have hsubw : IntKind.i64.wrap ((k : Int) - 1) = (k1 : Int) := by rw [hsub]; exact IntWalk.i64_in _ (by omega)
          have B2 : Below w.heap.size w w2 := BA.out
          have CPE := hid (ccell_bel B2 hat'.e)
          have CM := hid (fun p : PW (Kp w2) => cmR_any ((H.out.below B2).below p.h) ((harg'.below B2).below p.h) hvl')
          have RP := hid (fun p : PW (Kp w2) => crng_bel p.h (crng_bel B2 hat'.all))
          have RQ := hid (fun p : PW (Kp w2) => crng_bel p.h RB.out)
          have DI' := hid (vlenR V' harg'.ok)
          have ce2 := fun p : PW (Kp w2) => ccell_bel p.h ce
          have cpe := fun p : PW (Kp w2) => ccell_bel p.h CPE.out
          obtain ⟨S, hS⟩ : ∃ S, S = cm lab (vAt L k1) := ⟨_, rfl⟩
          rw [← hS, ← HM.out] at CM
          have hhS : Hh S := by rw [hS]; exact hh_sum _
          have heq := fun w => cneq_hash (vAt L k).b S HOB.out hhS w
          obtain ⟨v3, hv3⟩ : ∃ v3, v3 = decide ((vAt L k).b = S) := ⟨_, rfl⟩
          rw [← hv3] at heq
          have HV3 := hid hv3; have HS := hid hS
          obtain ⟨y2, hy2⟩ : ∃ y2, y2 = (vAt L k1).e := ⟨_, rfl⟩
          rw [← hy2] at cpe
          have Y2 := hid hy2
          have HSUB := hid hsub; have HKM := hid hkm
          clear hv3 hS hhS hat' harg' hq' hvl' hbl' B2 hk1 hy2 hsub CPE ce
          have hkmi : (k1 : Int) < (n : Int) := by omega
          by_cases hle : x2 ≤ y2
          ·
            refine region_kept (Kp w2) (by kernel_rfl) (by kernel_rfl) (kp_begin w2) ?_
            repeat (first
              | go_big_quiet_skip
              | (go_big_quiet_want; refine quiet_load 26 (.tmp 72) rfl g6 34 rfl (u8s (vAt L k).b) _ (fun p => RQ.out p) Tryd.underlying26 rfl HB1.out (u8s (vAt L k).b).toArray rfl ?_; go_big_quiet_on; simp only [Act.put, List.setIfInBounds_toArray, List.set_cons_zero, List.set_cons_succ])
              | (go_big_quiet_want; refine quiet_load 69 (.tmp 78) rfl b (oo + k1 * 67) rfl (vcs V' (vAt L k1)) _ (fun p => RP.out p) Tryd.underlying69 rfl DI'.out (vcs V' (vAt L k1)).toArray rfl ?_; go_big_quiet_on; simp only [Act.put, List.setIfInBounds_toArray, List.set_cons_zero, List.set_cons_succ])
              | (go_big_quiet_want; go_big_quiet_op; first | go_big_quiet_on | go_big_quiet_call (first | (go_at_call 37; with_reducible exact kp_call (CM.out _)))))
            refine wpQuiet_nil ?_
            intro _ hw'
            obtain ⟨p9, hw''⟩ := hw'
            subst hw''
            have BL9 := hid (BA.out.trans (Below.mono p9.h BA.out.size))
            clear ce2 cpe heq
            have HF : Hid (res = false) := by show _ = _; rw [HRES.out]; exact NO.out (stBad2 (fun h => by rw [if_neg hk0, ← HK1.out, ← Y2.out, ← X2.out] at h; have := h.1; omega))
            go_wp2
            go_ret
            rw [HF.out]
            exact ⟨rfl, BL9.out⟩

          ·
            cases v3 with
            | false =>
              refine region_kept (Kp w2) (by kernel_rfl) (by kernel_rfl) (kp_begin w2) ?_
              repeat (first
                | go_big_quiet_skip
                | (go_big_quiet_want; refine quiet_load 26 (.tmp 72) rfl g6 34 rfl (u8s (vAt L k).b) _ (fun p => RQ.out p) Tryd.underlying26 rfl HB1.out (u8s (vAt L k).b).toArray rfl ?_; go_big_quiet_on; simp only [Act.put, List.setIfInBounds_toArray, List.set_cons_zero, List.set_cons_succ])
                | (go_big_quiet_want; refine quiet_load 69 (.tmp 78) rfl b (oo + k1 * 67) rfl (vcs V' (vAt L k1)) _ (fun p => RP.out p) Tryd.underlying69 rfl DI'.out (vcs V' (vAt L k1)).toArray rfl ?_; go_big_quiet_on; simp only [Act.put, List.setIfInBounds_toArray, List.set_cons_zero, List.set_cons_succ])
                | (go_big_quiet_want; go_big_quiet_op; first | go_big_quiet_on | go_big_quiet_call (first | (go_at_call 37; with_reducible exact kp_call (CM.out _)))))
              refine wpQuiet_nil ?_
              intro _ hw'
              obtain ⟨p9, hw''⟩ := hw'
              subst hw''
              have BL9 := hid (BA.out.trans (Below.mono p9.h BA.out.size))
              clear ce2 cpe heq
              have HF : Hid (res = false) := by show _ = _; rw [HRES.out]; exact NO.out (stBad2 (fun h => by rw [if_neg hk0, ← HK1.out, ← HS.out] at h; have := HV3.out; rw [decide_eq_true h.2] at this; cases this))
              go_wp2
              go_ret
              rw [HF.out]
              exact ⟨rfl, BL9.out⟩

            | true =>
              refine region_kept (Kp w2) (by kernel_rfl) (by kernel_rfl) (kp_begin w2) ?_
              repeat (first
                | go_big_quiet_skip
                | (go_big_quiet_want; refine quiet_load 26 (.tmp 72) rfl g6 34 rfl (u8s (vAt L k).b) _ (fun p => RQ.out p) Tryd.underlying26 rfl HB1.out (u8s (vAt L k).b).toArray rfl ?_; go_big_quiet_on; simp only [Act.put, List.setIfInBounds_toArray, List.set_cons_zero, List.set_cons_succ])
                | (go_big_quiet_want; refine quiet_load 69 (.tmp 78) rfl b (oo + k1 * 67) rfl (vcs V' (vAt L k1)) _ (fun p => RP.out p) Tryd.underlying69 rfl DI'.out (vcs V' (vAt L k1)).toArray rfl ?_; go_big_quiet_on; simp only [Act.put, List.setIfInBounds_toArray, List.set_cons_zero, List.set_cons_succ])
                | (go_big_quiet_want; go_big_quiet_op; first | go_big_quiet_on | go_big_quiet_call (first | (go_at_call 37; with_reducible exact kp_call (CM.out _)))))
              refine wpQuiet_nil ?_
              intro _ hw'
              obtain ⟨p9, hw''⟩ := hw'
              subst hw''
              have BL9 := hid (BA.out.trans (Below.mono p9.h BA.out.size))
              clear ce2 cpe heq

              go_wp2
              go_roundw
              case rel =>
                refine ⟨k + 1, by omega, by go_num, ?_, BL9.out⟩
                intro j hj
                by_cases hjk : j = k
                · subst hjk
                  obtain ⟨a1, a2, a3, a4⟩ := G4.out
                  exact stGood a1 a2 a3 a4 (by
                    rw [if_neg hk0, ← HK1.out, ← Y2.out, ← X2.out, ← HS.out]
                    have := HV3.out
                    exact ⟨by omega, of_decide_eq_true this.symm⟩)
                · exact HE.out j (by omega)
              case measure => simp [intOf]; omega
      ·
        have h1b : (x1 != (k : Int) + 1) = true := by simpa using h1
        have HF : Hid (res = false) := by show _ = _; rw [HRES.out]; exact NO.out (stBad (fun h => h1 (by rw [X1.out]; exact h.1)))
        go_wp2
        go_ret
        rw [HF.out]
        exact ⟨rfl, BA.out⟩

    · have hkn2 : k = n := by omega
      subst hkn2
      have HT : Hid (res = true) := by
        show _ = _
        rw [HRES.out, HOK.out]
        exact ⟨⟨HG.out.1, HG.out.2.1, by rw [LL.out]; exact HG.out.2.2⟩, fun i hi => HE.out i (by rw [LL.out] at hi; exact hi)⟩
      go_wp2
      go_ret
      rw [HT.out]
      exact ⟨rfl, BL.out⟩
end Go.Proofs.YtjhaamffgkialaaDoor
/-
  What is proved here: with which commitment a chain is one, as the document says; copies of bytes and of chains; a chain's first versions.
-/
namespace Go.Proofs.YtjhaamffgkialaaDoor
open Go.ChangeShapes Go.WideShapes Go.ChangeAt Go.RowKit
set_option linter.unusedVariables false
set_option linter.unusedSimpArgs false
set_option maxRecDepth 20000

theorem okV_pos {C : Vs → List Int} {m : Nat} {L : List Vs} (h : okF C m L = true) : 0 < L.length := ((okV_iff C m L).1 h).1.2.2
set_option maxHeartbeats 8000000 in
theorem rcheck_any {A B : Option Addr} {n c c2 : Nat} {lab hh : List Int} {L : List Vs} {w : World} (h : Lbl w A c lab) (hL : InV w B n L) (hv : ∀ q ∈ L, q.v.length ≤ 300) (hn : n ≤ 1000) (hhk : Hh hh) :
    Calls Tryd.prog 46 #[.slice A lab.length c, .slice B n c2, .agg (u8s hh).toArray] w fun e w' => e = .returned (.bool (okF (cm lab) lab.length L && decide (lastC (cm lab) L = hh))) ∧ Below w.heap.size w w' := by
  have B0 : Hid (Below w.heap.size w (w.alloc (.cells (u8s hh).toArray 26))) := (Below.refl _ _).alloc (Nat.le_refl _) _
  have KH : Hid (Blk (w.alloc (.cells (u8s hh).toArray 26)) w.heap.size 26 (u8s hh).toArray) := Blk.new w 26 _
  have h0 := h.below B0.out; have l0 := hL.below B0.out
  have CF := hid (fun p : PW (Kp (w.alloc (.cells (u8s hh).toArray 26))) => rform_any (c2 := c2) (h0.below p.h) (l0.below p.h) hv hn)
  have ll := hL.len
  have HI := hid (hinfo hhk)
  have RH := hid (fun p : PW (Kp (w.alloc (.cells (u8s hh).toArray 26))) => crng_bel (o := 0) p.h (fun j u hu => by rw [KH.out.cell, Nat.zero_add, List.getElem?_toArray]; exact hu))
  obtain ⟨v1, hv1⟩ : ∃ v1, v1 = okF (cm lab) lab.length L := ⟨_, rfl⟩
  rw [← hv1] at CF ⊢
  have hmax := hL.max
  cases v1 with
  | false =>
    rw [Bool.false_and]
    clear h hL hv hn hhk h0 l0 ll hv1 RH KH
    go_enter Tryd.func46, Tryd.ntmps46
    go_wp2
    generalize w.alloc (.cells (u8s hh).toArray 26) = w0 at B0 CF ⊢
    refine region_kept (Kp w0) (by kernel_rfl) (by kernel_rfl) (kp_begin w0) ?_
    repeat (first
      | go_big_quiet_skip
      | (go_big_quiet_want; go_big_quiet_op; first | go_big_quiet_on | go_big_quiet_call (first | (go_at_call 44; with_reducible exact kp_call (CF.out _)))))
    refine wpQuiet_nil ?_
    intro _ hw'
    obtain ⟨p9, hw''⟩ := hw'
    subst hw''
    go_wp2
    go_ret
    exact ⟨rfl, B0.out.trans (Below.mono p9.h B0.out.size)⟩
  | true =>
    have hpos := okV_pos hv1.symm
    have hk : n - 1 < n := by omega
    obtain ⟨b, oo, V, rfl, hbl, hat, harg, hq⟩ := l0.at hk
    have hvl := hL.shorts hv hk
    have e : lastC (cm lab) L = cm lab (vAt L (n - 1)) := by rw [lastC_some hpos, ll]
    obtain ⟨k, hkk⟩ : ∃ k, k = n - 1 := ⟨_, rfl⟩
    rw [← hkk] at hat harg hvl e hk
    have hsub : (n : Int) - 1 = (k : Int) := by omega
    have hsubw : IntKind.i64.wrap ((n : Int) - 1) = (k : Int) := by rw [hsub]; exact IntWalk.i64_in _ (by omega)
    have hki : (k : Int) < (n : Int) := by omega
    have RA := hid (fun p : PW (Kp (w.alloc (.cells (u8s hh).toArray 26))) => crng_bel p.h hat.all)
    have CM := hid (fun p : PW (Kp (w.alloc (.cells (u8s hh).toArray 26))) => cmR_any (h0.below p.h) (harg.below p.h) hvl)
    have DI := hid (vlenR V harg.ok)
    have hS : Hh (cm lab (vAt L k)) := hh_sum _
    have heq := fun w => eql_hash (cm lab (vAt L k)) hh hS.bs hhk.bs hS.len hhk.len w
    rw [e, Bool.true_and]
    generalize cm lab (vAt L k) = S at CM heq ⊢
    generalize decide (S = hh) = v3 at heq ⊢
    clear h hL hv hn hhk h0 l0 ll hv1 KH hat harg hq hvl hS e hkk hbl hpos hsub
    go_enter Tryd.func46, Tryd.ntmps46
    go_wp2
    generalize w.alloc (.cells (u8s hh).toArray 26) = w0 at B0 CF RA CM RH ⊢
    refine region_kept (Kp w0) (by kernel_rfl) (by kernel_rfl) (kp_begin w0) ?_
    repeat (first
      | go_big_quiet_skip
      | (go_big_quiet_want; refine quiet_load 69 (.tmp 16) rfl b (oo + k * 67) rfl (vcs V (vAt L k)) _ (fun p => RA.out p) Tryd.underlying69 rfl DI.out (vcs V (vAt L k)).toArray rfl ?_; go_big_quiet_on; simp only [Act.put, List.setIfInBounds_toArray, List.set_cons_zero, List.set_cons_succ])
      | (go_big_quiet_want; refine quiet_load 26 (.tmp 5) rfl w.heap.size 0 rfl (u8s hh) _ (fun p => RH.out p) Tryd.underlying26 rfl HI.out (u8s hh).toArray rfl ?_; go_big_quiet_on; simp only [Act.put, List.setIfInBounds_toArray, List.set_cons_zero, List.set_cons_succ])
      | (go_big_quiet_want; go_big_quiet_op; first | go_big_quiet_on | go_big_quiet_call (first | (go_at_call 44; with_reducible exact kp_call (CF.out _)) | (go_at_call 37; with_reducible exact kp_call (CM.out _)))))
    refine wpQuiet_nil ?_
    intro _ hw'
    obtain ⟨p9, hw''⟩ := hw'
    subst hw''
    go_wp2
    go_ret
    exact ⟨rfl, B0.out.trans (Below.mono p9.h B0.out.size)⟩
/-! Copies. -/
theorem cClone_any (A : Option Addr) (c : Nat) (xs : List Int) (w : World) (hr : Rp w none A xs) (hx : xs.length < 1000000000000) :
    Calls Tryd.prog 89 #[.slice A xs.length c] w fun e w' => (∃ A' c', e = .returned (.slice A' xs.length c') ∧ xs.length ≤ c' ∧ Fresh w w' A' xs) ∧ Below w.heap.size w w' := by
  cases A with
  | none =>
    have h0 : xs = [] := by
      cases xs with
      | nil => rfl
      | cons x xs => obtain ⟨ad, e, _⟩ := hr (by simp); cases e
    subst h0
    have HF : Hid (Fresh w w none []) := fun h => by simp at h
    clear hr
    have hnil : ∀ (w : World) (a : Option Addr) (n c n' c' : Nat), (binOp .eql 23 (.slice a n c) (.slice none n' c')).run Tryd.prog w = .ok (.bool a.isNone) w := fun w a n c n' c' => Lib.run_eql_slice_nil w _ _ a n c n' c' Tryd.underlying23
    go_enter Tryd.func89, Tryd.ntmps89
    go_wp2
    go_ret
    exact ⟨⟨none, 0, rfl, by simp, HF.out⟩, Below.refl _ _⟩
  | some ad =>
    obtain ⟨i0, hi, hz0, hz1, hz2⟩ := info_parts info_u8
    have hcells : ∀ j u, (u8s xs)[j]? = some u → (w.alloc (.cells #[] 5)).cell? (ad.add j) = some u := by
      intro j u hu
      rcases Nat.lt_or_ge j xs.length with hj | hj
      · obtain ⟨ad', e, _, hc⟩ := hr (by omega)
        injection e with e
        subst e
        have hcj := hc j hj
        rw [World.cell?_alloc_lt w _ _ (block_lt_of_cell hcj), hcj, ← hu, u8s_get _ _ hj]
      · rw [List.getElem?_eq_none (by rw [u8s_length]; exact hj)] at hu; cases hu
    have hown : (w.alloc (.cells #[] 5)).ownsRow w.heap.size 5 1 (.slice (some ⟨w.heap.size, 0, none⟩) 0 0) 0 [] :=
      ⟨by simp, .inr ⟨w.heap.size, 0, #[], rfl, Nat.le_refl _, heap_alloc_new w _, by omega, by unfold maxLen; omega, by simp, by simp⟩⟩
    have HC := hid hcells; have HO := hid hown; have HX := hid hx
    obtain ⟨n, hn⟩ : ∃ n, n = xs.length := ⟨_, rfl⟩
    rw [← hn]
    have HN := hid hn
    have HL : Hid ((u8s xs).length = n * 1) := by show _ = _; rw [u8s_length, HN.out]; omega
    have HM : Hid (0 + n ≤ maxLen) := by show _ ≤ _; have := HN.out; unfold maxLen; omega
    have HB : Hid ((0 + n) * 1 ≤ 140737488355328) := by show _ ≤ _; have := HN.out; omega
    have B0 : Below w.heap.size w (w.alloc (.cells #[] 5)) := (Below.refl _ _).alloc (Nat.le_refl _) _
    clear hcells hown hx hr hn
    have hnil : ∀ (w : World) (a : Option Addr) (n c n' c' : Nat), (binOp .eql 23 (.slice a n c) (.slice none n' c')).run Tryd.prog w = .ok (.bool a.isNone) w := fun w a n c n' c' => Lib.run_eql_slice_nil w _ _ a n c n' c' Tryd.underlying23
    go_enter Tryd.func89, Tryd.ntmps89
    go_wp2_with (at_builtin; refine wpList_append_own _ rfl (.tmp 5) (.tmp 6) 23 rfl w.heap.size 5 i0 (.int .u8 0) 1 1 Tryd.underlying23 hi hz0 hz1 hz2 rfl (by decide) (.slice (some ⟨w.heap.size, 0, none⟩) 0 0) 0 [] rfl HO.out ad n c (u8s xs) rfl HL.out HC.out (u8s_one _) HM.out HB.out (by simp) ?_; intro v1 w1 hown1 hg1 _; have HW1 := hid hown1; have HG1 := hid hg1; clear hown1 hg1)
    go_ret
    have hw := HW1.out
    rw [Nat.zero_add, List.nil_append] at hw
    have hbl : Below w.heap.size w w1 := B0.grown HG1.out (by simp) (fun k hk => by simp [Value.ownBlock] at hk; omega)
    rcases hw.2 with ⟨hv, h0⟩ | ⟨g, cap, cur, hv, hg, hh, hnc, hcm, hcs, htk⟩
    · refine ⟨⟨none, 0, ?_, by omega, ?_⟩, hbl⟩
      · subst h0; simp [hv]
      · intro h; have := HN.out; omega
    · refine ⟨⟨some ⟨g, 0, none⟩, cap, by simp [hv], hnc, fun _ => ⟨g, cur, rfl, hg, hh, fun j hj => ?_⟩⟩, hbl⟩
      have hn := HN.out
      have e : cur[j]? = (cur.toList.take (n * 1))[j]? := by rw [List.getElem?_take, if_pos (by omega), Array.getElem?_toList]
      rw [e, htk, u8s_get _ _ hj]
theorem vcss_range : ∀ {R : List Value} {L : List Vs} {w : World} {b o : Nat}, R.length = L.length → (∀ q ∈ L, q.Ok) → (∀ (i : Nat) (V : Value) (q : Vs), R[i]? = some V → L[i]? = some q → w.rangeAt b (o + i * 67) (vcs V q)) → w.rangeAt b o (vcss R L)
  | [], _, w, b, o, _, _, _ => fun j u hu => by simp [vcss] at hu
  | V :: R, [], w, b, o, h, _, _ => fun j u hu => by simp [vcss] at hu
  | V :: R, q :: L, w, b, o, h, ho, hat => by
    have hl := vcs_length V (ho q (by simp))
    have h0 := hat 0 V q rfl rfl
    rw [Nat.zero_mul, Nat.add_zero] at h0
    have ih := vcss_range (R := R) (L := L) (w := w) (b := b) (o := o + 67) (by simpa using h) (fun q hq => ho q (List.mem_cons_of_mem _ hq)) (fun i V' q' h1 h2 => by
      have := hat (i + 1) V' q' (by simpa using h1) (by simpa using h2)
      rw [Nat.succ_mul] at this
      have e : o + (i * 67 + 67) = o + 67 + i * 67 := by omega
      rw [e] at this; exact this)
    intro j u hu
    unfold vcss at hu
    rcases Nat.lt_or_ge j 67 with hj | hj
    · rw [List.getElem?_append_left (by omega)] at hu
      exact h0 j u hu
    · rw [List.getElem?_append_right (by omega), hl] at hu
      have := ih (j - 67) u hu
      have e : o + 67 + (j - 67) = o + j := by omega
      rw [e] at this; exact this
/-- the slices of a list that can be read -/
theorem InV.rows {w : World} {A : Option Addr} {n : Nat} {L : List Vs} (h : InV w A n L) : ∃ R : List Value, R.length = L.length ∧ (∀ (i : Nat) (V : Value) (q : Vs), R[i]? = some V → L[i]? = some q → VArg w V q) ∧ ∀ b o, A = some ⟨b, o, none⟩ → w.rangeAt b o (vcss R L) := by
  have hl := h.len
  have each : ∀ i : Nat, ∃ V : Value, i < n → VArg w V (vAt L i) ∧ ∀ b o, A = some ⟨b, o, none⟩ → w.rangeAt b (o + i * 67) (vcs V (vAt L i)) := fun i => by
    by_cases hi : i < n
    · obtain ⟨b, o, V, e, _, hat, harg, _⟩ := h.at hi
      refine ⟨V, fun _ => ⟨harg, fun b' o' e' => ?_⟩⟩
      rw [e] at e'
      injection e' with e'
      injection e' with e1 e2
      subst e1 e2
      exact hat.all
    · exact ⟨.int .i64 0, fun hh => absurd hh hi⟩
  obtain ⟨F, hF⟩ := Classical.axiomOfChoice each
  have hR : ∀ (i : Nat) (V : Value) (q : Vs), ((List.range n).map F)[i]? = some V → L[i]? = some q → i < n ∧ V = F i ∧ q = vAt L i := fun i V q h1 h2 => by
    have hi : i < n := by
      rcases Nat.lt_or_ge i n with h3 | h3
      · exact h3
      · rw [List.getElem?_eq_none (by simp; exact h3)] at h1; cases h1
    rw [List.getElem?_map, List.getElem?_range hi] at h1
    injection h1 with h1
    refine ⟨hi, h1.symm, ?_⟩
    unfold vAt; rw [h2]; rfl
  refine ⟨(List.range n).map F, by simp [hl], fun i V q h1 h2 => ?_, fun b o e => vcss_range (by simp [hl]) h.ok (fun i V q h1 h2 => ?_)⟩
  · obtain ⟨hi, rfl, rfl⟩ := hR i V q h1 h2
    exact (hF i hi).1
  · obtain ⟨hi, rfl, rfl⟩ := hR i V q h1 h2
    exact (hF i hi).2 b o e
/-- all of another list, behind no versions -/
theorem ver_all {t : TypeId} {w : World} {v : Value} {L : List Vs} {R : List Value} (hl : R.length = L.length) (hR : ∀ (i : Nat) (V : Value) (q : Vs), R[i]? = some V → L[i]? = some q → VArg w V q) {w' : World} (hb : Below w.heap.size w w') (ho : w'.ownsRow w.heap.size t 67 v L.length (vcss R L)) : OwV t w.heap.size w' v L :=
  ⟨R, hl, ho, fun i V q h1 h2 => ((hR i V q h1 h2).vb (Nat.le_refl _)).below hb⟩
theorem vClone_any {A : Option Addr} {n c : Nat} {L : List Vs} {w : World} (h : InV w A n L) (hn : n ≤ 1000) : Calls Tryd.prog 123 #[.slice A n c] w (OvA 75 w L) := by
  have hl := h.len
  have hnil : ∀ (w : World) (a : Option Addr) (n c n' c' : Nat), (binOp .eql 83 (.slice a n c) (.slice none n' c')).run Tryd.prog w = .ok (.bool a.isNone) w := fun w a n c n' c' => Lib.run_eql_slice_nil w _ _ a n c n' c' Tryd.underlying83
  unfold OvA
  cases A with
  | none =>
    have h0 : n = 0 := by
      rcases Nat.eq_zero_or_pos n with h1 | h1
      · exact h1
      · obtain ⟨b, o, e, _⟩ := h.at' h1; cases e
    subst h0
    have e : L = [] := List.length_eq_zero_iff.1 hl
    subst e
    clear h hl hn
    go_enter Tryd.func123, Tryd.ntmps123
    go_wp2
    go_ret
    exact ⟨_, rfl, OwV.nil _ _ _, Below.refl _ _⟩
  | some ad =>
    obtain ⟨i0, hi, hz0, hz1, hz2⟩ := info_parts vTyC.i
    obtain ⟨R, hRl, hRv, hRr⟩ := h.rows
    have hcs : (vcss R L).length = n * 67 := by rw [vcss_length hRl h.ok, hl]
    have hcells : ∀ j u, (vcss R L)[j]? = some u → (w.alloc (.cells #[] 75)).cell? (ad.add j) = some u := by
      intro j u hu
      have hj : j < n * 67 := by
        rcases Nat.lt_or_ge j (n * 67) with h1 | h1
        · exact h1
        · rw [List.getElem?_eq_none (by omega)] at hu; cases hu
      obtain ⟨b, o, e, hlt, _⟩ := h.at' (by omega)
      injection e with e
      subst e
      have := hRr b o rfl j u hu
      rw [Addr.add_lit, World.cell?_alloc_lt w _ _ hlt]
      exact this
    have hown : (w.alloc (.cells #[] 75)).ownsRow w.heap.size 75 67 (.slice (some ⟨w.heap.size, 0, none⟩) 0 0) 0 [] :=
      ⟨by simp, .inr ⟨w.heap.size, 0, #[], rfl, Nat.le_refl _, heap_alloc_new w _, by omega, by unfold maxLen; omega, by simp, by simp⟩⟩
    have HC := hid hcells; have HO := hid hown; have HL := hid hl
    have HRL := hid hRl; have HRV := hid hRv
    have HCS := hid hcs
    have HON : Hid (∀ u ∈ vcss R L, u.oneCell' = true) := fun u hu => vcss_one (fun V hV => by
      obtain ⟨i, hi⟩ := List.mem_iff_getElem?.1 hV
      have h1 : i < R.length := by
        rcases Nat.lt_or_ge i R.length with h1 | h1
        · exact h1
        · rw [List.getElem?_eq_none h1] at hi; cases hi
      exact (hRv i V L[i] hi (List.getElem?_eq_getElem (by omega))).one) u hu
    have HM : Hid (0 + n ≤ maxLen) := by show _ ≤ _; unfold maxLen; omega
    have HB : Hid ((0 + n) * 104 ≤ 140737488355328) := by show _ ≤ _; omega
    have B0 : Below w.heap.size w (w.alloc (.cells #[] 75)) := (Below.refl _ _).alloc (Nat.le_refl _) _
    clear hcells hown h hl hRl hRv hRr hcs hn
    go_enter Tryd.func123, Tryd.ntmps123
    go_wp2_with (at_builtin; refine wpList_append_own _ rfl (.tmp 5) (.tmp 6) 83 rfl w.heap.size 75 i0 _ 67 104 Tryd.underlying83 hi hz0 hz1 hz2 rfl (by decide) (.slice (some ⟨w.heap.size, 0, none⟩) 0 0) 0 [] rfl HO.out ad n c (vcss R L) rfl HCS.out HC.out HON.out HM.out HB.out (by simp) ?_; intro v1 w1 hown1 hg1 _; have HW1 := hid hown1; have HG1 := hid hg1; clear hown1 hg1)
    go_ret
    have hw := HW1.out
    rw [Nat.zero_add, List.nil_append, ← HL.out] at hw
    have hbl : Below w.heap.size w w1 := B0.grown HG1.out (by simp) (fun k hk => by simp [Value.ownBlock] at hk; omega)
    exact ⟨_, rfl, ver_all HRL.out HRV.out hbl hw, hbl⟩
end Go.Proofs.YtjhaamffgkialaaDoor
/-
  What is proved here: a copy of a chain; its first versions.
-/
namespace Go.Proofs.YtjhaamffgkialaaDoor
open Go.ChangeShapes Go.WideShapes Go.ChangeAt Go.RowKit
set_option linter.unusedVariables false
set_option linter.unusedSimpArgs false
set_option maxRecDepth 20000

theorem vcs_set {V V' : Value} {q : Vs} (h : q.Ok) : (vcs V q).set 66 V' = vcs V' q := by
  have hs := (u8s_length q.s).trans h.s.len
  have hb := (u8s_length q.b).trans h.b.len
  unfold vcs
  rw [List.set_cons_succ, List.set_cons_succ, List.set_append_right _ _ (by omega), List.set_append_right _ _ (by omega), hs, hb]
  rfl
theorem vcss_set : ∀ {R : List Value} {L : List Vs} {k : Nat} {V' : Value}, R.length = L.length → (∀ q ∈ L, q.Ok) → k < L.length → vcss (R.set k V') L = (vcss R L).set (k * 67 + 66) V'
  | [], L, k, V', h, _, hk => by simp at h; omega
  | V :: R, [], k, V', h, _, _ => by simp at h
  | V :: R, q :: L, 0, V', h, ho, _ => by
    have hl := vcs_length V (ho q (by simp))
    rw [List.set_cons_zero]
    unfold vcss
    rw [Nat.zero_mul, Nat.zero_add, List.set_append_left _ _ (by omega), vcs_set (ho q (by simp))]
  | V :: R, q :: L, k + 1, V', h, ho, hk => by
    have hl := vcs_length V (ho q (by simp))
    rw [List.set_cons_succ]
    unfold vcss
    rw [List.set_append_right _ _ (by rw [hl, Nat.succ_mul]; omega), hl, vcss_set (by simpa using h) (fun q hq => ho q (List.mem_cons_of_mem _ hq)) (by simpa using hk)]
    have e : (k + 1) * 67 + 66 - 67 = k * 67 + 66 := by rw [Nat.succ_mul]; omega
    rw [e]
theorem OwV.some_ {t : TypeId} {n0 : Nat} {w : World} {A : Option Addr} {n c : Nat} {L : List Vs} (h : OwV t n0 w (.slice A n c) L) (hn : 0 < n) : ∃ g, A = some ⟨g, 0, none⟩ ∧ n = L.length := by
  obtain ⟨A', c', e, hc⟩ := h.len
  injection e with e1 e2 e3
  obtain ⟨R, hl, ho, hv⟩ := h.ex
  rcases ho.2 with ⟨h1, h0⟩ | ⟨g, cap, cur, hv, _⟩
  · injection h1 with h1 h2; omega
  · injection hv with h1
    exact ⟨g, h1, e2⟩
/-- one of its versions -/
theorem OwV.val {t : TypeId} {n0 : Nat} {w : World} {g n c : Nat} {L : List Vs} (h : OwV t n0 w (.slice (some ⟨g, 0, none⟩) n c) L) {k : Nat} (hk : k < n) : ∃ B d, w.cell? ⟨g, k * 67 + 66, none⟩ = some (.slice B (vAt L k).v.length d) ∧ w.frozen? ⟨g, k * 67 + 66, none⟩ = false ∧ Rp w none B (vAt L k).v ∧ (vAt L k).Ok := by
  have hok := h.ok
  obtain ⟨A', c', e, hc⟩ := h.len
  injection e with e1 e2 e3
  obtain ⟨R, hl, ho, hv⟩ := h.ex
  have hq : L[k]? = some (vAt L k) := by unfold vAt; rw [List.getElem?_eq_getElem (by omega)]; rfl
  have hR : R[k]? = some (R[k]'(by omega)) := List.getElem?_eq_getElem _
  have hvb := hv k _ _ hR hq
  obtain ⟨ok, B, d, hV, hd, hr, _⟩ := hvb
  have h66 : (vcs (R[k]'(by omega)) (vAt L k))[66]? = some (R[k]'(by omega)) := by
    have hs := (u8s_length (vAt L k).s).trans ok.s.len
    have hb := (u8s_length (vAt L k).b).trans ok.b.len
    unfold vcs
    rw [List.getElem?_cons_succ, List.getElem?_cons_succ, List.getElem?_append_right (by omega), List.getElem?_append_right (by omega), hs, hb]
    rfl
  have h2 := vcss_at hl hok hR hq 66 _ h66
  have h3 := ho.cells (g := g) rfl _ _ h2
  rw [e2] at *
  rw [Addr.add_lit, Nat.zero_add] at h3
  exact ⟨B, d, by rw [h3, hV], ho.frozenAt _, hr, ok⟩
theorem OwV.setv {t : TypeId} {n0 : Nat} {w : World} {g n c : Nat} {L : List Vs} (h : OwV t n0 w (.slice (some ⟨g, 0, none⟩) n c) L) (ht : t ≠ 5) {k : Nat} (hk : k < n) {V' : Value} (hV : Vb n0 w V' (vAt L k)) (hn : n0 ≤ w.heap.size) :
    OwV t n0 (w.setCell ⟨g, k * 67 + 66, none⟩ V') (.slice (some ⟨g, 0, none⟩) n c) L ∧ Below n0 w (w.setCell ⟨g, k * 67 + 66, none⟩ V') := by
  have hok := h.ok
  have hty := h.ty
  obtain ⟨A', c', e, hc⟩ := h.len
  injection e with e1 e2 e3
  obtain ⟨R, hl, ho, hv⟩ := h.ex
  rw [← e2] at ho
  obtain ⟨s1, s2⟩ := ho.stored (k * 67 + 66) V'
  have hg : w.grownBy (w.setCell ⟨g, k * 67 + 66, none⟩ V') (Value.slice (some ⟨g, 0, none⟩) n c).ownBlock := s2
  refine ⟨⟨R.set k V', by rw [List.length_set]; exact hl, by rw [vcss_set hl hok (by omega), ← e2]; exact s1, fun i V q h1 h2 => ?_⟩, (Below.refl _ _).grown hg hn (fun k hk => (hty k hk).1)⟩
  by_cases hik : i = k
  · subst hik
    rw [List.getElem?_set_self (by omega)] at h1
    injection h1 with h1
    subst h1
    have e4 : q = vAt L i := by unfold vAt; rw [h2]; rfl
    rw [e4]
    exact vb_grown ht hg hty hV
  · rw [List.getElem?_set_ne (fun e => hik e.symm)] at h1
    exact vb_grown ht hg hty (hv i V q h1 h2)
theorem Fresh.vb {n0 : Nat} {w w' : World} {A : Option Addr} {q : Vs} {d : Nat} (h : Fresh w w' A q.v) (hq : q.Ok) (hd : q.v.length ≤ d) : Vb n0 w' (.slice A q.v.length d) q :=
  ⟨hq, A, d, rfl, hd, h.rp0, fun hx a ha => by
    obtain ⟨g, cur, e, hg, hb, hc⟩ := h hx
    rw [e] at ha
    injection ha with ha
    subst ha
    exact .inr ⟨cur, hb⟩⟩
set_option maxHeartbeats 4000000 in
theorem copied_any {A : Option Addr} {n c : Nat} {L : List Vs} {w : World} (h : InV w A n L) (hn : n ≤ 1000) (hv : ∀ q ∈ L, q.v.length ≤ 1000) : Calls Tryd.prog 88 #[.slice A n c] w (OvA 75 w L) := by
  have CC := hid (vClone_any (c := c) h hn)
  have HN := hid hn; have HL := hid h.len; have HV := hid hv
  have SHORT := hid (fun (k : Nat) (hk : k < n) => h.shorts hv hk)
  have hmax := h.max
  unfold OvA at CC ⊢
  clear h hn hv
  go_enter Tryd.func88, Tryd.ntmps88
  go_upto_region 2 with (go_at_call 123; refine CC.out.mono ?_; rintro e w1 ⟨v1, rfl, ho1, hb1⟩; have O1 := hid ho1; have B1 := hid hb1; clear ho1 hb1)
  obtain ⟨A1, c1, hv1, hc1⟩ := O1.out.len
  rw [HL.out] at hv1
  subst hv1
  clear hc1
  go_wp2
  go_loopw [4, 9] (fun u i wr => ∃ k : Nat, k ≤ n ∧ i = .int .i64 (k : Nat) ∧ Hid (OwV 75 w.heap.size wr (.slice A1 n c1) L) ∧ Hid (Below w.heap.size w wr)) (fun _ i _ => n - (intOf i).toNat)
  case atStart => exact ⟨0, Nat.zero_le _, rfl, O1.out, B1.out⟩
  case round =>
    obtain ⟨k, hk, rfl, OV, BL⟩ := hrel
    clear O1 B1
    by_cases hkn : k < n
    · have hlt : ((k : Int) < (n : Int)) := by omega
      obtain ⟨g, rfl, hnl⟩ := OV.out.some_ (by omega)
      obtain ⟨B, d, c1', f1, hr, hok⟩ := OV.out.val hkn
      have hs := SHORT.out k hkn
      have CB := hid (cClone_any B d (vAt L k).v wr hr (by omega))
      have HOK := hid hok
      obtain ⟨q, hq⟩ : ∃ q, q = vAt L k := ⟨_, rfl⟩
      rw [← hq] at CB HOK c1'
      have HQ := hid hq
      obtain ⟨m, hm⟩ : ∃ m, m = q.v.length := ⟨_, rfl⟩
      rw [← hm] at c1' CB
      have HM := hid hm
      have HKN := hid hkn
      clear hr hs hq hm hok hnl f1
      go_wp2_with (go_at_call 89; refine CB.out.mono ?_; rintro e w2 ⟨⟨A2, c2, rfl, hc2, hf2⟩, hb2⟩; have c2' := ccell_bel hb2 c1'; have f2 : w2.frozen? ⟨g, k * 67 + 66, none⟩ = false := (((OV.out.below hb2).val HKN.out).elim fun _ h => h.elim fun _ h => h.2.1); have O2 := hid (OV.out.below hb2); have B2 := hid (BL.out.trans (hb2.mono BL.out.size)); have HC2 := hid hc2; have F2 := hid hf2; clear hc2 hf2 hb2 c1')
      have ST := O2.out.setv (by decide) HKN.out (V' := .slice A2 m c2) (by
        have := F2.out.vb (n0 := w.heap.size) (d := c2) HOK.out (by rw [← HM.out]; exact HC2.out)
        rw [← HM.out, HQ.out] at this; exact this) B2.out.size
      have ST1 := hid ST.1
      have ST2 := hid (B2.out.trans ST.2)
      clear ST c2' f2
      go_roundw
      case rel => exact ⟨k + 1, by omega, by go_num, ST1.out, ST2.out⟩
      case measure => simp [intOf]; omega
    · have hkn2 : k = n := by omega
      subst hkn2
      go_wp2
      go_ret
      exact ⟨_, rfl, OV.out, BL.out⟩
theorem upt_bound (L : List Vs) (ep : Int) : (upt L ep).length ≤ L.length := by
  unfold upt; exact (List.takeWhile_sublist _).length_le
set_option maxHeartbeats 4000000 in
theorem uptoC_any {A : Option Addr} {n c : Nat} {L : List Vs} {w : World} (ep : Int) (h : InV w A n L) (hn : n ≤ 1000) (hc : n ≤ c) (hv : ∀ q ∈ L, q.v.length ≤ 1000) : Calls Tryd.prog 49 #[.slice A n c, .int .i64 ep] w (OvA 75 w (upt L ep)) := by
  have H := hid h; have HL := hid h.len; have HN := hid hn
  have CC := hid (fun (k : Nat) (hk : k ≤ n) => copied_any (c := c) (h.front hk) (by omega) (fun q hq => hv q (List.mem_of_mem_take hq)))
  have hmax := h.max
  clear h hn hv
  unfold OvA at CC ⊢
  go_enter Tryd.func49, Tryd.ntmps49
  go_wp2
  go_loop [5] (fun i => ∃ k : Nat, k ≤ n ∧ i = .int .i64 (k : Nat) ∧ Hid (∀ j, j < k → (vAt L j).e ≤ ep)) (fun i => n - (intOf i).toNat)
  case atStart => exact ⟨0, Nat.zero_le _, rfl, (fun j hj => absurd hj (Nat.not_lt_zero _))⟩
  case round =>
    obtain ⟨k, hk, rfl, HE⟩ := hrel
    have hkc : k ≤ c := by omega
    have hki : (k : Int) ≤ (c : Int) := by omega
    by_cases hkn : k < n
    · have hlt : ((k : Int) < (n : Int)) := by omega
      obtain ⟨b, oo, V, rfl, hbl, hat, harg, hq⟩ := H.out.at hkn
      have c1 := hat.e
      by_cases hep : (vAt L k).e ≤ ep
      · obtain ⟨x, hx⟩ : ∃ x, x = (vAt L k).e := ⟨_, rfl⟩
        rw [← hx] at c1 hep
        have HX := hid hx
        clear hat harg hq hx hbl
        go_wp2
        go_round
        case rel =>
          refine ⟨k + 1, by omega, by go_num, ?_⟩
          intro j hj
          by_cases hjk : j = k
          · subst hjk; rw [← HX.out]; exact hep
          · exact HE.out j (by omega)
        case measure => simp [intOf]; omega
      · have e := upt_take L ep k (by rw [HL.out]; exact hk) HE.out (fun _ => hep)
        have CK := CC.out k hk
        rw [← e] at CK
        have CK := hid CK
        obtain ⟨x, hx⟩ : ∃ x, x = (vAt L k).e := ⟨_, rfl⟩
        rw [← hx] at c1 hep
        clear hat harg hq hx hbl e
        go_wp2_with (go_at_call 88; refine CK.out.mono ?_; rintro e w1 ⟨v1, rfl, ho1, hb1⟩; have O1 := hid ho1; have B1 := hid hb1; clear ho1 hb1)
        go_ret
        exact ⟨_, rfl, O1.out, B1.out⟩
    · have hkn2 : k = n := by omega
      subst hkn2
      have e := upt_take L ep k (by rw [HL.out]; exact Nat.le_refl _) HE.out (fun h => by rw [HL.out] at h; omega)
      have CK := CC.out k hk
      rw [← e] at CK
      have CK := hid CK
      clear e
      cases A with
      | none =>
        go_wp2_with (go_at_call 88; refine CK.out.mono ?_; rintro e w1 ⟨v1, rfl, ho1, hb1⟩; have O1 := hid ho1; have B1 := hid hb1; clear ho1 hb1)
        go_ret
        exact ⟨_, rfl, O1.out, B1.out⟩
      | some ad =>
        go_wp2_with (go_at_call 88; refine CK.out.mono ?_; rintro e w1 ⟨v1, rfl, ho1, hb1⟩; have O1 := hid ho1; have B1 := hid hb1; clear ho1 hb1)
        go_ret
        exact ⟨_, rfl, O1.out, B1.out⟩
end Go.Proofs.YtjhaamffgkialaaDoor
