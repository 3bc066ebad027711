/-
  What is proved here: what is too long, or has no room, is refused, and changes nothing.
-/
import Derived.Test.YtbglnljjkofbdaaMWaG
set_option linter.unusedSimpArgs false
set_option linter.unusedVariables false
namespace Go.Proofs.Ytbglnljjkofbdaa
open Go.ChangeShapes Go.WideShapes Go.ChangeAt Go.RowKit
set_option linter.unusedVariables false
set_option linter.unusedSimpArgs false
set_option maxRecDepth 20000

set_option maxHeartbeats 8000000 in
theorem wfull_walk (x : Int) (A1 : Option Addr) (n1 d1 : Nat) (L : List (List Int)) (w : World) (bx : 0 ≤ x ∧ x ≤ 255) (hin : InR w A1 n1 L) :
    Calls Try.prog 5 #[.int .u8 x, .slice A1 n1 d1] w fun e w' => e = .returned (.bool true) ∧ Below w.heap.size w w' := by
  have CW := hid (fun w => wawake_any w)
  have CF := hid (fun u (hu : Below w.heap.size w u) => RFew_nm A1 n1 d1 L u (hin.below hu) 30 6100 (by decide) (by decide))
  by_cases hfew : fewR L 30 6100 = false
  · rw [hfew] at CF
    clear hin hfew
    go_enter Try.func5, Try.ntmps5
    go_wp2_with (first
      | (go_at_call 6; (with_reducible refine (CW.out w).mono ?_); rintro e w1 ⟨rfl, hb1⟩; have B1 := hid hb1; clear hb1)
      | (go_at_call 16; refine (CF.out _ B1.out).mono ?_; rintro e w2 ⟨rfl, rfl⟩)
      | (go_at_call 6; refine (CW.out _).mono ?_; rintro e w3 ⟨rfl, hb3⟩; have B3 := hid (B1.out.trans (hb3.mono B1.out.size)); clear hb3))
    go_ret
    exact ⟨rfl, B3.out⟩
  · have hfew' : fewR L 30 6100 = true := by simpa using hfew
    rw [hfew'] at CF
    obtain ⟨hn30, hsm⟩ := fewR_all hfew' (by decide)
    have hL1 := hin.1
    obtain ⟨c, hc⟩ : ∃ c : Nat, x.tmod 31 = (c : Int) := ⟨(x.tmod 31).toNat, by have := Int.tmod_nonneg 31 bx.1; omega⟩
    have hc31 : c ≤ 30 := by have := Int.tmod_lt_of_pos x (show (0 : Int) < 31 by decide); omega
    have cu : IntKind.u8.wrap (c : Int) = (c : Int) := by rw [(show ∀ x, IntKind.u8.wrap x = x % 256 by intro x; rfl)]; omega
    obtain ⟨n0, hn0⟩ : ∃ n0, n0 = w.heap.size := ⟨_, rfl⟩
    have HN0 := hid hn0
    have CN := hid (fun (u : World) => Dy.new 30 u (by decide))
    obtain ⟨s0, hs0⟩ : ∃ s0, s0 = (⟨List.replicate 30 zpg, [], -1, false⟩ : SS) := ⟨_, rfl⟩
    rw [← hs0] at CN
    have hfp0 : FP 30 c 1 0 [] s0 ⟨1, 0, false⟩ := by rw [hs0]; exact fp_new (by omega) ⟨by decide, by decide⟩
    have hsc : scn (s0.lp 0) c c 0 1 = ([], 0, 1) := by rw [hs0]; exact scn_zero 1 30 0 c (by omega) (by decide)
    have CO : Hid (∀ b w1, Dy n0 w1 b s0 → Calls Try.prog 9 #[.pointer (some ⟨b, 0, none⟩), .int .i64 0, .int .i64 c, .int .u32 1, .int .u32 1] w1 (OpA b 0 c 1 (s0.lp 0) 1 w1)) := hid fun b w1 h => wOpen_any h hfp0.bs hfp0.on.2.1 0 c 1 1 (by rw [hfp0.ln]; omega) (by omega) (by decide) ⟨by decide, by decide⟩
    unfold OpA at CO
    rw [hsc] at CO
    have HIN := hid hin
    have HSM : Hid (∀ f ∈ L, f.length ≤ 6100) := hid hsm
    have HL1 := hid hL1
    have HF0 := hid hfp0
    have hn30' : n1 ≤ 30 := by omega
    clear hs0 hfp0 hsc hin hsm hL1 hfew hfew' hn0 hn30 bx
    go_enter Try.func5, Try.ntmps5
    go_wp2_with (first
      | (go_at_call 6; (with_reducible refine (CW.out w).mono ?_); rintro e w1 ⟨rfl, hb1⟩; have B1 := hid hb1; clear hb1)
      | (go_at_call 16; refine (CF.out _ B1.out).mono ?_; rintro e w2 ⟨rfl, rfl⟩)
      | (go_at_call 8; refine (CN.out _).mono ?_; rintro e w2 ⟨b, rfl, hd, hb2⟩; have B2 : Hid (Below n0 w w2) := hid (by rw [HN0.out]; exact B1.out.trans (hb2.mono B1.out.size)); have HD := hid (hd.mono2 (show n0 ≤ w1.heap.size by rw [HN0.out]; exact B1.out.size)); have CO1 := hid (CO.out b w2 HD.out); clear hd hb2)
      | (go_at_call 9; refine CO1.out.mono ?_; rintro e w3 ⟨lb, V, rfl, hlb, hlg, hal, hb3⟩; have HD3 := hid (HD.out.below hb3); have S2 : Hid (n0 ≤ w2.heap.size) := hid (by have := B2.out.size; rw [← HN0.out] at this; exact this); have B3 := hid (B2.out.trans (hb3.mono S2.out)); have HLB := hid (Nat.le_trans S2.out hlb); have LG3 := hid hlg; clear hlb hlg hal hb3))
    have AL3 := hid (AllM.nil n0 n0 w3)
    clear CO CO1 CN CW CF B1 B2 HD S2 cu
    go_loopw [11, 12] (fun v i wr => ∃ (k : Nat) (all : List (List Int)) (s : SS) (l : LS), k ≤ n1 ∧ i = .int .i64 k ∧ Hid (FP 30 c 1 k all s l) ∧ Hid (Dy n0 wr b s) ∧ Hid (Blk wr lb 55 (lgC b 0 c l)) ∧ Hid (AllM n0 n0 wr all v) ∧ Hid (Below n0 w wr)) (fun _ i _ => n1 - (intOf i).toNat)
    case atStart => exact ⟨0, [], s0, ⟨1, 0, false⟩, by omega, rfl, HF0, HD3, LG3, AL3, B3⟩
    case round =>
      obtain ⟨k, all, s, l, hk, rfl, FPK, DK, LK, AL, BE⟩ := hrel
      clear HD3 LG3 AL3 B3 HF0
      have S0 : Hid (n0 ≤ wr.heap.size) := hid (by have := BE.out.size; rw [← HN0.out] at this; exact this)
      by_cases hlt : k < n1
      · obtain ⟨b0, o0, rfl, hb0, hat⟩ := HIN.out.2.2 (by omega)
        obtain ⟨B, cc, r, h1, h2, h3, h4, h5, h6⟩ := hat k hlt
        have HB0 : Hid (b0 < n0) := hid (by rw [HN0.out]; exact hb0)
        have hr61 : r.length ≤ 6100 := HSM.out r (List.mem_of_getElem? h1)
        obtain ⟨m, hm⟩ : ∃ m, m = r.length := ⟨_, rfl⟩
        rw [← hm] at h2 h5 h6 hr61
        have HM := hid hm
        have Z0 := hid h2
        have z0 : wr.cell? ⟨b0, o0 + k, none⟩ = some (.slice B m cc) := (BE.out.cell HB0.out).trans h2
        have RQ : Hid (RqL n0 w B r) := hid ⟨h4, fun hx a ha => .inl (by rw [HN0.out]; exact rp_lt h4 hx a ha)⟩
        have HBS := hid h3
        obtain ⟨u, hu⟩ : ∃ u, u = l.n := ⟨_, rfl⟩
        obtain ⟨pn, hpn⟩ : ∃ p, p = np m := ⟨_, rfl⟩
        have hpb : pn ≤ 60 := by rw [hpn]; unfold np; omega
        have CR1 := wroom_any lb b 0 c l wr LK.out (by omega) FPK.out.le
        rw [← hu] at CR1
        have CR1 := hid CR1
        have CX := hid (fun u => xparts_any m u (by omega))
        rw [← hpn] at CX
        have HAL : Hid (all.length ≤ 1000) := hid (by have := FPK.out.al.1; omega)
        have hst := FPK.out.step (r := r) h3
        rw [← hm, ← hpn, ← hu] at hst
        have CA : Hid (∀ y, Below wr.heap.size wr y → Calls Try.prog 10 #[.pointer (some ⟨lb, 0, none⟩), .slice B m cc] y (ApA n0 b lb 0 c (s.ap 0 c l r) y)) := hid fun y hy => wAppend_any (DK.out.below hy) (Nat.le_trans S0.out hy.size) lb 0 c l HLB.out (LK.out.below hy) (by omega) (by omega) FPK.out.le (by have := FPK.out.g; omega) B m cc r HM.out ((RqL.keep RQ.out (fun g cs hg => BE.out.block g (by rw [HN0.out]; exact hg.lt)) BE.out).1.belowN hy) (fun _ hx a ha => .inl (by rw [HN0.out]; exact rp_lt h4 hx a ha)) h5 h6 (by have := FPK.out.ql; omega)
        generalize s.ap 0 c l r = Y at hst CA
        obtain ⟨e9, s9, l9⟩ := Y
        unfold ApA at CA
        simp only at hst CA
        clear h1 h2 h3 h4 h5 h6 hat hm hb0
        have HU := hid hu
        clear hu hpn
        rcases hst with ⟨hcase, he9, hfp, hnn⟩ | ⟨hc6, hcase, he9, hfp, hnn⟩ | ⟨hc6, hcase, he9, hfp, hnn⟩
        · have b6 : (6000 : Int) < (m : Int) := by omega
          obtain rfl : e9 = 3 := he9
          have CRX : Hid (∀ x, Blk x lb 55 (lgC b 0 c l9) → Calls Try.prog 18 #[.pointer (some ⟨lb, 0, none⟩)] x fun e w' => e = .returned (.int .i64 ((c : Int) - (u : Int))) ∧ ∃ q, w' = x.drewN q) := hid fun x hx => by
            have := wroom_any lb b 0 c l9 x hx (by omega) (hfp.le)
            rw [show (c : Int) - (l9.n : Nat) = (c : Int) - (u : Int) by omega] at this
            exact this
          have HFP := hid hfp
          clear hfp hnn hcase
          go_wp2_with (first
            | (go_at_call 18; (with_reducible refine CR1.out.mono ?_); rintro e w3 ⟨rfl, q3, rfl⟩)
            | (go_at_call 10; refine (CA.out _ (below_dn _)).mono ?_; rintro e w4 ⟨rfl, h1, h2, h3, h4⟩; have D4 := hid h1; have L4 := hid h2; have K4 := hid ((Kx.below (below_dn q3)).trans h3); have B4 := hid ((BE.out.trans ((below_dn q3).mono S0.out)).trans h4); have AL4 := hid (AL.out.keep K4.out (((below_dn q3).mono S0.out).trans h4)); have z4 : w4.cell? ⟨b0, o0 + k, none⟩ = some (.slice B m cc) := (B4.out.cell HB0.out).trans Z0.out; have S4 : Hid (n0 ≤ w4.heap.size) := hid (Nat.le_trans S0.out K4.out.sz); clear h1 h2 h3 h4)
            | (go_at_call 17; refine (CX.out _).mono ?_; rintro e wq ⟨rfl, rfl⟩)
            | (go_at_call 18; refine (CRX.out _ L4.out).mono ?_; rintro e w5 ⟨rfl, q5, rfl⟩))
          go_roundw
          case rel => exact ⟨k + 1, all, s9, l9, by omega, by go_num, hid HFP.out, hid (D4.out.below (below_dn _)), hid (L4.out.below (below_dn _)), hid (AL4.out.below (below_dn _) S4.out), hid (B4.out.trans ((below_dn _).mono S4.out))⟩
          case measure => simp [intOf]; omega
        · have b6 : ¬ (6000 : Int) < (m : Int) := by omega
          have b7 : (c : Int) - (u : Int) < (pn : Int) := by omega
          obtain rfl : e9 = 5 := he9
          have CRX : Hid (∀ x, Blk x lb 55 (lgC b 0 c l9) → Calls Try.prog 18 #[.pointer (some ⟨lb, 0, none⟩)] x fun e w' => e = .returned (.int .i64 ((c : Int) - (u : Int))) ∧ ∃ q, w' = x.drewN q) := hid fun x hx => by
            have := wroom_any lb b 0 c l9 x hx (by omega) (hfp.le)
            rw [show (c : Int) - (l9.n : Nat) = (c : Int) - (u : Int) by omega] at this
            exact this
          have HFP := hid hfp
          clear hfp hnn hcase
          go_wp2_with (first
            | (go_at_call 18; (with_reducible refine CR1.out.mono ?_); rintro e w3 ⟨rfl, q3, rfl⟩)
            | (go_at_call 10; refine (CA.out _ (below_dn _)).mono ?_; rintro e w4 ⟨rfl, h1, h2, h3, h4⟩; have D4 := hid h1; have L4 := hid h2; have K4 := hid ((Kx.below (below_dn q3)).trans h3); have B4 := hid ((BE.out.trans ((below_dn q3).mono S0.out)).trans h4); have AL4 := hid (AL.out.keep K4.out (((below_dn q3).mono S0.out).trans h4)); have z4 : w4.cell? ⟨b0, o0 + k, none⟩ = some (.slice B m cc) := (B4.out.cell HB0.out).trans Z0.out; have S4 : Hid (n0 ≤ w4.heap.size) := hid (Nat.le_trans S0.out K4.out.sz); clear h1 h2 h3 h4)
            | (go_at_call 17; refine (CX.out _).mono ?_; rintro e wq ⟨rfl, rfl⟩)
            | (go_at_call 18; refine (CRX.out _ L4.out).mono ?_; rintro e w5 ⟨rfl, q5, rfl⟩))
          go_roundw
          case rel => exact ⟨k + 1, all, s9, l9, by omega, by go_num, hid HFP.out, hid (D4.out.below (below_dn _)), hid (L4.out.below (below_dn _)), hid (AL4.out.below (below_dn _) S4.out), hid (B4.out.trans ((below_dn _).mono S4.out))⟩
          case measure => simp [intOf]; omega
        · have b6 : ¬ (6000 : Int) < (m : Int) := by omega
          have b7 : ¬ (c : Int) - (u : Int) < (pn : Int) := by omega
          obtain rfl : e9 = 0 := he9
          have CRX : Hid (∀ x, Blk x lb 55 (lgC b 0 c l9) → Calls Try.prog 18 #[.pointer (some ⟨lb, 0, none⟩)] x fun e w' => e = .returned (.int .i64 ((c : Int) - (u : Int) - (pn : Int))) ∧ ∃ q, w' = x.drewN q) := hid fun x hx => by
            have := wroom_any lb b 0 c l9 x hx (by omega) (hfp.le)
            rw [show (c : Int) - (l9.n : Nat) = (c : Int) - (u : Int) - (pn : Int) by omega] at this
            exact this
          have HFP := hid hfp
          clear hfp hnn hcase
          go_wp2_with (first
            | (go_at_call 18; (with_reducible refine CR1.out.mono ?_); rintro e w3 ⟨rfl, q3, rfl⟩)
            | (go_at_call 10; refine (CA.out _ (below_dn _)).mono ?_; rintro e w4 ⟨rfl, h1, h2, h3, h4⟩; have D4 := hid h1; have L4 := hid h2; have K4 := hid ((Kx.below (below_dn q3)).trans h3); have B4 := hid ((BE.out.trans ((below_dn q3).mono S0.out)).trans h4); have AL4 := hid (AL.out.keep K4.out (((below_dn q3).mono S0.out).trans h4)); have z4 : w4.cell? ⟨b0, o0 + k, none⟩ = some (.slice B m cc) := (B4.out.cell HB0.out).trans Z0.out; have S4 : Hid (n0 ≤ w4.heap.size) := hid (Nat.le_trans S0.out K4.out.sz); clear h1 h2 h3 h4)
            | (go_at_call 17; refine (CX.out _).mono ?_; rintro e wq ⟨rfl, rfl⟩)
            | (at_builtin; refine append_m rfl (.tmp 99) (.tmp 104) rfl n0 n0 all _ rfl AL4.out B m cc r rfl HAL.out (RqL.keep RQ.out (fun g cs hg => B4.out.block g (by rw [HN0.out]; exact hg.lt)) B4.out) HM.out S4.out (Nat.le_refl _) ?_; intro v9 w9 hm9 kb9 b9; have M9 := hid hm9; have D9 := hid (D4.out.kb kb9); have L9 := hid (kb9.blk L4.out (by decide)); have B9 := hid (B4.out.trans b9); have CR2 := hid (CRX.out _ L9.out); clear hm9 kb9 b9)
            | (go_at_call 18; refine CR2.out.mono ?_; rintro e w5 ⟨rfl, q5, rfl⟩))
          go_roundw
          case rel => exact ⟨k + 1, all ++ [r], s9, l9, by omega, by go_num, hid HFP.out, hid (D9.out.below (below_dn _)), hid (L9.out.below (below_dn _)), hid (M9.out.below (below_dn _) (Nat.le_trans (Nat.le_of_eq HN0.out) B9.out.size)), hid (B9.out.trans ((below_dn _).mono (Nat.le_trans (Nat.le_of_eq HN0.out) B9.out.size)))⟩
          case measure => simp [intOf]; omega
      · obtain rfl : k = n1 := by omega
        have ho := FPK.out.on.2.2
        obtain ⟨N9, M9, A9, P9, X9, hwi⟩ := FPK.out.wi
        have hfo := wi_found hwi ho
        have CO2 := wOpen_any DK.out FPK.out.bs FPK.out.on.2.1 0 c 2 1 (by rw [FPK.out.ln]; omega) (by omega) (by decide) ⟨by decide, by decide⟩
        unfold OpA at CO2
        rw [hfo.1] at CO2
        have CO2 := hid CO2
        have HALL := hid FPK.out.al
        clear hfo hwi ho
        obtain ⟨A8, c8, hv8, hral⟩ := AL.out.ral
        subst hv8
        have RAL := hid hral
        clear hral
        go_wp2_with (first
          | (go_at_call 9; refine CO2.out.mono ?_; rintro e w3 ⟨lb2, V, rfl, hlb, hlg, hal, hb3⟩; obtain ⟨A7, c7, hv7, hr7⟩ := hal.ral; subst hv7; have B3 := hid (BE.out.trans (hb3.mono S0.out)); have R8 := hid ((AL.out.below hb3 S0.out).ral_at); have CS := hid (RSame_yes A7 A8 all.length all.length c7 c8 all all w3 rfl rfl (by have := HALL.out.1; omega) hr7 R8.out (fun f hf => by have := HALL.out.2 f hf; omega) (by rw [List.take_length])); clear hlb hlg hal hb3 hr7)
          | (go_at_call 20; refine CS.out.mono ?_; rintro e w4 ⟨rfl, q4, rfl⟩))
        go_ret
        exact ⟨rfl, by rw [← HN0.out]; exact B3.out.trans ((below_dn q4).mono (by have := B3.out.size; rw [← HN0.out] at this; exact this))⟩
end Go.Proofs.Ytbglnljjkofbdaa
