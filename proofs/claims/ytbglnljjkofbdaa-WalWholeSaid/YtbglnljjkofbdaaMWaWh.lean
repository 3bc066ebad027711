/-
  What is proved here: with power, and room, all records that were appended are found, in order; room is what is left.
-/
import Derived.Test.YtbglnljjkofbdaaMWaG
import Derived.Deep.DeepCutAuto
import Derived.Deep.RegionLaw
import Derived.OrdersHeld
set_option linter.unusedSimpArgs false
set_option linter.unusedVariables false
namespace Go.Proofs.Ytbglnljjkofbdaa
open Go.ChangeShapes Go.WideShapes Go.ChangeAt Go.RowKit
set_option linter.unusedVariables false
set_option linter.unusedSimpArgs false
set_option maxRecDepth 20000

theorem np_few {n : Nat} (h : n ≤ 1000) : np n ≤ 10 := by unfold np; omega
set_option maxHeartbeats 8000000 in
theorem wwhole_walk (A1 : Option Addr) (n1 d1 : Nat) (L : List (List Int)) (w : World) (hin : InR w A1 n1 L) :
    Calls Try.prog 4 #[.slice A1 n1 d1] w fun e w' => e = .returned (.bool true) ∧ Below w.heap.size w w' := by
  have CW := hid (fun w => wawake_any w)
  have CF := hid (fun u (hu : Below w.heap.size w u) => RFew_nm A1 n1 d1 L u (hin.below hu) 30 1000 (by decide) (by decide))
  by_cases hfew : fewR L 30 1000 = false
  · rw [hfew] at CF
    clear hin hfew
    go_enter Try.func4, Try.ntmps4
    go_wp2_with (first
      | (go_at_call 6; (with_reducible refine (CW.out w).mono ?_); rintro e w1 ⟨rfl, hb1⟩; have B1 := hid hb1; clear hb1)
      | (go_at_call 16; refine (CF.out _ B1.out).mono ?_; rintro e w2 ⟨rfl, rfl⟩)
      | (go_at_call 6; refine (CW.out _).mono ?_; rintro e w3 ⟨rfl, hb3⟩; have B3 := hid (B1.out.trans (hb3.mono B1.out.size)); clear hb3))
    go_ret
    exact ⟨rfl, B3.out⟩
  · have hfew' : fewR L 30 1000 = true := by simpa using hfew
    rw [hfew'] at CF
    obtain ⟨hn30, hsm⟩ := fewR_all hfew' (by decide)
    have hL1 := hin.1
    obtain ⟨n0, hn0⟩ : ∃ n0, n0 = w.heap.size := ⟨_, rfl⟩
    have HN0 := hid hn0
    have CN := hid (fun (u : World) => Dy.new 400 u (by decide))
    obtain ⟨s0, hs0⟩ : ∃ s0, s0 = (⟨List.replicate 400 zpg, [], -1, false⟩ : SS) := ⟨_, rfl⟩
    rw [← hs0] at CN
    have hfp0 : FP 400 400 7 0 [] s0 ⟨7, 0, false⟩ := by rw [hs0]; exact fp_new (by omega) ⟨by decide, by decide⟩
    have hsc : scn (s0.lp 0) 400 400 0 1 = ([], 0, 1) := by rw [hs0]; exact scn_zero 1 400 0 400 (by omega) (by decide)
    have CO : Hid (∀ b w1, Dy n0 w1 b s0 → Calls Try.prog 9 #[.pointer (some ⟨b, 0, none⟩), .int .i64 0, .int .i64 400, .int .u32 1, .int .u32 7] w1 (OpA b 0 400 7 (s0.lp 0) 1 w1)) := hid fun b w1 h => wOpen_any h hfp0.bs hfp0.on.2.1 0 400 7 1 (by rw [hfp0.ln]; omega) (by omega) (by decide) ⟨by decide, by decide⟩
    unfold OpA at CO
    rw [hsc] at CO
    have HIN := hid hin
    have HSM : Hid (∀ f ∈ L, f.length ≤ 1000) := hid hsm
    have HL1 := hid hL1
    have HF0 := hid hfp0
    have hn30' : n1 ≤ 30 := by omega
    clear hs0 hfp0 hsc hin hsm hL1 hfew hfew' hn0 hn30
    go_enter Try.func4, Try.ntmps4
    go_wp2_with (first
      | (go_at_call 6; (with_reducible refine (CW.out w).mono ?_); rintro e w1 ⟨rfl, hb1⟩; have B1 := hid hb1; clear hb1)
      | (go_at_call 16; refine (CF.out _ B1.out).mono ?_; rintro e w2 ⟨rfl, rfl⟩)
      | (go_at_call 8; refine (CN.out _).mono ?_; rintro e w2 ⟨b, rfl, hd, hb2⟩; have B2 : Hid (Below n0 w w2) := hid (by rw [HN0.out]; exact B1.out.trans (hb2.mono B1.out.size)); have HD := hid (hd.mono2 (show n0 ≤ w1.heap.size by rw [HN0.out]; exact B1.out.size)); have CO1 := hid (CO.out b w2 HD.out); clear hd hb2)
      | (go_at_call 9; refine CO1.out.mono ?_; rintro e w3 ⟨lb, V, rfl, hlb, hlg, hal, hb3⟩; obtain ⟨A7, c7, hv7⟩ := hal.len; subst hv7; have HD3 := hid (HD.out.below hb3); have S2 : Hid (n0 ≤ w2.heap.size) := hid (by have := B2.out.size; rw [← HN0.out] at this; exact this); have B3 := hid (B2.out.trans (hb3.mono S2.out)); have HLB := hid (Nat.le_trans S2.out hlb); have LG3 := hid hlg; clear hlb hlg hal hb3))
    clear CO CO1 CN CW CF B1 B2 HD S2
    go_loopw [8, 9] (fun rm i wr => ∃ (k : Nat) (s : SS) (l : LS), k ≤ n1 ∧ i = .int .i64 k ∧ rm = .int .i64 ((400 : Int) - l.n) ∧ Hid (l.n ≤ 10 * k) ∧ Hid (FP 400 400 7 k (L.take k) s l) ∧ Hid (Dy n0 wr b s) ∧ Hid (Blk wr lb 55 (lgC b 0 400 l)) ∧ Hid (Below n0 w wr)) (fun _ i _ => n1 - (intOf i).toNat)
    case atStart => exact ⟨0, s0, ⟨7, 0, false⟩, by omega, rfl, rfl, Nat.zero_le _, HF0, HD3, LG3, B3⟩
    case round =>
      obtain ⟨k, s, l, hk, rfl, rfl, LN, FPK, DK, LK, BE⟩ := hrel
      clear HD3 LG3 B3 HF0
      have S0 : Hid (n0 ≤ wr.heap.size) := hid (by have := BE.out.size; rw [← HN0.out] at this; exact this)
      by_cases hlt : k < n1
      · obtain ⟨b0, o0, rfl, hb0, hat⟩ := HIN.out.2.2 (by omega)
        obtain ⟨B, cc, r, h1, h2, h3, h4, h5, h6⟩ := hat k hlt
        have HB0 : Hid (b0 < n0) := hid (by rw [HN0.out]; exact hb0)
        have hr61 : r.length ≤ 1000 := HSM.out r (List.mem_of_getElem? h1)
        have HTK : Hid (L.take (k + 1) = L.take k ++ [r]) := by show _ = _; rw [List.take_add_one, h1]; rfl
        obtain ⟨m, hm⟩ : ∃ m, m = r.length := ⟨_, rfl⟩
        rw [← hm] at h2 h5 h6 hr61
        have HM := hid hm
        have Z0 := hid h2
        have z0 : wr.cell? ⟨b0, o0 + k, none⟩ = some (.slice B m cc) := (BE.out.cell HB0.out).trans h2
        obtain ⟨u, hu⟩ : ∃ u, u = l.n := ⟨_, rfl⟩
        obtain ⟨pn, hpn⟩ : ∃ p, p = np m := ⟨_, rfl⟩
        have hpb : pn ≤ 10 := by rw [hpn]; exact np_few hr61
        have hu300 : u ≤ 300 := by rw [hu]; have := LN.out; omega
        have CX := hid (fun u => xparts_any m u (by omega))
        have CWP := hid (fun u => wparts_any m u (by omega))
        rw [← hpn] at CX CWP
        have hst := FPK.out.step (r := r) h3
        rw [← hm, ← hpn, ← hu] at hst
        have CA : Hid (∀ y, Below wr.heap.size wr y → Calls Try.prog 10 #[.pointer (some ⟨lb, 0, none⟩), .slice B m cc] y (ApA n0 b lb 0 400 (s.ap 0 400 l r) y)) := hid fun y hy => wAppend_any (DK.out.below hy) (Nat.le_trans S0.out hy.size) lb 0 400 l HLB.out (LK.out.below hy) (by omega) (by omega) FPK.out.le (by have := FPK.out.g; omega) B m cc r HM.out ((show Rp wr none B r from h4.same fun g hg _ => BE.out.block g (by rw [HN0.out]; exact hg)).belowN hy) (fun _ hx a ha => .inl (by rw [HN0.out]; exact rp_lt h4 hx a ha)) h5 h6 (by have := FPK.out.ql; omega)
        generalize s.ap 0 400 l r = Y at hst CA
        obtain ⟨e9, s9, l9⟩ := Y
        unfold ApA at CA
        simp only at hst CA
        clear h1 h2 h3 h4 h5 h6 hat hm hb0
        have hst2 : e9 = 0 ∧ FP 400 400 7 (k + 1) (L.take k ++ [r]) s9 l9 ∧ l9.n = u + pn := by
          rcases hst with ⟨hcase, _⟩ | ⟨_, hcase, _⟩ | ⟨_, _, q1, q2, q3⟩
          · omega
          · omega
          · exact ⟨q1, q2, q3⟩
        obtain ⟨rfl, hfp, hnn⟩ := hst2
        have HFP : Hid (FP 400 400 7 (k + 1) (L.take (k + 1)) s9 l9) := hid (by rw [HTK.out]; exact hfp)
        have LN9 : Hid (l9.n ≤ 10 * (k + 1)) := by show _ ≤ _; have := LN.out; omega
        have HNN := hid hnn
        have CRX : Hid (∀ x, Blk x lb 55 (lgC b 0 400 l9) → Calls Try.prog 18 #[.pointer (some ⟨lb, 0, none⟩)] x fun e w' => e = .returned (.int .i64 ((400 : Int) - (u : Int) - (pn : Int))) ∧ ∃ q, w' = x.drewN q) := hid fun x hx => by
          have := wroom_any lb b 0 400 l9 x hx (by omega) (hfp.le)
          rw [show ((400 : Nat) : Int) - (l9.n : Nat) = (400 : Int) - (u : Int) - (pn : Int) by omega] at this
          exact this
        have HU := hid hu
        rw [← hu]
        clear hst hfp hnn hu hpn
        go_wp2_with (go_at_call 17; refine (CX.out _).mono ?_; rintro e wq ⟨rfl, rfl⟩)
        have BX : Hid (Below wr.heap.size wr wr) := hid (Below.refl _ _)
        refine wp_region_held (S := fun w' => Hid (Below n0 w w')) (by kernel_rfl) ?_
        change wpAnyH _ _ _ _ _ _ _ _ wr.drew
        have Gx0 : Hid (Below n0 w wr.drew) := BE.out.trans ((below_drew1 _).mono S0.out)
        have BX' : Hid (Below wr.heap.size wr wr.drew) := below_drew1 _
        clear BX
        have BX := BX'
        clear BX'
        generalize wr.drew = x0 at Gx0 BX ⊢
        refine wpAnyH_take (i := 0) (oi := { dst := some 55, op := _, type := _, pos := _, after := _, guard := _ }) (v := ?_) rfl (by kernel_rfl) (by kernel_rfl) (by kernel_rfl) (fun _ _ _ h => h) (Or.inl ⟨by kernel_rfl, ?_⟩) Gx0 ?_
        rotate_left
        · (intro w hSw; go_simp; try with_reducible rfl)
        try simp only [Act.put, List.setIfInBounds_toArray, List.set_cons_zero, List.set_cons_succ]
        refine wpAnyH_take (i := 1) (oi := { dst := some 56, op := _, type := _, pos := _, after := _, guard := _ }) (v := ?_) rfl (by kernel_rfl) (by kernel_rfl) (by kernel_rfl) (fun _ _ _ h => h) (Or.inl ⟨by kernel_rfl, ?_⟩) Gx0 ?_
        rotate_left
        · (intro w hSw; go_simp; try with_reducible rfl)
        try simp only [Act.put, List.setIfInBounds_toArray, List.set_cons_zero, List.set_cons_succ]
        refine wpAnyH_take (i := 2) (oi := { dst := some 57, op := _, type := _, pos := _, after := _, guard := _ }) (v := ?_) rfl (by kernel_rfl) (by kernel_rfl) (by kernel_rfl) (fun _ _ _ h => h) (Or.inl ⟨by kernel_rfl, ?_⟩) Gx0 ?_
        rotate_left
        · (intro w hSw; go_simp; try with_reducible rfl)
        try simp only [Act.put, List.setIfInBounds_toArray, List.set_cons_zero, List.set_cons_succ]
        refine wpAnyH_take (i := 3) (oi := { dst := some 58, op := _, type := _, pos := _, after := _, guard := _ }) (v := ?_) rfl (by kernel_rfl) (by kernel_rfl) (by kernel_rfl) (fun _ _ _ h => h) (Or.inl ⟨by kernel_rfl, ?_⟩) Gx0 ?_
        rotate_left
        · (intro w hSw; go_simp; try with_reducible rfl)
        try simp only [Act.put, List.setIfInBounds_toArray, List.set_cons_zero, List.set_cons_succ]
        refine wpAnyH_take (i := 4) (oi := { dst := some 59, op := _, type := _, pos := _, after := _, guard := _ }) (v := ?_) rfl (by kernel_rfl) (by kernel_rfl) (by kernel_rfl) (fun _ _ _ h => h) (Or.inl ⟨by kernel_rfl, ?_⟩) Gx0 ?_
        rotate_left
        · (intro w hSw; have hc := (hSw.out.cell HB0.out).trans Z0.out; go_simp; try with_reducible rfl)
        try simp only [Act.put, List.setIfInBounds_toArray, List.set_cons_zero, List.set_cons_succ]
        refine wpAnyH_ready (rs := [5]) (by kernel_rfl) (by simp) ?_
        refine (AllReadyH.cons (o := { dst := some 60, op := _, type := _, pos := _, after := _, guard := _ }) rfl (fun Qc hQc => ?_) AllReadyH.nil)
        go_simp
        go_at_call 10
        refine (CA.out _ BX.out).mono ?_
        rintro e x1 ⟨rfl, h1, h2, h3, h4⟩
        have Gx1 := hid (Gx0.out.trans h4)
        have D4 := hid h1
        have L4 := hid h2
        clear h1 h2 h3 h4
        go_wp2_with fail
        refine hQc.out _ _ Gx1 (fun hHeld => ?_)
        clear hQc Qc hHeld Gx0 BX
        try simp only [Act.put, List.setIfInBounds_toArray, List.set_cons_zero, List.set_cons_succ]
        refine wpAnyH_take (i := 6) (oi := { dst := some 61, op := _, type := _, pos := _, after := _, guard := _ }) (v := ?_) rfl (by kernel_rfl) (by kernel_rfl) (by kernel_rfl) (fun _ _ _ h => h) (Or.inl ⟨by kernel_rfl, ?_⟩) Gx1 ?_
        rotate_left
        · (intro w hSw; go_simp; try with_reducible rfl)
        try simp only [Act.put, List.setIfInBounds_toArray, List.set_cons_zero, List.set_cons_succ]
        refine wpAnyH_take (i := 7) (oi := { dst := some 62, op := _, type := _, pos := _, after := _, guard := _ }) (v := ?_) rfl (by kernel_rfl) (by kernel_rfl) (by kernel_rfl) (fun _ _ _ h => h) (Or.inl ⟨by kernel_rfl, ?_⟩) Gx1 ?_
        rotate_left
        · (intro w hSw; go_simp; try with_reducible rfl)
        try simp only [Act.put, List.setIfInBounds_toArray, List.set_cons_zero, List.set_cons_succ]
        refine wpAnyH_take (i := 8) (oi := { dst := some 63, op := _, type := _, pos := _, after := _, guard := _ }) (v := ?_) rfl (by kernel_rfl) (by kernel_rfl) (by kernel_rfl) (fun _ _ _ h => h) (Or.inl ⟨by kernel_rfl, ?_⟩) Gx1 ?_
        rotate_left
        · (intro w hSw; go_simp; try with_reducible rfl)
        try simp only [Act.put, List.setIfInBounds_toArray, List.set_cons_zero, List.set_cons_succ]
        refine wpAnyH_take (i := 10) (oi := { dst := some 65, op := _, type := _, pos := _, after := _, guard := _ }) (v := ?_) rfl (by kernel_rfl) (by kernel_rfl) (by kernel_rfl) (fun _ _ _ h => h) (Or.inl ⟨by kernel_rfl, ?_⟩) Gx1 ?_
        rotate_left
        · (intro w hSw; go_simp; try with_reducible rfl)
        try simp only [Act.put, List.setIfInBounds_toArray, List.set_cons_zero, List.set_cons_succ]
        refine wpAnyH_ready (rs := [9]) (by kernel_rfl) (by simp) ?_
        refine (AllReadyH.cons (o := { dst := some 64, op := _, type := _, pos := _, after := _, guard := _ }) rfl (fun Qc hQc => ?_) AllReadyH.nil)
        go_simp
        go_at_call 18
        refine (CRX.out _ L4.out).mono ?_
        rintro e x2 ⟨rfl, q5, hy⟩
        have Gx2 := hid (show Below n0 w x2 from by rw [hy]; exact Gx1.out.trans ((below_dn q5).mono (by have := Gx1.out.size; rw [← HN0.out] at this; exact this)))
        have D5 := hid (show Dy n0 x2 b s9 from by rw [hy]; exact D4.out.below (below_dn q5))
        have L5 := hid (show Blk x2 lb 55 (lgC b 0 400 l9) from by rw [hy]; exact L4.out.below (below_dn q5))
        clear hy D4 L4
        go_wp2_with fail
        refine hQc.out _ _ Gx2 (fun hHeld => ?_)
        clear hQc Qc hHeld Gx1
        try simp only [Act.put, List.setIfInBounds_toArray, List.set_cons_zero, List.set_cons_succ]
        refine wpAnyH_take (i := 11) (oi := { dst := some 66, op := _, type := _, pos := _, after := _, guard := _ }) (v := ?_) rfl (by kernel_rfl) (by kernel_rfl) (by kernel_rfl) (fun _ _ _ h => h) (Or.inl ⟨by kernel_rfl, ?_⟩) Gx2 ?_
        rotate_left
        · (intro w hSw; go_simp; try with_reducible rfl)
        try simp only [Act.put, List.setIfInBounds_toArray, List.set_cons_zero, List.set_cons_succ]
        refine wpAnyH_take (i := 12) (oi := { dst := some 67, op := _, type := _, pos := _, after := _, guard := _ }) (v := ?_) rfl (by kernel_rfl) (by kernel_rfl) (by kernel_rfl) (fun _ _ _ h => h) (Or.inl ⟨by kernel_rfl, ?_⟩) Gx2 ?_
        rotate_left
        · (intro w hSw; go_simp; try with_reducible rfl)
        try simp only [Act.put, List.setIfInBounds_toArray, List.set_cons_zero, List.set_cons_succ]
        refine wpAnyH_take (i := 13) (oi := { dst := some 68, op := _, type := _, pos := _, after := _, guard := _ }) (v := ?_) rfl (by kernel_rfl) (by kernel_rfl) (by kernel_rfl) (fun _ _ _ h => h) (Or.inl ⟨by kernel_rfl, ?_⟩) Gx2 ?_
        rotate_left
        · (intro w hSw; go_simp; try with_reducible rfl)
        try simp only [Act.put, List.setIfInBounds_toArray, List.set_cons_zero, List.set_cons_succ]
        refine wpAnyH_take (i := 14) (oi := { dst := some 69, op := _, type := _, pos := _, after := _, guard := _ }) (v := ?_) rfl (by kernel_rfl) (by kernel_rfl) (by kernel_rfl) (fun _ _ _ h => h) (Or.inl ⟨by kernel_rfl, ?_⟩) Gx2 ?_
        rotate_left
        · (intro w hSw; go_simp; try with_reducible rfl)
        try simp only [Act.put, List.setIfInBounds_toArray, List.set_cons_zero, List.set_cons_succ]
        refine wpAnyH_take (i := 15) (oi := { dst := some 70, op := _, type := _, pos := _, after := _, guard := _ }) (v := ?_) rfl (by kernel_rfl) (by kernel_rfl) (by kernel_rfl) (fun _ _ _ h => h) (Or.inl ⟨by kernel_rfl, ?_⟩) Gx2 ?_
        rotate_left
        · (intro w hSw; go_simp; try with_reducible rfl)
        try simp only [Act.put, List.setIfInBounds_toArray, List.set_cons_zero, List.set_cons_succ]
        refine wpAnyH_take (i := 16) (oi := { dst := some 71, op := _, type := _, pos := _, after := _, guard := _ }) (v := ?_) rfl (by kernel_rfl) (by kernel_rfl) (by kernel_rfl) (fun _ _ _ h => h) (Or.inl ⟨by kernel_rfl, ?_⟩) Gx2 ?_
        rotate_left
        · (intro w hSw; go_simp; try with_reducible rfl)
        try simp only [Act.put, List.setIfInBounds_toArray, List.set_cons_zero, List.set_cons_succ]
        refine wpAnyH_take (i := 17) (oi := { dst := some 72, op := _, type := _, pos := _, after := _, guard := _ }) (v := ?_) rfl (by kernel_rfl) (by kernel_rfl) (by kernel_rfl) (fun _ _ _ h => h) (Or.inl ⟨by kernel_rfl, ?_⟩) Gx2 ?_
        rotate_left
        · (intro w hSw; have hc := (hSw.out.cell HB0.out).trans Z0.out; go_simp; try with_reducible rfl)
        try simp only [Act.put, List.setIfInBounds_toArray, List.set_cons_zero, List.set_cons_succ]
        refine wpAnyH_take (i := 18) (oi := { dst := some 73, op := _, type := _, pos := _, after := _, guard := _ }) (v := ?_) rfl (by kernel_rfl) (by kernel_rfl) (by kernel_rfl) (fun _ _ _ h => h) (Or.inl ⟨by kernel_rfl, ?_⟩) Gx2 ?_
        rotate_left
        · (intro w hSw; go_simp; try with_reducible rfl)
        try simp only [Act.put, List.setIfInBounds_toArray, List.set_cons_zero, List.set_cons_succ]
        refine wpAnyH_take (i := 20) (oi := { dst := some 75, op := _, type := _, pos := _, after := _, guard := _ }) (v := ?_) rfl (by kernel_rfl) (by kernel_rfl) (by kernel_rfl) (fun _ _ _ h => h) (Or.inl ⟨by kernel_rfl, ?_⟩) Gx2 ?_
        rotate_left
        · (intro w hSw; go_simp; try with_reducible rfl)
        try simp only [Act.put, List.setIfInBounds_toArray, List.set_cons_zero, List.set_cons_succ]
        refine wpAnyH_take (i := 21) (oi := { dst := some 76, op := _, type := _, pos := _, after := _, guard := _ }) (v := ?_) rfl (by kernel_rfl) (by kernel_rfl) (by kernel_rfl) (fun _ _ _ h => h) (Or.inl ⟨by kernel_rfl, ?_⟩) Gx2 ?_
        rotate_left
        · (intro w hSw; go_simp; try with_reducible rfl)
        try simp only [Act.put, List.setIfInBounds_toArray, List.set_cons_zero, List.set_cons_succ]
        refine wpAnyH_take (i := 22) (oi := { dst := some 77, op := _, type := _, pos := _, after := _, guard := _ }) (v := ?_) rfl (by kernel_rfl) (by kernel_rfl) (by kernel_rfl) (fun _ _ _ h => h) (Or.inl ⟨by kernel_rfl, ?_⟩) Gx2 ?_
        rotate_left
        · (intro w hSw; go_simp; try with_reducible rfl)
        try simp only [Act.put, List.setIfInBounds_toArray, List.set_cons_zero, List.set_cons_succ]
        refine wpAnyH_take (i := 23) (oi := { dst := some 78, op := _, type := _, pos := _, after := _, guard := _ }) (v := ?_) rfl (by kernel_rfl) (by kernel_rfl) (by kernel_rfl) (fun _ _ _ h => h) (Or.inl ⟨by kernel_rfl, ?_⟩) Gx2 ?_
        rotate_left
        · (intro w hSw; have hc := (hSw.out.cell HB0.out).trans Z0.out; go_simp; try with_reducible rfl)
        try simp only [Act.put, List.setIfInBounds_toArray, List.set_cons_zero, List.set_cons_succ]
        refine wpAnyH_take (i := 24) (oi := { dst := some 79, op := _, type := _, pos := _, after := _, guard := _ }) (v := ?_) rfl (by kernel_rfl) (by kernel_rfl) (by kernel_rfl) (fun _ _ _ h => h) (Or.inl ⟨by kernel_rfl, ?_⟩) Gx2 ?_
        rotate_left
        · (intro w hSw; go_simp; try with_reducible rfl)
        try simp only [Act.put, List.setIfInBounds_toArray, List.set_cons_zero, List.set_cons_succ]
        refine wpAnyH_ready (rs := [19]) (by kernel_rfl) (by simp) ?_
        refine (AllReadyH.cons (o := { dst := some 74, op := _, type := _, pos := _, after := _, guard := _ }) rfl (fun Qc hQc => ?_) AllReadyH.nil)
        go_simp
        go_at_call 19
        refine (CWP.out _).mono ?_
        rintro e y ⟨rfl, hy⟩
        subst hy
        go_wp2_with fail
        refine hQc.out _ _ Gx2 (fun hHeld => ?_)
        clear hQc Qc hHeld
        try simp only [Act.put, List.setIfInBounds_toArray, List.set_cons_zero, List.set_cons_succ]
        refine wpAnyH_ready (rs := [25]) (by kernel_rfl) (by simp) ?_
        refine (AllReadyH.cons (o := { dst := some 80, op := _, type := _, pos := _, after := _, guard := _ }) rfl (fun Qc hQc => ?_) AllReadyH.nil)
        go_simp
        go_at_call 17
        refine (CX.out _).mono ?_
        rintro e y ⟨rfl, hy⟩
        subst hy
        go_wp2_with fail
        refine hQc.out _ _ Gx2 (fun hHeld => ?_)
        clear hQc Qc hHeld
        try simp only [Act.put, List.setIfInBounds_toArray, List.set_cons_zero, List.set_cons_succ]
        refine wpAnyH_take (i := 26) (oi := { dst := some 81, op := _, type := _, pos := _, after := _, guard := _ }) (v := ?_) rfl (by kernel_rfl) (by kernel_rfl) (by kernel_rfl) (fun _ _ _ h => h) (Or.inl ⟨by kernel_rfl, ?_⟩) Gx2 ?_
        rotate_left
        · (intro w hSw; go_simp; try with_reducible rfl)
        try simp only [Act.put, List.setIfInBounds_toArray, List.set_cons_zero, List.set_cons_succ]
        refine wpAnyH_take (i := 27) (oi := { dst := some 82, op := _, type := _, pos := _, after := _, guard := _ }) (v := ?_) rfl (by kernel_rfl) (by kernel_rfl) (by kernel_rfl) (fun _ _ _ h => h) (Or.inl ⟨by kernel_rfl, ?_⟩) Gx2 ?_
        rotate_left
        · (intro w hSw; go_simp; try with_reducible rfl)
        try simp only [Act.put, List.setIfInBounds_toArray, List.set_cons_zero, List.set_cons_succ]
        refine wpAnyH_done (by kernel_rfl) ?_ _
        try simp only [Act.put, List.setIfInBounds_toArray, List.set_cons_zero, List.set_cons_succ]
        go_wp2
        go_roundw
        case rel => exact ⟨k + 1, s9, l9, by omega, by go_num, by rw [HNN.out]; first | rfl | (congr 1; omega), LN9, HFP, D5, L5, Gx2⟩
        case measure => simp [intOf]; omega
      · obtain rfl : k = n1 := by omega
        have ho := FPK.out.on.2.2
        have hall : L.take k = L := List.take_of_length_le (by rw [HL1.out]; exact Nat.le_refl _)
        rw [hall] at FPK
        obtain ⟨N9, M9, A9, P9, X9, hwi⟩ := FPK.out.wi
        have hfo := wi_found hwi ho
        have hlow : scn (s.lp 0) 400 400 0 8 = ([], 0, 8) := scn_low hfo.2.2 (by have := FPK.out.g; omega) 400 0
        have CO2 : Calls Try.prog 9 #[.pointer (some ⟨b, 0, none⟩), .int .i64 0, .int .i64 400, .int .u32 1, .int .u32 7] wr (OpA b 0 400 7 (s.lp 0) 1 wr) := wOpen_any DK.out FPK.out.bs FPK.out.on.2.1 0 400 7 1 (by rw [FPK.out.ln]; omega) (by omega) (by decide) ⟨by decide, by decide⟩
        have CO3 : Hid (∀ x, Below wr.heap.size wr x → Calls Try.prog 9 #[.pointer (some ⟨b, 0, none⟩), .int .i64 0, .int .i64 400, .int .u32 8, .int .u32 8] x (OpA b 0 400 8 (s.lp 0) 8 x)) := hid fun x hx => wOpen_any (DK.out.below hx) FPK.out.bs FPK.out.on.2.1 0 400 8 8 (by rw [FPK.out.ln]; omega) (by omega) (by decide) ⟨by decide, by decide⟩
        unfold OpA at CO2 CO3
        rw [hfo.1, hfo.2.1] at CO2
        rw [hlow] at CO3
        have CO2 := hid CO2
        have HLE := hid FPK.out.le
        have HRA := hid (HIN.out.ral)
        obtain ⟨u, hu⟩ : ∃ u, u = l.n := ⟨_, rfl⟩
        have HU := hid hu
        rw [← hu]
        have CRM : Hid (∀ x lb2, Blk x lb2 55 (lgC b 0 400 ⟨7, l.n, false⟩) → Calls Try.prog 18 #[.pointer (some ⟨lb2, 0, none⟩)] x fun e w' => e = .returned (.int .i64 ((400 : Int) - (u : Int))) ∧ ∃ q, w' = x.drewN q) := hid fun x lb2 hx => by
          have := wroom_any lb2 b 0 400 ⟨7, l.n, false⟩ x hx (by omega) HLE.out
          rw [hu]; exact this
        have CRN : Hid (∀ x lb3, Blk x lb3 55 (lgC b 0 400 ⟨8, 0, false⟩) → Calls Try.prog 18 #[.pointer (some ⟨lb3, 0, none⟩)] x fun e w' => e = .returned (.int .i64 400) ∧ ∃ q, w' = x.drewN q) := hid fun x lb3 hx => wroom_any lb3 b 0 400 ⟨8, 0, false⟩ x hx (by omega) (by simp)
        clear hfo hwi ho hlow hall hu
        go_wp2_with (first
          | (go_at_call 9; (with_reducible refine CO2.out.mono ?_); rintro e w3 ⟨lb2, V, rfl, hlb, hlg, hal, hb3⟩; obtain ⟨A7, c7, hv7, hr7⟩ := hal.ral; subst hv7; have B3R := hid hb3; have B3 := hid (BE.out.trans (hb3.mono S0.out)); have G3 := hid hlg; have AL3 := hid hal; clear hlb hlg hal hb3 hr7)
          | (go_at_call 9; refine (CO3.out _ B3R.out).mono ?_; rintro e w4 ⟨lb3, V, rfl, hlb, hlg, hal, hb4⟩; obtain ⟨A8, c8, hv8⟩ := hal.len; subst hv8; have B4 := hid (B3.out.trans (hb4.mono (Nat.le_trans S0.out B3R.out.size))); have G4 := hid hlg; have G5 := hid (G3.out.below hb4); have CS := hid (RSame_yes A7 A1 L.length k c7 d1 L L w4 rfl HL1.out.symm (by rw [HL1.out]; omega) ((AL3.out.below hb4 (Nat.zero_le _)).ral_at) ((HIN.out.below (by rw [← HN0.out]; exact B4.out)).ral) (fun f hf => by have := HSM.out f hf; omega) (by rw [List.take_length])); clear hlb hlg hal hb4)
          | (go_at_call 20; refine CS.out.mono ?_; rintro e w5 ⟨rfl, q5, rfl⟩)
          | (go_at_call 18; (with_reducible refine (CRM.out _ _ (G5.out.below (below_dn q5))).mono ?_); rintro e w6 ⟨rfl, q6, rfl⟩)
          | (go_at_call 18; refine (CRN.out _ _ (G4.out.below (below_dn _))).mono ?_; rintro e w7 ⟨rfl, q7, rfl⟩))
        go_ret
        exact ⟨rfl, by rw [← HN0.out]; exact B4.out.trans ((below_dn _).mono (by have := B4.out.size; rw [← HN0.out] at this; exact this))⟩
end Go.Proofs.Ytbglnljjkofbdaa
