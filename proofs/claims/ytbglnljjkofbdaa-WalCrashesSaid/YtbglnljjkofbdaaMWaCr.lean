/-
  What is proved here: whatever is appended, wherever the power goes, whatever of what waits is kept: the records that are found are the first ones of those that were there and were appended since, and at least those that were flushed.
-/
import Derived.Test.YtbglnljjkofbdaaMWaR
import Derived.Deep.DeepCutAuto
import Derived.Deep.RegionLaw
import Derived.OrdersHeld
set_option linter.unusedSimpArgs false
set_option linter.unusedVariables false
namespace Go.Proofs.Ytbglnljjkofbdaa
open Go.ChangeShapes Go.WideShapes Go.ChangeAt Go.RowKit
set_option linter.unusedVariables false
set_option linter.unusedSimpArgs false
set_option maxRecDepth 20000

set_option maxHeartbeats 16000000 in
theorem wcrash_40 (A1 : Option Addr) (n1 d1 : Nat) (ol : List Oq) (w : World) (hin : InOps w A1 n1 ol) (h40 : n1 ≤ 40) (hsm : SmallO ol ol.length)
    (CF : Hid (∀ w', Below w.heap.size w w' → Calls Try.prog 7 #[.slice A1 n1 d1, .int .i64 40] w' fun e w2 => e = .returned (.bool true) ∧ w' = w2)) :
    Calls Try.prog 3 #[.slice A1 n1 d1] w fun e w' => e = .returned (.bool true) ∧ Below w.heap.size w w' := by
  obtain ⟨n0, hn0⟩ : ∃ n0, n0 = w.heap.size := ⟨_, rfl⟩
  have HN0 := hid hn0
  have HOPS := hid hin; have H40 := hid h40; have HSM := hid hsm
  have HOL : Hid (ol.length = n1) := hin.1
  have CW := hid (fun w => wawake_any w)
  have CN := hid (fun (u : World) => Dy.new 60 u (by decide))
  obtain ⟨s0, hs0⟩ : ∃ s0, s0 = (⟨List.replicate 60 zpg, [], -1, false⟩ : SS) := ⟨_, rfl⟩
  rw [← hs0] at CN
  have hcp0 : CP 0 [] 0 s0 ⟨1, 0, false⟩ := by rw [hs0]; exact cp_new
  have hsc : scn (s0.lp 3) 50 50 0 1 = ([], 0, 1) := by rw [hs0]; exact scn_zero 1 60 3 50 (by omega) (by decide)
  have CO : Hid (∀ b w1, Dy n0 w1 b s0 → Calls Try.prog 9 #[.pointer (some ⟨b, 0, none⟩), .int .i64 3, .int .i64 50, .int .u32 1, .int .u32 1] w1 (OpA b 3 50 1 (s0.lp 3) 1 w1)) := hid fun b w1 h => wOpen_any h hcp0.bs (by rw [hs0]) 3 50 1 1 (by rw [hcp0.ln]; omega) (by omega) (by decide) ⟨by decide, by decide⟩
  unfold OpA at CO
  rw [hsc] at CO
  have HC0 := hid hcp0
  rw [← hn0]
  clear hin h40 hsm hn0 hs0 hcp0 hsc
  go_enter Try.func3, Try.ntmps3
  go_wp2_with (first
    | (go_at_call 6; (with_reducible refine (CW.out w).mono ?_); rintro e w1 ⟨rfl, hb1⟩; have B1 := hid hb1; clear hb1)
    | (go_at_call 7; refine (CF.out _ B1.out).mono ?_; rintro e w2 ⟨rfl, rfl⟩)
    | (go_at_call 8; refine (CN.out _).mono ?_; rintro e w2 ⟨b, rfl, hd, hb2⟩; have B2 : Hid (Below n0 w w2) := hid (by rw [HN0.out]; exact B1.out.trans (hb2.mono B1.out.size)); have HD := hid (hd.mono2 (show n0 ≤ w1.heap.size by rw [HN0.out]; exact B1.out.size)); have CO1 := hid (CO.out b w2 HD.out); clear hd hb2)
    | (go_at_call 9; refine CO1.out.mono ?_; rintro e w3 ⟨lb, V, rfl, hlb, hlg, hal, hb3⟩; have HD3 := hid (HD.out.below hb3); have S2 : Hid (n0 ≤ w2.heap.size) := hid (by have := B2.out.size; rw [← HN0.out] at this; exact this); have B3 := hid (B2.out.trans (hb3.mono S2.out)); have HLB := hid (Nat.le_trans S2.out hlb); have LG3 := hid hlg; clear hlb hlg hal hb3))
  have AL3 := hid (AllM.nil n0 n0 w3)
  clear CO CO1 CN CW CF B1 B2 HD S2
  go_loopw [5, 8, 9, 10, 11] (fun lv v su gv i wr => ∃ (k lb sure : Nat) (all : List (List Int)) (s : SS) (l : LS), k ≤ n1 ∧ i = .int .i64 k ∧ lv = .pointer (some ⟨lb, 0, none⟩) ∧ su = .int .i64 sure ∧ gv = .int .u32 l.g ∧ Hid (n0 ≤ lb) ∧ Hid (CP k all sure s l) ∧ Hid (Dy n0 wr b s) ∧ Hid (Blk wr lb 55 (lgC b 3 50 l)) ∧ Hid (AllM n0 n0 wr all v) ∧ Hid (Below n0 w wr)) (fun _ _ _ _ i _ => n1 - (intOf i).toNat)
  case atStart => exact ⟨0, lb, 0, [], s0, ⟨1, 0, false⟩, by omega, rfl, rfl, rfl, rfl, HLB, HC0, HD3, LG3, AL3, B3⟩
  case round =>
    clear HLB LG3 AL3 B3 HC0 HD3
    obtain ⟨k, lb, sure, all, s, l, hk, rfl, rfl, rfl, rfl, HLB, CPK, DK, LK, AL, BE⟩ := hrel
    have S4 : Hid (n0 ≤ wr.heap.size) := hid (by have := BE.out.size; rw [← HN0.out] at this; exact this)
    by_cases hlt : k < n1
    · obtain ⟨ga, off, rfl, hg, hat⟩ := opC_at HOPS.out (by omega)
      obtain ⟨o, B, c1, E, d, h1, h2, h3⟩ := hat k hlt
      have hsmo := HSM.out k (by rw [HOL.out]; exact hlt) o h1
      have key : ∀ j v, (opC o B c1 E d)[j]? = some v → wr.cell? ⟨ga, off + k * 4 + j, none⟩ = some v := fun j v hv => (BE.out.cell (by rw [HN0.out]; exact hg)).trans (h3 j v hv)
      have z0 : wr.cell? ⟨ga, off + k * 4, none⟩ = some (.int .i64 o.k) := key 0 _ rfl
      have z1 : wr.cell? ⟨ga, off + k * 4 + 1, none⟩ = some (.int .i64 o.i) := key 1 _ rfl
      have z2 : wr.cell? ⟨ga, off + k * 4 + 2, none⟩ = some (.slice B o.b.length c1) := key 2 _ rfl
      have z3 : wr.cell? ⟨ga, off + k * 4 + 3, none⟩ = some (.slice E o.l.length d) := key 3 _ rfl
      have RB := hid h2.b.2.2.2
      have BB : Hid (Bs o.b) := h2.b.2.2.1
      have SRC : Hid (∀ w', Src n0 w' B o.b) := fun w' hx a ha => .inl (by rw [HN0.out]; exact rp_lt h2.b.2.2.2 hx a ha)
      have HBC := hid h2.bc
      have HQ9 : Hid (s.Q.length < 900000) := by show _ < _; have := CPK.out.ql; have := H40.out; omega
      have hk40 : k ≤ 40 := by have := H40.out; omega
      have HK40 := hid hk40
      have CFs : Hid (∀ w', Dy n0 w' b s → Below n0 w w' → Calls Try.prog 12 #[.pointer (some ⟨b, 0, none⟩), .int .i64 o.i] w' fun e w2 => e = .returned (.tuple #[]) ∧ Lf n0 b (s.sf o.i) w' w2) := fun w' hd hb =>
        ds_any hd (Nat.le_trans (Nat.le_of_eq HN0.out) hb.size) o.i h2.i
      have CX : Hid (∀ w', Dy n0 w' b s → Below n0 w w' → Calls Try.prog 14 #[.pointer (some ⟨b, 0, none⟩), .slice E o.l.length d] w' fun e w2 => e = .returned (.tuple #[]) ∧ Lf n0 b (s.rs o.l) w' w2) := fun w' hd hb =>
        dx_any hd (Nat.le_trans (Nat.le_of_eq HN0.out) hb.size) E d o.l (h2.l.2.2.below (bel_of hb HN0.out)) (fun hx a ha => by rw [HN0.out]; exact ip_lt h2.l.2.2 hx a ha) (by omega) (by have := HQ9.out; omega)
      have CWr : Hid (∀ w', Dy n0 w' b s → Below n0 w w' → Calls Try.prog 13 #[.pointer (some ⟨b, 0, none⟩), .int .i64 o.i, .slice B o.b.length c1] w' fun e w2 => ∃ r, e = .returned (.int .i64 r) ∧ Lf n0 b (s.wr o.i o.b).2 w' w2) := fun w' hd hb =>
        (dw_big hd (Nat.le_trans (Nat.le_of_eq HN0.out) hb.size) o.i B c1 o.b (RB.out.belowN (bel_of hb HN0.out)) (SRC.out w') (by omega) (by have := HQ9.out; omega)).mono fun e w2 ⟨h1, h2⟩ => ⟨_, h1, h2⟩
      obtain ⟨xs, hxs⟩ : ∃ m, m = o.b := ⟨_, rfl⟩
      obtain ⟨ll, hll⟩ : ∃ m, m = o.l := ⟨_, rfl⟩
      rw [← hxs] at z2 hsmo RB BB SRC HBC CWr
      rw [← hll] at z3 hsmo CX
      obtain ⟨m1, hm1⟩ : ∃ m, m = xs.length := ⟨_, rfl⟩
      obtain ⟨m2, hm2⟩ : ∃ m, m = ll.length := ⟨_, rfl⟩
      obtain ⟨kd, hkd⟩ : ∃ m, m = o.k := ⟨_, rfl⟩
      obtain ⟨iv, hiv⟩ : ∃ m, m = o.i := ⟨_, rfl⟩
      rw [← hkd] at z0
      rw [← hiv] at z1 CWr CFs
      rw [← hm1] at z2 CWr HBC hsmo
      rw [← hm2] at z3 CX
      have HM1 := hid hm1
      have CA : Hid (∀ y, Dy n0 y b s → Blk y lb 55 (lgC b 3 50 l) → Below n0 w y → Calls Try.prog 10 #[.pointer (some ⟨lb, 0, none⟩), .slice B m1 c1] y (ApA n0 b lb 3 50 (s.ap 3 50 l xs) y)) := hid fun y hd hlg hb => wAppend_any hd (Nat.le_trans (Nat.le_of_eq HN0.out) hb.size) lb 3 50 l HLB.out hlg (by omega) (by omega) CPK.out.le (by have := CPK.out.g; omega) B m1 c1 xs HM1.out (RB.out.belowN (bel_of hb HN0.out)) (fun _ => SRC.out y) HBC.out (by omega) HQ9.out
      have CFl : Hid (∀ y, Dy n0 y b s → Blk y lb 55 (lgC b 3 50 l) → Below n0 w y → Calls Try.prog 11 #[.pointer (some ⟨lb, 0, none⟩)] y (ApA n0 b lb 3 50 (s.lf l) y)) := hid fun y hd hlg hb => wFlush_any hd (Nat.le_trans (Nat.le_of_eq HN0.out) hb.size) lb 3 50 l HLB.out hlg
      have hk2 : (k : Int) < n1 := by omega
      have hm7 : m1 ≤ 7000 := hsmo.1
      clear key h1 h2 h3 hat hg hsmo hkd hiv hm1 hm2 hxs hll hlt
      go_upto_region 12 with (fail)
      have hb5 : Below wr.heap.size wr (wr.alloc (.cells #[.int .i64 kd, .int .i64 iv, .slice B m1 c1, .slice E m2 d] 37)) := (Below.refl _ _).alloc (Nat.le_refl _) _
      have HBK := hid (Blk.new wr 37 #[.int .i64 kd, .int .i64 iv, .slice B m1 c1, .slice E m2 d])
      have HY5 := hid (DK.out.below hb5)
      have L5 := hid (LK.out.below hb5)
      have AL5 := hid (AL.out.below hb5 S4.out)
      have BL5 := hid (BE.out.trans (hb5.mono S4.out))
      clear hb5 z0 z1 z2 z3 DK LK AL BE
      obtain ⟨pw, hpw⟩ : ∃ pw, pw = wr.heap.size := ⟨_, rfl⟩
      rw [← hpw] at HBK ⊢
      generalize wr.alloc (.cells #[.int .i64 kd, .int .i64 iv, .slice B m1 c1, .slice E m2 d] 37) = w5 at HBK HY5 L5 AL5 BL5 ⊢
      clear hpw S4
      have S5 : Hid (n0 ≤ w5.heap.size) := Nat.le_trans (Nat.le_of_eq HN0.out) BL5.out.size
      have y0 : w5.cell? ⟨pw, 0, none⟩ = some (.int .i64 kd) := HBK.out.cell 0
      have y1 : w5.cell? ⟨pw, 1, none⟩ = some (.int .i64 iv) := HBK.out.cell 1
      have y2 : w5.cell? ⟨pw, 2, none⟩ = some (.slice B m1 c1) := HBK.out.cell 2
      have y3 : w5.cell? ⟨pw, 3, none⟩ = some (.slice E m2 d) := HBK.out.cell 3
      by_cases k1 : kd = 1
      · subst k1
        by_cases h6 : m1 ≤ 6000
        · have g6 : (m1 : Int) ≤ 6000 := by omega
          have HAP := hid (CPK.out.app HK40.out (r := xs) BB.out (by have := HM1.out; omega))
          obtain ⟨Y, hY⟩ : ∃ Y, Y = s.ap 3 50 l xs := ⟨_, rfl⟩
          rw [← hY] at HAP CA
          obtain ⟨e9, s9, l9⟩ := Y
          have HG9 : Hid (l9.g = l.g) := hid (by have := (ap_log s 3 50 l xs CPK.out.le).1; rw [← hY] at this; exact this)
          clear hY
          unfold ApA at CA
          simp only at HAP CA
          by_cases h5 : e9 = 5
          · subst h5
            have HCP := hid (HAP.out.1 rfl)
            clear HAP h6
            go_wp2_with (go_at_call 10; refine (CA.out _ HY5.out L5.out BL5.out).mono ?_; rintro e w6 ⟨rfl, h1, h2, h3, h4⟩; have D6 := hid h1; have G6 := hid h2; have A6 := hid (AL5.out.keep h3 h4); have B6 := hid (BL5.out.trans h4); have K6 := hid (h3.blk HBK.out (by decide)); have S6 : Hid (n0 ≤ w6.heap.size) := hid (Nat.le_trans S5.out h3.sz); have q0w6 : w6.cell? ⟨pw, 0, none⟩ = some (.int .i64 1) := K6.out.cell 0; have q1w6 : w6.cell? ⟨pw, 1, none⟩ = some (.int .i64 iv) := K6.out.cell 1; have q2w6 : w6.cell? ⟨pw, 2, none⟩ = some (.slice B m1 c1) := K6.out.cell 2; have q3w6 : w6.cell? ⟨pw, 3, none⟩ = some (.slice E m2 d) := K6.out.cell 3; clear h1 h2 h3 h4)
            go_roundw
            case rel => exact ⟨k + 1, lb, sure, all, s9, l9, by omega, by go_num, rfl, rfl, by rw [HG9.out], HLB, HCP, D6, G6, A6, B6⟩
            case measure => simp [intOf]; omega
          · have g5 : (e9 != 5) = true := by simpa using h5
            have HCP := hid (HAP.out.2 h5)
            clear HAP h6 h5
            go_wp2_with (go_at_call 10; refine (CA.out _ HY5.out L5.out BL5.out).mono ?_; rintro e w6 ⟨rfl, h1, h2, h3, h4⟩; have D6 := hid h1; have G6 := hid h2; have A6 := hid (AL5.out.keep h3 h4); have B6 := hid (BL5.out.trans h4); have K6 := hid (h3.blk HBK.out (by decide)); have S6 : Hid (n0 ≤ w6.heap.size) := hid (Nat.le_trans S5.out h3.sz); have q0w6 : w6.cell? ⟨pw, 0, none⟩ = some (.int .i64 1) := K6.out.cell 0; have q1w6 : w6.cell? ⟨pw, 1, none⟩ = some (.int .i64 iv) := K6.out.cell 1; have q2w6 : w6.cell? ⟨pw, 2, none⟩ = some (.slice B m1 c1) := K6.out.cell 2; have q3w6 : w6.cell? ⟨pw, 3, none⟩ = some (.slice E m2 d) := K6.out.cell 3; clear h1 h2 h3 h4)
            have HC6 : Hid (CrB n0 b lb pw #[.int .i64 1, .int .i64 iv, .slice B m1 c1, .slice E m2 d] (lgC b 3 50 l9) s9 w w6) := hid ⟨D6.out, G6.out, K6.out, B6.out⟩
            obtain ⟨A9, c9, hv9⟩ := A6.out.len
            obtain ⟨lm, hlm⟩ : ∃ lm, lm = all.length := ⟨_, rfl⟩
            rw [← hlm] at hv9
            subst hv9
            have AX := A6
            have HAL : Hid (all.length ≤ 1000) := hid (by have := CPK.out.al.1; omega)
            clear A6 hlm
            refine wp_region_held (S := fun w' => Hid (CrB n0 b lb pw #[.int .i64 1, .int .i64 iv, .slice B m1 c1, .slice E m2 d] (lgC b 3 50 l9) s9 w w')) (by kernel_rfl) ?_
            change wpAnyH _ _ _ _ _ _ _ _ w6.drew
            have Gx0 : Hid (CrB n0 b lb pw #[.int .i64 1, .int .i64 iv, .slice B m1 c1, .slice E m2 d] (lgC b 3 50 l9) s9 w w6.drew) := HC6.out.below (below_drew1 _) S6.out
            have AX' : Hid (AllM n0 n0 w6.drew all (.slice A9 lm c9)) := AX.out.below (below_drew1 _) S6.out
            clear AX
            have AX := AX'
            clear AX'
            generalize w6.drew = x0 at Gx0 AX ⊢
            refine wpAnyH_take (i := 1) (oi := { dst := some 61, op := _, type := _, pos := _, after := _, guard := _ }) (v := ?_) rfl (by kernel_rfl) (by kernel_rfl) (by kernel_rfl) (fun _ _ _ h => h) (Or.inl ⟨by kernel_rfl, ?_⟩) Gx0 ?_
            rotate_left
            · (intro w hSw; go_simp; try with_reducible rfl)
            try simp only [Act.put, List.setIfInBounds_toArray, List.set_cons_zero, List.set_cons_succ]
            refine wpAnyH_take (i := 3) (oi := { dst := some 63, op := _, type := _, pos := _, after := _, guard := _ }) (v := ?_) rfl (by kernel_rfl) (by kernel_rfl) (by kernel_rfl) (fun _ _ _ h => h) (Or.inl ⟨by kernel_rfl, ?_⟩) Gx0 ?_
            rotate_left
            · (intro w hSw; go_simp; try with_reducible rfl)
            try simp only [Act.put, List.setIfInBounds_toArray, List.set_cons_zero, List.set_cons_succ]
            refine wpAnyH_take (i := 4) (oi := { dst := some 64, op := _, type := _, pos := _, after := _, guard := _ }) (v := ?_) rfl (by kernel_rfl) (by kernel_rfl) (by kernel_rfl) (fun _ _ _ h => h) (Or.inl ⟨by kernel_rfl, ?_⟩) Gx0 ?_
            rotate_left
            · (intro w hSw; have hc : w.cell? ⟨pw, 2, none⟩ = some (.slice B m1 c1) := hSw.out.op.cell 2; go_simp; try with_reducible rfl)
            try simp only [Act.put, List.setIfInBounds_toArray, List.set_cons_zero, List.set_cons_succ]
            refine wpAnyH_ready (rs := [0, 5]) (by kernel_rfl) (by simp) ?_
            refine (AllReadyH.cons (o := { dst := some 60, op := _, type := _, pos := _, after := _, guard := _ }) rfl (fun Qc hQc => ?_) (AllReadyH.cons (o := { dst := some 65, op := _, type := _, pos := _, after := _, guard := _ }) rfl (fun Qc hQc => ?_) AllReadyH.nil))
            ·
              go_simp
              have hbe : Below x0.heap.size x0 (x0.alloc (.cells #[] 34)) := (Below.refl _ _).alloc (Nat.le_refl _) _
              have SX : n0 ≤ x0.heap.size := by have := Gx0.out.be.size; rw [← HN0.out] at this; exact this
              have Gx1 := hid (Gx0.out.below hbe SX)
              have E0 := hid (Blk.new x0 34 #[])
              have LE0 := hid SX
              have AX' := hid (AX.out.below hbe SX)
              clear AX
              have AX := AX'
              clear AX'
              try (have ON' := hid (ON.out.below hbe); clear ON; have ON := ON'; clear ON')
              refine hQc.out _ _ Gx1 (fun hHeld => ?_)
              clear hQc Qc hHeld Gx0 hbe SX
              generalize x0.heap.size = g0 at E0 LE0 ⊢
              first | generalize x0.alloc (.cells #[] 34) = x1 at Gx1 E0 AX ON ⊢ | generalize x0.alloc (.cells #[] 34) = x1 at Gx1 E0 AX ⊢
              try simp only [Act.put, List.setIfInBounds_toArray, List.set_cons_zero, List.set_cons_succ]
              refine wpAnyH_ready (rs := [2, 5]) (by kernel_rfl) (by simp) ?_
              refine (AllReadyH.cons (o := { dst := some 62, op := _, type := _, pos := _, after := _, guard := _ }) rfl (fun Qc hQc => ?_) (AllReadyH.cons (o := { dst := some 65, op := _, type := _, pos := _, after := _, guard := _ }) rfl (fun Qc hQc => ?_) AllReadyH.nil))
              ·
                have SX : n0 ≤ x1.heap.size := by have := Gx1.out.be.size; rw [← HN0.out] at this; exact this
                refine copy_m (.tmp 60) (.tmp 61) rfl n0 g0 all A9 lm c9 rfl rfl E0.out LE0.out AX.out HAL.out SX ?_
                intro v2 x2 am2 kb2 be2 fr2
                have Gx2 := hid (Gx1.out.kb kb2 be2)
                try (have ON' := hid (ON.out.same (fr2 g5 ON.out.lt (fun e => by subst e; have := (ON.out.inj E0.out).2; cases this))); clear ON; have ON := ON'; clear ON')
                clear AX E0 LE0
                have AX := hid am2
                clear am2 kb2 be2 fr2 SX
                refine hQc.out _ _ Gx2 (fun hHeld => ?_)
                clear hQc Qc hHeld Gx1
                try simp only [Act.put, List.setIfInBounds_toArray, List.set_cons_zero, List.set_cons_succ]
                refine wpAnyH_ready (rs := [5]) (by kernel_rfl) (by simp) ?_
                refine (AllReadyH.cons (o := { dst := some 65, op := _, type := _, pos := _, after := _, guard := _ }) rfl (fun Qc hQc => ?_) AllReadyH.nil)
                go_simp
                have hbe : Below x2.heap.size x2 (x2.alloc (.cells #[.slice B m1 c1] 34)) := (Below.refl _ _).alloc (Nat.le_refl _) _
                have SX : n0 ≤ x2.heap.size := by have := Gx2.out.be.size; rw [← HN0.out] at this; exact this
                have Gx3 := hid (Gx2.out.below hbe SX)
                have ON := hid (Blk.new x2 34 #[.slice B m1 c1])
                have AX' := hid (AX.out.below hbe SX)
                clear AX
                have AX := AX'
                clear AX'
                try (have E0' := hid (E0.out.below hbe); clear E0; have E0 := E0'; clear E0')
                refine hQc.out _ _ Gx3 (fun hHeld => ?_)
                clear hQc Qc hHeld Gx2 hbe SX
                generalize x2.heap.size = g5 at ON ⊢
                first | generalize x2.alloc (.cells #[.slice B m1 c1] 34) = x3 at Gx3 E0 AX ON ⊢ | generalize x2.alloc (.cells #[.slice B m1 c1] 34) = x3 at Gx3 AX ON ⊢
                try simp only [Act.put, List.setIfInBounds_toArray, List.set_cons_zero, List.set_cons_succ]
                refine wpAnyH_ready (rs := [6]) (by kernel_rfl) (by simp) ?_
                refine (AllReadyH.cons (o := { dst := some 66, op := _, type := _, pos := _, after := _, guard := _ }) rfl (fun Qc hQc => ?_) AllReadyH.nil)
                have SX : n0 ≤ x3.heap.size := by have := Gx3.out.be.size; rw [← HN0.out] at this; exact this
                refine push_m (.tmp 62) (.tmp 65) rfl n0 g5 all _ B m1 c1 xs rfl rfl AX.out ON.out HAL.out ⟨RB.out.belowN (bel_of Gx3.out.be HN0.out), SRC.out _⟩ HM1.out SX ?_
                intro v3 x4 am3 kb3 be3
                have Gx4 := hid (Gx3.out.kb kb3 be3)
                clear AX ON
                have AX := hid am3
                clear am3 kb3 be3 SX
                refine hQc.out _ _ Gx4 (fun hHeld => ?_)
                clear hQc Qc hHeld Gx3
                try simp only [Act.put, List.setIfInBounds_toArray, List.set_cons_zero, List.set_cons_succ]
                refine wpAnyH_take (i := 7) (oi := { dst := some 8, op := _, type := _, pos := _, after := _, guard := _ }) (v := ?_) rfl (by kernel_rfl) (by kernel_rfl) (by kernel_rfl) (fun _ _ _ h => h) (Or.inl ⟨by kernel_rfl, ?_⟩) Gx4 ?_
                rotate_left
                · (intro w hSw; go_simp; try with_reducible rfl)
                try simp only [Act.put, List.setIfInBounds_toArray, List.set_cons_zero, List.set_cons_succ]
                refine wpAnyH_done (by kernel_rfl) ?_ _
                try simp only [Act.put, List.setIfInBounds_toArray, List.set_cons_zero, List.set_cons_succ]
                have P9 := Gx4.out.op
                have q0x : x4.cell? ⟨pw, 0, none⟩ = some (.int .i64 1) := P9.cell 0
                have q1x : x4.cell? ⟨pw, 1, none⟩ = some (.int .i64 iv) := P9.cell 1
                have q2x : x4.cell? ⟨pw, 2, none⟩ = some (.slice B m1 c1) := P9.cell 2
                have q3x : x4.cell? ⟨pw, 3, none⟩ = some (.slice E m2 d) := P9.cell 3
                clear P9
                go_wp2
                go_roundw
                case rel => exact ⟨k + 1, lb, sure, all ++ [xs], s9, l9, by omega, by go_num, rfl, rfl, by rw [HG9.out], HLB, HCP, hid Gx4.out.dy, hid Gx4.out.lg, AX, hid Gx4.out.be⟩
                case measure => simp [intOf]; omega
              ·
                go_simp
                have hbe : Below x1.heap.size x1 (x1.alloc (.cells #[.slice B m1 c1] 34)) := (Below.refl _ _).alloc (Nat.le_refl _) _
                have SX : n0 ≤ x1.heap.size := by have := Gx1.out.be.size; rw [← HN0.out] at this; exact this
                have Gx5 := hid (Gx1.out.below hbe SX)
                have ON := hid (Blk.new x1 34 #[.slice B m1 c1])
                have AX' := hid (AX.out.below hbe SX)
                clear AX
                have AX := AX'
                clear AX'
                try (have E0' := hid (E0.out.below hbe); clear E0; have E0 := E0'; clear E0')
                refine hQc.out _ _ Gx5 (fun hHeld => ?_)
                clear hQc Qc hHeld Gx1 hbe SX
                generalize x1.heap.size = g5 at ON ⊢
                first | generalize x1.alloc (.cells #[.slice B m1 c1] 34) = x5 at Gx5 E0 AX ON ⊢ | generalize x1.alloc (.cells #[.slice B m1 c1] 34) = x5 at Gx5 AX ON ⊢
                try simp only [Act.put, List.setIfInBounds_toArray, List.set_cons_zero, List.set_cons_succ]
                refine wpAnyH_ready (rs := [2]) (by kernel_rfl) (by simp) ?_
                refine (AllReadyH.cons (o := { dst := some 62, op := _, type := _, pos := _, after := _, guard := _ }) rfl (fun Qc hQc => ?_) AllReadyH.nil)
                have SX : n0 ≤ x5.heap.size := by have := Gx5.out.be.size; rw [← HN0.out] at this; exact this
                refine copy_m (.tmp 60) (.tmp 61) rfl n0 g0 all A9 lm c9 rfl rfl E0.out LE0.out AX.out HAL.out SX ?_
                intro v2 x6 am2 kb2 be2 fr2
                have Gx6 := hid (Gx5.out.kb kb2 be2)
                try (have ON' := hid (ON.out.same (fr2 g5 ON.out.lt (fun e => by subst e; have := (ON.out.inj E0.out).2; cases this))); clear ON; have ON := ON'; clear ON')
                clear AX E0 LE0
                have AX := hid am2
                clear am2 kb2 be2 fr2 SX
                refine hQc.out _ _ Gx6 (fun hHeld => ?_)
                clear hQc Qc hHeld Gx5
                try simp only [Act.put, List.setIfInBounds_toArray, List.set_cons_zero, List.set_cons_succ]
                refine wpAnyH_ready (rs := [6]) (by kernel_rfl) (by simp) ?_
                refine (AllReadyH.cons (o := { dst := some 66, op := _, type := _, pos := _, after := _, guard := _ }) rfl (fun Qc hQc => ?_) AllReadyH.nil)
                have SX : n0 ≤ x6.heap.size := by have := Gx6.out.be.size; rw [← HN0.out] at this; exact this
                refine push_m (.tmp 62) (.tmp 65) rfl n0 g5 all _ B m1 c1 xs rfl rfl AX.out ON.out HAL.out ⟨RB.out.belowN (bel_of Gx6.out.be HN0.out), SRC.out _⟩ HM1.out SX ?_
                intro v3 x7 am3 kb3 be3
                have Gx7 := hid (Gx6.out.kb kb3 be3)
                clear AX ON
                have AX := hid am3
                clear am3 kb3 be3 SX
                refine hQc.out _ _ Gx7 (fun hHeld => ?_)
                clear hQc Qc hHeld Gx6
                try simp only [Act.put, List.setIfInBounds_toArray, List.set_cons_zero, List.set_cons_succ]
                refine wpAnyH_take (i := 7) (oi := { dst := some 8, op := _, type := _, pos := _, after := _, guard := _ }) (v := ?_) rfl (by kernel_rfl) (by kernel_rfl) (by kernel_rfl) (fun _ _ _ h => h) (Or.inl ⟨by kernel_rfl, ?_⟩) Gx7 ?_
                rotate_left
                · (intro w hSw; go_simp; try with_reducible rfl)
                try simp only [Act.put, List.setIfInBounds_toArray, List.set_cons_zero, List.set_cons_succ]
                refine wpAnyH_done (by kernel_rfl) ?_ _
                try simp only [Act.put, List.setIfInBounds_toArray, List.set_cons_zero, List.set_cons_succ]
                have P9 := Gx7.out.op
                have q0x : x7.cell? ⟨pw, 0, none⟩ = some (.int .i64 1) := P9.cell 0
                have q1x : x7.cell? ⟨pw, 1, none⟩ = some (.int .i64 iv) := P9.cell 1
                have q2x : x7.cell? ⟨pw, 2, none⟩ = some (.slice B m1 c1) := P9.cell 2
                have q3x : x7.cell? ⟨pw, 3, none⟩ = some (.slice E m2 d) := P9.cell 3
                clear P9
                go_wp2
                go_roundw
                case rel => exact ⟨k + 1, lb, sure, all ++ [xs], s9, l9, by omega, by go_num, rfl, rfl, by rw [HG9.out], HLB, HCP, hid Gx7.out.dy, hid Gx7.out.lg, AX, hid Gx7.out.be⟩
                case measure => simp [intOf]; omega
            ·
              go_simp
              have hbe : Below x0.heap.size x0 (x0.alloc (.cells #[.slice B m1 c1] 34)) := (Below.refl _ _).alloc (Nat.le_refl _) _
              have SX : n0 ≤ x0.heap.size := by have := Gx0.out.be.size; rw [← HN0.out] at this; exact this
              have Gx8 := hid (Gx0.out.below hbe SX)
              have ON := hid (Blk.new x0 34 #[.slice B m1 c1])
              have AX' := hid (AX.out.below hbe SX)
              clear AX
              have AX := AX'
              clear AX'
              try (have E0' := hid (E0.out.below hbe); clear E0; have E0 := E0'; clear E0')
              refine hQc.out _ _ Gx8 (fun hHeld => ?_)
              clear hQc Qc hHeld Gx0 hbe SX
              generalize x0.heap.size = g5 at ON ⊢
              first | generalize x0.alloc (.cells #[.slice B m1 c1] 34) = x8 at Gx8 E0 AX ON ⊢ | generalize x0.alloc (.cells #[.slice B m1 c1] 34) = x8 at Gx8 AX ON ⊢
              try simp only [Act.put, List.setIfInBounds_toArray, List.set_cons_zero, List.set_cons_succ]
              refine wpAnyH_ready (rs := [0]) (by kernel_rfl) (by simp) ?_
              refine (AllReadyH.cons (o := { dst := some 60, op := _, type := _, pos := _, after := _, guard := _ }) rfl (fun Qc hQc => ?_) AllReadyH.nil)
              go_simp
              have hbe : Below x8.heap.size x8 (x8.alloc (.cells #[] 34)) := (Below.refl _ _).alloc (Nat.le_refl _) _
              have SX : n0 ≤ x8.heap.size := by have := Gx8.out.be.size; rw [← HN0.out] at this; exact this
              have Gx9 := hid (Gx8.out.below hbe SX)
              have E0 := hid (Blk.new x8 34 #[])
              have LE0 := hid SX
              have AX' := hid (AX.out.below hbe SX)
              clear AX
              have AX := AX'
              clear AX'
              try (have ON' := hid (ON.out.below hbe); clear ON; have ON := ON'; clear ON')
              refine hQc.out _ _ Gx9 (fun hHeld => ?_)
              clear hQc Qc hHeld Gx8 hbe SX
              generalize x8.heap.size = g0 at E0 LE0 ⊢
              first | generalize x8.alloc (.cells #[] 34) = x9 at Gx9 E0 AX ON ⊢ | generalize x8.alloc (.cells #[] 34) = x9 at Gx9 E0 AX ⊢
              try simp only [Act.put, List.setIfInBounds_toArray, List.set_cons_zero, List.set_cons_succ]
              refine wpAnyH_ready (rs := [2]) (by kernel_rfl) (by simp) ?_
              refine (AllReadyH.cons (o := { dst := some 62, op := _, type := _, pos := _, after := _, guard := _ }) rfl (fun Qc hQc => ?_) AllReadyH.nil)
              have SX : n0 ≤ x9.heap.size := by have := Gx9.out.be.size; rw [← HN0.out] at this; exact this
              refine copy_m (.tmp 60) (.tmp 61) rfl n0 g0 all A9 lm c9 rfl rfl E0.out LE0.out AX.out HAL.out SX ?_
              intro v2 x10 am2 kb2 be2 fr2
              have Gx10 := hid (Gx9.out.kb kb2 be2)
              try (have ON' := hid (ON.out.same (fr2 g5 ON.out.lt (fun e => by subst e; have := (ON.out.inj E0.out).2; cases this))); clear ON; have ON := ON'; clear ON')
              clear AX E0 LE0
              have AX := hid am2
              clear am2 kb2 be2 fr2 SX
              refine hQc.out _ _ Gx10 (fun hHeld => ?_)
              clear hQc Qc hHeld Gx9
              try simp only [Act.put, List.setIfInBounds_toArray, List.set_cons_zero, List.set_cons_succ]
              refine wpAnyH_ready (rs := [6]) (by kernel_rfl) (by simp) ?_
              refine (AllReadyH.cons (o := { dst := some 66, op := _, type := _, pos := _, after := _, guard := _ }) rfl (fun Qc hQc => ?_) AllReadyH.nil)
              have SX : n0 ≤ x10.heap.size := by have := Gx10.out.be.size; rw [← HN0.out] at this; exact this
              refine push_m (.tmp 62) (.tmp 65) rfl n0 g5 all _ B m1 c1 xs rfl rfl AX.out ON.out HAL.out ⟨RB.out.belowN (bel_of Gx10.out.be HN0.out), SRC.out _⟩ HM1.out SX ?_
              intro v3 x11 am3 kb3 be3
              have Gx11 := hid (Gx10.out.kb kb3 be3)
              clear AX ON
              have AX := hid am3
              clear am3 kb3 be3 SX
              refine hQc.out _ _ Gx11 (fun hHeld => ?_)
              clear hQc Qc hHeld Gx10
              try simp only [Act.put, List.setIfInBounds_toArray, List.set_cons_zero, List.set_cons_succ]
              refine wpAnyH_take (i := 7) (oi := { dst := some 8, op := _, type := _, pos := _, after := _, guard := _ }) (v := ?_) rfl (by kernel_rfl) (by kernel_rfl) (by kernel_rfl) (fun _ _ _ h => h) (Or.inl ⟨by kernel_rfl, ?_⟩) Gx11 ?_
              rotate_left
              · (intro w hSw; go_simp; try with_reducible rfl)
              try simp only [Act.put, List.setIfInBounds_toArray, List.set_cons_zero, List.set_cons_succ]
              refine wpAnyH_done (by kernel_rfl) ?_ _
              try simp only [Act.put, List.setIfInBounds_toArray, List.set_cons_zero, List.set_cons_succ]
              have P9 := Gx11.out.op
              have q0x : x11.cell? ⟨pw, 0, none⟩ = some (.int .i64 1) := P9.cell 0
              have q1x : x11.cell? ⟨pw, 1, none⟩ = some (.int .i64 iv) := P9.cell 1
              have q2x : x11.cell? ⟨pw, 2, none⟩ = some (.slice B m1 c1) := P9.cell 2
              have q3x : x11.cell? ⟨pw, 3, none⟩ = some (.slice E m2 d) := P9.cell 3
              clear P9
              go_wp2
              go_roundw
              case rel => exact ⟨k + 1, lb, sure, all ++ [xs], s9, l9, by omega, by go_num, rfl, rfl, by rw [HG9.out], HLB, HCP, hid Gx11.out.dy, hid Gx11.out.lg, AX, hid Gx11.out.be⟩
              case measure => simp [intOf]; omega
        · have g6 : ¬ (m1 : Int) ≤ 6000 := by omega
          have HCP := hid CPK.out.more
          clear h6
          go_wp2
          go_roundw
          case rel => exact ⟨k + 1, lb, sure, all, s, l, by omega, by go_num, rfl, rfl, rfl, HLB, HCP, HY5, L5, AL5, BL5⟩
          case measure => simp [intOf]; omega
      · have a1 : (kd == 1) = false := by simpa using k1
        by_cases k2 : kd = 2
        · subst k2
          have HFL := hid CPK.out.flu
          obtain ⟨Y, hY⟩ : ∃ Y, Y = s.lf l := ⟨_, rfl⟩
          rw [← hY] at HFL CFl
          obtain ⟨e9, s9, l9⟩ := Y
          have HG9 : Hid (l9.g = l.g) := hid (by have := (lf_log s l).1; rw [← hY] at this; exact this)
          clear hY
          unfold ApA at CFl
          simp only at HFL CFl
          obtain ⟨A9, c9, hv9⟩ := AL5.out.len
          subst hv9
          by_cases h5 : e9 = 0
          · subst h5
            have HCP : Hid (CP (k + 1) all all.length s9 l9) := hid (by have := HFL.out; rw [if_pos rfl] at this; exact this)
            clear HFL
            go_wp2_with (go_at_call 11; refine (CFl.out _ HY5.out L5.out BL5.out).mono ?_; rintro e w6 ⟨rfl, h1, h2, h3, h4⟩; have D6 := hid h1; have G6 := hid h2; have A6 := hid (AL5.out.keep h3 h4); have B6 := hid (BL5.out.trans h4); have K6 := hid (h3.blk HBK.out (by decide)); have q0w6 : w6.cell? ⟨pw, 0, none⟩ = some (.int .i64 2) := K6.out.cell 0; have q1w6 : w6.cell? ⟨pw, 1, none⟩ = some (.int .i64 iv) := K6.out.cell 1; have q2w6 : w6.cell? ⟨pw, 2, none⟩ = some (.slice B m1 c1) := K6.out.cell 2; have q3w6 : w6.cell? ⟨pw, 3, none⟩ = some (.slice E m2 d) := K6.out.cell 3; clear h1 h2 h3 h4)
            go_roundw
            case rel => exact ⟨k + 1, lb, all.length, all, s9, l9, by omega, by go_num, rfl, rfl, by rw [HG9.out], HLB, HCP, D6, G6, A6, B6⟩
            case measure => simp [intOf]; omega
          · have g5 : (e9 == 0) = false := by simpa using h5
            have HCP : Hid (CP (k + 1) all sure s9 l9) := hid (by have := HFL.out; rw [if_neg h5] at this; exact this)
            clear HFL h5
            go_wp2_with (go_at_call 11; refine (CFl.out _ HY5.out L5.out BL5.out).mono ?_; rintro e w6 ⟨rfl, h1, h2, h3, h4⟩; have D6 := hid h1; have G6 := hid h2; have A6 := hid (AL5.out.keep h3 h4); have B6 := hid (BL5.out.trans h4); have K6 := hid (h3.blk HBK.out (by decide)); have q0w6 : w6.cell? ⟨pw, 0, none⟩ = some (.int .i64 2) := K6.out.cell 0; have q1w6 : w6.cell? ⟨pw, 1, none⟩ = some (.int .i64 iv) := K6.out.cell 1; have q2w6 : w6.cell? ⟨pw, 2, none⟩ = some (.slice B m1 c1) := K6.out.cell 2; have q3w6 : w6.cell? ⟨pw, 3, none⟩ = some (.slice E m2 d) := K6.out.cell 3; clear h1 h2 h3 h4)
            go_roundw
            case rel => exact ⟨k + 1, lb, sure, all, s9, l9, by omega, by go_num, rfl, rfl, by rw [HG9.out], HLB, HCP, D6, G6, A6, B6⟩
            case measure => simp [intOf]; omega
        · have a2 : (kd == 2) = false := by simpa using k2
          by_cases k3 : kd = 3
          · subst k3
            have HCP := hid (CPK.out.fus iv)
            go_wp2_with (go_at_call 12; refine (CFs.out _ HY5.out BL5.out).mono ?_; rintro e w6 ⟨rfl, hlf⟩; have D6 := hid hlf.1; have G6 := hid (hlf.2.1.blk L5.out (by decide)); have A6 := hid (AL5.out.keep (Kx.of hlf.2.1) hlf.2.2); have B6 := hid (BL5.out.trans hlf.2.2); have K6 := hid (hlf.2.1.blk HBK.out (by decide)); have S6 : Hid (n0 ≤ w6.heap.size) := hid (Nat.le_trans S5.out hlf.2.1.sz); have q0w6 : w6.cell? ⟨pw, 0, none⟩ = some (.int .i64 3) := K6.out.cell 0; have q1w6 : w6.cell? ⟨pw, 1, none⟩ = some (.int .i64 iv) := K6.out.cell 1; have q2w6 : w6.cell? ⟨pw, 2, none⟩ = some (.slice B m1 c1) := K6.out.cell 2; have q3w6 : w6.cell? ⟨pw, 3, none⟩ = some (.slice E m2 d) := K6.out.cell 3; clear hlf)
            go_roundw
            case rel => exact ⟨k + 1, lb, sure, all, (s.sf iv), l, by omega, by go_num, rfl, rfl, rfl, HLB, HCP, D6, G6, A6, B6⟩
            case measure => simp [intOf]; omega
          · have a3 : (kd == 3) = false := by simpa using k3
            by_cases k5 : kd = 5
            · subst k5
              by_cases i1 : iv < 3
              · have HCP := hid (CPK.out.oth (.inl i1) BB.out)
                go_wp2_with (go_at_call 13; refine (CWr.out _ HY5.out BL5.out).mono ?_; rintro e w6 ⟨r6, rfl, hlf⟩; have D6 := hid hlf.1; have G6 := hid (hlf.2.1.blk L5.out (by decide)); have A6 := hid (AL5.out.keep (Kx.of hlf.2.1) hlf.2.2); have B6 := hid (BL5.out.trans hlf.2.2); have K6 := hid (hlf.2.1.blk HBK.out (by decide)); have S6 : Hid (n0 ≤ w6.heap.size) := hid (Nat.le_trans S5.out hlf.2.1.sz); have q0w6 : w6.cell? ⟨pw, 0, none⟩ = some (.int .i64 5) := K6.out.cell 0; have q1w6 : w6.cell? ⟨pw, 1, none⟩ = some (.int .i64 iv) := K6.out.cell 1; have q2w6 : w6.cell? ⟨pw, 2, none⟩ = some (.slice B m1 c1) := K6.out.cell 2; have q3w6 : w6.cell? ⟨pw, 3, none⟩ = some (.slice E m2 d) := K6.out.cell 3; clear hlf)
                go_roundw
                case rel => exact ⟨k + 1, lb, sure, all, (s.wr iv xs).2, l, by omega, by go_num, rfl, rfl, rfl, HLB, HCP, D6, G6, A6, B6⟩
                case measure => simp [intOf]; omega
              · by_cases i2 : 52 < iv
                · have HCP := hid (CPK.out.oth (.inr i2) BB.out)
                  go_wp2_with (go_at_call 13; refine (CWr.out _ HY5.out BL5.out).mono ?_; rintro e w6 ⟨r6, rfl, hlf⟩; have D6 := hid hlf.1; have G6 := hid (hlf.2.1.blk L5.out (by decide)); have A6 := hid (AL5.out.keep (Kx.of hlf.2.1) hlf.2.2); have B6 := hid (BL5.out.trans hlf.2.2); have K6 := hid (hlf.2.1.blk HBK.out (by decide)); have S6 : Hid (n0 ≤ w6.heap.size) := hid (Nat.le_trans S5.out hlf.2.1.sz); have q0w6 : w6.cell? ⟨pw, 0, none⟩ = some (.int .i64 5) := K6.out.cell 0; have q1w6 : w6.cell? ⟨pw, 1, none⟩ = some (.int .i64 iv) := K6.out.cell 1; have q2w6 : w6.cell? ⟨pw, 2, none⟩ = some (.slice B m1 c1) := K6.out.cell 2; have q3w6 : w6.cell? ⟨pw, 3, none⟩ = some (.slice E m2 d) := K6.out.cell 3; clear hlf)
                  go_roundw
                  case rel => exact ⟨k + 1, lb, sure, all, (s.wr iv xs).2, l, by omega, by go_num, rfl, rfl, rfl, HLB, HCP, D6, G6, A6, B6⟩
                  case measure => simp [intOf]; omega
                · have HCP := hid CPK.out.more
                  go_wp2
                  go_roundw
                  case rel => exact ⟨k + 1, lb, sure, all, s, l, by omega, by go_num, rfl, rfl, rfl, HLB, HCP, HY5, L5, AL5, BL5⟩
                  case measure => simp [intOf]; omega
            · have a5 : (kd == 5) = false := by simpa using k5
              by_cases k4 : kd = 4
              · subst k4
                have HR := CPK.out.rst HK40.out ll
                obtain ⟨r1, r2, r3, r4, ⟨mm, r5⟩, r6⟩ := HR
                have hgb := CPK.out.g
                have cg : IntKind.u32.wrap (l.g + 1) = l.g + 1 := by rw [(show ∀ x, IntKind.u32.wrap x = x % 4294967296 by intro x; rfl)]; omega
                have CO4 : Hid (∀ y, Dy n0 y b (s.rs ll) → Calls Try.prog 9 #[.pointer (some ⟨b, 0, none⟩), .int .i64 3, .int .i64 50, .int .u32 1, .int .u32 (l.g + 1)] y (OpA b 3 50 (l.g + 1) ((s.rs ll).lp 3) 1 y)) := hid fun y hy => wOpen_any hy r3 r1 3 50 (l.g + 1) 1 (by rw [r2]; omega) (by omega) (by decide) ⟨by omega, by omega⟩
                unfold OpA at CO4
                generalize scn ((s.rs ll).lp 3) 50 50 0 1 = SC at CO4 r4 r5 r6
                obtain ⟨X, nn, gg⟩ := SC
                simp only at CO4 r4 r5 r6
                obtain ⟨A9, c9, hv9⟩ := AL5.out.len
                subst hv9
                obtain ⟨lx, hlx⟩ : ∃ n, n = X.length := ⟨_, rfl⟩
                have HLX := hid hlx
                have HCP : Hid (CP (k + 1) X lx (s.rs ll) ⟨l.g + 1, nn, false⟩) := hid (by rw [hlx]; exact r6)
                have HXA : Hid (X = all.take lx) := hid (by
                  rw [hlx, r5, List.length_take]
                  rcases Nat.le_total mm all.length with h | h
                  · rw [Nat.min_eq_left h]
                  · rw [Nat.min_eq_right h, List.take_of_length_le h, List.take_length])
                have hsx : ¬ (lx : Int) < (sure : Int) := by omega
                have HALL := hid CPK.out.al
                have hx40 : lx ≤ 41 := by have := r6.al.1; omega
                clear r1 r2 r3 r4 r5 r6 hlx hgb
                go_wp2_with (first
                  | (go_at_call 14; refine (CX.out _ HY5.out BL5.out).mono ?_; rintro e w6 ⟨rfl, hlf⟩; have D6 := hid hlf.1; have G6 := hid (hlf.2.1.blk L5.out (by decide)); have A6 := hid (AL5.out.keep (Kx.of hlf.2.1) hlf.2.2); have B6 := hid (BL5.out.trans hlf.2.2); have K6 := hid (hlf.2.1.blk HBK.out (by decide)); have S6 : Hid (n0 ≤ w6.heap.size) := hid (Nat.le_trans S5.out hlf.2.1.sz); have q0w6 : w6.cell? ⟨pw, 0, none⟩ = some (.int .i64 4) := K6.out.cell 0; have q1w6 : w6.cell? ⟨pw, 1, none⟩ = some (.int .i64 iv) := K6.out.cell 1; have q2w6 : w6.cell? ⟨pw, 2, none⟩ = some (.slice B m1 c1) := K6.out.cell 2; have q3w6 : w6.cell? ⟨pw, 3, none⟩ = some (.slice E m2 d) := K6.out.cell 3; clear hlf)
                  | (go_at_call 9; refine (CO4.out _ D6.out).mono ?_; rintro e w7 ⟨lb2, V, rfl, hlb, hlg, hal, hb7⟩; have D7 := hid (D6.out.below hb7); have LB7 := hid (Nat.le_trans S6.out hlb); have G7 := hid hlg; have B7 := hid (B6.out.trans (hb7.mono S6.out)); have X7 := hid (hal.raise (m' := n0) (n0 := n0) S6.out); obtain ⟨A8, c8, hv8⟩ := X7.out.len; rw [← HLX.out] at hv8; subst hv8; have S7 : Hid (n0 ≤ w7.heap.size) := hid (Nat.le_trans S6.out hb7.size); have CH := hid (xAhead_yes A8 A9 lx all.length c8 c9 X all w7 HLX.out rfl (by omega) X7.out.ral_at (A6.out.below hb7 S6.out).ral_at (fun f hf => by have := HALL.out.2 f hf; omega) HXA.out); clear hlb hlg hal hb7)
                  | (go_at_call 15; refine CH.out.mono ?_; rintro e w8 ⟨rfl, q8, rfl⟩))
                go_roundw
                case rel => exact ⟨k + 1, lb2, lx, X, (s.rs ll), ⟨l.g + 1, nn, false⟩, by omega, by go_num, rfl, rfl, rfl, LB7, HCP, hid (D7.out.below (below_dn _)), hid (G7.out.below (below_dn _)), hid (X7.out.below (below_dn _) S7.out), hid (B7.out.trans ((below_dn _).mono S7.out))⟩
                case measure => simp [intOf]; omega
              · have a4 : (kd != 4) = true := by simpa using k4
                clear k1 k2 k3 k4 k5
                have HCP := hid CPK.out.more
                go_wp2
                go_roundw
                case rel => exact ⟨k + 1, lb, sure, all, s, l, by omega, by go_num, rfl, rfl, rfl, HLB, HCP, HY5, L5, AL5, BL5⟩
                case measure => simp [intOf]; omega
    · obtain rfl : k = n1 := by omega
      go_wp2
      go_ret
      exact ⟨rfl, BE.out⟩

theorem wcrash_walk (A1 : Option Addr) (n1 d1 : Nat) (ol : List Oq) (w : World) (hin : InOps w A1 n1 ol) :
    Calls Try.prog 3 #[.slice A1 n1 d1] w fun e w' => e = .returned (.bool true) ∧ Below w.heap.size w w' := by
  by_cases hf : ol.length ≤ 40 ∧ SmallO ol ol.length
  · exact wcrash_40 A1 n1 d1 ol w hin (by rw [← hin.1]; exact hf.1) hf.2 (hid fun w' hb => wFew_yes (hin.below hb) hf)
  · have CF := hid (fun w' (hb : Below w.heap.size w w') => wFew_no (c := d1) (hin.below hb) hf)
    have CW := hid (fun w => wawake_any w)
    clear hin hf
    go_enter Try.func3, Try.ntmps3
    go_wp2_with (first
      | (go_at_call 6; (with_reducible refine (CW.out w).mono ?_); rintro e w1 ⟨rfl, hb1⟩; have B1 := hid hb1; clear hb1)
      | (go_at_call 7; refine (CF.out _ B1.out).mono ?_; rintro e w2 ⟨rfl, rfl⟩)
      | (go_at_call 6; refine (CW.out _).mono ?_; rintro e w3 ⟨rfl, hb3⟩; have B3 := hid (B1.out.trans (hb3.mono B1.out.size)); clear hb3))
    go_ret
    exact ⟨rfl, B3.out⟩
end Go.Proofs.Ytbglnljjkofbdaa
