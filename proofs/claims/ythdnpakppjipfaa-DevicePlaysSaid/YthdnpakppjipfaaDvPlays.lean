/-
  What is proved here: whatever is called, all answers, and all pages, are the chapter's.
-/
import Derived.Test.YthdnpakppjipfaaVeD
import Derived.Test.YthdnpakppjipfaaDvNil
import Derived.Deep.DeepCutAuto
import Derived.Deep.RegionLaw
import Derived.OrdersHeld
namespace Go.Proofs.Ythdnpakppjipfaa
open Go.ChangeShapes Go.WideShapes Go.ChangeAt Go.RowKit
set_option linter.unusedVariables false
set_option linter.unusedSimpArgs false
set_option maxRecDepth 20000

theorem cell_bel2 {w w' : World} {p : Addr} {v : Value} (hb : Below w.heap.size w w') (h : w.cell? p = some v) : w'.cell? p = some v := (hb.cell (block_lt_of_cell h)).trans h
theorem Dy.mono {n0 n1 : Nat} {w : World} {b : Nat} {s : SS} (h : Dy n1 w b s) (hn : n0 ≤ n1) : Dy n0 w b s := by
  obtain ⟨R, k1, k2⟩ := h
  exact ⟨R, k1, fun k hk => ⟨Nat.le_trans hn (k2 k hk).1, (k2 k hk).2⟩⟩
theorem VAt.mono {n0 n1 : Nat} {w : World} {b : Nat} {s : SS} (h : VAt n1 w b s) (hn : n0 ≤ n1) : VAt n0 w b s := by
  obtain ⟨A, c, A', c', rows, qr, h1, h2, h3, h4, rest⟩ := h
  exact ⟨A, c, A', c', rows, qr, h1, own_mono h2 hn, own_mono h3 hn, Nat.le_trans hn h4, rest⟩
theorem Fresh.vt {w w1 w' : World} {A : Option Addr} {xs : List Int} (h : Fresh w w1 A xs) (hk : Vt w1 w') : Fresh w w' A xs := fun hx => by
  obtain ⟨g, cur, e, hg, hb, hc⟩ := h hx
  exact ⟨g, cur, e, hg, hk.blk hb (by decide), hc⟩
theorem rd_le {s : SS} (h : PgOk s.L ∧ QOk s.L.length s.Q ∧ s.L.length ≤ 4096) (i : Int) : (s.rd i).2.length ≤ 128 := by
  have hp := pg_ok s.Q s.L h.1 h.2.1
  unfold SS.rd
  split
  · simp
  · split
    · simp
    · simp only
      cases hk : (pg s.L s.Q)[i.toNat]? with
      | none => simp
      | some p =>
        have := hp p (List.mem_of_getElem? hk)
        simp only [Option.getD_some]
        omega
theorem step_le {s : SS} (h : PgOk s.L ∧ QOk s.L.length s.Q ∧ s.L.length ≤ 4096) (o : Oq) : (s.step o).2.1.length ≤ 128 := by
  unfold SS.step
  split
  · simp
  · split
    · simp
    · split
      · simp
      · split
        · simp
        · split
          · exact rd_le h _
          · simp
theorem same_yes {w : World} {X Y : Option Addr} {xs : List Int} {n c d : Nat} (hx : Rp w none X xs) (hy : Rp w none Y xs) (hl : xs.length ≤ 128) (hn : n = xs.length) : Calls Try.prog 15 #[.slice X n c, .slice Y n d] w fun e w' => e = .returned (.bool true) ∧ Below w.heap.size w w' := by
  subst hn
  have := Same_any X Y c d xs xs w hx hy (by omega) (by omega)
  rwa [show decide (xs = xs) = true from decide_eq_true rfl] at this
set_option maxHeartbeats 16000000 in
theorem dplays_80 (v : Int) (A1 : Option Addr) (n1 d1 : Nat) (ol : List Oq) (w : World) (hv : 0 ≤ v ∧ v ≤ 255) (hin : InOps w A1 n1 ol) (h80 : n1 ≤ 80) (hsm : Small ol ol.length)
    (CF : Hid (∀ w', Below w.heap.size w w' → Calls Try.prog 9 #[.slice A1 n1 d1, .int .i64 80] w' fun e w2 => e = .returned (.bool true) ∧ w' = w2)) :
    Calls Try.prog 3 #[.int .u8 v, .slice A1 n1 d1] w fun e w' => e = .returned (.bool true) ∧ Below w.heap.size w w' := by
  obtain ⟨n0, hn0⟩ : ∃ n0, n0 = w.heap.size := ⟨_, rfl⟩
  have HN0 := hid hn0
  have HOPS := hid hin; have H80 := hid h80; have HSM := hid hsm
  have HOL : Hid (ol.length = n1) := hin.1
  have hn1 : (n1 : Int) ≤ 80 := by omega
  obtain ⟨a, ha⟩ : ∃ a : Nat, a = (v % 13).toNat := ⟨_, rfl⟩
  have hva : v % 13 = (a : Int) := by omega
  have hvt : Int.tmod v 13 = (a : Int) := by rw [Int.tmod_eq_emod_of_nonneg hv.1]; exact hva
  have ha12 : (a : Int) < 13 := by omega
  have HA12 : Hid (a ≤ 12) := by show _ ≤ _; omega
  obtain ⟨hv1, hv2⟩ := hv
  rw [← hn0]
  clear hin h80 hsm hn0 ha
  go_enter Try.func3, Try.ntmps3
  go_wp2_with (first
    | (go_at_call 8; refine (dawake_any _).mono ?_; rintro e w1 ⟨rfl, hb⟩; have B0 := hid hb; have B1 := hid (hb.mono (Nat.le_of_eq HN0.out)); have S1 : Hid (n0 ≤ w1.heap.size) := Nat.le_trans (Nat.le_of_eq HN0.out) hb.size; clear hb)
    | (go_at_call 9; refine (CF.out _ B0.out).mono ?_; rintro e wq ⟨rfl, rfl⟩)
    | (go_at_call 10; refine (Dy.new a _ (by have := HA12.out; omega)).mono ?_; rintro e w3 ⟨b, rfl, hd, hb⟩; have HY3 := hid (hd.mono S1.out); have B3 := hid (B1.out.trans (hb.mono S1.out)); have S3 : Hid (n0 ≤ w3.heap.size) := Nat.le_trans S1.out hb.size; clear hb hd)
    | (go_at_call 11; refine (vn_any a _ HA12.out).mono ?_; rintro e w4 ⟨vb, rfl, hd, hb⟩; have HV4 := hid (hd.mono S3.out); have HY4 := hid (HY3.out.below hb); have BL4 := hid (B3.out.trans (hb.mono S3.out)); have CP : Hid (Calls Try.prog 12 #[.pointer (some ⟨b, 0, none⟩)] w4 fun e w' => e = .returned (.int .i64 (a : Nat)) ∧ w4 = w') := (by have := HY4.out.pages; simp only [List.length_replicate] at this; exact this); clear hd hb)
    | (go_at_call 12; refine CP.out.mono ?_; rintro e wq ⟨rfl, hw4⟩; have HW4 := hid hw4; clear hw4))
  obtain rfl := HW4.out
  clear B0 B1 S1 HY3 B3 S3 CP hvt hva
  go_loopw [9] (fun i wr => ∃ (k : Nat) (s : SS), k ≤ n1 ∧ i = .int .i64 k ∧ Hid (Dy n0 wr b s) ∧ Hid (VAt n0 wr vb s) ∧ Hid (s.L.length = a ∧ s.Q.length ≤ k) ∧ Hid (Below n0 w wr)) (fun i _ => n1 - (intOf i).toNat)
  case atStart => exact ⟨0, _, Nat.zero_le _, rfl, HY4.out, HV4.out, ⟨List.length_replicate, Nat.le_refl _⟩, BL4.out⟩
  case round =>
    obtain ⟨k, s, hk, rfl, HY1, HV1, HM, BL1⟩ := hrel
    clear HY4 HV4 BL4 HW4
    by_cases hlt : k < n1
    · have S4 : Hid (n0 ≤ wr.heap.size) := Nat.le_trans (Nat.le_of_eq HN0.out) BL1.out.size
      obtain ⟨g, off, rfl, hg, hat⟩ := opC_at HOPS.out (by omega)
      obtain ⟨o, B, c1, E, d, h1, h2, h3⟩ := hat k hlt
      have hsmo := HSM.out k (by rw [HOL.out]; exact hlt) o h1
      have key : ∀ j v, (opC o B c1 E d)[j]? = some v → wr.cell? ⟨g, off + k * 4 + j, none⟩ = some v := fun j v hv => (BL1.out.cell (by rw [HN0.out]; exact hg)).trans (h3 j v hv)
      have z0 : wr.cell? ⟨g, off + k * 4, none⟩ = some (.int .i64 o.k) := key 0 _ rfl
      have z1 : wr.cell? ⟨g, off + k * 4 + 1, none⟩ = some (.int .i64 o.i) := key 1 _ rfl
      have z2 : wr.cell? ⟨g, off + k * 4 + 2, none⟩ = some (.slice B o.b.length c1) := key 2 _ rfl
      have z3 : wr.cell? ⟨g, off + k * 4 + 3, none⟩ = some (.slice E o.l.length d) := key 3 _ rfl
      have CD : Hid (Calls Try.prog 13 #[.pointer (some ⟨b, 0, none⟩), .agg (opV o.k o.i B o.b.length c1 E o.l.length d)] wr (DoA n0 b (s.step o).1 (s.step o).2.1 (s.step o).2.2 wr)) :=
        dDo_any HY1.out S4.out o B E c1 d h2.i (h2.b.2.2.2.belowN (bel_of BL1.out HN0.out)) (fun hx a ha => by rw [HN0.out]; exact rp_lt h2.b.2.2.2 hx a ha) hsmo.1
          (h2.l.2.2.below (bel_of BL1.out HN0.out)) (fun hx a ha => by rw [HN0.out]; exact ip_lt h2.l.2.2 hx a ha) hsmo.2 (by have := HM.out.2; have := H80.out; omega)
      have CV : Hid (∀ w', VAt n0 w' vb s → Below n0 w w' → Calls Try.prog 14 #[.pointer (some ⟨vb, 0, none⟩), .agg (opV o.k o.i B o.b.length c1 E o.l.length d)] w' (VoA n0 vb (s.step o).1 (s.step o).2.1 (s.step o).2.2 w')) := fun w' hva hb =>
        vDo_any hva (Nat.le_trans (Nat.le_of_eq HN0.out) hb.size) o B E c1 d h2.i (h2.b.2.2.2.belowN (bel_of hb HN0.out)) (fun hx a ha => by rw [HN0.out]; exact rp_lt h2.b.2.2.2 hx a ha) hsmo.1
          (h2.l.2.2.below (bel_of hb HN0.out)) (fun hx a ha => by rw [HN0.out]; exact ip_lt h2.l.2.2 hx a ha) hsmo.2 h2.lb (by have := HM.out.2; have := H80.out; omega)
      have HXL : Hid ((s.step o).2.1.length ≤ 128) := step_le HY1.out.ok o
      have HQ2 : Hid ((s.step o).2.2.L.length = a ∧ (s.step o).2.2.Q.length ≤ k + 1) := ⟨(s.step_len o).1.trans HM.out.1, Nat.le_trans (s.step_len o).2 (Nat.succ_le_succ HM.out.2)⟩
      obtain ⟨m1, hm1⟩ : ∃ m, m = o.b.length := ⟨_, rfl⟩
      obtain ⟨m2, hm2⟩ : ∃ m, m = o.l.length := ⟨_, rfl⟩
      obtain ⟨kd, hkd⟩ : ∃ m, m = o.k := ⟨_, rfl⟩
      obtain ⟨iv, hiv⟩ : ∃ m, m = o.i := ⟨_, rfl⟩
      obtain ⟨s2, hs2⟩ : ∃ m, m = (s.step o).2.2 := ⟨_, rfl⟩
      obtain ⟨xs, hxs⟩ : ∃ m, m = (s.step o).2.1 := ⟨_, rfl⟩
      obtain ⟨r, hr⟩ : ∃ m, m = (s.step o).1 := ⟨_, rfl⟩
      obtain ⟨lx, hlx⟩ : ∃ m, m = xs.length := ⟨_, rfl⟩
      have HLX := hid hlx
      rw [← hkd] at z0
      rw [← hiv] at z1
      rw [← hm1] at z2
      rw [← hm2] at z3
      rw [← hm1, ← hm2, ← hkd, ← hiv, ← hs2, ← hxs, ← hr] at CD
      rw [← hm1, ← hm2, ← hkd, ← hiv, ← hs2, ← hxs, ← hr] at CV
      rw [← hxs] at HXL
      rw [← hs2] at HQ2
      have HG : Hid (g < n0) := by show _ < _; rw [HN0.out]; exact hg
      have Z0 := hid z0; have Z1 := hid z1; have Z2 := hid z2; have Z3 := hid z3
      have hk2 : (k : Int) < n1 := by omega
      have hm1b : (m1 : Int) ≤ 300 := by omega
      have hm2b : (m2 : Int) ≤ 200 := by omega
      clear key h1 h2 h3 hat hg hsmo hm1 hm2 hlt hkd hiv hs2 hxs hr hlx
      go_upto_region 13 with (first
        | (go_at_call 13; refine CD.out.mono ?_; rintro e w5 ⟨X, q, c5, rfl, hq, hf, hlf⟩; obtain rfl : lx = q := HLX.out.trans hq.symm; have HLF := hid hlf; have HF := hid hf; have y0 : w5.cell? ⟨g, off + k * 4, none⟩ = some (.int .i64 kd) := (hlf.2.2.cell HG.out).trans Z0.out; have y1 : w5.cell? ⟨g, off + k * 4 + 1, none⟩ = some (.int .i64 iv) := (hlf.2.2.cell HG.out).trans Z1.out; have y2 : w5.cell? ⟨g, off + k * 4 + 2, none⟩ = some (.slice B m1 c1) := (hlf.2.2.cell HG.out).trans Z2.out; have y3 : w5.cell? ⟨g, off + k * 4 + 3, none⟩ = some (.slice E m2 d) := (hlf.2.2.cell HG.out).trans Z3.out; have BL5 := hid (BL1.out.trans hlf.2.2); have HV5 := hid (HV1.out.kt hlf.2.1); clear hq hf hlf)
        | (go_at_call 14; refine (CV.out _ HV5.out BL5.out).mono ?_; rintro e w7 ⟨Y, q, c7, rfl, hq, hr, hlv⟩; obtain rfl : lx = q := HLX.out.trans hq.symm; have HLV := hid hlv; have RY7 := hid hr; clear hq hr hlv))
      have HY7 := hid (HLF.out.1.vt HLV.out.2.1)
      have HV7 := hid HLV.out.1
      have BL7 := hid (BL5.out.trans HLV.out.2.2)
      have RX7 := hid ((HF.out.vt HLV.out.2.1).rp0)
      have S7 : Hid (n0 ≤ w7.heap.size) := Nat.le_trans (Nat.le_of_eq HN0.out) BL7.out.size
      have CS : Hid (∀ w', Below w7.heap.size w7 w' → Calls Try.prog 15 #[.slice X lx c5, .slice Y lx c7] w' fun e w2 => e = .returned (.bool true) ∧ Below w'.heap.size w' w2) := fun w' hb => same_yes (RX7.out.belowN hb) (RY7.out.belowN hb) HXL.out HLX.out
      have CDN : Hid (∀ w', Below w7.heap.size w7 w' → Calls Try.prog 16 #[.pointer (some ⟨b, 0, none⟩)] w' fun e w2 => e = .returned (.bool s2.D) ∧ Below w'.heap.size w' w2) := fun w' hb => (HY7.out.below hb).down.mono fun e w2 ⟨h1, h2⟩ => ⟨h1, by rw [← h2]; exact Below.refl _ _⟩
      have CWT : Hid (∀ w', Below w7.heap.size w7 w' → Calls Try.prog 17 #[.pointer (some ⟨b, 0, none⟩)] w' fun e w2 => e = .returned (.int .i64 (s2.Q.length : Nat)) ∧ Below w'.heap.size w' w2) := fun w' hb => (HY7.out.below hb).waits.mono fun e w2 ⟨h1, h2⟩ => ⟨h1, by rw [← h2]; exact Below.refl _ _⟩
      obtain ⟨VA, vc, VA', vc', vrows, vqr, hvb, _⟩ := HV7.out
      have C3 : Hid (w7.cell? ⟨vb, 3, none⟩ = some (.bool s2.D)) := hvb.cell 3
      have C1 : Hid (w7.cell? ⟨vb, 1, none⟩ = some (.slice VA' s2.Q.length vc')) := hvb.cell 1
      obtain ⟨DD, hDD⟩ : ∃ m, m = s2.D := ⟨_, rfl⟩
      obtain ⟨lq, hlq⟩ : ∃ m, m = s2.Q.length := ⟨_, rfl⟩
      rw [← hDD] at C3
      rw [← hDD] at CDN
      rw [← hlq] at C1
      rw [← hlq] at CWT
      clear hvb hDD hlq HLF HLV HF HV5 BL5 y0 y1 y2 y3 z0 z1 z2 z3 Z0 Z1 Z2 Z3 CD CV S4 HY1 HV1 HM BL1
      refine wp_region_held (S := fun w' => Hid (Below w7.heap.size w7 w')) (by kernel_rfl) ?_
      change wpAnyH _ _ _ _ _ _ _ _ w7.drew
      have Gx0 : Hid (Below w7.heap.size w7 w7.drew) := (Below.refl _ _).drew
      generalize w7.drew = x0 at Gx0  ⊢
      refine wpAnyH_take (i := 0) (oi := { dst := some 69, op := _, type := _, pos := _, after := _, guard := _ }) (v := ?_) rfl (by kernel_rfl) (by kernel_rfl) (by kernel_rfl) (fun _ _ _ h => h) (Or.inl ⟨by kernel_rfl, ?_⟩) Gx0 ?_
      rotate_left
      · (intro w hSw; go_simp; try with_reducible rfl)
      try simp only [Act.put, List.setIfInBounds_toArray, List.set_cons_zero, List.set_cons_succ]
      refine wpAnyH_take (i := 1) (oi := { dst := some 70, op := _, type := _, pos := _, after := _, guard := _ }) (v := ?_) rfl (by kernel_rfl) (by kernel_rfl) (by kernel_rfl) (fun _ _ _ h => h) (Or.inl ⟨by kernel_rfl, ?_⟩) Gx0 ?_
      rotate_left
      · (intro w hSw; go_simp; try with_reducible rfl)
      try simp only [Act.put, List.setIfInBounds_toArray, List.set_cons_zero, List.set_cons_succ]
      refine wpAnyH_take (i := 2) (oi := { dst := some 71, op := _, type := _, pos := _, after := _, guard := _ }) (v := ?_) rfl (by kernel_rfl) (by kernel_rfl) (by kernel_rfl) (fun _ _ _ h => h) (Or.inl ⟨by kernel_rfl, ?_⟩) Gx0 ?_
      rotate_left
      · (intro w hSw; go_simp; try with_reducible rfl)
      try simp only [Act.put, List.setIfInBounds_toArray, List.set_cons_zero, List.set_cons_succ]
      refine wpAnyH_take (i := 3) (oi := { dst := some 72, op := _, type := _, pos := _, after := _, guard := _ }) (v := ?_) rfl (by kernel_rfl) (by kernel_rfl) (by kernel_rfl) (fun _ _ _ h => h) (Or.inl ⟨by kernel_rfl, ?_⟩) Gx0 ?_
      rotate_left
      · (intro w hSw; go_simp; try with_reducible rfl)
      try simp only [Act.put, List.setIfInBounds_toArray, List.set_cons_zero, List.set_cons_succ]
      refine wpAnyH_take (i := 4) (oi := { dst := some 73, op := _, type := _, pos := _, after := _, guard := _ }) (v := ?_) rfl (by kernel_rfl) (by kernel_rfl) (by kernel_rfl) (fun _ _ _ h => h) (Or.inl ⟨by kernel_rfl, ?_⟩) Gx0 ?_
      rotate_left
      · (intro w hSw; go_simp; try with_reducible rfl)
      try simp only [Act.put, List.setIfInBounds_toArray, List.set_cons_zero, List.set_cons_succ]
      refine wpAnyH_take (i := 5) (oi := { dst := some 74, op := _, type := _, pos := _, after := _, guard := _ }) (v := ?_) rfl (by kernel_rfl) (by kernel_rfl) (by kernel_rfl) (fun _ _ _ h => h) (Or.inl ⟨by kernel_rfl, ?_⟩) Gx0 ?_
      rotate_left
      · (intro w hSw; go_simp; try with_reducible rfl)
      try simp only [Act.put, List.setIfInBounds_toArray, List.set_cons_zero, List.set_cons_succ]
      refine wpAnyH_ready (rs := [6]) (by kernel_rfl) (by simp) ?_
      refine (AllReadyH.cons (o := { dst := some 75, op := _, type := _, pos := _, after := _, guard := _ }) rfl (fun Qc hQc => ?_) AllReadyH.nil)
      go_simp
      go_at_call 15
      refine (CS.out _ Gx0.out).mono ?_
      rintro e x1 ⟨rfl, hb⟩
      have Gx1 := hid (Gx0.out.trans (hb.mono Gx0.out.size))
      clear hb
      go_wp2_with fail
      refine hQc.out _ _ Gx1 (fun hHeld => ?_)
      clear hQc Qc hHeld Gx0
      try simp only [Act.put, List.setIfInBounds_toArray, List.set_cons_zero, List.set_cons_succ]
      refine wpAnyH_take (i := 7) (oi := { dst := some 76, op := _, type := _, pos := _, after := _, guard := _ }) (v := ?_) rfl (by kernel_rfl) (by kernel_rfl) (by kernel_rfl) (fun _ _ _ h => h) (Or.inl ⟨by kernel_rfl, ?_⟩) Gx1 ?_
      rotate_left
      · (intro w hSw; go_simp; try with_reducible rfl)
      try simp only [Act.put, List.setIfInBounds_toArray, List.set_cons_zero, List.set_cons_succ]
      refine wpAnyH_take (i := 8) (oi := { dst := some 77, op := _, type := _, pos := _, after := _, guard := _ }) (v := ?_) rfl (by kernel_rfl) (by kernel_rfl) (by kernel_rfl) (fun _ _ _ h => h) (Or.inl ⟨by kernel_rfl, ?_⟩) Gx1 ?_
      rotate_left
      · (intro w hSw; go_simp; try with_reducible rfl)
      try simp only [Act.put, List.setIfInBounds_toArray, List.set_cons_zero, List.set_cons_succ]
      refine wpAnyH_take (i := 9) (oi := { dst := some 78, op := _, type := _, pos := _, after := _, guard := _ }) (v := ?_) rfl (by kernel_rfl) (by kernel_rfl) (by kernel_rfl) (fun _ _ _ h => h) (Or.inl ⟨by kernel_rfl, ?_⟩) Gx1 ?_
      rotate_left
      · (intro w hSw; go_simp; try with_reducible rfl)
      try simp only [Act.put, List.setIfInBounds_toArray, List.set_cons_zero, List.set_cons_succ]
      refine wpAnyH_take (i := 10) (oi := { dst := some 79, op := _, type := _, pos := _, after := _, guard := _ }) (v := ?_) rfl (by kernel_rfl) (by kernel_rfl) (by kernel_rfl) (fun _ _ _ h => h) (Or.inl ⟨by kernel_rfl, ?_⟩) Gx1 ?_
      rotate_left
      · (intro w hSw; go_simp; try with_reducible rfl)
      try simp only [Act.put, List.setIfInBounds_toArray, List.set_cons_zero, List.set_cons_succ]
      refine wpAnyH_take (i := 12) (oi := { dst := some 81, op := _, type := _, pos := _, after := _, guard := _ }) (v := ?_) rfl (by kernel_rfl) (by kernel_rfl) (by kernel_rfl) (fun _ _ _ h => h) (Or.inl ⟨by kernel_rfl, ?_⟩) Gx1 ?_
      rotate_left
      · (intro w hSw; go_simp; try with_reducible rfl)
      try simp only [Act.put, List.setIfInBounds_toArray, List.set_cons_zero, List.set_cons_succ]
      refine wpAnyH_take (i := 13) (oi := { dst := some 82, op := _, type := _, pos := _, after := _, guard := _ }) (v := ?_) rfl (by kernel_rfl) (by kernel_rfl) (by kernel_rfl) (fun _ _ _ h => h) (Or.inl ⟨by kernel_rfl, ?_⟩) Gx1 ?_
      rotate_left
      · (intro w hSw; go_simp; try with_reducible rfl)
      try simp only [Act.put, List.setIfInBounds_toArray, List.set_cons_zero, List.set_cons_succ]
      refine wpAnyH_take (i := 14) (oi := { dst := some 83, op := _, type := _, pos := _, after := _, guard := _ }) (v := ?_) rfl (by kernel_rfl) (by kernel_rfl) (by kernel_rfl) (fun _ _ _ h => h) (Or.inl ⟨by kernel_rfl, ?_⟩) Gx1 ?_
      rotate_left
      · (intro w hSw; go_simp; try with_reducible rfl)
      try simp only [Act.put, List.setIfInBounds_toArray, List.set_cons_zero, List.set_cons_succ]
      refine wpAnyH_take (i := 15) (oi := { dst := some 84, op := _, type := _, pos := _, after := _, guard := _ }) (v := ?_) rfl (by kernel_rfl) (by kernel_rfl) (by kernel_rfl) (fun _ _ _ h => h) (Or.inl ⟨by kernel_rfl, ?_⟩) Gx1 ?_
      rotate_left
      · (intro w hSw; have hc := cell_bel2 hSw.out C3.out; go_simp; try with_reducible rfl)
      try simp only [Act.put, List.setIfInBounds_toArray, List.set_cons_zero, List.set_cons_succ]
      refine wpAnyH_ready (rs := [11]) (by kernel_rfl) (by simp) ?_
      refine (AllReadyH.cons (o := { dst := some 80, op := _, type := _, pos := _, after := _, guard := _ }) rfl (fun Qc hQc => ?_) AllReadyH.nil)
      go_simp
      go_at_call 16
      refine (CDN.out _ Gx1.out).mono ?_
      rintro e x2 ⟨rfl, hb⟩
      have Gx2 := hid (Gx1.out.trans (hb.mono Gx1.out.size))
      clear hb
      go_wp2_with fail
      refine hQc.out _ _ Gx2 (fun hHeld => ?_)
      clear hQc Qc hHeld Gx1
      try simp only [Act.put, List.setIfInBounds_toArray, List.set_cons_zero, List.set_cons_succ]
      refine wpAnyH_take (i := 16) (oi := { dst := some 85, op := _, type := _, pos := _, after := _, guard := _ }) (v := ?_) rfl (by kernel_rfl) (by kernel_rfl) (by kernel_rfl) (fun _ _ _ h => h) (Or.inl ⟨by kernel_rfl, ?_⟩) Gx2 ?_
      rotate_left
      · (intro w hSw; go_simp; try with_reducible rfl)
      try simp only [Act.put, List.setIfInBounds_toArray, List.set_cons_zero, List.set_cons_succ]
      refine wpAnyH_take (i := 17) (oi := { dst := some 86, op := _, type := _, pos := _, after := _, guard := _ }) (v := ?_) rfl (by kernel_rfl) (by kernel_rfl) (by kernel_rfl) (fun _ _ _ h => h) (Or.inl ⟨by kernel_rfl, ?_⟩) Gx2 ?_
      rotate_left
      · (intro w hSw; go_simp; try with_reducible rfl)
      try simp only [Act.put, List.setIfInBounds_toArray, List.set_cons_zero, List.set_cons_succ]
      refine wpAnyH_take (i := 18) (oi := { dst := some 87, op := _, type := _, pos := _, after := _, guard := _ }) (v := ?_) rfl (by kernel_rfl) (by kernel_rfl) (by kernel_rfl) (fun _ _ _ h => h) (Or.inl ⟨by kernel_rfl, ?_⟩) Gx2 ?_
      rotate_left
      · (intro w hSw; go_simp; try with_reducible rfl)
      try simp only [Act.put, List.setIfInBounds_toArray, List.set_cons_zero, List.set_cons_succ]
      refine wpAnyH_take (i := 19) (oi := { dst := some 88, op := _, type := _, pos := _, after := _, guard := _ }) (v := ?_) rfl (by kernel_rfl) (by kernel_rfl) (by kernel_rfl) (fun _ _ _ h => h) (Or.inl ⟨by kernel_rfl, ?_⟩) Gx2 ?_
      rotate_left
      · (intro w hSw; go_simp; try with_reducible rfl)
      try simp only [Act.put, List.setIfInBounds_toArray, List.set_cons_zero, List.set_cons_succ]
      refine wpAnyH_take (i := 21) (oi := { dst := some 90, op := _, type := _, pos := _, after := _, guard := _ }) (v := ?_) rfl (by kernel_rfl) (by kernel_rfl) (by kernel_rfl) (fun _ _ _ h => h) (Or.inl ⟨by kernel_rfl, ?_⟩) Gx2 ?_
      rotate_left
      · (intro w hSw; go_simp; try with_reducible rfl)
      try simp only [Act.put, List.setIfInBounds_toArray, List.set_cons_zero, List.set_cons_succ]
      refine wpAnyH_take (i := 22) (oi := { dst := some 91, op := _, type := _, pos := _, after := _, guard := _ }) (v := ?_) rfl (by kernel_rfl) (by kernel_rfl) (by kernel_rfl) (fun _ _ _ h => h) (Or.inl ⟨by kernel_rfl, ?_⟩) Gx2 ?_
      rotate_left
      · (intro w hSw; go_simp; try with_reducible rfl)
      try simp only [Act.put, List.setIfInBounds_toArray, List.set_cons_zero, List.set_cons_succ]
      refine wpAnyH_take (i := 23) (oi := { dst := some 92, op := _, type := _, pos := _, after := _, guard := _ }) (v := ?_) rfl (by kernel_rfl) (by kernel_rfl) (by kernel_rfl) (fun _ _ _ h => h) (Or.inl ⟨by kernel_rfl, ?_⟩) Gx2 ?_
      rotate_left
      · (intro w hSw; go_simp; try with_reducible rfl)
      try simp only [Act.put, List.setIfInBounds_toArray, List.set_cons_zero, List.set_cons_succ]
      refine wpAnyH_take (i := 24) (oi := { dst := some 93, op := _, type := _, pos := _, after := _, guard := _ }) (v := ?_) rfl (by kernel_rfl) (by kernel_rfl) (by kernel_rfl) (fun _ _ _ h => h) (Or.inl ⟨by kernel_rfl, ?_⟩) Gx2 ?_
      rotate_left
      · (intro w hSw; have hc := cell_bel2 hSw.out C1.out; go_simp; try with_reducible rfl)
      try simp only [Act.put, List.setIfInBounds_toArray, List.set_cons_zero, List.set_cons_succ]
      refine wpAnyH_take (i := 25) (oi := { dst := some 94, op := _, type := _, pos := _, after := _, guard := _ }) (v := ?_) rfl (by kernel_rfl) (by kernel_rfl) (by kernel_rfl) (fun _ _ _ h => h) (Or.inl ⟨by kernel_rfl, ?_⟩) Gx2 ?_
      rotate_left
      · (intro w hSw; go_simp; try with_reducible rfl)
      try simp only [Act.put, List.setIfInBounds_toArray, List.set_cons_zero, List.set_cons_succ]
      refine wpAnyH_ready (rs := [20]) (by kernel_rfl) (by simp) ?_
      refine (AllReadyH.cons (o := { dst := some 89, op := _, type := _, pos := _, after := _, guard := _ }) rfl (fun Qc hQc => ?_) AllReadyH.nil)
      go_simp
      go_at_call 17
      refine (CWT.out _ Gx2.out).mono ?_
      rintro e x3 ⟨rfl, hb⟩
      have Gx3 := hid (Gx2.out.trans (hb.mono Gx2.out.size))
      clear hb
      go_wp2_with fail
      refine hQc.out _ _ Gx3 (fun hHeld => ?_)
      clear hQc Qc hHeld Gx2
      try simp only [Act.put, List.setIfInBounds_toArray, List.set_cons_zero, List.set_cons_succ]
      refine wpAnyH_take (i := 26) (oi := { dst := some 95, op := _, type := _, pos := _, after := _, guard := _ }) (v := ?_) rfl (by kernel_rfl) (by kernel_rfl) (by kernel_rfl) (fun _ _ _ h => h) (Or.inl ⟨by kernel_rfl, ?_⟩) Gx3 ?_
      rotate_left
      · (intro w hSw; go_simp; try with_reducible rfl)
      try simp only [Act.put, List.setIfInBounds_toArray, List.set_cons_zero, List.set_cons_succ]
      refine wpAnyH_take (i := 27) (oi := { dst := some 96, op := _, type := _, pos := _, after := _, guard := _ }) (v := ?_) rfl (by kernel_rfl) (by kernel_rfl) (by kernel_rfl) (fun _ _ _ h => h) (Or.inl ⟨by kernel_rfl, ?_⟩) Gx3 ?_
      rotate_left
      · (intro w hSw; go_simp; try with_reducible rfl)
      try simp only [Act.put, List.setIfInBounds_toArray, List.set_cons_zero, List.set_cons_succ]
      refine wpAnyH_done (by kernel_rfl) ?_ _
      try simp only [Act.put, List.setIfInBounds_toArray, List.set_cons_zero, List.set_cons_succ]
      have HY8 := hid (HY7.out.below Gx3.out)
      have HV8 := hid (HV7.out.below Gx3.out)
      have BL8 := hid (BL7.out.trans (Gx3.out.mono S7.out))
      clear HY7 HV7 BL7 Gx3 CS CDN CWT C1 C3 RX7 RY7 S7
      go_wp2_with (fail)
      go_loopw [14] (fun i wr => ∃ z : Int, -1 ≤ z ∧ z ≤ (a : Int) + 1 ∧ i = .int .i64 z ∧ Hid (Dy n0 wr b s2) ∧ Hid (VAt n0 wr vb s2) ∧ Hid (Below n0 w wr)) (fun i _ => ((a : Int) + 1 - intOf i).toNat)
      case atStart => exact ⟨-1, by omega, by omega, rfl, HY8.out, HV8.out, BL8.out⟩
      case round =>
        obtain ⟨z, hz, hz2, rfl, HY9, HV9, BL9⟩ := hrel
        clear HY8 HV8 BL8
        by_cases hza : z ≤ (a : Int)
        · have CR0 := dr_any HY9.out z
          have CV0 := fun w' (hb : Below wr.heap.size wr w') => vr_any (HV9.out.below hb) (by have := HQ2.out.2; have := H80.out; omega) z
          have HXL : Hid ((s2.rd z).2.length ≤ 128) := rd_le HY9.out.ok z
          have S9 : Hid (n0 ≤ wr.heap.size) := Nat.le_trans (Nat.le_of_eq HN0.out) BL9.out.size
          have CR := hid CR0; have CV := hid CV0
          clear CR0 CV0
          obtain ⟨ys, hys⟩ : ∃ ys, ys = (s2.rd z).2 := ⟨_, rfl⟩
          obtain ⟨r2, hr2⟩ : ∃ r2, r2 = (s2.rd z).1 := ⟨_, rfl⟩
          rw [← hys, ← hr2] at CR
          rw [← hys, ← hr2] at CV
          rw [← hys] at HXL
          obtain ⟨ly, hly⟩ : ∃ ly, ly = ys.length := ⟨_, rfl⟩
          have HLY := hid hly
          clear hys hr2 hly
          go_upto_region 20 with (first
            | (go_at_call 18; refine CR.out.mono ?_; rintro e u5 ⟨X, q, c5, rfl, hq, hf, hb⟩; obtain rfl : ly = q := HLY.out.trans hq.symm; have HF5 := hid hf; have HB5 := hid hb; clear hf hb hq)
            | (go_at_call 19; refine (CV.out _ HB5.out).mono ?_; rintro e u6 ⟨Y, q, c6, rfl, hq, hr, hb⟩; obtain rfl : ly = q := HLY.out.trans hq.symm; have RY5 := hid hr; have HE := hid hb; clear hr hb hq))
          obtain rfl := HE.out
          have RX5 := hid HF5.out.rp0
          have CS5 : Hid (Calls Try.prog 15 #[.slice X ly c5, .slice Y ly c6] u5 fun e w' => e = .returned (.bool true) ∧ Below u5.heap.size u5 w') := same_yes RX5.out RY5.out HXL.out HLY.out
          go_wp2_with (go_at_call 15; refine CS5.out.mono ?_; rintro e u7 ⟨rfl, hb⟩; have HB7 := hid (HB5.out.trans (hb.mono HB5.out.size)); clear hb)
          go_roundw
          case rel => exact ⟨z + 1, by omega, by omega, by go_num, HY9.out.below HB7.out, HV9.out.below HB7.out, BL9.out.trans (HB7.out.mono S9.out)⟩
          case measure => simp [intOf]; omega
        · go_wp2
          go_roundw
          case rel => exact ⟨k + 1, s2, by omega, by go_num, HY9.out, HV9.out, HQ2.out, BL9.out⟩
          case measure => simp [intOf]; omega
    · obtain rfl : k = n1 := by omega
      go_wp2
      go_ret
      exact ⟨rfl, BL1.out⟩
theorem dplays_walk (v : Int) (A1 : Option Addr) (n1 d1 : Nat) (ol : List Oq) (w : World) (hv : 0 ≤ v ∧ v ≤ 255) (hin : InOps w A1 n1 ol) :
    Calls Try.prog 3 #[.int .u8 v, .slice A1 n1 d1] w fun e w' => e = .returned (.bool true) ∧ Below w.heap.size w w' := by
  by_cases hf : ol.length ≤ 80 ∧ Small ol ol.length
  · have CF := hid (fun w' (hb : Below w.heap.size w w') => dFew_yes (c := d1) (hin.below hb) hf)
    exact dplays_80 v A1 n1 d1 ol w hv hin (by rw [← hin.1]; exact hf.1) hf.2 CF
  · have CF := hid (fun w' (hb : Below w.heap.size w w') => dFew_no (c := d1) (hin.below hb) hf)
    have tok1 : True := trivial
    clear hin hf
    go_enter Try.func3, Try.ntmps3
    go_wp2_with (first
      | (go_at_call 8; have _t := tok1; refine (dawake_any _).mono ?_; rintro e w1 ⟨rfl, hb⟩; have B1 := hid hb; clear hb tok1)
      | (go_at_call 9; refine (CF.out _ B1.out).mono ?_; rintro e wq ⟨rfl, rfl⟩)
      | (go_at_call 8; refine (dawake_any _).mono ?_; rintro e w2 ⟨rfl, hb⟩; have B2 := hid (B1.out.trans (hb.mono B1.out.size)); clear hb))
    go_ret
    exact ⟨rfl, B2.out⟩
end Go.Proofs.Ythdnpakppjipfaa
