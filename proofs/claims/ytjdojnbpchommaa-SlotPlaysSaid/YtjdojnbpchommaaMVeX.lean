/-
  What is proved here: a restart of the document's device.
-/
import Derived.Test.YtjdojnbpchommaaMVeF
import Derived.OrdersHeld
set_option linter.unusedSimpArgs false
set_option linter.unusedVariables false
namespace Go.Proofs.Ytjdojnbpchommaa
open Go.ChangeShapes Go.WideShapes Go.ChangeAt Go.RowKit
set_option linter.unusedVariables false
set_option linter.unusedSimpArgs false
set_option maxRecDepth 20000

/-- what the loads of a round need -/
structure WV (b g n c : Nat) (A' : Option Addr) (m c' h' k : Nat) (B : Option Addr) (d : Nat) (w' : World) : Prop where
  c0 : w'.cell? ⟨b, 0, none⟩ = some (.slice (some ⟨g, 0, none⟩) n c)
  c1 : w'.cell? ⟨b, 1, none⟩ = some (.slice A' m c')
  z1 : w'.cell? ⟨h', k * 2 + 1, none⟩ = some (.slice B 128 (128 + d))
theorem WV.below {b g n c m c' h' k d : Nat} {A' B : Option Addr} {w w' : World} (h : WV b g n c A' m c' h' k B d w) (hb : Below w.heap.size w w') : WV b g n c A' m c' h' k B d w' :=
  ⟨(hb.cell (block_lt_of_cell h.c0)).trans h.c0, (hb.cell (block_lt_of_cell h.c1)).trans h.c1, (hb.cell (block_lt_of_cell h.z1)).trans h.z1⟩
theorem WV.set {b g n c m c' h' k d i : Nat} {A' B : Option Addr} {w : World} {u : Value} (h : WV b g n c A' m c' h' k B d w) (n1 : b ≠ g) (n2 : h' ≠ g) : WV b g n c A' m c' h' k B d (w.setCell ⟨g, i, none⟩ u) :=
  ⟨(World.cell?_of_block (a := ⟨b, 0, none⟩) (other_set w g i u b n1)).trans h.c0, (World.cell?_of_block (a := ⟨b, 1, none⟩) (other_set w g i u b n1)).trans h.c1, (World.cell?_of_block (a := ⟨h', k * 2 + 1, none⟩) (other_set w g i u h' n2)).trans h.z1⟩
theorem rows_frozen {n0 b n c m c' g : Nat} {A' : Option Addr} {F : Int} {D : Bool} {qr : List Value} {Q : List Wr} {P : List (List Int)} {w w' : World} (h : VfI n0 b n c m c' (some ⟨g, 0, none⟩) A' F D qr Q P w w') (hn : 0 < n) (i : Nat) : w'.frozen? ⟨g, i, none⟩ = false := by
  obtain ⟨rows, h2, _⟩ := h.rows
  obtain ⟨g', e, _, ⟨cur, hcur⟩, _⟩ := own_cell h2 hn
  injection e with e
  have e1 : g = g' := congrArg Addr.block e
  subst e1
  exact hcur.frozen i
set_option maxHeartbeats 16000000 in
theorem vx_any {n0 : Nat} {w : World} {b : Nat} {s : SS} (h : VAt n0 w b s) (hn : n0 ≤ w.heap.size) (E : Option Addr) (ln ce : Nat) (l : List Int) (hln : ln = l.length) (hl : Ip w E l) (hE : 0 < l.length → ∀ a, E = some a → a.block < n0) (hbd : ∀ k : Nat, -9223372036854775808 ≤ l[k]?.getD 0 ∧ l[k]?.getD 0 ≤ 9223372036854775807) (hl2 : ln ≤ 200) (hQ : s.Q.length < 1000) :
    Calls Try.prog 18 #[.pointer (some ⟨b, 0, none⟩), .slice E ln ce] w fun e w' => e = .returned (.tuple #[]) ∧ Lv n0 b (s.rs l) w w' := by
  obtain ⟨A3, c5, A4, c6, rows3, qr3, k1, k2, k3, k4, k5, k6, k7, k8, k9, k10⟩ := h
  obtain ⟨L, Q, F, D⟩ := s
  simp only at k1 k2 k3 k5 k6 k7 k8 k9 k10 hQ
  unfold SS.rs
  simp only
  obtain ⟨m, hm⟩ : ∃ m, m = Q.length := ⟨_, rfl⟩
  obtain ⟨n, hn'⟩ : ∃ n, n = L.length := ⟨_, rfl⟩
  rw [← hm, ← hn'] at k1
  rw [← hn'] at k2
  rw [← hm] at k3
  have HM := hid hm; have HNL := hid hn'; have HQ := hid hQ; have HN := hid hn; have H4 := hid k4
  have HLN := hid hln; have HBD := hid hbd
  have HIP : Hid (∀ {w'}, Below n0 w w' → Ip w' E l) := fun hb hx => by
    obtain ⟨ad, e, hc⟩ := hl hx
    exact ⟨ad, e, fun j hj => (hb.cell (by rw [add_block]; exact hE hx ad e)).trans (hc j hj)⟩
  have I0 : Hid (VfI n0 b n c5 m c6 A3 A4 F D qr3 Q (mixs (keep l) L Q 0) w w) := ⟨k1, ⟨rows3, k2, k5⟩, k3, k6, Vt.below (Below.refl _ _), Below.refl _ _⟩
  have K8 : Hid (PgOk L ∧ QOk L.length Q ∧ L.length ≤ 4096) := ⟨k8, k9, k10⟩
  have hm2 : (m : Int) < 1000 := by omega
  have hn2 : (n : Int) ≤ 4096 := by omega
  have hl3 : (ln : Int) ≤ 200 := by omega
  clear k1 k2 k3 k4 k5 k6 k7 k8 k9 k10 hm hn' hQ hn hln hl hE hl2 hbd
  go_enter Try.func18, Try.ntmps18
  go_wp2
  go_loopw [4] (fun i wr => ∃ k : Nat, k ≤ m ∧ i = .int .i64 k ∧ Hid (VfI n0 b n c5 m c6 A3 A4 F D qr3 Q (mixs (keep l) L Q k) w wr)) (fun i _ => m - (intOf i).toNat)
  case atStart => exact ⟨0, Nat.zero_le _, rfl, I0.out⟩
  case round =>
    obtain ⟨k, hk, rfl, HI⟩ := hrel
    clear I0
    have y1 : wr.cell? ⟨b, 1, none⟩ = some (.slice A4 m c6) := HI.out.kb.cell 1
    have S4 : Hid (n0 ≤ wr.heap.size) := Nat.le_trans HN.out HI.out.vt.sz
    by_cases hlt : k < m
    · have hkQ : k < Q.length := by have := HM.out; omega
      have hkq : Q[k]? = some Q[k] := List.getElem?_eq_getElem hkQ
      obtain ⟨q, hq⟩ : ∃ q, q = Q[k] := ⟨_, rfl⟩
      rw [← hq] at hkq
      obtain ⟨a, X⟩ := q
      have hqok := K8.out.2.1 _ (List.mem_of_getElem? hkq)
      obtain ⟨h', B, d, rfl, z0, z1, hpb⟩ := q_cells HI.out.q HI.out.qp hkq (by omega)
      have han : a < n := by have := HNL.out; have := hqok.1; omega
      obtain ⟨rows4, hro, hrp⟩ := HI.out.rows
      have hPn : (mixs (keep l) L Q k).length = n := by rw [mixs_length]; exact HNL.out.symm
      obtain ⟨g, B5, d5, hA, l0, hpb5⟩ := l_cells hro hrp (by rw [hPn]; exact han) (by omega)
      subst hA
      obtain ⟨g', e, hg0, ⟨cur, hcur⟩, _⟩ := own_cell hro (by omega)
      injection e with e
      have e1 : g = g' := congrArg Addr.block e
      subst e1
      obtain ⟨h2', e2, _, ⟨cur2, hcur2⟩, _⟩ := own_cell HI.out.q (by omega)
      injection e2 with e2
      have e3 : h' = h2' := congrArg Addr.block e2
      subst e3
      have NE : Hid (b ≠ g ∧ h' ≠ g) := ⟨HI.out.kb.ne hcur (by decide), hcur2.ne hcur (by decide)⟩
      obtain ⟨P5, hP5⟩ : ∃ P5, P5 = (mixs (keep l) L Q k)[a]?.getD [] := ⟨_, rfl⟩
      rw [← hP5] at hpb5
      have HP5 : Hid (P5.length = 128) := by show _ = _; rw [hP5]; exact (mixs_ok (keep_le l) K8.out.1 K8.out.2.1 k).at (by rw [hPn]; exact han)
      have HX : Hid (X.length = 128) := hqok.2
      have HAN := hid han; have HPN := hid hPn; have HG := hid hg0
      have HG0 : Hid (0 < n) := by show _ < _; omega
      have HMS : Hid (mixs (keep l) L Q (k + 1) = (mixs (keep l) L Q k).set a (mx P5 X (keep l k))) := by show _ = _; rw [mixs_succ hkq, hP5]
      have LC := hid l0
      have BX : Hid (Below wr.heap.size wr wr) := Below.refl _ _
      have WV0 : Hid (WV b g n c5 (some ⟨h', 0, none⟩) m c6 h' k B d wr.drew) := ⟨HI.out.kb.cell 0, y1, z1⟩
      have CM0 : Hid (∀ (t : Int) w', -9223372036854775808 ≤ t ∧ t ≤ 9223372036854775807 → Below wr.heap.size wr w' → Calls Try.prog 34 #[.slice B5 128 (128 + d5), .slice B 128 (128 + d), .int .i64 t] w' (MixAns w' (mx P5 X (clamp t)))) := fun t w' ht hb =>
        Mixed_any B5 B (128 + d5) (128 + d) P5 X t w' HP5.out HX.out ((hpb5.rp HP5.out).belowN hb) ((hpb.rp HX.out).belowN hb) ht
      have han2 : (a : Int) < n := by omega
      have hk2 : (k : Int) < m := by omega
      have HK := hid hlt
      clear hkQ hkq hq hqok hro hrp hPn hcur hcur2 e e2 hg0 hpb hpb5 han hlt hk hP5 l0
      by_cases hkl : k < ln
      · have hip := (HIP.out HI.out.bl) (by rw [← HLN.out]; omega)
        obtain ⟨ad, rfl, hcell⟩ := hip
        have hck := hcell k (by rw [← HLN.out]; exact hkl)
        obtain ⟨t, ht⟩ : ∃ t, t = l[k]?.getD 0 := ⟨_, rfl⟩
        rw [← ht] at hck
        have HPG : Hid (mixs (keep l) L Q (k + 1) = (mixs (keep l) L Q k).set a (mx P5 X (clamp t))) := by show _ = _; rw [HMS.out, keep_clamp, ht]
        have CMX : Hid (∀ w', Below wr.heap.size wr w' → Calls Try.prog 34 #[.slice B5 128 (128 + d5), .slice B 128 (128 + d), .int .i64 t] w' (MixAns w' (mx P5 X (clamp t)))) := fun w' hb => CM0.out t w' (by rw [ht]; exact HBD.out k) hb
        have HMX : Hid ((mx P5 X (clamp t)).length = 128) := mx_length HP5.out HX.out (clamp_le t)
        have hkl2 : (k : Int) < ln := by omega
        have hkl3 : decide (k < ln) = true := decide_eq_true hkl
        clear hcell ht CM0
        go_wp2
        clear z0 y1 z1 hck
        refine wp_region_held (S := fun w' => Hid (WV b g n c5 (some ⟨h', 0, none⟩) m c6 h' k B d w')) (by kernel_rfl) ?_
        change wpAnyH _ _ _ _ _ _ _ _ wr.drew
        have Gx0 : Hid (WV b g n c5 (some ⟨h', 0, none⟩) m c6 h' k B d wr.drew) := WV0.out
        have HI' : Hid (VfI n0 b n c5 m c6 (some ⟨g, 0, none⟩) (some ⟨h', 0, none⟩) F D qr3 Q (mixs (keep l) L Q k) w wr.drew) := HI.out.same ((Below.refl _ _).drew) S4.out
        have LC' : Hid ((wr.drew).cell? ⟨g, a, none⟩ = some (.slice B5 128 (128 + d5))) := LC.out
        have BX' : Hid (Below wr.heap.size wr wr.drew) := (Below.refl _ _).drew
        clear HI LC BX
        have HI := HI'
        have LC := LC'
        have BX := BX'
        clear HI' LC' BX'
        generalize wr.drew = x0 at Gx0 HI LC BX ⊢
        refine wpAnyH_take (i := 0) (oi := { dst := some 32, op := _, type := _, pos := _, after := _, guard := _ }) (v := ?_) rfl (by kernel_rfl) (by kernel_rfl) (by kernel_rfl) (fun _ _ _ h => h) (Or.inl ⟨by kernel_rfl, ?_⟩) Gx0 ?_
        rotate_left
        · (intro w hSw; go_simp; try with_reducible rfl)
        try simp only [Act.put, List.setIfInBounds_toArray, List.set_cons_zero, List.set_cons_succ]
        refine wpAnyH_take (i := 1) (oi := { dst := some 33, op := _, type := _, pos := _, after := _, guard := _ }) (v := ?_) rfl (by kernel_rfl) (by kernel_rfl) (by kernel_rfl) (fun _ _ _ h => h) (Or.inl ⟨by kernel_rfl, ?_⟩) Gx0 ?_
        rotate_left
        · (intro w hSw; go_simp; try with_reducible rfl)
        try simp only [Act.put, List.setIfInBounds_toArray, List.set_cons_zero, List.set_cons_succ]
        refine wpAnyH_take (i := 2) (oi := { dst := some 34, op := _, type := _, pos := _, after := _, guard := _ }) (v := ?_) rfl (by kernel_rfl) (by kernel_rfl) (by kernel_rfl) (fun _ _ _ h => h) (Or.inl ⟨by kernel_rfl, ?_⟩) Gx0 ?_
        rotate_left
        · (intro w hSw; go_simp; try with_reducible rfl)
        try simp only [Act.put, List.setIfInBounds_toArray, List.set_cons_zero, List.set_cons_succ]
        refine wpAnyH_take (i := 3) (oi := { dst := some 35, op := _, type := _, pos := _, after := _, guard := _ }) (v := ?_) rfl (by kernel_rfl) (by kernel_rfl) (by kernel_rfl) (fun _ _ _ h => h) (Or.inl ⟨by kernel_rfl, ?_⟩) Gx0 ?_
        rotate_left
        · (intro w hSw; have hc := hSw.out.c0; go_simp; try with_reducible rfl)
        try simp only [Act.put, List.setIfInBounds_toArray, List.set_cons_zero, List.set_cons_succ]
        refine wpAnyH_take (i := 4) (oi := { dst := some 36, op := _, type := _, pos := _, after := _, guard := _ }) (v := ?_) rfl (by kernel_rfl) (by kernel_rfl) (by kernel_rfl) (fun _ _ _ h => h) (Or.inl ⟨by kernel_rfl, ?_⟩) Gx0 ?_
        rotate_left
        · (intro w hSw; go_simp; try with_reducible rfl)
        try simp only [Act.put, List.setIfInBounds_toArray, List.set_cons_zero, List.set_cons_succ]
        refine wpAnyH_take (i := 5) (oi := { dst := some 37, op := _, type := _, pos := _, after := _, guard := _ }) (v := ?_) rfl (by kernel_rfl) (by kernel_rfl) (by kernel_rfl) (fun _ _ _ h => h) (Or.inl ⟨by kernel_rfl, ?_⟩) Gx0 ?_
        rotate_left
        · (intro w hSw; go_simp; try with_reducible rfl)
        try simp only [Act.put, List.setIfInBounds_toArray, List.set_cons_zero, List.set_cons_succ]
        refine wpAnyH_take (i := 6) (oi := { dst := some 38, op := _, type := _, pos := _, after := _, guard := _ }) (v := ?_) rfl (by kernel_rfl) (by kernel_rfl) (by kernel_rfl) (fun _ _ _ h => h) (Or.inl ⟨by kernel_rfl, ?_⟩) Gx0 ?_
        rotate_left
        · (intro w hSw; go_simp; try with_reducible rfl)
        try simp only [Act.put, List.setIfInBounds_toArray, List.set_cons_zero, List.set_cons_succ]
        refine wpAnyH_take (i := 7) (oi := { dst := some 39, op := _, type := _, pos := _, after := _, guard := _ }) (v := ?_) rfl (by kernel_rfl) (by kernel_rfl) (by kernel_rfl) (fun _ _ _ h => h) (Or.inl ⟨by kernel_rfl, ?_⟩) Gx0 ?_
        rotate_left
        · (intro w hSw; go_simp; try with_reducible rfl)
        try simp only [Act.put, List.setIfInBounds_toArray, List.set_cons_zero, List.set_cons_succ]
        refine wpAnyH_take (i := 8) (oi := { dst := some 40, op := _, type := _, pos := _, after := _, guard := _ }) (v := ?_) rfl (by kernel_rfl) (by kernel_rfl) (by kernel_rfl) (fun _ _ _ h => h) (Or.inl ⟨by kernel_rfl, ?_⟩) Gx0 ?_
        rotate_left
        · (intro w hSw; have hc := hSw.out.c0; go_simp; try with_reducible rfl)
        try simp only [Act.put, List.setIfInBounds_toArray, List.set_cons_zero, List.set_cons_succ]
        refine wpAnyH_take (i := 9) (oi := { dst := some 41, op := _, type := _, pos := _, after := _, guard := _ }) (v := ?_) rfl (by kernel_rfl) (by kernel_rfl) (by kernel_rfl) (fun _ _ _ h => h) (Or.inl ⟨by kernel_rfl, ?_⟩) Gx0 ?_
        rotate_left
        · (intro w hSw; go_simp; try with_reducible rfl)
        try simp only [Act.put, List.setIfInBounds_toArray, List.set_cons_zero, List.set_cons_succ]
        refine wpAnyH_take (i := 10) (oi := { dst := some 42, op := _, type := _, pos := _, after := _, guard := _ }) (v := ?_) rfl (by kernel_rfl) (by kernel_rfl) (by kernel_rfl) (fun _ _ _ h => h) (Or.inl ⟨by kernel_rfl, ?_⟩) Gx0 ?_
        rotate_left
        · (intro w hSw; go_simp; try with_reducible rfl)
        try simp only [Act.put, List.setIfInBounds_toArray, List.set_cons_zero, List.set_cons_succ]
        refine wpAnyH_take (i := 12) (oi := { dst := some 44, op := _, type := _, pos := _, after := _, guard := _ }) (v := ?_) rfl (by kernel_rfl) (by kernel_rfl) (by kernel_rfl) (fun _ _ _ h => h) (Or.inl ⟨by kernel_rfl, ?_⟩) Gx0 ?_
        rotate_left
        · (intro w hSw; go_simp; try with_reducible rfl)
        try simp only [Act.put, List.setIfInBounds_toArray, List.set_cons_zero, List.set_cons_succ]
        refine wpAnyH_take (i := 13) (oi := { dst := some 45, op := _, type := _, pos := _, after := _, guard := _ }) (v := ?_) rfl (by kernel_rfl) (by kernel_rfl) (by kernel_rfl) (fun _ _ _ h => h) (Or.inl ⟨by kernel_rfl, ?_⟩) Gx0 ?_
        rotate_left
        · (intro w hSw; go_simp; try with_reducible rfl)
        try simp only [Act.put, List.setIfInBounds_toArray, List.set_cons_zero, List.set_cons_succ]
        refine wpAnyH_take (i := 14) (oi := { dst := some 46, op := _, type := _, pos := _, after := _, guard := _ }) (v := ?_) rfl (by kernel_rfl) (by kernel_rfl) (by kernel_rfl) (fun _ _ _ h => h) (Or.inl ⟨by kernel_rfl, ?_⟩) Gx0 ?_
        rotate_left
        · (intro w hSw; go_simp; try with_reducible rfl)
        try simp only [Act.put, List.setIfInBounds_toArray, List.set_cons_zero, List.set_cons_succ]
        refine wpAnyH_take (i := 15) (oi := { dst := some 47, op := _, type := _, pos := _, after := _, guard := _ }) (v := ?_) rfl (by kernel_rfl) (by kernel_rfl) (by kernel_rfl) (fun _ _ _ h => h) (Or.inl ⟨by kernel_rfl, ?_⟩) Gx0 ?_
        rotate_left
        · (intro w hSw; have hc := hSw.out.c1; go_simp; try with_reducible rfl)
        try simp only [Act.put, List.setIfInBounds_toArray, List.set_cons_zero, List.set_cons_succ]
        refine wpAnyH_take (i := 16) (oi := { dst := some 48, op := _, type := _, pos := _, after := _, guard := _ }) (v := ?_) rfl (by kernel_rfl) (by kernel_rfl) (by kernel_rfl) (fun _ _ _ h => h) (Or.inl ⟨by kernel_rfl, ?_⟩) Gx0 ?_
        rotate_left
        · (intro w hSw; go_simp; try with_reducible rfl)
        try simp only [Act.put, List.setIfInBounds_toArray, List.set_cons_zero, List.set_cons_succ]
        refine wpAnyH_take (i := 17) (oi := { dst := some 49, op := _, type := _, pos := _, after := _, guard := _ }) (v := ?_) rfl (by kernel_rfl) (by kernel_rfl) (by kernel_rfl) (fun _ _ _ h => h) (Or.inl ⟨by kernel_rfl, ?_⟩) Gx0 ?_
        rotate_left
        · (intro w hSw; go_simp; try with_reducible rfl)
        try simp only [Act.put, List.setIfInBounds_toArray, List.set_cons_zero, List.set_cons_succ]
        refine wpAnyH_take (i := 18) (oi := { dst := some 50, op := _, type := _, pos := _, after := _, guard := _ }) (v := ?_) rfl (by kernel_rfl) (by kernel_rfl) (by kernel_rfl) (fun _ _ _ h => h) (Or.inl ⟨by kernel_rfl, ?_⟩) Gx0 ?_
        rotate_left
        · (intro w hSw; go_simp; try with_reducible rfl)
        try simp only [Act.put, List.setIfInBounds_toArray, List.set_cons_zero, List.set_cons_succ]
        refine wpAnyH_take (i := 19) (oi := { dst := some 51, op := _, type := _, pos := _, after := _, guard := _ }) (v := ?_) rfl (by kernel_rfl) (by kernel_rfl) (by kernel_rfl) (fun _ _ _ h => h) (Or.inl ⟨by kernel_rfl, ?_⟩) Gx0 ?_
        rotate_left
        · (intro w hSw; have hc := hSw.out.z1; go_simp; try with_reducible rfl)
        try simp only [Act.put, List.setIfInBounds_toArray, List.set_cons_zero, List.set_cons_succ]
        refine wpAnyH_take (i := 20) (oi := { dst := some 52, op := _, type := _, pos := _, after := _, guard := _ }) (v := ?_) rfl (by kernel_rfl) (by kernel_rfl) (by kernel_rfl) (fun _ _ _ h => h) (Or.inl ⟨by kernel_rfl, ?_⟩) Gx0 ?_
        rotate_left
        · (intro w hSw; go_simp; try with_reducible rfl)
        try simp only [Act.put, List.setIfInBounds_toArray, List.set_cons_zero, List.set_cons_succ]
        refine wpAnyH_ready (rs := [11]) (by kernel_rfl) (by simp) ?_
        refine (AllReadyH.cons (o := { dst := some 43, op := _, type := _, pos := _, after := _, guard := _ }) rfl (fun Qc hQc => ?_) AllReadyH.nil)
        have l0 : x0.cell? ⟨g, a, none⟩ = some (.slice B5 128 (128 + d5)) := LC.out
        go_simp
        refine hQc.out _ _ Gx0 (fun hHeld => ?_)
        clear hQc Qc l0
        try simp only [Act.put, List.setIfInBounds_toArray, List.set_cons_zero, List.set_cons_succ]
        refine wpAnyH_ready (rs := [21]) (by kernel_rfl) (by simp) ?_
        refine (AllReadyH.cons (o := { dst := some 53, op := _, type := _, pos := _, after := _, guard := _ }) rfl (fun Qc hQc => ?_) AllReadyH.nil)
        go_simp
        go_at_call 34
        refine (CMX.out _ BX.out).mono ?_
        rintro e x1 ⟨Z, dz, rfl, hf, hb⟩
        have Gx1 : Hid (WV b g n c5 (some ⟨h', 0, none⟩) m c6 h' k B d x1) := Gx0.out.below hb
        have SX : Hid (n0 ≤ x0.heap.size) := Nat.le_trans S4.out BX.out.size
        have HI2 := hid (HI.out.same hb SX.out)
        have PBZ : Hid (Pb x1 Z (mx P5 X (clamp t))) := hf.pb HMX.out
        have LC2 : Hid (x1.cell? ⟨g, a, none⟩ = some (.slice B5 128 (128 + d5))) := (hb.cell (block_lt_of_cell LC.out)).trans LC.out
        clear hf hb
        go_wp2_with fail
        refine hQc.out _ _ Gx1 (fun hHeld => ?_)
        clear hQc Qc hHeld Gx0 HI LC BX SX
        have HI := HI2; have LC := LC2
        clear HI2 LC2
        try simp only [Act.put, List.setIfInBounds_toArray, List.set_cons_zero, List.set_cons_succ]
        refine wpAnyH_take (i := 22) (oi := { dst := some 54, op := _, type := _, pos := _, after := _, guard := _ }) (v := ?_) rfl (by kernel_rfl) (by kernel_rfl) (by kernel_rfl) (fun _ _ _ h => h) (Or.inl ⟨by kernel_rfl, ?_⟩) Gx1 ?_
        rotate_left
        · (intro w hSw; go_simp; try with_reducible rfl)
        try simp only [Act.put, List.setIfInBounds_toArray, List.set_cons_zero, List.set_cons_succ]
        refine wpAnyH_ready (rs := [23]) (by kernel_rfl) (by simp) ?_
        refine (AllReadyH.cons (o := { dst := none, op := _, type := _, pos := _, after := _, guard := _ }) rfl (fun Qc hQc => ?_) AllReadyH.nil)
        have l0 : x1.cell? ⟨g, a, none⟩ = some (.slice B5 128 (128 + d5)) := LC.out
        have lf : x1.frozen? ⟨g, a, none⟩ = false := rows_frozen HI.out HG0.out a
        go_simp
        clear l0 lf
        have HI2 : Hid (VfI n0 b n c5 m c6 (some ⟨g, 0, none⟩) (some ⟨h', 0, none⟩) F D qr3 Q (mixs (keep l) L Q (k + 1)) w (x1.setCell ⟨g, a, none⟩ (.slice Z 128 (128 + dz)))) := by
          show VfI _ _ _ _ _ _ _ _ _ _ _ _ _ _ _
          rw [HPG.out]
          exact HI.out.put HAN.out HPN.out PBZ.out HG.out
        have Gx2 : Hid (WV b g n c5 (some ⟨h', 0, none⟩) m c6 h' k B d (x1.setCell ⟨g, a, none⟩ (.slice Z 128 (128 + dz)))) := Gx1.out.set NE.out.1 NE.out.2
        refine hQc.out _ _ Gx2 (fun hHeld => ?_)
        clear hQc Qc hHeld Gx1 HI LC PBZ
        generalize x1.setCell ⟨g, a, none⟩ (.slice Z 128 (128 + dz)) = x2 at Gx2 HI2 ⊢
        try simp only [Act.put, List.setIfInBounds_toArray, List.set_cons_zero, List.set_cons_succ]
        refine wpAnyH_done (by kernel_rfl) ?_ _
        try simp only [Act.put, List.setIfInBounds_toArray, List.set_cons_zero, List.set_cons_succ]
        go_wp2
        go_roundw
        case rel => exact ⟨k + 1, by have := HK.out; omega, by go_num, HI2.out⟩
        case measure => simp [intOf]; omega
      · have HPG : Hid (mixs (keep l) L Q (k + 1) = (mixs (keep l) L Q k).set a (mx P5 X (clamp 0))) := by
          show _ = _
          rw [HMS.out, keep_clamp, List.getElem?_eq_none (by rw [← HLN.out]; omega)]; rfl
        have CMX : Hid (∀ w', Below wr.heap.size wr w' → Calls Try.prog 34 #[.slice B5 128 (128 + d5), .slice B 128 (128 + d), .int .i64 0] w' (MixAns w' (mx P5 X (clamp 0)))) := fun w' hb => CM0.out 0 w' (by omega) hb
        have HMX : Hid ((mx P5 X (clamp 0)).length = 128) := mx_length HP5.out HX.out (clamp_le 0)
        have hkl2 : ¬ (k : Int) < ln := by omega
        have hkl3 : decide (k < ln) = false := decide_eq_false hkl
        clear CM0 hkl
        go_wp2
        clear z0 y1 z1
        refine wp_region_held (S := fun w' => Hid (WV b g n c5 (some ⟨h', 0, none⟩) m c6 h' k B d w')) (by kernel_rfl) ?_
        change wpAnyH _ _ _ _ _ _ _ _ wr.drew
        have Gx0 : Hid (WV b g n c5 (some ⟨h', 0, none⟩) m c6 h' k B d wr.drew) := WV0.out
        have HI' : Hid (VfI n0 b n c5 m c6 (some ⟨g, 0, none⟩) (some ⟨h', 0, none⟩) F D qr3 Q (mixs (keep l) L Q k) w wr.drew) := HI.out.same ((Below.refl _ _).drew) S4.out
        have LC' : Hid ((wr.drew).cell? ⟨g, a, none⟩ = some (.slice B5 128 (128 + d5))) := LC.out
        have BX' : Hid (Below wr.heap.size wr wr.drew) := (Below.refl _ _).drew
        clear HI LC BX
        have HI := HI'
        have LC := LC'
        have BX := BX'
        clear HI' LC' BX'
        generalize wr.drew = x0 at Gx0 HI LC BX ⊢
        refine wpAnyH_take (i := 0) (oi := { dst := some 32, op := _, type := _, pos := _, after := _, guard := _ }) (v := ?_) rfl (by kernel_rfl) (by kernel_rfl) (by kernel_rfl) (fun _ _ _ h => h) (Or.inl ⟨by kernel_rfl, ?_⟩) Gx0 ?_
        rotate_left
        · (intro w hSw; go_simp; try with_reducible rfl)
        try simp only [Act.put, List.setIfInBounds_toArray, List.set_cons_zero, List.set_cons_succ]
        refine wpAnyH_take (i := 1) (oi := { dst := some 33, op := _, type := _, pos := _, after := _, guard := _ }) (v := ?_) rfl (by kernel_rfl) (by kernel_rfl) (by kernel_rfl) (fun _ _ _ h => h) (Or.inl ⟨by kernel_rfl, ?_⟩) Gx0 ?_
        rotate_left
        · (intro w hSw; go_simp; try with_reducible rfl)
        try simp only [Act.put, List.setIfInBounds_toArray, List.set_cons_zero, List.set_cons_succ]
        refine wpAnyH_take (i := 2) (oi := { dst := some 34, op := _, type := _, pos := _, after := _, guard := _ }) (v := ?_) rfl (by kernel_rfl) (by kernel_rfl) (by kernel_rfl) (fun _ _ _ h => h) (Or.inl ⟨by kernel_rfl, ?_⟩) Gx0 ?_
        rotate_left
        · (intro w hSw; go_simp; try with_reducible rfl)
        try simp only [Act.put, List.setIfInBounds_toArray, List.set_cons_zero, List.set_cons_succ]
        refine wpAnyH_take (i := 3) (oi := { dst := some 35, op := _, type := _, pos := _, after := _, guard := _ }) (v := ?_) rfl (by kernel_rfl) (by kernel_rfl) (by kernel_rfl) (fun _ _ _ h => h) (Or.inl ⟨by kernel_rfl, ?_⟩) Gx0 ?_
        rotate_left
        · (intro w hSw; have hc := hSw.out.c0; go_simp; try with_reducible rfl)
        try simp only [Act.put, List.setIfInBounds_toArray, List.set_cons_zero, List.set_cons_succ]
        refine wpAnyH_take (i := 4) (oi := { dst := some 36, op := _, type := _, pos := _, after := _, guard := _ }) (v := ?_) rfl (by kernel_rfl) (by kernel_rfl) (by kernel_rfl) (fun _ _ _ h => h) (Or.inl ⟨by kernel_rfl, ?_⟩) Gx0 ?_
        rotate_left
        · (intro w hSw; go_simp; try with_reducible rfl)
        try simp only [Act.put, List.setIfInBounds_toArray, List.set_cons_zero, List.set_cons_succ]
        refine wpAnyH_take (i := 5) (oi := { dst := some 37, op := _, type := _, pos := _, after := _, guard := _ }) (v := ?_) rfl (by kernel_rfl) (by kernel_rfl) (by kernel_rfl) (fun _ _ _ h => h) (Or.inl ⟨by kernel_rfl, ?_⟩) Gx0 ?_
        rotate_left
        · (intro w hSw; go_simp; try with_reducible rfl)
        try simp only [Act.put, List.setIfInBounds_toArray, List.set_cons_zero, List.set_cons_succ]
        refine wpAnyH_take (i := 6) (oi := { dst := some 38, op := _, type := _, pos := _, after := _, guard := _ }) (v := ?_) rfl (by kernel_rfl) (by kernel_rfl) (by kernel_rfl) (fun _ _ _ h => h) (Or.inl ⟨by kernel_rfl, ?_⟩) Gx0 ?_
        rotate_left
        · (intro w hSw; go_simp; try with_reducible rfl)
        try simp only [Act.put, List.setIfInBounds_toArray, List.set_cons_zero, List.set_cons_succ]
        refine wpAnyH_take (i := 7) (oi := { dst := some 39, op := _, type := _, pos := _, after := _, guard := _ }) (v := ?_) rfl (by kernel_rfl) (by kernel_rfl) (by kernel_rfl) (fun _ _ _ h => h) (Or.inl ⟨by kernel_rfl, ?_⟩) Gx0 ?_
        rotate_left
        · (intro w hSw; go_simp; try with_reducible rfl)
        try simp only [Act.put, List.setIfInBounds_toArray, List.set_cons_zero, List.set_cons_succ]
        refine wpAnyH_take (i := 8) (oi := { dst := some 40, op := _, type := _, pos := _, after := _, guard := _ }) (v := ?_) rfl (by kernel_rfl) (by kernel_rfl) (by kernel_rfl) (fun _ _ _ h => h) (Or.inl ⟨by kernel_rfl, ?_⟩) Gx0 ?_
        rotate_left
        · (intro w hSw; have hc := hSw.out.c0; go_simp; try with_reducible rfl)
        try simp only [Act.put, List.setIfInBounds_toArray, List.set_cons_zero, List.set_cons_succ]
        refine wpAnyH_take (i := 9) (oi := { dst := some 41, op := _, type := _, pos := _, after := _, guard := _ }) (v := ?_) rfl (by kernel_rfl) (by kernel_rfl) (by kernel_rfl) (fun _ _ _ h => h) (Or.inl ⟨by kernel_rfl, ?_⟩) Gx0 ?_
        rotate_left
        · (intro w hSw; go_simp; try with_reducible rfl)
        try simp only [Act.put, List.setIfInBounds_toArray, List.set_cons_zero, List.set_cons_succ]
        refine wpAnyH_take (i := 10) (oi := { dst := some 42, op := _, type := _, pos := _, after := _, guard := _ }) (v := ?_) rfl (by kernel_rfl) (by kernel_rfl) (by kernel_rfl) (fun _ _ _ h => h) (Or.inl ⟨by kernel_rfl, ?_⟩) Gx0 ?_
        rotate_left
        · (intro w hSw; go_simp; try with_reducible rfl)
        try simp only [Act.put, List.setIfInBounds_toArray, List.set_cons_zero, List.set_cons_succ]
        refine wpAnyH_take (i := 12) (oi := { dst := some 44, op := _, type := _, pos := _, after := _, guard := _ }) (v := ?_) rfl (by kernel_rfl) (by kernel_rfl) (by kernel_rfl) (fun _ _ _ h => h) (Or.inl ⟨by kernel_rfl, ?_⟩) Gx0 ?_
        rotate_left
        · (intro w hSw; go_simp; try with_reducible rfl)
        try simp only [Act.put, List.setIfInBounds_toArray, List.set_cons_zero, List.set_cons_succ]
        refine wpAnyH_take (i := 13) (oi := { dst := some 45, op := _, type := _, pos := _, after := _, guard := _ }) (v := ?_) rfl (by kernel_rfl) (by kernel_rfl) (by kernel_rfl) (fun _ _ _ h => h) (Or.inl ⟨by kernel_rfl, ?_⟩) Gx0 ?_
        rotate_left
        · (intro w hSw; go_simp; try with_reducible rfl)
        try simp only [Act.put, List.setIfInBounds_toArray, List.set_cons_zero, List.set_cons_succ]
        refine wpAnyH_take (i := 14) (oi := { dst := some 46, op := _, type := _, pos := _, after := _, guard := _ }) (v := ?_) rfl (by kernel_rfl) (by kernel_rfl) (by kernel_rfl) (fun _ _ _ h => h) (Or.inl ⟨by kernel_rfl, ?_⟩) Gx0 ?_
        rotate_left
        · (intro w hSw; go_simp; try with_reducible rfl)
        try simp only [Act.put, List.setIfInBounds_toArray, List.set_cons_zero, List.set_cons_succ]
        refine wpAnyH_take (i := 15) (oi := { dst := some 47, op := _, type := _, pos := _, after := _, guard := _ }) (v := ?_) rfl (by kernel_rfl) (by kernel_rfl) (by kernel_rfl) (fun _ _ _ h => h) (Or.inl ⟨by kernel_rfl, ?_⟩) Gx0 ?_
        rotate_left
        · (intro w hSw; have hc := hSw.out.c1; go_simp; try with_reducible rfl)
        try simp only [Act.put, List.setIfInBounds_toArray, List.set_cons_zero, List.set_cons_succ]
        refine wpAnyH_take (i := 16) (oi := { dst := some 48, op := _, type := _, pos := _, after := _, guard := _ }) (v := ?_) rfl (by kernel_rfl) (by kernel_rfl) (by kernel_rfl) (fun _ _ _ h => h) (Or.inl ⟨by kernel_rfl, ?_⟩) Gx0 ?_
        rotate_left
        · (intro w hSw; go_simp; try with_reducible rfl)
        try simp only [Act.put, List.setIfInBounds_toArray, List.set_cons_zero, List.set_cons_succ]
        refine wpAnyH_take (i := 17) (oi := { dst := some 49, op := _, type := _, pos := _, after := _, guard := _ }) (v := ?_) rfl (by kernel_rfl) (by kernel_rfl) (by kernel_rfl) (fun _ _ _ h => h) (Or.inl ⟨by kernel_rfl, ?_⟩) Gx0 ?_
        rotate_left
        · (intro w hSw; go_simp; try with_reducible rfl)
        try simp only [Act.put, List.setIfInBounds_toArray, List.set_cons_zero, List.set_cons_succ]
        refine wpAnyH_take (i := 18) (oi := { dst := some 50, op := _, type := _, pos := _, after := _, guard := _ }) (v := ?_) rfl (by kernel_rfl) (by kernel_rfl) (by kernel_rfl) (fun _ _ _ h => h) (Or.inl ⟨by kernel_rfl, ?_⟩) Gx0 ?_
        rotate_left
        · (intro w hSw; go_simp; try with_reducible rfl)
        try simp only [Act.put, List.setIfInBounds_toArray, List.set_cons_zero, List.set_cons_succ]
        refine wpAnyH_take (i := 19) (oi := { dst := some 51, op := _, type := _, pos := _, after := _, guard := _ }) (v := ?_) rfl (by kernel_rfl) (by kernel_rfl) (by kernel_rfl) (fun _ _ _ h => h) (Or.inl ⟨by kernel_rfl, ?_⟩) Gx0 ?_
        rotate_left
        · (intro w hSw; have hc := hSw.out.z1; go_simp; try with_reducible rfl)
        try simp only [Act.put, List.setIfInBounds_toArray, List.set_cons_zero, List.set_cons_succ]
        refine wpAnyH_take (i := 20) (oi := { dst := some 52, op := _, type := _, pos := _, after := _, guard := _ }) (v := ?_) rfl (by kernel_rfl) (by kernel_rfl) (by kernel_rfl) (fun _ _ _ h => h) (Or.inl ⟨by kernel_rfl, ?_⟩) Gx0 ?_
        rotate_left
        · (intro w hSw; go_simp; try with_reducible rfl)
        try simp only [Act.put, List.setIfInBounds_toArray, List.set_cons_zero, List.set_cons_succ]
        refine wpAnyH_ready (rs := [11]) (by kernel_rfl) (by simp) ?_
        refine (AllReadyH.cons (o := { dst := some 43, op := _, type := _, pos := _, after := _, guard := _ }) rfl (fun Qc hQc => ?_) AllReadyH.nil)
        have l0 : x0.cell? ⟨g, a, none⟩ = some (.slice B5 128 (128 + d5)) := LC.out
        go_simp
        refine hQc.out _ _ Gx0 (fun hHeld => ?_)
        clear hQc Qc l0
        try simp only [Act.put, List.setIfInBounds_toArray, List.set_cons_zero, List.set_cons_succ]
        refine wpAnyH_ready (rs := [21]) (by kernel_rfl) (by simp) ?_
        refine (AllReadyH.cons (o := { dst := some 53, op := _, type := _, pos := _, after := _, guard := _ }) rfl (fun Qc hQc => ?_) AllReadyH.nil)
        go_simp
        go_at_call 34
        refine (CMX.out _ BX.out).mono ?_
        rintro e x1 ⟨Z, dz, rfl, hf, hb⟩
        have Gx1 : Hid (WV b g n c5 (some ⟨h', 0, none⟩) m c6 h' k B d x1) := Gx0.out.below hb
        have SX : Hid (n0 ≤ x0.heap.size) := Nat.le_trans S4.out BX.out.size
        have HI2 := hid (HI.out.same hb SX.out)
        have PBZ : Hid (Pb x1 Z (mx P5 X (clamp 0))) := hf.pb HMX.out
        have LC2 : Hid (x1.cell? ⟨g, a, none⟩ = some (.slice B5 128 (128 + d5))) := (hb.cell (block_lt_of_cell LC.out)).trans LC.out
        clear hf hb
        go_wp2_with fail
        refine hQc.out _ _ Gx1 (fun hHeld => ?_)
        clear hQc Qc hHeld Gx0 HI LC BX SX
        have HI := HI2; have LC := LC2
        clear HI2 LC2
        try simp only [Act.put, List.setIfInBounds_toArray, List.set_cons_zero, List.set_cons_succ]
        refine wpAnyH_take (i := 22) (oi := { dst := some 54, op := _, type := _, pos := _, after := _, guard := _ }) (v := ?_) rfl (by kernel_rfl) (by kernel_rfl) (by kernel_rfl) (fun _ _ _ h => h) (Or.inl ⟨by kernel_rfl, ?_⟩) Gx1 ?_
        rotate_left
        · (intro w hSw; go_simp; try with_reducible rfl)
        try simp only [Act.put, List.setIfInBounds_toArray, List.set_cons_zero, List.set_cons_succ]
        refine wpAnyH_ready (rs := [23]) (by kernel_rfl) (by simp) ?_
        refine (AllReadyH.cons (o := { dst := none, op := _, type := _, pos := _, after := _, guard := _ }) rfl (fun Qc hQc => ?_) AllReadyH.nil)
        have l0 : x1.cell? ⟨g, a, none⟩ = some (.slice B5 128 (128 + d5)) := LC.out
        have lf : x1.frozen? ⟨g, a, none⟩ = false := rows_frozen HI.out HG0.out a
        go_simp
        clear l0 lf
        have HI2 : Hid (VfI n0 b n c5 m c6 (some ⟨g, 0, none⟩) (some ⟨h', 0, none⟩) F D qr3 Q (mixs (keep l) L Q (k + 1)) w (x1.setCell ⟨g, a, none⟩ (.slice Z 128 (128 + dz)))) := by
          show VfI _ _ _ _ _ _ _ _ _ _ _ _ _ _ _
          rw [HPG.out]
          exact HI.out.put HAN.out HPN.out PBZ.out HG.out
        have Gx2 : Hid (WV b g n c5 (some ⟨h', 0, none⟩) m c6 h' k B d (x1.setCell ⟨g, a, none⟩ (.slice Z 128 (128 + dz)))) := Gx1.out.set NE.out.1 NE.out.2
        refine hQc.out _ _ Gx2 (fun hHeld => ?_)
        clear hQc Qc hHeld Gx1 HI LC PBZ
        generalize x1.setCell ⟨g, a, none⟩ (.slice Z 128 (128 + dz)) = x2 at Gx2 HI2 ⊢
        try simp only [Act.put, List.setIfInBounds_toArray, List.set_cons_zero, List.set_cons_succ]
        refine wpAnyH_done (by kernel_rfl) ?_ _
        try simp only [Act.put, List.setIfInBounds_toArray, List.set_cons_zero, List.set_cons_succ]
        go_wp2
        go_roundw
        case rel => exact ⟨k + 1, by have := HK.out; omega, by go_num, HI2.out⟩
        case measure => simp [intOf]; omega
    · obtain rfl : k = m := by omega
      have hkb := HI.out.kb
      have fy1 : wr.frozen? ⟨b, 1, none⟩ = false := hkb.frozen 1
      have y2 : wr.cell? ⟨b, 2, none⟩ = some (.int .i64 F) := hkb.cell 2
      have fy2 : wr.frozen? ⟨b, 2, none⟩ = false := hkb.frozen 2
      have y3 : wr.cell? ⟨b, 3, none⟩ = some (.bool D) := hkb.cell 3
      have fy3 : wr.frozen? ⟨b, 3, none⟩ = false := hkb.frozen 3
      have HLW : Hid (Lv n0 b ⟨mixs (keep l) L Q Q.length, [], -1, false⟩ wr (((wr.setCell ⟨b, 1, none⟩ (.slice none 0 0)).setCell ⟨b, 2, none⟩ (.int .i64 (-1))).setCell ⟨b, 3, none⟩ (.bool false))) := by
        obtain ⟨rows4, hro, hrp⟩ := HI.out.rows
        rw [HM.out] at hrp
        have ho : ∀ j t cs, Blk wr j t cs → t ≠ 44 → (((wr.setCell ⟨b, 1, none⟩ (.slice none 0 0)).setCell ⟨b, 2, none⟩ (.int .i64 (-1))).setCell ⟨b, 3, none⟩ (.bool false)).heap[j]? = wr.heap[j]? := fun j t cs hj ht => ((other_set _ _ _ _ _ (hj.ne hkb ht)).trans (other_set _ _ _ _ _ (hj.ne hkb ht))).trans (other_set _ _ _ _ _ (hj.ne hkb ht))
        have hpl : (mixs (keep l) L Q Q.length).length = n := by rw [mixs_length]; exact HNL.out.symm
        refine ⟨⟨A3, c5, none, 0, rows4, [], ?_, ?_, ⟨rfl, .inl ⟨rfl, rfl⟩⟩, H4.out, hrp.same (fun j cs hj => ho j _ cs hj (by decide)), fun i q hq => by simp at hq, by simp, mixs_ok (keep_le l) K8.out.1 K8.out.2.1 _, QOk.nil _, by rw [mixs_length]; exact K8.out.2.2⟩, ⟨by simp [World.setCell], fun j t cs hj ht => ho j t cs hj ht.1⟩, (((Below.refl _ _).setCell H4.out _).setCell H4.out _).setCell H4.out _⟩
        · rw [hpl]; exact ((hkb.setd 1 _).setd 2 _).setd 3 _
        · rw [hpl]; exact own_t hro (fun j cs hj => ho j _ cs hj (by decide))
      clear hm2 hn2 hl3 hkb
      go_wp2
      go_end0
      exact ⟨rfl, HLW.out.1, HI.out.vt.trans HLW.out.2.1, HI.out.bl.trans HLW.out.2.2⟩
end Go.Proofs.Ytjdojnbpchommaa
