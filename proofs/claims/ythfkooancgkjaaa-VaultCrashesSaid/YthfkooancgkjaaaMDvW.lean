/-
  What is proved here: a write to the code's device, that is done.
-/
import Derived.Test.YthfkooancgkjaaaMD1
set_option linter.unusedSimpArgs false
set_option linter.unusedVariables false
namespace Go.Proofs.Ythfkooancgkjaaa
open Go.ChangeShapes Go.WideShapes Go.ChangeAt Go.RowKit
set_option linter.unusedVariables false
set_option linter.unusedSimpArgs false
set_option maxRecDepth 20000

set_option maxHeartbeats 8000000 in
theorem dWrite_ok {w : World} {R : Nat → Prop} {b : Nat} {L : List (List Int)} {Q : List Wr} {F : Int} {D : Bool} (h : DAt w R b L Q F D) (hd : D = false) (hF : F ≠ 0) (i : Nat) (hi : i < L.length) (A : Option Addr) (c : Nat) (X : List Int) (hX : X.length = 128)
    (hr : Rp w none A X) (hA : ∀ a, A = some a → ¬ R a.block) (hQ : Q.length < 1000000) : Calls Try.prog 45 #[.pointer (some ⟨b, 0, none⟩), .int .i64 i, .slice A 128 c] w (WAns R b L (Q ++ [(i, X)]) (bn F) w) := by
  subst hd
  have CD := hid (dDown_at h); have CH := hid (dhas_yes h i hi); have CB := hid (burn_any h hF)
  obtain ⟨ab, ao, rfl, hxr⟩ := rp_plain hr (by omega)
  have HA : Hid (¬ R ab) := hA _ rfl
  have XR0 := hid hxr.2
  obtain ⟨y0, hy0⟩ : ∃ y0, y0 = w := ⟨_, rfl⟩
  have HX := hid hX; have HQ0 := hid hQ
  clear h hF hr hA hxr hX hQ
  go_enter Try.func45, Try.ntmps45
  go_wp2_with (first
    | (go_at_call 61; refine CD.out.mono ?_; rintro e wq ⟨rfl, rfl⟩)
    | (go_at_call 62; refine CH.out.mono ?_; rintro e wq ⟨rfl, rfl⟩)
    | (go_at_call 63; refine CB.out.mono ?_; rintro e w1 ⟨rfl, hd1, ho1⟩; have H1 := hid hd1; have O1 := hid ho1; clear hd1 ho1))
  obtain ⟨g, vW, fz, fu, h1, h2, h3, r1, r2, r3, e1, e2, e3, e4, e5, e6⟩ := H1.out
  have hP := pg_ok Q L e4 e5
  have hl : i < (pg L Q).length := by rw [pg_length]; exact hi
  have PL0 : Hid (((pg L Q)[i]?.getD []).length = 128) := hP.at hl
  have HL : Hid (PgOk L ∧ QOk L.length Q ∧ L.length ≤ 4096) := ⟨e4, e5, e6⟩
  have FE : Hid (fz = decide (0 ≤ bn F) ∧ (0 ≤ bn F → fu = bn F) ∧ bn F ≤ 9223372036854775807) := ⟨e1, e2, e3⟩
  have hn4 := e6
  obtain ⟨n, hn⟩ : ∃ n, n = L.length := ⟨_, rfl⟩
  obtain ⟨m, hm⟩ : ∃ m, m = Q.length := ⟨_, rfl⟩
  obtain ⟨P, hPe⟩ : ∃ P, P = pg L Q := ⟨_, rfl⟩
  obtain ⟨U, hU⟩ : ∃ U, U = un L Q := ⟨_, rfl⟩
  obtain ⟨p, hp⟩ : ∃ p, p = (pg L Q)[i]?.getD [] := ⟨_, rfl⟩
  have HM : Hid (m = U.length) := by show _ = _; rw [hm, hU, un_length]
  have HE : Hid (P = pg L Q ∧ U = un L Q ∧ p = (pg L Q)[i]?.getD [] ∧ n = L.length ∧ m = Q.length) := ⟨hPe, hU, hp, hn, hm⟩
  rw [← hn] at h1 hi hn4
  rw [← hPe] at h2 hP hl
  rw [← hm, ← hU] at h3
  rw [← hp] at PL0
  rw [← hm] at HQ0
  have PL := PL0; have HQ := HQ0
  have HP := hid hP; have HI := hid hl
  have HR : Hid (PgOk P ∧ i < P.length ∧ p = P[i]?.getD []) := ⟨hP, hl, by rw [hp, hPe]⟩
  have KB := hid h1; have KG := hid h2; have OW := hid h3; have RB := hid r1; have RG := hid r2; have RV := hid r3
  have PI := hid (page_info PL.out); have XI := hid (page_info HX.out); have XI2 := hid (page_info2 HX.out); have XO := hid (u8s_all1 X)
  have WB := hid (write_built i p PL.out)
  have ON : Hid (OnlyS R y0 w1) := by show OnlyS _ _ _; rw [hy0]; exact O1.out
  have XR : Hid (y0.rangeAt ab ao (u8s X)) := by show World.rangeAt _ _ _ _; rw [hy0]; exact XR0.out
  have HY := hid hy0
  clear h1 h2 h3 r1 r2 r3 e1 e2 e3 e4 e5 e6 hP hl hn hm hPe hU hp PL0 HQ0 H1 O1 XR0 CD CH CB hy0
  refine wp_region_held (S := fun w' => Hid (WS9 b g n (i * 128) p w')) (by kernel_rfl) ?_
  change wpAnyH _ _ _ _ _ _ _ _ w1.drew
  have Gx0 : Hid (WS9 b g n (i * 128) p w1.drew) := ws9_of KB.out KG.out HR.out
  have KB' : Hid (Blk w1.drew b 54 (devC g n vW fz fu false)) := KB.out
  have KG' : Hid (Blk w1.drew g 68 (pcs P).toArray) := KG.out
  have OW' : Hid ((w1.drew).ownsRow 0 70 129 vW m (wcs U)) := own_same OW.out (fun _ _ _ => rfl)
  have ON' : Hid (OnlyS R y0 w1.drew) := ON.out.drew
  clear KB KG OW ON
  have KB := KB'
  have KG := KG'
  have OW := OW'
  have ON := ON'
  clear KB' KG' OW' ON'
  generalize w1.drew = x0 at Gx0 KB KG OW ON ⊢
  refine wpAnyH_take (i := 0) (oi := { dst := some 19, op := _, type := _, pos := _, after := _, guard := _ }) (v := ?_) rfl (by kernel_rfl) (by kernel_rfl) (by kernel_rfl) (fun _ _ _ h => h) (Or.inl ⟨by kernel_rfl, ?_⟩) Gx0 ?_
  rotate_left
  · (intro w hSw; go_simp; try with_reducible rfl)
  try simp only [Act.put, List.setIfInBounds_toArray, List.set_cons_zero, List.set_cons_succ]
  refine wpAnyH_take (i := 1) (oi := { dst := some 20, op := _, type := _, pos := _, after := _, guard := _ }) (v := ?_) rfl (by kernel_rfl) (by kernel_rfl) (by kernel_rfl) (fun _ _ _ h => h) (Or.inl ⟨by kernel_rfl, ?_⟩) Gx0 ?_
  rotate_left
  · (intro w hSw; go_simp; try with_reducible rfl)
  try simp only [Act.put, List.setIfInBounds_toArray, List.set_cons_zero, List.set_cons_succ]
  refine wpAnyH_take (i := 2) (oi := { dst := some 21, op := _, type := _, pos := _, after := _, guard := _ }) (v := ?_) rfl (by kernel_rfl) (by kernel_rfl) (by kernel_rfl) (fun _ _ _ h => h) (Or.inl ⟨by kernel_rfl, ?_⟩) Gx0 ?_
  rotate_left
  · (intro w hSw; go_simp; try with_reducible rfl)
  try simp only [Act.put, List.setIfInBounds_toArray, List.set_cons_zero, List.set_cons_succ]
  refine wpAnyH_take (i := 3) (oi := { dst := some 22, op := _, type := _, pos := _, after := _, guard := _ }) (v := ?_) rfl (by kernel_rfl) (by kernel_rfl) (by kernel_rfl) (fun _ _ _ h => h) (Or.inl ⟨by kernel_rfl, ?_⟩) Gx0 ?_
  rotate_left
  · (intro w hSw; go_simp; try with_reducible rfl)
  try simp only [Act.put, List.setIfInBounds_toArray, List.set_cons_zero, List.set_cons_succ]
  refine wpAnyH_take (i := 5) (oi := { dst := some 24, op := _, type := _, pos := _, after := _, guard := _ }) (v := ?_) rfl (by kernel_rfl) (by kernel_rfl) (by kernel_rfl) (fun _ _ _ h => h) (Or.inl ⟨by kernel_rfl, ?_⟩) Gx0 ?_
  rotate_left
  · (intro w hSw; go_simp; try with_reducible rfl)
  try simp only [Act.put, List.setIfInBounds_toArray, List.set_cons_zero, List.set_cons_succ]
  refine wpAnyH_take (i := 6) (oi := { dst := some 25, op := _, type := _, pos := _, after := _, guard := _ }) (v := ?_) rfl (by kernel_rfl) (by kernel_rfl) (by kernel_rfl) (fun _ _ _ h => h) (Or.inl ⟨by kernel_rfl, ?_⟩) Gx0 ?_
  rotate_left
  · (intro w hSw; go_simp; try with_reducible rfl)
  try simp only [Act.put, List.setIfInBounds_toArray, List.set_cons_zero, List.set_cons_succ]
  refine wpAnyH_take (i := 7) (oi := { dst := some 26, op := _, type := _, pos := _, after := _, guard := _ }) (v := ?_) rfl (by kernel_rfl) (by kernel_rfl) (by kernel_rfl) (fun _ _ _ h => h) (Or.inl ⟨by kernel_rfl, ?_⟩) Gx0 ?_
  rotate_left
  · (intro w hSw; go_simp; try with_reducible rfl)
  try simp only [Act.put, List.setIfInBounds_toArray, List.set_cons_zero, List.set_cons_succ]
  refine wpAnyH_take (i := 8) (oi := { dst := some 27, op := _, type := _, pos := _, after := _, guard := _ }) (v := ?_) rfl (by kernel_rfl) (by kernel_rfl) (by kernel_rfl) (fun _ _ _ h => h) (Or.inl ⟨by kernel_rfl, ?_⟩) Gx0 ?_
  rotate_left
  · (intro w hSw; go_simp; try with_reducible rfl)
  try simp only [Act.put, List.setIfInBounds_toArray, List.set_cons_zero, List.set_cons_succ]
  refine wpAnyH_take (i := 9) (oi := { dst := some 28, op := _, type := _, pos := _, after := _, guard := _ }) (v := ?_) rfl (by kernel_rfl) (by kernel_rfl) (by kernel_rfl) (fun _ _ _ h => h) (Or.inl ⟨by kernel_rfl, ?_⟩) Gx0 ?_
  rotate_left
  · (intro w hSw; have hc := hSw.out.c0; go_simp; try with_reducible rfl)
  try simp only [Act.put, List.setIfInBounds_toArray, List.set_cons_zero, List.set_cons_succ]
  refine wpAnyH_take (i := 10) (oi := { dst := some 29, op := _, type := _, pos := _, after := _, guard := _ }) (v := ?_) rfl (by kernel_rfl) (by kernel_rfl) (by kernel_rfl) (fun _ _ _ h => h) (Or.inl ⟨by kernel_rfl, ?_⟩) Gx0 ?_
  rotate_left
  · (intro w hSw; go_simp; try with_reducible rfl)
  try simp only [Act.put, List.setIfInBounds_toArray, List.set_cons_zero, List.set_cons_succ]
  refine wpAnyH_take (i := 11) (oi := { dst := some 30, op := _, type := _, pos := _, after := _, guard := _ }) (v := ?_) rfl (by kernel_rfl) (by kernel_rfl) (by kernel_rfl) (fun _ _ _ h => h) (Or.inl ⟨by kernel_rfl, ?_⟩) Gx0 ?_
  rotate_left
  · (intro w hSw; go_simp; try with_reducible rfl)
  try simp only [Act.put, List.setIfInBounds_toArray, List.set_cons_zero, List.set_cons_succ]
  refine wpAnyH_take (i := 12) (oi := { dst := some 31, op := _, type := _, pos := _, after := _, guard := _ }) (v := .agg ((u8s p).toArray)) rfl (by kernel_rfl) (by kernel_rfl) (by kernel_rfl) (fun _ _ _ h => h) (yieldsIf_load_mid (cs := u8s p) (by rfl) _ _ rfl _ _ rfl _ (fun w' hSw => hSw.out.rg) Try.underlying68 rfl PI.out) Gx0 ?_
  try simp only [Act.put, List.setIfInBounds_toArray, List.set_cons_zero, List.set_cons_succ]
  refine wpAnyH_take (i := 13) (oi := { dst := some 32, op := _, type := _, pos := _, after := _, guard := _ }) (v := .agg (wc1 (i, p)).toArray) rfl (by kernel_rfl) (by kernel_rfl) (by kernel_rfl) (fun _ _ _ h => h) (Or.inl ⟨by kernel_rfl, ?_⟩) Gx0 ?_
  · (intro w hSw; have hbw := WB.out; exact exec_build 70 #[(0, .tmp 24), (1, .tmp 31)] rfl _ (by simp [Act.eval, hbw]) w)
  try simp only [Act.put, List.setIfInBounds_toArray, List.set_cons_zero, List.set_cons_succ]
  refine wpAnyH_ready (rs := [4, 14]) (by kernel_rfl) (by simp) ?_
  refine (AllReadyH.cons (o := { dst := some 23, op := _, type := _, pos := _, after := _, guard := _ }) rfl (fun Qc hQc => ?_) (AllReadyH.cons (o := { dst := some 33, op := _, type := _, pos := _, after := _, guard := _ }) rfl (fun Qc hQc => ?_) AllReadyH.nil))
  ·
    have c1 : x0.cell? ⟨b, 1, none⟩ = some vW := KB.out.cell 1
    go_simp
    refine hQc.out _ _ Gx0 (fun hHeld => ?_)
    clear hQc Qc c1
    try simp only [Act.put, List.setIfInBounds_toArray, List.set_cons_zero, List.set_cons_succ]
    refine wpAnyH_ready (rs := [14]) (by kernel_rfl) (by simp) ?_
    refine (AllReadyH.cons (o := { dst := some 33, op := _, type := _, pos := _, after := _, guard := _ }) rfl (fun Qc hQc => ?_) AllReadyH.nil)
    rw [if_pos (by rfl)]
    refine wp_write_one (.tmp 32) rfl (i, p) PL.out rfl ?_
    have Gx1 : Hid (WS9 b g n (i * 128) p (x0.alloc (.cells (wc1 (i, p)).toArray 70))) := Gx0.out.alloc _
    have NB := hid (Blk.new x0 70 (wc1 (i, p)).toArray)
    have KB2 := hid (KB.out.alloc (.cells (wc1 (i, p)).toArray 70))
    have KG2 := hid (KG.out.alloc (.cells (wc1 (i, p)).toArray 70))
    have OW2 := hid (OW.out.alloc (.cells (wc1 (i, p)).toArray 70))
    have ON2 := hid (ON.out.alloc (.cells (wc1 (i, p)).toArray 70))
    have GR2 : Hid (y0.heap.size ≤ x0.heap.size) := ON.out.size
    refine hQc.out _ _ Gx1 (fun hHeld => ?_)
    clear hQc Qc hHeld Gx0 KB KG OW ON
    generalize x0.heap.size = gq at NB GR2 ⊢
    generalize x0.alloc (.cells (wc1 (i, p)).toArray 70) = x1 at Gx1 NB KB2 KG2 OW2 ON2 ⊢
    have KB := KB2; have KG := KG2; have OW := OW2; have ON := ON2; have GR := GR2
    clear KB2 KG2 OW2 ON2 GR2
    try simp only [Act.put, List.setIfInBounds_toArray, List.set_cons_zero, List.set_cons_succ]
    refine wpAnyH_ready (rs := [15]) (by kernel_rfl) (by simp) ?_
    refine (AllReadyH.cons (o := { dst := some 34, op := _, type := _, pos := _, after := _, guard := _ }) rfl (fun Qc hQc => ?_) AllReadyH.nil)
    rw [if_pos (by rfl)]
    refine wp_append_wr (.tmp 23) (.tmp 33) rfl vW U m HM.out rfl OW.out gq 1 (i, p) rfl NB.out PL.out HQ.out ?_
    intro vN' x2 ow2 gr2 wh2
    obtain ⟨aN, cN, rfl⟩ := slice_of ow2
    have KB2 : Hid (Blk x2 b 54 (devC g n vW fz fu false)) := KB.out.same (gr2.block b KB.out.lt (fun e => own_ne OW.out KB.out ne_dw e.symm))
    have KG2 : Hid (Blk x2 g 68 (pcs P).toArray) := KG.out.same (gr2.block g KG.out.lt (fun e => own_ne OW.out KG.out ne_pw e.symm))
    have Gx2 : Hid (WS9 b g n (i * 128) p x2) := ws9_of KB2.out KG2.out HR.out
    have ON2 : Hid (OnlyS R y0 x2) := ON.out.grown gr2 (fun k hk => .inl (RV.out k hk))
    have OW2 := hid ow2
    have WH : Hid (∀ k, (Value.slice aN (m + 1) cN).ownBlock = some k → R k ∨ (y0.heap.size ≤ k ∧ k < x2.heap.size)) := fun k hk => by
      rcases wh2 k hk with h1 | h1
      · exact .inl (RV.out k h1)
      · exact .inr ⟨Nat.le_trans ON.out.size h1.1, h1.2⟩
    refine hQc.out _ _ Gx2 (fun hHeld => ?_)
    clear hQc Qc hHeld Gx1 KB KG OW ON NB GR ow2 gr2 wh2
    have KB := KB2; have KG := KG2; have OW := OW2; have ON := ON2
    clear KB2 KG2 OW2 ON2
    try simp only [Act.put, List.setIfInBounds_toArray, List.set_cons_zero, List.set_cons_succ]
    refine wpAnyH_take (i := 16) (oi := { dst := some 35, op := _, type := _, pos := _, after := _, guard := _ }) (v := ?_) rfl (by kernel_rfl) (by kernel_rfl) (by kernel_rfl) (fun _ _ _ h => h) (Or.inl ⟨by kernel_rfl, ?_⟩) Gx2 ?_
    rotate_left
    · (intro w hSw; go_simp; try with_reducible rfl)
    try simp only [Act.put, List.setIfInBounds_toArray, List.set_cons_zero, List.set_cons_succ]
    refine wpAnyH_take (i := 17) (oi := { dst := some 36, op := _, type := _, pos := _, after := _, guard := _ }) (v := ?_) rfl (by kernel_rfl) (by kernel_rfl) (by kernel_rfl) (fun _ _ _ h => h) (Or.inl ⟨by kernel_rfl, ?_⟩) Gx2 ?_
    rotate_left
    · (intro w hSw; go_simp; try with_reducible rfl)
    try simp only [Act.put, List.setIfInBounds_toArray, List.set_cons_zero, List.set_cons_succ]
    refine wpAnyH_ready (rs := [18]) (by kernel_rfl) (by simp) ?_
    refine (AllReadyH.cons (o := { dst := none, op := _, type := _, pos := _, after := _, guard := _ }) rfl (fun Qc hQc => ?_) AllReadyH.nil)
    have c1 : x2.cell? ⟨b, 1, none⟩ = some vW := KB.out.cell 1
    have f1 : x2.frozen? ⟨b, 1, none⟩ = false := KB.out.frozen 1
    go_simp
    clear c1 f1
    have KB2 : Hid (Blk (x2.setCell ⟨b, 1, none⟩ (Value.slice aN (m + 1) cN)) b 54 (devC g n (Value.slice aN (m + 1) cN) fz fu false)) := KB.out.setd 1 _
    have KG2 : Hid (Blk (x2.setCell ⟨b, 1, none⟩ (Value.slice aN (m + 1) cN)) g 68 (pcs P).toArray) := KG.out.far (KB.out.ne KG.out ne_dp).symm _
    have OW2 : Hid ((x2.setCell ⟨b, 1, none⟩ (Value.slice aN (m + 1) cN)).ownsRow 0 70 129 (Value.slice aN (m + 1) cN) (m + 1) (wcs (U ++ [(i, p)]))) := own_same OW.out (fun k _ hk => other_set _ _ _ _ k (fun e => own_ne OW.out KB.out ne_dw (by rw [hk, e])))
    have ON2 : Hid (OnlyS R y0 (x2.setCell ⟨b, 1, none⟩ (Value.slice aN (m + 1) cN))) := ON.out.setCell (.inl RB.out) _
    have Gx3 : Hid (WS9 b g n (i * 128) p (x2.setCell ⟨b, 1, none⟩ (Value.slice aN (m + 1) cN))) := ws9_of KB2.out KG2.out HR.out
    have WH2 : Hid (∀ k, (Value.slice aN (m + 1) cN).ownBlock = some k → R k ∨ (y0.heap.size ≤ k ∧ k < (x2.setCell ⟨b, 1, none⟩ (Value.slice aN (m + 1) cN)).heap.size)) := fun k hk => (WH.out k hk).imp id (fun h => ⟨h.1, by simpa [World.setCell] using h.2⟩)
    refine hQc.out _ _ Gx3 (fun hHeld => ?_)
    clear hQc Qc hHeld Gx2 KB KG OW ON WH
    generalize x2.setCell ⟨b, 1, none⟩ (Value.slice aN (m + 1) cN) = x3 at Gx3 KB2 KG2 OW2 ON2 WH2 ⊢
    have KB := KB2; have KG := KG2; have OW := OW2; have ON := ON2; have WH := WH2
    clear KB2 KG2 OW2 ON2 WH2
    try simp only [Act.put, List.setIfInBounds_toArray, List.set_cons_zero, List.set_cons_succ]
    refine wpAnyH_done (by kernel_rfl) ?_ _
    try simp only [Act.put, List.setIfInBounds_toArray, List.set_cons_zero, List.set_cons_succ]
    have c0 : x3.cell? ⟨b, 0, none⟩ = some (.slice (some ⟨g, 0, none⟩) n n) := KB.out.cell 0
    go_wp2
    clear c0
    refine wp_region_held (S := fun w' => Hid (WS10 b g n ab ao X w')) (by kernel_rfl) ?_
    change wpAnyH _ _ _ _ _ _ _ _ x3.drew
    have Gx0 : Hid (WS10 b g n ab ao X x3.drew) := ws10_of KB.out (xr_only XR.out ON.out HA.out)
    have KB' : Hid (Blk x3.drew b 54 (devC g n (Value.slice aN (m + 1) cN) fz fu false)) := KB.out
    have KG' : Hid (Blk x3.drew g 68 (pcs P).toArray) := KG.out
    have OW' : Hid ((x3.drew).ownsRow 0 70 129 (Value.slice aN (m + 1) cN) (m + 1) (wcs (U ++ [(i, p)]))) := own_same OW.out (fun _ _ _ => rfl)
    have ON' : Hid (OnlyS R y0 x3.drew) := ON.out.drew
    have WH' : Hid (∀ k, (Value.slice aN (m + 1) cN).ownBlock = some k → R k ∨ (y0.heap.size ≤ k ∧ k < (x3.drew).heap.size)) := WH.out
    clear KB KG OW ON WH
    have KB := KB'
    have KG := KG'
    have OW := OW'
    have ON := ON'
    have WH := WH'
    clear KB' KG' OW' ON' WH'
    generalize x3.drew = x0 at Gx0 KB KG OW ON WH ⊢
    refine wpAnyH_take (i := 0) (oi := { dst := some 37, op := _, type := _, pos := _, after := _, guard := _ }) (v := ?_) rfl (by kernel_rfl) (by kernel_rfl) (by kernel_rfl) (fun _ _ _ h => h) (Or.inl ⟨by kernel_rfl, ?_⟩) Gx0 ?_
    rotate_left
    · (intro w hSw; go_simp; try with_reducible rfl)
    try simp only [Act.put, List.setIfInBounds_toArray, List.set_cons_zero, List.set_cons_succ]
    refine wpAnyH_take (i := 1) (oi := { dst := some 38, op := _, type := _, pos := _, after := _, guard := _ }) (v := ?_) rfl (by kernel_rfl) (by kernel_rfl) (by kernel_rfl) (fun _ _ _ h => h) (Or.inl ⟨by kernel_rfl, ?_⟩) Gx0 ?_
    rotate_left
    · (intro w hSw; go_simp; try with_reducible rfl)
    try simp only [Act.put, List.setIfInBounds_toArray, List.set_cons_zero, List.set_cons_succ]
    refine wpAnyH_take (i := 2) (oi := { dst := some 39, op := _, type := _, pos := _, after := _, guard := _ }) (v := ?_) rfl (by kernel_rfl) (by kernel_rfl) (by kernel_rfl) (fun _ _ _ h => h) (Or.inl ⟨by kernel_rfl, ?_⟩) Gx0 ?_
    rotate_left
    · (intro w hSw; go_simp; try with_reducible rfl)
    try simp only [Act.put, List.setIfInBounds_toArray, List.set_cons_zero, List.set_cons_succ]
    refine wpAnyH_take (i := 3) (oi := { dst := some 40, op := _, type := _, pos := _, after := _, guard := _ }) (v := ?_) rfl (by kernel_rfl) (by kernel_rfl) (by kernel_rfl) (fun _ _ _ h => h) (Or.inl ⟨by kernel_rfl, ?_⟩) Gx0 ?_
    rotate_left
    · (intro w hSw; have hc := hSw.out.c0; go_simp; try with_reducible rfl)
    try simp only [Act.put, List.setIfInBounds_toArray, List.set_cons_zero, List.set_cons_succ]
    refine wpAnyH_take (i := 4) (oi := { dst := some 41, op := _, type := _, pos := _, after := _, guard := _ }) (v := ?_) rfl (by kernel_rfl) (by kernel_rfl) (by kernel_rfl) (fun _ _ _ h => h) (Or.inl ⟨by kernel_rfl, ?_⟩) Gx0 ?_
    rotate_left
    · (intro w hSw; go_simp; try with_reducible rfl)
    try simp only [Act.put, List.setIfInBounds_toArray, List.set_cons_zero, List.set_cons_succ]
    refine wpAnyH_take (i := 5) (oi := { dst := some 42, op := _, type := _, pos := _, after := _, guard := _ }) (v := ?_) rfl (by kernel_rfl) (by kernel_rfl) (by kernel_rfl) (fun _ _ _ h => h) (Or.inl ⟨by kernel_rfl, ?_⟩) Gx0 ?_
    rotate_left
    · (intro w hSw; go_simp; try with_reducible rfl)
    try simp only [Act.put, List.setIfInBounds_toArray, List.set_cons_zero, List.set_cons_succ]
    refine wpAnyH_take (i := 6) (oi := { dst := some 43, op := _, type := _, pos := _, after := _, guard := _ }) (v := .pointer (some ⟨ab, ao, none⟩)) rfl (by kernel_rfl) (by kernel_rfl) (by kernel_rfl) (fun _ _ _ h => h) (Or.inl ⟨by kernel_rfl, ?_⟩) Gx0 ?_
    · (intro w hSw; have haa := arrayAt_page ab ao c w; go_simp; try with_reducible rfl)
    try simp only [Act.put, List.setIfInBounds_toArray, List.set_cons_zero, List.set_cons_succ]
    refine wpAnyH_take (i := 7) (oi := { dst := some 44, op := _, type := _, pos := _, after := _, guard := _ }) (v := .agg ((u8s X).toArray)) rfl (by kernel_rfl) (by kernel_rfl) (by kernel_rfl) (fun _ _ _ h => h) (yieldsIf_load_mid (cs := u8s X) (by rfl) _ _ rfl _ _ rfl _ (fun w' hSw => hSw.out.rg) Try.underlying68 rfl XI.out) Gx0 ?_
    try simp only [Act.put, List.setIfInBounds_toArray, List.set_cons_zero, List.set_cons_succ]
    refine wpAnyH_take (i := 8) (oi := { dst := some 45, op := _, type := _, pos := _, after := _, guard := _ }) (v := ?_) rfl (by kernel_rfl) (by kernel_rfl) (by kernel_rfl) (fun _ _ _ h => h) (Or.inl ⟨by kernel_rfl, ?_⟩) Gx0 ?_
    rotate_left
    · (intro w hSw; go_simp; try with_reducible rfl)
    try simp only [Act.put, List.setIfInBounds_toArray, List.set_cons_zero, List.set_cons_succ]
    refine wpAnyH_ready (rs := [9]) (by kernel_rfl) (by simp) ?_
    refine (AllReadyH.cons (o := { dst := none, op := _, type := _, pos := _, after := _, guard := _ }) rfl (fun Qc hQc => ?_) AllReadyH.nil)
    rw [if_pos (by rfl)]
    refine wp_store_mid 68 (.tmp 45) (.tmp 44) rfl g (i * 128) (u8s X).toArray rfl rfl (there_page KG.out HP.out HI.out HX.out) XI2.out XO.out ?_
    have KB2 : Hid (Blk (x0.setCells g (i * 128) (u8s X)) b 54 (devC g n (Value.slice aN (m + 1) cN) fz fu false)) := KB.out.farCells (KB.out.ne KG.out ne_dp) _ _
    have KG2 : Hid (Blk (x0.setCells g (i * 128) (u8s X)) g 68 (pcs (P.set i X)).toArray) := page_put KG.out HP.out HI.out HX.out
    have OW2 : Hid ((x0.setCells g (i * 128) (u8s X)).ownsRow 0 70 129 (Value.slice aN (m + 1) cN) (m + 1) (wcs (U ++ [(i, p)]))) := own_cells OW.out KG.out ne_pw _ _
    have ON2 : Hid (OnlyS R y0 (x0.setCells g (i * 128) (u8s X))) := OnlyS.setCells _ ON.out (.inl RG.out) _
    have Gx1 : Hid (WS10 b g n ab ao X (x0.setCells g (i * 128) (u8s X))) := ws10_put Gx0.out KB2.out HA.out RG.out
    have WH2 : Hid (∀ k, (Value.slice aN (m + 1) cN).ownBlock = some k → R k ∨ (y0.heap.size ≤ k ∧ k < (x0.setCells g (i * 128) (u8s X)).heap.size)) := fun k hk => (WH.out k hk).imp id (fun h => ⟨h.1, by rw [size_setCells]; exact h.2⟩)
    refine hQc.out _ _ Gx1 (fun hHeld => ?_)
    clear hQc Qc hHeld Gx0 KB KG OW ON WH
    change wpAnyH _ _ _ _ _ _ _ _ (x0.setCells g (i * 128) (u8s X))
    generalize x0.setCells g (i * 128) (u8s X) = x1 at Gx1 KB2 KG2 OW2 ON2 WH2 ⊢
    have KB := KB2; have KG := KG2; have OW := OW2; have ON := ON2; have WH := WH2
    clear KB2 KG2 OW2 ON2 WH2
    try simp only [Act.put, List.setIfInBounds_toArray, List.set_cons_zero, List.set_cons_succ]
    refine wpAnyH_done (by kernel_rfl) ?_ _
    try simp only [Act.put, List.setIfInBounds_toArray, List.set_cons_zero, List.set_cons_succ]
    go_wp2
    go_ret
    obtain rfl := HY.out
    exact ⟨rfl, wr_done KB.out KG.out OW.out WH.out ⟨RB.out, RG.out⟩ FE.out HE.out HL.out HI.out HX.out, ON.out⟩
  ·
    rw [if_pos (by rfl)]
    refine wp_write_one (.tmp 32) rfl (i, p) PL.out rfl ?_
    have Gx4 : Hid (WS9 b g n (i * 128) p (x0.alloc (.cells (wc1 (i, p)).toArray 70))) := Gx0.out.alloc _
    have NB := hid (Blk.new x0 70 (wc1 (i, p)).toArray)
    have KB2 := hid (KB.out.alloc (.cells (wc1 (i, p)).toArray 70))
    have KG2 := hid (KG.out.alloc (.cells (wc1 (i, p)).toArray 70))
    have OW2 := hid (OW.out.alloc (.cells (wc1 (i, p)).toArray 70))
    have ON2 := hid (ON.out.alloc (.cells (wc1 (i, p)).toArray 70))
    have GR2 : Hid (y0.heap.size ≤ x0.heap.size) := ON.out.size
    refine hQc.out _ _ Gx4 (fun hHeld => ?_)
    clear hQc Qc hHeld Gx0 KB KG OW ON
    generalize x0.heap.size = gq at NB GR2 ⊢
    generalize x0.alloc (.cells (wc1 (i, p)).toArray 70) = x4 at Gx4 NB KB2 KG2 OW2 ON2 ⊢
    have KB := KB2; have KG := KG2; have OW := OW2; have ON := ON2; have GR := GR2
    clear KB2 KG2 OW2 ON2 GR2
    try simp only [Act.put, List.setIfInBounds_toArray, List.set_cons_zero, List.set_cons_succ]
    refine wpAnyH_ready (rs := [4]) (by kernel_rfl) (by simp) ?_
    refine (AllReadyH.cons (o := { dst := some 23, op := _, type := _, pos := _, after := _, guard := _ }) rfl (fun Qc hQc => ?_) AllReadyH.nil)
    have c1 : x4.cell? ⟨b, 1, none⟩ = some vW := KB.out.cell 1
    go_simp
    refine hQc.out _ _ Gx4 (fun hHeld => ?_)
    clear hQc Qc c1
    try simp only [Act.put, List.setIfInBounds_toArray, List.set_cons_zero, List.set_cons_succ]
    refine wpAnyH_ready (rs := [15]) (by kernel_rfl) (by simp) ?_
    refine (AllReadyH.cons (o := { dst := some 34, op := _, type := _, pos := _, after := _, guard := _ }) rfl (fun Qc hQc => ?_) AllReadyH.nil)
    rw [if_pos (by rfl)]
    refine wp_append_wr (.tmp 23) (.tmp 33) rfl vW U m HM.out rfl OW.out gq 1 (i, p) rfl NB.out PL.out HQ.out ?_
    intro vN' x5 ow2 gr2 wh2
    obtain ⟨aN, cN, rfl⟩ := slice_of ow2
    have KB2 : Hid (Blk x5 b 54 (devC g n vW fz fu false)) := KB.out.same (gr2.block b KB.out.lt (fun e => own_ne OW.out KB.out ne_dw e.symm))
    have KG2 : Hid (Blk x5 g 68 (pcs P).toArray) := KG.out.same (gr2.block g KG.out.lt (fun e => own_ne OW.out KG.out ne_pw e.symm))
    have Gx5 : Hid (WS9 b g n (i * 128) p x5) := ws9_of KB2.out KG2.out HR.out
    have ON2 : Hid (OnlyS R y0 x5) := ON.out.grown gr2 (fun k hk => .inl (RV.out k hk))
    have OW2 := hid ow2
    have WH : Hid (∀ k, (Value.slice aN (m + 1) cN).ownBlock = some k → R k ∨ (y0.heap.size ≤ k ∧ k < x5.heap.size)) := fun k hk => by
      rcases wh2 k hk with h1 | h1
      · exact .inl (RV.out k h1)
      · exact .inr ⟨Nat.le_trans ON.out.size h1.1, h1.2⟩
    refine hQc.out _ _ Gx5 (fun hHeld => ?_)
    clear hQc Qc hHeld Gx4 KB KG OW ON NB GR ow2 gr2 wh2
    have KB := KB2; have KG := KG2; have OW := OW2; have ON := ON2
    clear KB2 KG2 OW2 ON2
    try simp only [Act.put, List.setIfInBounds_toArray, List.set_cons_zero, List.set_cons_succ]
    refine wpAnyH_take (i := 16) (oi := { dst := some 35, op := _, type := _, pos := _, after := _, guard := _ }) (v := ?_) rfl (by kernel_rfl) (by kernel_rfl) (by kernel_rfl) (fun _ _ _ h => h) (Or.inl ⟨by kernel_rfl, ?_⟩) Gx5 ?_
    rotate_left
    · (intro w hSw; go_simp; try with_reducible rfl)
    try simp only [Act.put, List.setIfInBounds_toArray, List.set_cons_zero, List.set_cons_succ]
    refine wpAnyH_take (i := 17) (oi := { dst := some 36, op := _, type := _, pos := _, after := _, guard := _ }) (v := ?_) rfl (by kernel_rfl) (by kernel_rfl) (by kernel_rfl) (fun _ _ _ h => h) (Or.inl ⟨by kernel_rfl, ?_⟩) Gx5 ?_
    rotate_left
    · (intro w hSw; go_simp; try with_reducible rfl)
    try simp only [Act.put, List.setIfInBounds_toArray, List.set_cons_zero, List.set_cons_succ]
    refine wpAnyH_ready (rs := [18]) (by kernel_rfl) (by simp) ?_
    refine (AllReadyH.cons (o := { dst := none, op := _, type := _, pos := _, after := _, guard := _ }) rfl (fun Qc hQc => ?_) AllReadyH.nil)
    have c1 : x5.cell? ⟨b, 1, none⟩ = some vW := KB.out.cell 1
    have f1 : x5.frozen? ⟨b, 1, none⟩ = false := KB.out.frozen 1
    go_simp
    clear c1 f1
    have KB2 : Hid (Blk (x5.setCell ⟨b, 1, none⟩ (Value.slice aN (m + 1) cN)) b 54 (devC g n (Value.slice aN (m + 1) cN) fz fu false)) := KB.out.setd 1 _
    have KG2 : Hid (Blk (x5.setCell ⟨b, 1, none⟩ (Value.slice aN (m + 1) cN)) g 68 (pcs P).toArray) := KG.out.far (KB.out.ne KG.out ne_dp).symm _
    have OW2 : Hid ((x5.setCell ⟨b, 1, none⟩ (Value.slice aN (m + 1) cN)).ownsRow 0 70 129 (Value.slice aN (m + 1) cN) (m + 1) (wcs (U ++ [(i, p)]))) := own_same OW.out (fun k _ hk => other_set _ _ _ _ k (fun e => own_ne OW.out KB.out ne_dw (by rw [hk, e])))
    have ON2 : Hid (OnlyS R y0 (x5.setCell ⟨b, 1, none⟩ (Value.slice aN (m + 1) cN))) := ON.out.setCell (.inl RB.out) _
    have Gx6 : Hid (WS9 b g n (i * 128) p (x5.setCell ⟨b, 1, none⟩ (Value.slice aN (m + 1) cN))) := ws9_of KB2.out KG2.out HR.out
    have WH2 : Hid (∀ k, (Value.slice aN (m + 1) cN).ownBlock = some k → R k ∨ (y0.heap.size ≤ k ∧ k < (x5.setCell ⟨b, 1, none⟩ (Value.slice aN (m + 1) cN)).heap.size)) := fun k hk => (WH.out k hk).imp id (fun h => ⟨h.1, by simpa [World.setCell] using h.2⟩)
    refine hQc.out _ _ Gx6 (fun hHeld => ?_)
    clear hQc Qc hHeld Gx5 KB KG OW ON WH
    generalize x5.setCell ⟨b, 1, none⟩ (Value.slice aN (m + 1) cN) = x6 at Gx6 KB2 KG2 OW2 ON2 WH2 ⊢
    have KB := KB2; have KG := KG2; have OW := OW2; have ON := ON2; have WH := WH2
    clear KB2 KG2 OW2 ON2 WH2
    try simp only [Act.put, List.setIfInBounds_toArray, List.set_cons_zero, List.set_cons_succ]
    refine wpAnyH_done (by kernel_rfl) ?_ _
    try simp only [Act.put, List.setIfInBounds_toArray, List.set_cons_zero, List.set_cons_succ]
    have c0 : x6.cell? ⟨b, 0, none⟩ = some (.slice (some ⟨g, 0, none⟩) n n) := KB.out.cell 0
    go_wp2
    clear c0
    refine wp_region_held (S := fun w' => Hid (WS10 b g n ab ao X w')) (by kernel_rfl) ?_
    change wpAnyH _ _ _ _ _ _ _ _ x6.drew
    have Gx0 : Hid (WS10 b g n ab ao X x6.drew) := ws10_of KB.out (xr_only XR.out ON.out HA.out)
    have KB' : Hid (Blk x6.drew b 54 (devC g n (Value.slice aN (m + 1) cN) fz fu false)) := KB.out
    have KG' : Hid (Blk x6.drew g 68 (pcs P).toArray) := KG.out
    have OW' : Hid ((x6.drew).ownsRow 0 70 129 (Value.slice aN (m + 1) cN) (m + 1) (wcs (U ++ [(i, p)]))) := own_same OW.out (fun _ _ _ => rfl)
    have ON' : Hid (OnlyS R y0 x6.drew) := ON.out.drew
    have WH' : Hid (∀ k, (Value.slice aN (m + 1) cN).ownBlock = some k → R k ∨ (y0.heap.size ≤ k ∧ k < (x6.drew).heap.size)) := WH.out
    clear KB KG OW ON WH
    have KB := KB'
    have KG := KG'
    have OW := OW'
    have ON := ON'
    have WH := WH'
    clear KB' KG' OW' ON' WH'
    generalize x6.drew = x0 at Gx0 KB KG OW ON WH ⊢
    refine wpAnyH_take (i := 0) (oi := { dst := some 37, op := _, type := _, pos := _, after := _, guard := _ }) (v := ?_) rfl (by kernel_rfl) (by kernel_rfl) (by kernel_rfl) (fun _ _ _ h => h) (Or.inl ⟨by kernel_rfl, ?_⟩) Gx0 ?_
    rotate_left
    · (intro w hSw; go_simp; try with_reducible rfl)
    try simp only [Act.put, List.setIfInBounds_toArray, List.set_cons_zero, List.set_cons_succ]
    refine wpAnyH_take (i := 1) (oi := { dst := some 38, op := _, type := _, pos := _, after := _, guard := _ }) (v := ?_) rfl (by kernel_rfl) (by kernel_rfl) (by kernel_rfl) (fun _ _ _ h => h) (Or.inl ⟨by kernel_rfl, ?_⟩) Gx0 ?_
    rotate_left
    · (intro w hSw; go_simp; try with_reducible rfl)
    try simp only [Act.put, List.setIfInBounds_toArray, List.set_cons_zero, List.set_cons_succ]
    refine wpAnyH_take (i := 2) (oi := { dst := some 39, op := _, type := _, pos := _, after := _, guard := _ }) (v := ?_) rfl (by kernel_rfl) (by kernel_rfl) (by kernel_rfl) (fun _ _ _ h => h) (Or.inl ⟨by kernel_rfl, ?_⟩) Gx0 ?_
    rotate_left
    · (intro w hSw; go_simp; try with_reducible rfl)
    try simp only [Act.put, List.setIfInBounds_toArray, List.set_cons_zero, List.set_cons_succ]
    refine wpAnyH_take (i := 3) (oi := { dst := some 40, op := _, type := _, pos := _, after := _, guard := _ }) (v := ?_) rfl (by kernel_rfl) (by kernel_rfl) (by kernel_rfl) (fun _ _ _ h => h) (Or.inl ⟨by kernel_rfl, ?_⟩) Gx0 ?_
    rotate_left
    · (intro w hSw; have hc := hSw.out.c0; go_simp; try with_reducible rfl)
    try simp only [Act.put, List.setIfInBounds_toArray, List.set_cons_zero, List.set_cons_succ]
    refine wpAnyH_take (i := 4) (oi := { dst := some 41, op := _, type := _, pos := _, after := _, guard := _ }) (v := ?_) rfl (by kernel_rfl) (by kernel_rfl) (by kernel_rfl) (fun _ _ _ h => h) (Or.inl ⟨by kernel_rfl, ?_⟩) Gx0 ?_
    rotate_left
    · (intro w hSw; go_simp; try with_reducible rfl)
    try simp only [Act.put, List.setIfInBounds_toArray, List.set_cons_zero, List.set_cons_succ]
    refine wpAnyH_take (i := 5) (oi := { dst := some 42, op := _, type := _, pos := _, after := _, guard := _ }) (v := ?_) rfl (by kernel_rfl) (by kernel_rfl) (by kernel_rfl) (fun _ _ _ h => h) (Or.inl ⟨by kernel_rfl, ?_⟩) Gx0 ?_
    rotate_left
    · (intro w hSw; go_simp; try with_reducible rfl)
    try simp only [Act.put, List.setIfInBounds_toArray, List.set_cons_zero, List.set_cons_succ]
    refine wpAnyH_take (i := 6) (oi := { dst := some 43, op := _, type := _, pos := _, after := _, guard := _ }) (v := .pointer (some ⟨ab, ao, none⟩)) rfl (by kernel_rfl) (by kernel_rfl) (by kernel_rfl) (fun _ _ _ h => h) (Or.inl ⟨by kernel_rfl, ?_⟩) Gx0 ?_
    · (intro w hSw; have haa := arrayAt_page ab ao c w; go_simp; try with_reducible rfl)
    try simp only [Act.put, List.setIfInBounds_toArray, List.set_cons_zero, List.set_cons_succ]
    refine wpAnyH_take (i := 7) (oi := { dst := some 44, op := _, type := _, pos := _, after := _, guard := _ }) (v := .agg ((u8s X).toArray)) rfl (by kernel_rfl) (by kernel_rfl) (by kernel_rfl) (fun _ _ _ h => h) (yieldsIf_load_mid (cs := u8s X) (by rfl) _ _ rfl _ _ rfl _ (fun w' hSw => hSw.out.rg) Try.underlying68 rfl XI.out) Gx0 ?_
    try simp only [Act.put, List.setIfInBounds_toArray, List.set_cons_zero, List.set_cons_succ]
    refine wpAnyH_take (i := 8) (oi := { dst := some 45, op := _, type := _, pos := _, after := _, guard := _ }) (v := ?_) rfl (by kernel_rfl) (by kernel_rfl) (by kernel_rfl) (fun _ _ _ h => h) (Or.inl ⟨by kernel_rfl, ?_⟩) Gx0 ?_
    rotate_left
    · (intro w hSw; go_simp; try with_reducible rfl)
    try simp only [Act.put, List.setIfInBounds_toArray, List.set_cons_zero, List.set_cons_succ]
    refine wpAnyH_ready (rs := [9]) (by kernel_rfl) (by simp) ?_
    refine (AllReadyH.cons (o := { dst := none, op := _, type := _, pos := _, after := _, guard := _ }) rfl (fun Qc hQc => ?_) AllReadyH.nil)
    rw [if_pos (by rfl)]
    refine wp_store_mid 68 (.tmp 45) (.tmp 44) rfl g (i * 128) (u8s X).toArray rfl rfl (there_page KG.out HP.out HI.out HX.out) XI2.out XO.out ?_
    have KB2 : Hid (Blk (x0.setCells g (i * 128) (u8s X)) b 54 (devC g n (Value.slice aN (m + 1) cN) fz fu false)) := KB.out.farCells (KB.out.ne KG.out ne_dp) _ _
    have KG2 : Hid (Blk (x0.setCells g (i * 128) (u8s X)) g 68 (pcs (P.set i X)).toArray) := page_put KG.out HP.out HI.out HX.out
    have OW2 : Hid ((x0.setCells g (i * 128) (u8s X)).ownsRow 0 70 129 (Value.slice aN (m + 1) cN) (m + 1) (wcs (U ++ [(i, p)]))) := own_cells OW.out KG.out ne_pw _ _
    have ON2 : Hid (OnlyS R y0 (x0.setCells g (i * 128) (u8s X))) := OnlyS.setCells _ ON.out (.inl RG.out) _
    have Gx1 : Hid (WS10 b g n ab ao X (x0.setCells g (i * 128) (u8s X))) := ws10_put Gx0.out KB2.out HA.out RG.out
    have WH2 : Hid (∀ k, (Value.slice aN (m + 1) cN).ownBlock = some k → R k ∨ (y0.heap.size ≤ k ∧ k < (x0.setCells g (i * 128) (u8s X)).heap.size)) := fun k hk => (WH.out k hk).imp id (fun h => ⟨h.1, by rw [size_setCells]; exact h.2⟩)
    refine hQc.out _ _ Gx1 (fun hHeld => ?_)
    clear hQc Qc hHeld Gx0 KB KG OW ON WH
    change wpAnyH _ _ _ _ _ _ _ _ (x0.setCells g (i * 128) (u8s X))
    generalize x0.setCells g (i * 128) (u8s X) = x1 at Gx1 KB2 KG2 OW2 ON2 WH2 ⊢
    have KB := KB2; have KG := KG2; have OW := OW2; have ON := ON2; have WH := WH2
    clear KB2 KG2 OW2 ON2 WH2
    try simp only [Act.put, List.setIfInBounds_toArray, List.set_cons_zero, List.set_cons_succ]
    refine wpAnyH_done (by kernel_rfl) ?_ _
    try simp only [Act.put, List.setIfInBounds_toArray, List.set_cons_zero, List.set_cons_succ]
    go_wp2
    go_ret
    obtain rfl := HY.out
    exact ⟨rfl, wr_done KB.out KG.out OW.out WH.out ⟨RB.out, RG.out⟩ FE.out HE.out HL.out HI.out HX.out, ON.out⟩

end Go.Proofs.Ythfkooancgkjaaa
