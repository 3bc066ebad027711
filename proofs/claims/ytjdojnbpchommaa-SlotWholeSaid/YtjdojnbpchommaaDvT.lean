/-
  What is proved here: all writes that wait are turned back.
-/
import Derived.Test.YtjdojnbpchommaaDvT2
namespace Go.Proofs.Ytjdojnbpchommaa
open Go.ChangeShapes Go.WideShapes Go.ChangeAt Go.RowKit Go.Shelf
set_option linter.unusedVariables false
set_option linter.unusedSimpArgs false
set_option maxRecDepth 20000
attribute [local go_sem] Oper.semAt_some

set_option maxHeartbeats 8000000 in
theorem turnBack_at {w : World} {R : Nat → Prop} {b g n m c : Nat} {A : Option Addr} {fz D : Bool} {fu : Int} {P0 : List (List Int)} {U0 : List Wr}
    (h1 : Blk w b 62 (devC g n (.slice A m c) fz fu D)) (h2 : Blk w g 67 (pcs P0).toArray) (h3 : w.ownsRow 0 69 129 (.slice A m c) m (wcs U0)) (r1 : R b) (r2 : R g) (r3 : ∀ k, (Value.slice A m c).ownBlock = some k → R k)
    (hP0 : PgOk P0) (hU0 : QOk n U0) (hl1 : P0.length = n) (hl2 : U0.length = m) (hm : m < 1000000) (hn4 : n ≤ 4096) :
    Calls Try.prog 33 #[.pointer (some ⟨b, 0, none⟩)] w (TbP b g n m c A fz D fu R w ((downs m m).foldl sw (P0, U0))) := by
  refine (callsIn_wide (n := 2)).1 ?_
  refine callsIn_of_wp_marks Try.func33 rfl trivial ?_ rfl
  simp only [Try.ntmps33, List.size_toArray, List.length_cons, List.length_nil, Nat.reduceAdd, Nat.reduceSub, Array.replicate_succ, Array.replicate_zero, List.push_toArray, List.append_toArray, List.nil_append, List.cons_append]
  refine (wpIn_wide (n := 2)).2 ?_
  obtain ⟨w0, hw0⟩ : ∃ w0, w0 = w := ⟨_, rfl⟩
  have HW0 := hid hw0
  have lb := h1.lt
  have c0 : (w.alloc (.cells #[.pointer (some ⟨b, 0, none⟩)] 25)).cell? ⟨b, 1, none⟩ = some (.slice A m c) := (h1.alloc _).cell 1
  have CB := hid (fun w => dBack_any A m c w)
  have KB := hid h1; have KG := hid h2; have OW := hid h3; have R1 := hid r1; have R2 := hid r2; have R3 := hid r3
  have LB := hid lb
  have HP0 := hid hP0; have HU0 := hid hU0; have HL1 := hid hl1; have HL2 := hid hl2; have HM := hid hm; have HN4 := hid hn4
  clear h1 h2 h3 r1 r2 r3 lb hP0 hU0 hl1 hl2 hw0 hm hn4
  go_wp2_with (go_at_call 44; refine (CB.out _).mono ?_; rintro e w2 ⟨rfl, hw2⟩; have HW2 := hid hw2; clear hw2)
  have LG : Hid (g < w.heap.size) := KG.out.lt
  have KX2 : Hid (Blk w2 w.heap.size 25 #[.pointer (some ⟨b, 0, none⟩)]) := by show Blk _ _ _ _; rw [HW2.out]; exact (Blk.new w _ _).alloc _
  have KB2 : Hid (Blk w2 b 62 (devC g n (.slice A m c) fz fu D)) := by show Blk _ _ _ _; rw [HW2.out]; exact (KB.out.alloc _).alloc _
  have KG2 : Hid (Blk w2 g 67 (pcs P0).toArray) := by show Blk _ _ _ _; rw [HW2.out]; exact (KG.out.alloc _).alloc _
  have OW2 : Hid (w2.ownsRow 0 69 129 (.slice A m c) m (wcs U0)) := by show World.ownsRow _ _ _ _ _ _ _; rw [HW2.out]; exact (OW.out.alloc _).alloc _
  have ON2 : Hid (OnlyS R w0 w2) := by show OnlyS _ _ _; rw [HW2.out, HW0.out]; exact ((OnlyS.refl R w).alloc _).alloc _
  have S2 : Hid (w2.heap.size = w.heap.size + 1 + 1) := by show _ = _; rw [HW2.out]; simp
  have BX2 : Hid (Blk w2 (w.heap.size + 1) 60 #[.slice A m c]) := by
    show Blk _ _ _ _
    rw [HW2.out]
    have := Blk.new (w.alloc (.cells #[.pointer (some ⟨b, 0, none⟩)] 25)) 60 #[.slice A m c]
    rwa [World.size_alloc] at this
  have e1 : (w.alloc (.cells #[.pointer (some ⟨b, 0, none⟩)] 25)).heap.size = w.heap.size + 1 := by simp

  have IT : Hid (ItB (w.heap.size + 1) A m c w2) := itb_of BX2.out OW2.out
  have I0 : TbI w.heap.size b g n m c A fz D fu R w0 (P0, U0) [] w2 := ⟨KX2.out, KB2.out, KG2.out, OW2.out, ON2.out⟩
  have HI0 := hid I0
  clear KB KG OW KX2 KB2 KG2 OW2 ON2 BX2 I0 c0 e1 HW2
  refine (wpIn_wide (n := 2)).1 ?_
  refine wpIn_rangeFunc_ownF (n := 2) rfl (by omega) (gf := 53) (lb := #[.pointer (some ⟨w.heap.size + 1, 0, none⟩)]) rfl trivial (enters_of Try.func53 (by kernel_rfl) rfl)
    (back_stops HM.out (w.heap.size + 1) A c w2 IT.out) KpT.t (KpT.b (by rw [S2.out]; omega)) (Below.refl _ _) (fun _ => rfl) (TbI w.heap.size b g n m c A fz D fu R w0 (P0, U0)) (fun _ _ _ => False) (TbI.own (by rw [HW0.out, S2.out]; omega)) (fun _ _ _ _ _ hs _ _ => hs) HI0.out
    (fun x => { tmps := #[.pointer (some ⟨b, 0, none⟩), .pointer (some ⟨w.heap.size, 0, none⟩), .int .i64 (x.1.val : Int), undef, .pointer (some ⟨b, 0, none⟩), .pointer (some ⟨b, 0, none⟩), .pointer (some ⟨b, 1, none⟩), .slice A m c, .func (.func 53) #[] #[.pointer (some ⟨w.heap.size + 1, 0, none⟩)], .int .i64 (x.1.val : Int), .agg x.2, undef, undef, undef, undef, undef, undef, undef, undef, undef, undef, undef, undef, undef, undef, undef, undef, undef, undef, undef, undef, undef, undef, undef, undef, undef, undef, undef, undef, undef, undef, undef, undef], defers := [] }) ?assign ?body ?done ?stop
  case assign =>
    intro l x W K hK
    dsimp only [encW]
    gi_wp2
    exact hK
  case body =>
    rintro l pre x W hI hlen
    obtain ⟨kk, hkk⟩ := x
    obtain ⟨k, hkm⟩ := kk
    have hok := sws_ok (S := (P0, U0)) HP0.out HU0.out HL1.out (pre.map (·.1.val))
    obtain ⟨S0, hS0⟩ : ∃ S0, S0 = (pre.map (·.1.val)).foldl sw (P0, U0) := ⟨_, rfl⟩
    rw [← hS0] at hok
    obtain ⟨P, U⟩ := S0
    obtain ⟨p1, p2, p3, p4⟩ := hok
    have HSN : Hid (((pre ++ [((⟨k, hkm⟩, hkk) : Wx m)]).map (·.1.val)).foldl sw (P0, U0) = sw (P, U) k) := by
      show _ = _
      rw [List.map_append, List.foldl_append, ← hS0]; rfl
    have hkx := hI.kx; have hkb := hI.kb; have hkg := hI.kg; have hkw := hI.kw; have hos := hI.os
    rw [← hS0] at hkg hkw
    have hUl : U.length = m := p4.trans HL2.out
    have hk : U[k]? = some U[k] := List.getElem?_eq_getElem (by omega)
    obtain ⟨q, hq⟩ : ∃ q, q = U[k] := ⟨_, rfl⟩
    rw [← hq] at hk
    obtain ⟨a, o⟩ := q
    have hqok := p2 _ (List.mem_of_getElem? hk)
    rcases hkw.2 with ⟨_, h0⟩ | ⟨h, cap, C, hv, _, hh, hnc, hcm, hcs, htk⟩
    · omega
    injection hv with hA hm0 hc0
    subst hA; subst hc0
    have HSW : Hid (sw (P, U) k = (P.set a o, U.set k (a, P[a]?.getD []))) := by
      show _ = _
      unfold sw
      simp only
      rw [hk]
    obtain ⟨p, hp⟩ : ∃ p, p = P[a]?.getD [] := ⟨_, rfl⟩
    rw [← hp] at HSW
    have KH0 : Blk W h 69 C := hh
    have NE : Hid (w.heap.size ≠ g ∧ b ≠ g ∧ g ≠ h) := ⟨hkx.ne hkg (by decide), hkb.ne hkg ne_dp, hkg.ne KH0 ne_pw⟩
    have NE2 : Hid (w.heap.size ≠ h ∧ b ≠ h) := ⟨hkx.ne KH0 (by decide), hkb.ne KH0 ne_dw⟩
    have HP := hid p1; have HU := hid p2; have HPN := hid p3; have HUL := hid hUl; have HK := hid hk
    have HAL : Hid (a < P.length) := by show _ < _; rw [p3]; exact hqok.1
    have HO : Hid (o.length = 128) := hqok.2
    have HPP : Hid (p = P[a]?.getD []) := hp
    have HPL : Hid (p.length = 128) := by show _ = _; rw [hp]; exact p1.at HAL.out
    have OI := hid (page_info HO.out); have OI2 := hid (page_info2 HO.out); have PI := hid (page_info HPL.out); have PI2 := hid (page_info2 HPL.out)
    have HT := hid htk; have HCS := hid hcs
    have HS : Hid (m * 129 ≤ C.size) := by show _ ≤ _; rw [hcs]; exact Nat.mul_le_mul_right _ hnc
    have HNC := hid hnc; have HCM := hid hcm
    have KX := hid hkx; have KB := hid hkb; have KG := hid hkg; have KH := hid KH0; have ON := hid hos
    have c0 : W.cell? ⟨w.heap.size, 0, none⟩ = some (.pointer (some ⟨b, 0, none⟩)) := hkx.cell 0
    have c1 : W.cell? ⟨b, 1, none⟩ = some (.slice (some ⟨h, 0, none⟩) m c) := hkb.cell 1
    have WT0 : Hid (WT w.heap.size b g n h k (a : Nat) W.drew) := ⟨hkx.cell 0, hkb.cell 0, row_at KH0 htk p2 hk⟩
    have OG : Hid (OnlyS (fun j => j = g ∨ j = h) W W) := OnlyS.refl _ W
    have KP : Hid (KeepsOthers W W) := KeepsOthers.refl W
    have R1' := R1; have R2' := R2; have R3' : Hid (R h) := R3.out h rfl
    have LBX : Hid (w.heap.size + 1 ≠ g ∧ w.heap.size + 1 ≠ h) := bx_ne IT.out HI0.out.kg (by omega)
    have hkm2 : (k : Int) < m := by omega
    have ham : (a : Int) < n := by have := hqok.1; omega
    have hn5 : (n : Int) ≤ 4096 := by have := HN4.out; omega
    clear hI hlen hS0 p1 p2 p3 p4 hkx hkb hkg hkw hos hUl hk hq hqok hh hcm hcs htk hp KH0 hm0 HI0 hnc
    gi_wp2
    clear c0 c1
    refine wpIn_cut (fun _ w' => TbS g h m c (P.set a o) (U.set k (a, p)) W w') ?_ ?_
    · skip
      refine region_round (S := fun w' => Hid (WT w.heap.size b g n h k (a : Nat) w')) (by kernel_rfl) (by rfl) ?_
      change wpAnyH _ _ _ _ _ _ _ _ W.drew
      have Gx0 : Hid (WT w.heap.size b g n h k (a : Nat) W.drew) := WT0.out
      have KG' : Hid (Blk W.drew g 67 (pcs P).toArray) := KG.out
      have KH' : Hid (Blk W.drew h 69 C) := KH.out
      have OG' : Hid (OnlyS (fun j => j = g ∨ j = h) W W.drew) := OG.out.drew
      have KP' : Hid (KeepsOthers W W.drew) := keeps_drew KP.out
      clear KG KH OG KP
      have KG := KG'
      have KH := KH'
      have OG := OG'
      have KP := KP'
      clear KG' KH' OG' KP'
      generalize W.drew = x0 at Gx0 KG KH OG KP ⊢
      refine wpAnyH_take (i := 0) (oi := { dst := some 17, op := _, type := _, pos := _, after := _, guard := _ }) (v := ?_) rfl (by kernel_rfl) (by kernel_rfl) (by kernel_rfl) (fun _ _ _ h => h) (Or.inl ⟨by kernel_rfl, ?_⟩) Gx0 ?_
      rotate_left
      · (intro w hSw; have hc := hSw.out.cx; go_simp; try with_reducible rfl)
      try simp only [Act.put, List.setIfInBounds_toArray, List.set_cons_zero, List.set_cons_succ]
      refine wpAnyH_take (i := 1) (oi := { dst := some 18, op := _, type := _, pos := _, after := _, guard := _ }) (v := ?_) rfl (by kernel_rfl) (by kernel_rfl) (by kernel_rfl) (fun _ _ _ h => h) (Or.inl ⟨by kernel_rfl, ?_⟩) Gx0 ?_
      rotate_left
      · (intro w hSw; go_simp; try with_reducible rfl)
      try simp only [Act.put, List.setIfInBounds_toArray, List.set_cons_zero, List.set_cons_succ]
      refine wpAnyH_take (i := 2) (oi := { dst := some 19, op := _, type := _, pos := _, after := _, guard := _ }) (v := ?_) rfl (by kernel_rfl) (by kernel_rfl) (by kernel_rfl) (fun _ _ _ h => h) (Or.inl ⟨by kernel_rfl, ?_⟩) Gx0 ?_
      rotate_left
      · (intro w hSw; go_simp; try with_reducible rfl)
      try simp only [Act.put, List.setIfInBounds_toArray, List.set_cons_zero, List.set_cons_succ]
      refine wpAnyH_take (i := 3) (oi := { dst := some 20, op := _, type := _, pos := _, after := _, guard := _ }) (v := ?_) rfl (by kernel_rfl) (by kernel_rfl) (by kernel_rfl) (fun _ _ _ h => h) (Or.inl ⟨by kernel_rfl, ?_⟩) Gx0 ?_
      rotate_left
      · (intro w hSw; have hc := hSw.out.c0; go_simp; try with_reducible rfl)
      try simp only [Act.put, List.setIfInBounds_toArray, List.set_cons_zero, List.set_cons_succ]
      refine wpAnyH_take (i := 4) (oi := { dst := some 21, op := _, type := _, pos := _, after := _, guard := _ }) (v := ?_) rfl (by kernel_rfl) (by kernel_rfl) (by kernel_rfl) (fun _ _ _ h => h) (Or.inl ⟨by kernel_rfl, ?_⟩) Gx0 ?_
      rotate_left
      · (intro w hSw; go_simp; try with_reducible rfl)
      try simp only [Act.put, List.setIfInBounds_toArray, List.set_cons_zero, List.set_cons_succ]
      refine wpAnyH_take (i := 5) (oi := { dst := some 22, op := _, type := _, pos := _, after := _, guard := _ }) (v := ?_) rfl (by kernel_rfl) (by kernel_rfl) (by kernel_rfl) (fun _ _ _ h => h) (Or.inl ⟨by kernel_rfl, ?_⟩) Gx0 ?_
      rotate_left
      · (intro w hSw; go_simp; try with_reducible rfl)
      try simp only [Act.put, List.setIfInBounds_toArray, List.set_cons_zero, List.set_cons_succ]
      refine wpAnyH_take (i := 6) (oi := { dst := some 23, op := _, type := _, pos := _, after := _, guard := _ }) (v := ?_) rfl (by kernel_rfl) (by kernel_rfl) (by kernel_rfl) (fun _ _ _ h => h) (Or.inl ⟨by kernel_rfl, ?_⟩) Gx0 ?_
      rotate_left
      · (intro w hSw; go_simp; try with_reducible rfl)
      try simp only [Act.put, List.setIfInBounds_toArray, List.set_cons_zero, List.set_cons_succ]
      refine wpAnyH_take (i := 7) (oi := { dst := some 24, op := _, type := _, pos := _, after := _, guard := _ }) (v := ?_) rfl (by kernel_rfl) (by kernel_rfl) (by kernel_rfl) (fun _ _ _ h => h) (Or.inl ⟨by kernel_rfl, ?_⟩) Gx0 ?_
      rotate_left
      · (intro w hSw; have hc := hSw.out.ca; go_simp; try with_reducible rfl)
      try simp only [Act.put, List.setIfInBounds_toArray, List.set_cons_zero, List.set_cons_succ]
      refine wpAnyH_take (i := 8) (oi := { dst := some 25, op := _, type := _, pos := _, after := _, guard := _ }) (v := ?_) rfl (by kernel_rfl) (by kernel_rfl) (by kernel_rfl) (fun _ _ _ h => h) (Or.inl ⟨by kernel_rfl, ?_⟩) Gx0 ?_
      rotate_left
      · (intro w hSw; go_simp; try with_reducible rfl)
      try simp only [Act.put, List.setIfInBounds_toArray, List.set_cons_zero, List.set_cons_succ]
      refine wpAnyH_take (i := 9) (oi := { dst := some 26, op := _, type := _, pos := _, after := _, guard := _ }) (v := ?_) rfl (by kernel_rfl) (by kernel_rfl) (by kernel_rfl) (fun _ _ _ h => h) (Or.inl ⟨by kernel_rfl, ?_⟩) Gx0 ?_
      rotate_left
      · (intro w hSw; go_simp; try with_reducible rfl)
      try simp only [Act.put, List.setIfInBounds_toArray, List.set_cons_zero, List.set_cons_succ]
      refine wpAnyH_take (i := 10) (oi := { dst := some 27, op := _, type := _, pos := _, after := _, guard := _ }) (v := ?_) rfl (by kernel_rfl) (by kernel_rfl) (by kernel_rfl) (fun _ _ _ h => h) (Or.inl ⟨by kernel_rfl, ?_⟩) Gx0 ?_
      rotate_left
      · (intro w hSw; go_simp; try with_reducible rfl)
      try simp only [Act.put, List.setIfInBounds_toArray, List.set_cons_zero, List.set_cons_succ]
      refine wpAnyH_take (i := 11) (oi := { dst := some 28, op := _, type := _, pos := _, after := _, guard := _ }) (v := ?_) rfl (by kernel_rfl) (by kernel_rfl) (by kernel_rfl) (fun _ _ _ h => h) (Or.inl ⟨by kernel_rfl, ?_⟩) Gx0 ?_
      rotate_left
      · (intro w hSw; go_simp; try with_reducible rfl)
      try simp only [Act.put, List.setIfInBounds_toArray, List.set_cons_zero, List.set_cons_succ]
      refine wpAnyH_take (i := 13) (oi := { dst := some 30, op := _, type := _, pos := _, after := _, guard := _ }) (v := ?_) rfl (by kernel_rfl) (by kernel_rfl) (by kernel_rfl) (fun _ _ _ h => h) (Or.inl ⟨by kernel_rfl, ?_⟩) Gx0 ?_
      rotate_left
      · (intro w hSw; have hc := hSw.out.cx; go_simp; try with_reducible rfl)
      try simp only [Act.put, List.setIfInBounds_toArray, List.set_cons_zero, List.set_cons_succ]
      refine wpAnyH_take (i := 14) (oi := { dst := some 31, op := _, type := _, pos := _, after := _, guard := _ }) (v := ?_) rfl (by kernel_rfl) (by kernel_rfl) (by kernel_rfl) (fun _ _ _ h => h) (Or.inl ⟨by kernel_rfl, ?_⟩) Gx0 ?_
      rotate_left
      · (intro w hSw; go_simp; try with_reducible rfl)
      try simp only [Act.put, List.setIfInBounds_toArray, List.set_cons_zero, List.set_cons_succ]
      refine wpAnyH_take (i := 15) (oi := { dst := some 32, op := _, type := _, pos := _, after := _, guard := _ }) (v := ?_) rfl (by kernel_rfl) (by kernel_rfl) (by kernel_rfl) (fun _ _ _ h => h) (Or.inl ⟨by kernel_rfl, ?_⟩) Gx0 ?_
      rotate_left
      · (intro w hSw; go_simp; try with_reducible rfl)
      try simp only [Act.put, List.setIfInBounds_toArray, List.set_cons_zero, List.set_cons_succ]
      refine wpAnyH_take (i := 16) (oi := { dst := some 33, op := _, type := _, pos := _, after := _, guard := _ }) (v := ?_) rfl (by kernel_rfl) (by kernel_rfl) (by kernel_rfl) (fun _ _ _ h => h) (Or.inl ⟨by kernel_rfl, ?_⟩) Gx0 ?_
      rotate_left
      · (intro w hSw; have hc := hSw.out.c0; go_simp; try with_reducible rfl)
      try simp only [Act.put, List.setIfInBounds_toArray, List.set_cons_zero, List.set_cons_succ]
      refine wpAnyH_take (i := 17) (oi := { dst := some 34, op := _, type := _, pos := _, after := _, guard := _ }) (v := ?_) rfl (by kernel_rfl) (by kernel_rfl) (by kernel_rfl) (fun _ _ _ h => h) (Or.inl ⟨by kernel_rfl, ?_⟩) Gx0 ?_
      rotate_left
      · (intro w hSw; go_simp; try with_reducible rfl)
      try simp only [Act.put, List.setIfInBounds_toArray, List.set_cons_zero, List.set_cons_succ]
      refine wpAnyH_take (i := 18) (oi := { dst := some 35, op := _, type := _, pos := _, after := _, guard := _ }) (v := ?_) rfl (by kernel_rfl) (by kernel_rfl) (by kernel_rfl) (fun _ _ _ h => h) (Or.inl ⟨by kernel_rfl, ?_⟩) Gx0 ?_
      rotate_left
      · (intro w hSw; go_simp; try with_reducible rfl)
      try simp only [Act.put, List.setIfInBounds_toArray, List.set_cons_zero, List.set_cons_succ]
      refine wpAnyH_take (i := 19) (oi := { dst := some 36, op := _, type := _, pos := _, after := _, guard := _ }) (v := ?_) rfl (by kernel_rfl) (by kernel_rfl) (by kernel_rfl) (fun _ _ _ h => h) (Or.inl ⟨by kernel_rfl, ?_⟩) Gx0 ?_
      rotate_left
      · (intro w hSw; go_simp; try with_reducible rfl)
      try simp only [Act.put, List.setIfInBounds_toArray, List.set_cons_zero, List.set_cons_succ]
      refine wpAnyH_take (i := 20) (oi := { dst := some 37, op := _, type := _, pos := _, after := _, guard := _ }) (v := ?_) rfl (by kernel_rfl) (by kernel_rfl) (by kernel_rfl) (fun _ _ _ h => h) (Or.inl ⟨by kernel_rfl, ?_⟩) Gx0 ?_
      rotate_left
      · (intro w hSw; have hc := hSw.out.ca; go_simp; try with_reducible rfl)
      try simp only [Act.put, List.setIfInBounds_toArray, List.set_cons_zero, List.set_cons_succ]
      refine wpAnyH_take (i := 21) (oi := { dst := some 38, op := _, type := _, pos := _, after := _, guard := _ }) (v := ?_) rfl (by kernel_rfl) (by kernel_rfl) (by kernel_rfl) (fun _ _ _ h => h) (Or.inl ⟨by kernel_rfl, ?_⟩) Gx0 ?_
      rotate_left
      · (intro w hSw; go_simp; try with_reducible rfl)
      try simp only [Act.put, List.setIfInBounds_toArray, List.set_cons_zero, List.set_cons_succ]
      refine wpAnyH_ready (rs := [12, 22]) (by kernel_rfl) (by simp) ?_
      refine (AllReadyH.cons (o := { dst := some 29, op := _, type := _, pos := _, after := _, guard := _ }) rfl (fun Qc hQc => ?_) (AllReadyH.cons (o := { dst := some 39, op := _, type := _, pos := _, after := _, guard := _ }) rfl (fun Qc hQc => ?_) AllReadyH.nil))
      ·
        rw [if_pos (by rfl)]
        refine wp_load_mid 67 (.tmp 28) rfl h (k * 129 + 1) rfl (u8s o) _ (row_range KH.out HT.out HU.out HK.out) Try.underlying67 rfl OI.out ?_
        refine hQc.out _ _ Gx0 (fun hHeld => ?_)
        clear hQc Qc
        try simp only [Act.put, List.setIfInBounds_toArray, List.set_cons_zero, List.set_cons_succ]
        refine wpAnyH_ready (rs := [22]) (by kernel_rfl) (by simp) ?_
        refine (AllReadyH.cons (o := { dst := some 39, op := _, type := _, pos := _, after := _, guard := _ }) rfl (fun Qc hQc => ?_) AllReadyH.nil)
        rw [if_pos (by rfl)]
        refine wp_load_mid 67 (.tmp 38) rfl g (a * 128) rfl (u8s p) _ (page_at KG.out HP.out HAL.out HPP.out) Try.underlying67 rfl PI.out ?_
        refine hQc.out _ _ Gx0 (fun hHeld => ?_)
        clear hQc Qc
        try simp only [Act.put, List.setIfInBounds_toArray, List.set_cons_zero, List.set_cons_succ]
        refine wpAnyH_take (i := 23) (oi := { dst := some 40, op := _, type := _, pos := _, after := _, guard := _ }) (v := ?_) rfl (by kernel_rfl) (by kernel_rfl) (by kernel_rfl) (fun _ _ _ h => h) (Or.inl ⟨by kernel_rfl, ?_⟩) Gx0 ?_
        rotate_left
        · (intro w hSw; go_simp; try with_reducible rfl)
        try simp only [Act.put, List.setIfInBounds_toArray, List.set_cons_zero, List.set_cons_succ]
        refine wpAnyH_ready (rs := [24]) (by kernel_rfl) (by simp) ?_
        refine (AllReadyH.cons (o := { dst := none, op := _, type := _, pos := _, after := _, guard := _ }) rfl (fun Qc hQc => ?_) AllReadyH.nil)
        rw [if_pos (by rfl)]
        refine wp_store_mid 67 (.tmp 40) (.tmp 29) rfl g (a * 128) (u8s o).toArray rfl rfl (there_page KG.out HP.out HAL.out HO.out) OI2.out (u8s_all1 _) ?_
        have OG2 : Hid (OnlyS (fun j => j = g ∨ j = h) W (x0.setCells g (a * 128) (u8s o))) := OnlyS.setCells _ OG.out (.inl (.inl rfl)) _
        have KP2 : Hid (KeepsOthers W (x0.setCells g (a * 128) (u8s o))) := KP.out.trans (KeepsOthers.setCells _ _ _)
        have KG2 : Hid (Blk (x0.setCells g (a * 128) (u8s o)) g 67 (pcs (P.set a o)).toArray) := page_put KG.out HP.out HAL.out HO.out
        have KH2 : Hid (Blk (x0.setCells g (a * 128) (u8s o)) h 69 C) := KH.out.farCells NE.out.2.2.symm _ _
        have Gx1 : Hid (WT w.heap.size b g n h k (a : Nat) (x0.setCells g (a * 128) (u8s o))) := wt_cells Gx0.out NE.out.1 NE.out.2.1 NE.out.2.2.symm _ _
        refine hQc.out _ _ Gx1 (fun hHeld => ?_)
        clear hQc Qc hHeld Gx0 KG KH OG KP
        change wpAnyH _ _ _ _ _ _ _ _ (x0.setCells g (a * 128) (u8s o))
        generalize x0.setCells g (a * 128) (u8s o) = x1 at Gx1 KG2 KH2 OG2 KP2 ⊢
        have KG := KG2; have KH := KH2; have OG := OG2; have KP := KP2
        clear KG2 KH2 OG2 KP2
        try simp only [Act.put, List.setIfInBounds_toArray, List.set_cons_zero, List.set_cons_succ]
        refine wpAnyH_take (i := 25) (oi := { dst := some 41, op := _, type := _, pos := _, after := _, guard := _ }) (v := ?_) rfl (by kernel_rfl) (by kernel_rfl) (by kernel_rfl) (fun _ _ _ h => h) (Or.inl ⟨by kernel_rfl, ?_⟩) Gx1 ?_
        rotate_left
        · (intro w hSw; go_simp; try with_reducible rfl)
        try simp only [Act.put, List.setIfInBounds_toArray, List.set_cons_zero, List.set_cons_succ]
        refine wpAnyH_take (i := 26) (oi := { dst := some 42, op := _, type := _, pos := _, after := _, guard := _ }) (v := ?_) rfl (by kernel_rfl) (by kernel_rfl) (by kernel_rfl) (fun _ _ _ h => h) (Or.inl ⟨by kernel_rfl, ?_⟩) Gx1 ?_
        rotate_left
        · (intro w hSw; go_simp; try with_reducible rfl)
        try simp only [Act.put, List.setIfInBounds_toArray, List.set_cons_zero, List.set_cons_succ]
        refine wpAnyH_ready (rs := [27]) (by kernel_rfl) (by simp) ?_
        refine (AllReadyH.cons (o := { dst := none, op := _, type := _, pos := _, after := _, guard := _ }) rfl (fun Qc hQc => ?_) AllReadyH.nil)
        rw [if_pos (by rfl)]
        refine wp_store_mid 67 (.tmp 42) (.tmp 39) rfl h (k * 129 + 1) (u8s p).toArray rfl rfl (row_there KH.out HT.out HU.out HK.out HPL.out) PI2.out (u8s_all1 _) ?_
        have OG2 : Hid (OnlyS (fun j => j = g ∨ j = h) W (x1.setCells h (k * 129 + 1) (u8s p))) := OnlyS.setCells _ OG.out (.inl (.inr rfl)) _
        have KP2 : Hid (KeepsOthers W (x1.setCells h (k * 129 + 1) (u8s p))) := KP.out.trans (KeepsOthers.setCells _ _ _)
        obtain ⟨C2, kh2, hs2, ht2⟩ := row_put KH.out HT.out HS.out HU.out HUL.out HK.out HPL.out
        have KG2 : Hid (Blk (x1.setCells h (k * 129 + 1) (u8s p)) g 67 (pcs (P.set a o)).toArray) := KG.out.farCells NE.out.2.2 _ _
        have KH2 := hid kh2
        have HS2 : Hid (C2.size = c * 129) := hs2.trans HCS.out
        have HT2 := hid ht2
        have Gx2 : Hid (WT w.heap.size b g n h k (a : Nat) (x1.setCells h (k * 129 + 1) (u8s p))) := wt_put Gx1.out NE2.out.1 NE2.out.2 _
        refine hQc.out _ _ Gx2 (fun hHeld => ?_)
        clear hQc Qc hHeld Gx1 KG KH OG KP kh2 hs2 ht2
        change wpAnyH _ _ _ _ _ _ _ _ (x1.setCells h (k * 129 + 1) (u8s p))
        generalize x1.setCells h (k * 129 + 1) (u8s p) = x2 at Gx2 KG2 KH2 OG2 KP2 ⊢
        have KG := KG2; have KH := KH2; have OG := OG2; have KP := KP2
        clear KG2 KH2 OG2 KP2
        try simp only [Act.put, List.setIfInBounds_toArray, List.set_cons_zero, List.set_cons_succ]
        refine wpAnyH_done (by kernel_rfl) ?_ _
        try simp only [Act.put, List.setIfInBounds_toArray, List.set_cons_zero, List.set_cons_succ]
        exact ⟨C2, KG.out, KH.out, HS2.out, HT2.out, OG.out, KP.out⟩
      ·
        rw [if_pos (by rfl)]
        refine wp_load_mid 67 (.tmp 38) rfl g (a * 128) rfl (u8s p) _ (page_at KG.out HP.out HAL.out HPP.out) Try.underlying67 rfl PI.out ?_
        refine hQc.out _ _ Gx0 (fun hHeld => ?_)
        clear hQc Qc
        try simp only [Act.put, List.setIfInBounds_toArray, List.set_cons_zero, List.set_cons_succ]
        refine wpAnyH_ready (rs := [12]) (by kernel_rfl) (by simp) ?_
        refine (AllReadyH.cons (o := { dst := some 29, op := _, type := _, pos := _, after := _, guard := _ }) rfl (fun Qc hQc => ?_) AllReadyH.nil)
        rw [if_pos (by rfl)]
        refine wp_load_mid 67 (.tmp 28) rfl h (k * 129 + 1) rfl (u8s o) _ (row_range KH.out HT.out HU.out HK.out) Try.underlying67 rfl OI.out ?_
        refine hQc.out _ _ Gx0 (fun hHeld => ?_)
        clear hQc Qc
        try simp only [Act.put, List.setIfInBounds_toArray, List.set_cons_zero, List.set_cons_succ]
        refine wpAnyH_take (i := 23) (oi := { dst := some 40, op := _, type := _, pos := _, after := _, guard := _ }) (v := ?_) rfl (by kernel_rfl) (by kernel_rfl) (by kernel_rfl) (fun _ _ _ h => h) (Or.inl ⟨by kernel_rfl, ?_⟩) Gx0 ?_
        rotate_left
        · (intro w hSw; go_simp; try with_reducible rfl)
        try simp only [Act.put, List.setIfInBounds_toArray, List.set_cons_zero, List.set_cons_succ]
        refine wpAnyH_ready (rs := [24]) (by kernel_rfl) (by simp) ?_
        refine (AllReadyH.cons (o := { dst := none, op := _, type := _, pos := _, after := _, guard := _ }) rfl (fun Qc hQc => ?_) AllReadyH.nil)
        rw [if_pos (by rfl)]
        refine wp_store_mid 67 (.tmp 40) (.tmp 29) rfl g (a * 128) (u8s o).toArray rfl rfl (there_page KG.out HP.out HAL.out HO.out) OI2.out (u8s_all1 _) ?_
        have OG2 : Hid (OnlyS (fun j => j = g ∨ j = h) W (x0.setCells g (a * 128) (u8s o))) := OnlyS.setCells _ OG.out (.inl (.inl rfl)) _
        have KP2 : Hid (KeepsOthers W (x0.setCells g (a * 128) (u8s o))) := KP.out.trans (KeepsOthers.setCells _ _ _)
        have KG2 : Hid (Blk (x0.setCells g (a * 128) (u8s o)) g 67 (pcs (P.set a o)).toArray) := page_put KG.out HP.out HAL.out HO.out
        have KH2 : Hid (Blk (x0.setCells g (a * 128) (u8s o)) h 69 C) := KH.out.farCells NE.out.2.2.symm _ _
        have Gx3 : Hid (WT w.heap.size b g n h k (a : Nat) (x0.setCells g (a * 128) (u8s o))) := wt_cells Gx0.out NE.out.1 NE.out.2.1 NE.out.2.2.symm _ _
        refine hQc.out _ _ Gx3 (fun hHeld => ?_)
        clear hQc Qc hHeld Gx0 KG KH OG KP
        change wpAnyH _ _ _ _ _ _ _ _ (x0.setCells g (a * 128) (u8s o))
        generalize x0.setCells g (a * 128) (u8s o) = x3 at Gx3 KG2 KH2 OG2 KP2 ⊢
        have KG := KG2; have KH := KH2; have OG := OG2; have KP := KP2
        clear KG2 KH2 OG2 KP2
        try simp only [Act.put, List.setIfInBounds_toArray, List.set_cons_zero, List.set_cons_succ]
        refine wpAnyH_take (i := 25) (oi := { dst := some 41, op := _, type := _, pos := _, after := _, guard := _ }) (v := ?_) rfl (by kernel_rfl) (by kernel_rfl) (by kernel_rfl) (fun _ _ _ h => h) (Or.inl ⟨by kernel_rfl, ?_⟩) Gx3 ?_
        rotate_left
        · (intro w hSw; go_simp; try with_reducible rfl)
        try simp only [Act.put, List.setIfInBounds_toArray, List.set_cons_zero, List.set_cons_succ]
        refine wpAnyH_take (i := 26) (oi := { dst := some 42, op := _, type := _, pos := _, after := _, guard := _ }) (v := ?_) rfl (by kernel_rfl) (by kernel_rfl) (by kernel_rfl) (fun _ _ _ h => h) (Or.inl ⟨by kernel_rfl, ?_⟩) Gx3 ?_
        rotate_left
        · (intro w hSw; go_simp; try with_reducible rfl)
        try simp only [Act.put, List.setIfInBounds_toArray, List.set_cons_zero, List.set_cons_succ]
        refine wpAnyH_ready (rs := [27]) (by kernel_rfl) (by simp) ?_
        refine (AllReadyH.cons (o := { dst := none, op := _, type := _, pos := _, after := _, guard := _ }) rfl (fun Qc hQc => ?_) AllReadyH.nil)
        rw [if_pos (by rfl)]
        refine wp_store_mid 67 (.tmp 42) (.tmp 39) rfl h (k * 129 + 1) (u8s p).toArray rfl rfl (row_there KH.out HT.out HU.out HK.out HPL.out) PI2.out (u8s_all1 _) ?_
        have OG2 : Hid (OnlyS (fun j => j = g ∨ j = h) W (x3.setCells h (k * 129 + 1) (u8s p))) := OnlyS.setCells _ OG.out (.inl (.inr rfl)) _
        have KP2 : Hid (KeepsOthers W (x3.setCells h (k * 129 + 1) (u8s p))) := KP.out.trans (KeepsOthers.setCells _ _ _)
        obtain ⟨C2, kh2, hs2, ht2⟩ := row_put KH.out HT.out HS.out HU.out HUL.out HK.out HPL.out
        have KG2 : Hid (Blk (x3.setCells h (k * 129 + 1) (u8s p)) g 67 (pcs (P.set a o)).toArray) := KG.out.farCells NE.out.2.2 _ _
        have KH2 := hid kh2
        have HS2 : Hid (C2.size = c * 129) := hs2.trans HCS.out
        have HT2 := hid ht2
        have Gx4 : Hid (WT w.heap.size b g n h k (a : Nat) (x3.setCells h (k * 129 + 1) (u8s p))) := wt_put Gx3.out NE2.out.1 NE2.out.2 _
        refine hQc.out _ _ Gx4 (fun hHeld => ?_)
        clear hQc Qc hHeld Gx3 KG KH OG KP kh2 hs2 ht2
        change wpAnyH _ _ _ _ _ _ _ _ (x3.setCells h (k * 129 + 1) (u8s p))
        generalize x3.setCells h (k * 129 + 1) (u8s p) = x4 at Gx4 KG2 KH2 OG2 KP2 ⊢
        have KG := KG2; have KH := KH2; have OG := OG2; have KP := KP2
        clear KG2 KH2 OG2 KP2
        try simp only [Act.put, List.setIfInBounds_toArray, List.set_cons_zero, List.set_cons_succ]
        refine wpAnyH_done (by kernel_rfl) ?_ _
        try simp only [Act.put, List.setIfInBounds_toArray, List.set_cons_zero, List.set_cons_succ]
        exact ⟨C2, KG.out, KH.out, HS2.out, HT2.out, OG.out, KP.out⟩

    · rintro a' w' ⟨C2, kg2, kh2, hs2, ht2, og2, kp2⟩
      refine ⟨kp2, ⟨og2.size, fun hl => og2.block _ hl (fun e => e.elim LBX.out.1 LBX.out.2), fun h' hA C' hC' => ?_⟩, ⟨?_, ?_, ?_, ?_, ?_⟩⟩
      · injection hA with hA
        have e : h = h' := congrArg Addr.block hA
        subst e
        exact ⟨C2, kh2, by rw [hs2, (hC'.inj KH.out).2, HCS.out]⟩
      · exact KX.out.same (og2.block _ KX.out.lt (fun e => e.elim NE.out.1 NE2.out.1))
      · exact KB.out.same (og2.block _ KB.out.lt (fun e => e.elim NE.out.2.1 NE2.out.2))
      · rw [HSN.out, HSW.out]; exact kg2
      · rw [HSN.out, HSW.out]
        have hq2 : QOk n (U.set k (a, p)) := by
          have := (sw_ok (S := (P, U)) HP.out HU.out HPN.out k).2.1
          rw [HSW.out] at this
          exact this
        refine ⟨by rw [wcs_len hq2, List.length_set, HUL.out, Nat.mul_comm], .inr ⟨h, c, C2, rfl, Nat.zero_le _, kh2, HNC.out, HCM.out, hs2, ht2⟩⟩
      · exact ON.out.trans (og2.mono (fun j _ hj => by rcases hj with rfl | rfl; exact R2'.out; exact R3'.out))
  case done =>
    rintro D' ys W hD hys hI hK
    have hkb := hI.kb; have hkg := hI.kg; have hkw := hI.kw; have hos := hI.os
    rw [hys] at hkg hkw
    have KB := hid hkb; have KG := hid hkg; have KW := hid hkw; have ON := hid hos; have HK := hid hK
    have HD : Hid (w2.heap.size ≤ D') := hD
    clear hI hkb hkg hkw hos hK hys hD
    go_wp2
    refine ⟨by simp, .inl ⟨_, _, rfl, run_takeDeferred HK.out, ?_⟩⟩
    have hg := grownBy_putObj' W D' (.deferred none)
    have hr : ∀ r, some D' = some r → ∃ o : Obj, W.heap[r]? = some o ∧ o.isCells = false := fun r e => by cases e; exact ⟨_, HK.out, rfl⟩
    obtain rfl := HW0.out
    exact ⟨_, results_none rfl _ _ _, rfl, KB.out.own hg hr, KG.out.own hg hr, own_own KW.out hg hr, ON.out.grown hg (fun k e => by cases e; right; have := HD.out; rw [S2.out] at this; omega)⟩
  case stop =>
    rintro D c pre W _ _ h _
    exact h.elim
end Go.Proofs.Ytjdojnbpchommaa
