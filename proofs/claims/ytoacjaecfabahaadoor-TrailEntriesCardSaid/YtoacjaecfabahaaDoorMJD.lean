/-
  What is proved here: whether a trail shows an entry, or a growth, as the document tells it, in the code's words.
-/
import Derived.Test.YtoacjaecfabahaaDoorMJC
set_option linter.unusedSimpArgs false
set_option linter.unusedVariables false
namespace Go.Proofs.YtoacjaecfabahaaDoor
open Go.ChangeShapes Go.WideShapes Go.ChangeAt Go.RowKit
set_option linter.unusedVariables false
set_option linter.unusedSimpArgs false
set_option maxRecDepth 20000

/-- what All answers -/
def AlA (w : World) (r s t : R3) (e : Ending) (w' : World) : Prop := e = .returned (.tuple #[hV (allV r s t), .bool (allB r s t)]) ∧ Below w.heap.size w w'
theorem allV_ok {r s t : R3} (hr : ∀ f ∈ r.L, H32 f) (hs : ∀ f ∈ s.L, H32 f) (ht : ∀ f ∈ t.L, H32 f) (h : ∀ f ∈ (j2 (j2 r s) t).L, H32 f) : H32 (allV r s t) := rtV_ok h
theorem j2_few (r s : R3) : (j2 r s).L.length ≤ 62 := jnH_few
set_option maxHeartbeats 16000000 in
theorem gAll_any {w : World} {r s t : R3} {A B C : Option Addr} {n c m d p q : Nat} (h1 : InH w A n r.L) (h2 : InH w B m s.L) (h3 : InH w C p t.L) (hn : n < 1000000) (hm : m < 1000000) (hp : p < 1000000) (hnc : n ≤ c) (hmd : m ≤ d) (hpq : p ≤ q) :
    Calls Tryd.prog 36 #[.agg (rgc r.a r.b (.slice A n c)), .agg (rgc s.a s.b (.slice B m d)), .agg (rgc t.a t.b (.slice C p q))] w (AlA w r s t) := by
  obtain ⟨k1, k2, k3, b1⟩ := g3rng w (rgc r.a r.b (.slice A n c)) (rgc s.a s.b (.slice B m d)) (rgc t.a t.b (.slice C p q)) 29
  obtain ⟨Z, HZ, hZ0, hZs⟩ := zero_Hash
  obtain ⟨w0, hw0⟩ : ∃ w0, w0 = ((w.alloc (.cells (rgc r.a r.b (.slice A n c)) 29)).alloc (.cells (rgc s.a s.b (.slice B m d)) 29)).alloc (.cells (rgc t.a t.b (.slice C p q)) 29) := ⟨_, rfl⟩
  rw [← hw0] at k1 k2 k3 b1
  have hs0 : w0.heap.size = w.heap.size + 1 + 1 + 1 := by rw [hw0]; simp
  have k4 := Blk.new w0 33 Z
  have K1 := hid (k1.alloc (.cells Z 33)); have K2 := hid (k2.alloc (.cells Z 33)); have K3 := hid (k3.alloc (.cells Z 33)); have K4 := hid k4
  have B1 := hid (b1.alloc b1.size (.cells Z 33))
  have l1 := h1.1; have l2 := h2.1; have l3 := h3.1
  have cj1 := fun (w' : World) (hb : Below w.heap.size w w') => gJoin_x (a := r.a) (b := r.b) (a' := s.a) (b' := s.b) (h1.below hb) (h2.below hb) hn hm hnc hmd
  have e1 : jnX r.a r.b s.a s.b n m = (j2 r s).a := by unfold j2; rw [l1, l2]
  have e2 : jnY r.a r.b s.a s.b n m = (j2 r s).b := by unfold j2; rw [l1, l2]
  have e3 : jnH r.a r.b s.a s.b r.L s.L = (j2 r s).L := rfl
  have e4 : (jnQ r.a r.b s.a s.b n m == 0) = j2B r s := by rw [jnQ_iff]; unfold j2B; rw [l1, l2]
  simp only [e1, e2, e3] at cj1
  generalize jnQ r.a r.b s.a s.b n m = q1 at cj1 e4
  have f1 := j2_few r s
  have f2 := j2_few (j2 r s) t
  unfold AlA
  have hres : allB r s t = (q1 == 0 && (j2B (j2 r s) t && rtB (j2 (j2 r s) t).a (j2 (j2 r s) t).b (j2 (j2 r s) t).L.length)) := by rw [e4]; rfl
  rw [hres]
  unfold allV
  obtain ⟨ta, tb, tL⟩ := t
  have h3' : InH w C p tL := h3
  have l3' : tL.length = p := l3
  clear h3 l3
  show Calls Tryd.prog 36 #[.agg (rgc r.a r.b (.slice A n c)), .agg (rgc s.a s.b (.slice B m d)), .agg (rgc ta tb (.slice C p q))] w _
  generalize j2 r s = x at cj1 f1 f2 hres ⊢
  obtain ⟨xa, xb, xL⟩ := x
  have f1' : xL.length ≤ 62 := f1
  have cj2 := fun (w' : World) (hb : Below w.heap.size w w') {A5 : Option Addr} {n5 c5 : Nat} (h5 : InH w' A5 n5 xL) (hc5 : n5 ≤ c5) => gJoin_x (a := xa) (b := xb) (a' := ta) (b' := tb) h5 (h3'.below hb) (show n5 < 1000000 by have := h5.1; omega) hp hc5 hpq
  have g1 : ∀ (n5 : Nat), xL.length = n5 → jnX xa xb ta tb n5 p = (j2 ⟨xa, xb, xL⟩ ⟨ta, tb, tL⟩).a ∧ jnY xa xb ta tb n5 p = (j2 ⟨xa, xb, xL⟩ ⟨ta, tb, tL⟩).b ∧ (jnQ xa xb ta tb n5 p == 0) = j2B ⟨xa, xb, xL⟩ ⟨ta, tb, tL⟩ := fun n5 h => by
    subst h; subst l3'
    exact ⟨rfl, rfl, by rw [jnQ_iff]; rfl⟩
  have g3 : jnH xa xb ta tb xL tL = (j2 ⟨xa, xb, xL⟩ ⟨ta, tb, tL⟩).L := rfl
  simp only [g3] at cj2
  generalize j2B ⟨xa, xb, xL⟩ ⟨ta, tb, tL⟩ = v2 at g1 hres ⊢
  generalize j2 ⟨xa, xb, xL⟩ ⟨ta, tb, tL⟩ = y at cj2 f2 g1 hres ⊢
  obtain ⟨ya, yb, yL⟩ := y
  have f2' : yL.length ≤ 62 := f2
  have CJ1 := hid cj1; have CJ2 := hid cj2; have G1 := hid g1; have F2 := hid f2'; have F1 := hid f1'
  show Calls Tryd.prog 36 #[.agg (rgc r.a r.b (.slice A n c)), .agg (rgc s.a s.b (.slice B m d)), .agg (rgc ta tb (.slice C p q))] w fun e w' => e = .returned (.tuple #[hV (rtV ya yb yL), .bool (q1 == 0 && (v2 && rtB ya yb yL.length))]) ∧ Below w.heap.size w w'
  have hz := zero_gRng
  have HRQ := hid (rtQ_iff ya yb yL.length)
  rw [← HRQ.out]
  obtain ⟨q3, hq3⟩ : ∃ q3, q3 = rtQ ya yb yL.length := ⟨_, rfl⟩
  rw [← hq3]
  have HQ3 := hid hq3
  have HS0 := hid hs0
  clear k1 k2 k3 k4 b1 h1 h2 h3' hn hm hp hnc hmd hpq l1 l2 l3' cj1 cj2 e1 e2 e3 e4 f1 f1' f2 f2' hres g1 g3 hq3 hs0
  unfold OfA at CJ1 CJ2
  go_enter Tryd.func36, Tryd.ntmps36
  go_upto_region 1 with fail
  rw [← hw0]
  generalize w0.alloc (.cells Z 33) = w1 at K1 K2 K3 K4 B1 ⊢
  have HW0 := hid (show w.heap.size ≤ w0.heap.size by rw [HS0.out]; omega)
  rw [← HS0.out]
  clear hw0 HS0
  go_upto_region 2 with (first
    | (with_reducible refine load_g 29 (.tmp 3) rfl ?_; refine load_pl 29 (.tmp 3) rfl rfl (w.heap.size) 0 rfl _ _ (gblk_rng K1.out) Tryd.underlying29 rfl (info_gRng _ _ _) (rgc r.a r.b (.slice A n c)) rfl ?_)
    | (with_reducible refine load_g 29 (.tmp 4) rfl ?_; refine load_pl 29 (.tmp 4) rfl rfl (w.heap.size + 1) 0 rfl _ _ (gblk_rng K2.out) Tryd.underlying29 rfl (info_gRng _ _ _) (rgc s.a s.b (.slice B m d)) rfl ?_)
    | (go_at_call 21; go_loud (have hj := CJ1.out _ B1.out; with_reducible refine hj.mono ?_; clear hj); intro e w3 hq; obtain ⟨A5, n5, c5, he, hi, hc, hb, _⟩ := hq; subst he; have hb' := hb.alloc hb.size (.cells (rgc xa xb (.slice A5 n5 c5)) 29); have KX := hid (Blk.new w3 29 (rgc xa xb (.slice A5 n5 c5))); have IX := hid (hi.below ((Below.refl _ _).alloc (Nat.le_refl _) (.cells (rgc xa xb (.slice A5 n5 c5)) 29))); have B3 := hid (B1.out.trans (hb'.mono B1.out.size)); have K33 := hid (K3.out.below hb'); have K43 := hid (K4.out.below hb'); have HC5 := hid hc; clear hi hc hb hb'))
  have hj2 := CJ2.out _ B3.out IX.out HC5.out
  obtain ⟨g1, g2, g4⟩ := G1.out n5 IX.out.1
  rw [g1, g2] at hj2
  obtain ⟨q2, hq2⟩ : ∃ q2, q2 = jnQ xa xb ta tb n5 p := ⟨_, rfl⟩
  rw [← hq2] at hj2 g4
  have CK := hid hj2; have G4 := hid g4
  clear hj2 g1 g2 g4 hq2 CJ1 CJ2 G1 K1 K2 K3 K4 B1
  go_upto_region 3 with (first
    | (with_reducible refine load_g 29 (.tmp 8) rfl ?_; refine load_pl 29 (.tmp 8) rfl rfl (w3.heap.size) 0 rfl _ _ (gblk_rng KX.out) Tryd.underlying29 rfl (info_gRng _ _ _) (rgc xa xb (.slice A5 n5 c5)) rfl ?_)
    | (with_reducible refine load_g 29 (.tmp 5) rfl ?_; refine load_pl 29 (.tmp 5) rfl rfl (w.heap.size + 1 + 1) 0 rfl _ _ (gblk_rng K33.out) Tryd.underlying29 rfl (info_gRng _ _ _) (rgc ta tb (.slice C p q)) rfl ?_)
    | (go_at_call 21; go_loud (have hj := CK.out; with_reducible refine hj.mono ?_; clear hj); intro e w4 hq; obtain ⟨A7, n7, c7, he, hi, hc, hb, _⟩ := hq; subst he; have hb' := hb.alloc hb.size (.cells (rgc ya yb (.slice A7 n7 c7)) 29); have KY := hid (Blk.new w4 29 (rgc ya yb (.slice A7 n7 c7))); have IY := hid (hi.below ((Below.refl _ _).alloc (Nat.le_refl _) (.cells (rgc ya yb (.slice A7 n7 c7)) 29))); have B4 := hid (B3.out.trans (hb'.mono B3.out.size)); have K44 := hid (K43.out.below hb'); have HC7 := hid hc; clear hi hc hb hb'))
  have hcr := gRoot_x (x := ya) (y := yb) IY.out (by have := F2.out; have := IY.out.1; omega) HC7.out
  unfold RtA at hcr
  rw [← HQ3.out] at hcr
  have CR := hid hcr
  have hro : H32 (rtV ya yb yL) := rtV_ok IY.out.ok
  have HIR := hid (info_hash (rtV ya yb yL) hro.len); have HZR := hid (hz_size HZ hro)
  clear hcr hro CK KX IX K33 K43 B3
  go_upto_region 4 with (first
    | (with_reducible refine load_g 29 (.tmp 10) rfl ?_; refine load_pl 29 (.tmp 10) rfl rfl (w4.heap.size) 0 rfl _ _ (gblk_rng KY.out) Tryd.underlying29 rfl (info_gRng _ _ _) (rgc ya yb (.slice A7 n7 c7)) rfl ?_)
    | (go_at_call 22; go_loud (have hj := CR.out; with_reducible refine hj.mono ?_; clear hj); rintro e w5 ⟨rfl, hb⟩; have hb' := below_setRow (hb.alloc hb.size (.cells Z 33)) hb.size (hc32 (rtV ya yb yL)); have B5 := hid (B4.out.trans (hb'.mono B4.out.size)); have K45 := hid (K44.out.below hb'); have KZ := hid (Blk.new w5 33 Z); have KH := hid (KZ.out.row (hc32 (rtV ya yb yL))); clear hb hb')
    | (refine wpList_store_row rfl 33 (.tmp 12) (.tmp 29) rfl w5.heap.size (hc32 (rtV ya yb yL)) rfl rfl 33 Z KZ.out HIR.out HZR.out (u8s_all _) ?_))
  generalize (w5.alloc (.cells Z 33)).setRow w5.heap.size (hc32 (rtV ya yb yL)) = w6 at B5 K45 KH ⊢
  by_cases hq1 : (q1 == 0) = true
  · by_cases hq2 : (q2 == 0) = true
    · have HD1 := hid hq1; have HD2 := hid hq2
      go_wp2_with (first
        | (refine load_at rfl 33 (.tmp 12) rfl w5.heap.size 0 rfl (u8s (rtV ya yb yL)) _ (blk_row KH.out) Tryd.underlying33 rfl HIR.out (hc32 (rtV ya yb yL)) rfl ?_)
        | (refine wpList_store_row rfl 33 (.tmp 6) (.tmp 31) rfl w0.heap.size (hc32 (rtV ya yb yL)) rfl rfl 33 Z K45.out HIR.out HZR.out (u8s_all _) ?_))
      try go_frame
      refine bodyPost_ret (results_cell_slot Tryd.results36 _ _ w0.heap.size 33 (hc32 (rtV ya yb yL)) (0, 0) _ rfl (K45.out.row _) Tryd.underlying33 rfl HIR.out) rfl ?_
      exact ⟨by rw [← G4.out, HD1.out, HD2.out]; rfl, below_setRow B5.out HW0.out _⟩
    · have hq2' : (q2 == 0) = false := by simpa using hq2
      clear hq2
      have HD1 := hid hq1; have HD2 := hid hq2'
      go_wp2_with (first
        | (refine load_at rfl 33 (.tmp 12) rfl w5.heap.size 0 rfl (u8s (rtV ya yb yL)) _ (blk_row KH.out) Tryd.underlying33 rfl HIR.out (hc32 (rtV ya yb yL)) rfl ?_)
        | (refine wpList_store_row rfl 33 (.tmp 6) (.tmp 31) rfl w0.heap.size (hc32 (rtV ya yb yL)) rfl rfl 33 Z K45.out HIR.out HZR.out (u8s_all _) ?_))
      try go_frame
      refine bodyPost_ret (results_cell_slot Tryd.results36 _ _ w0.heap.size 33 (hc32 (rtV ya yb yL)) (0, 0) _ rfl (K45.out.row _) Tryd.underlying33 rfl HIR.out) rfl ?_
      exact ⟨by rw [← G4.out, HD1.out, HD2.out]; rfl, below_setRow B5.out HW0.out _⟩
  · have hq1' : (q1 == 0) = false := by simpa using hq1
    clear hq1
    have HD1 := hid hq1'
    go_wp2_with (first
      | (refine load_at rfl 33 (.tmp 12) rfl w5.heap.size 0 rfl (u8s (rtV ya yb yL)) _ (blk_row KH.out) Tryd.underlying33 rfl HIR.out (hc32 (rtV ya yb yL)) rfl ?_)
      | (refine wpList_store_row rfl 33 (.tmp 6) (.tmp 31) rfl w0.heap.size (hc32 (rtV ya yb yL)) rfl rfl 33 Z K45.out HIR.out HZR.out (u8s_all _) ?_))
    try go_frame
    refine bodyPost_ret (results_cell_slot Tryd.results36 _ _ w0.heap.size 33 (hc32 (rtV ya yb yL)) (0, 0) _ rfl (K45.out.row _) Tryd.underlying33 rfl HIR.out) rfl ?_
    exact ⟨by rw [HD1.out]; rfl, below_setRow B5.out HW0.out _⟩
end Go.Proofs.YtoacjaecfabahaaDoor
