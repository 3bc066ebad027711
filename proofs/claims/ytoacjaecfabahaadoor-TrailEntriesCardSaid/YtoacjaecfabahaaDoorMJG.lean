/-
  What is proved here: two ranges joined, as the document joins them.
-/
import Derived.Test.YtoacjaecfabahaaDoorMF4
import Derived.Test.YtoacjaecfabahaaDoorMF5
import Derived.Test.YtoacjaecfabahaaDoorMJM
import Derived.Test.YtoacjaecfabahaaDoorMFOh
set_option linter.unusedSimpArgs false
set_option linter.unusedVariables false
namespace Go.Proofs.YtoacjaecfabahaaDoor
open Go.ChangeShapes Go.WideShapes Go.ChangeAt Go.RowKit
set_option linter.unusedVariables false
set_option linter.unusedSimpArgs false
set_option maxRecDepth 20000

theorem g3rng (w : World) (a b c : Array Value) (t : TypeId) : Blk (((w.alloc (.cells a t)).alloc (.cells b t)).alloc (.cells c t)) w.heap.size t a ∧ Blk (((w.alloc (.cells a t)).alloc (.cells b t)).alloc (.cells c t)) (w.heap.size + 1) t b ∧ Blk (((w.alloc (.cells a t)).alloc (.cells b t)).alloc (.cells c t)) (w.heap.size + 1 + 1) t c ∧ Below w.heap.size w (((w.alloc (.cells a t)).alloc (.cells b t)).alloc (.cells c t)) := f3blks w a b c t t t
set_option maxHeartbeats 8000000 in
theorem gJoin_no {w : World} {a b a' b' : Int} {A B : Option Addr} {n m c d : Nat} (hn : n < 1000000) (hm : m < 1000000) (h : jn a b a' b' n m = false) :
    Calls Tryd.prog 21 #[.agg (rgc a b (.slice A n c)), .agg (rgc a' b' (.slice B m d))] w (RgNo w) := by
  obtain ⟨k1, k2, k3, b1⟩ := g3rng w (rgc a b (.slice A n c)) (rgc a' b' (.slice B m d)) (rgc 0 0 (.slice none 0 0)) 29
  have K1 := hid k1; have K2 := hid k2; have K3 := hid k3; have B1 := hid b1
  have hz := zero_gRng
  have HI := hid (info_gRng 0 0 (.slice none 0 0))
  have HI1 := hid (info_gRng a b (.slice A n c))
  have HI2 := hid (info_gRng a' b' (.slice B m d))
  have CF1 := hid (fun (w1 : World) (hb : Below w.heap.size w w1) => gFormed_any a b A n c w1 hn)
  have CF2 := hid (fun (w1 : World) (hb : Below w.heap.size w w1) => gFormed_any a' b' B m d w1 hm)
  unfold jn at h
  clear k1 k2 k3 b1
  unfold RgNo
  by_cases h1 : frm a b n = true
  · by_cases h2 : frm a' b' m = true
    · have h3 : ¬ b = a' := by rw [h1, h2] at h; simpa using h
      rw [h1] at CF1
      rw [h2] at CF2
      have hbb : (b != a') = true := by simpa using h3
      clear h h1 h2
      go_enter Tryd.func21, Tryd.ntmps21
      go_wp2_with (first
        | (refine load_at rfl 29 (.tmp 2) rfl w.heap.size 0 rfl _ _ (gblk_rng K1.out) Tryd.underlying29 rfl HI1.out (rgc a b (.slice A n c)) rfl ?_)
        | (refine load_at rfl 29 (.tmp 3) rfl (w.heap.size + 1) 0 rfl _ _ (gblk_rng Q2.out) Tryd.underlying29 rfl HI2.out (rgc a' b' (.slice B m d)) rfl ?_)
        | (go_at_call 23; first
            | (refine (CF1.out _ B1.out).mono ?_; clear CF1; rintro e w1 ⟨rfl, hb1⟩; have B2 := hid (B1.out.trans (hb1.mono B1.out.size)); have Q2 := hid (K2.out.below hb1); have Q1 := hid (K1.out.below hb1); have Q3 := hid (K3.out.below hb1); clear hb1)
            | (refine (CF2.out _ B2.out).mono ?_; clear CF2; rintro e w2 ⟨rfl, hb2⟩; have B3 := hid (B2.out.trans (hb2.mono B2.out.size)); have R2 := hid (Q2.out.below hb2); have R1 := hid (Q1.out.below hb2); have R3 := hid (Q3.out.below hb2); have cc1 : w2.cell? ⟨w.heap.size, 1, none⟩ = some (.int .i64 b) := R1.out.cell 1; have cc2 : w2.cell? ⟨w.heap.size + 1, 0, none⟩ = some (.int .i64 a') := R2.out.cell 0; clear hb2))
        | (refine wpList_store_row rfl 29 (.tmp 4) (.tmp 24) rfl (w.heap.size + 1 + 1) (rgc 0 0 (.slice none 0 0)) rfl rfl 29 (rgc 0 0 (.slice none 0 0)) R3.out HI.out rfl (rgc_ones _ _ rfl) ?_))
      try go_frame
      refine bodyPost_ret (results_cell_slot Tryd.results21 _ _ (w.heap.size + 1 + 1) 29 (rgc 0 0 (.slice none 0 0)) (0, 0) _ rfl (R3.out.row _) Tryd.underlying29 rfl HI.out) rfl ?_
      exact ⟨rfl, below_setRow B3.out (by omega) _⟩
    · have h2' : frm a' b' m = false := by simpa using h2
      rw [h1] at CF1
      rw [h2'] at CF2
      clear h h1 h2 h2'
      go_enter Tryd.func21, Tryd.ntmps21
      go_wp2_with (first
        | (refine load_at rfl 29 (.tmp 2) rfl w.heap.size 0 rfl _ _ (gblk_rng K1.out) Tryd.underlying29 rfl HI1.out (rgc a b (.slice A n c)) rfl ?_)
        | (refine load_at rfl 29 (.tmp 3) rfl (w.heap.size + 1) 0 rfl _ _ (gblk_rng Q2.out) Tryd.underlying29 rfl HI2.out (rgc a' b' (.slice B m d)) rfl ?_)
        | (go_at_call 23; first
            | (refine (CF1.out _ B1.out).mono ?_; clear CF1; rintro e w1 ⟨rfl, hb1⟩; have B2 := hid (B1.out.trans (hb1.mono B1.out.size)); have Q2 := hid (K2.out.below hb1); have Q3 := hid (K3.out.below hb1); clear hb1)
            | (refine (CF2.out _ B2.out).mono ?_; clear CF2; rintro e w2 ⟨rfl, hb2⟩; have B3 := hid (B2.out.trans (hb2.mono B2.out.size)); have R3 := hid (Q3.out.below hb2); clear hb2))
        | (refine wpList_store_row rfl 29 (.tmp 4) (.tmp 24) rfl (w.heap.size + 1 + 1) (rgc 0 0 (.slice none 0 0)) rfl rfl 29 (rgc 0 0 (.slice none 0 0)) R3.out HI.out rfl (rgc_ones _ _ rfl) ?_))
      try go_frame
      refine bodyPost_ret (results_cell_slot Tryd.results21 _ _ (w.heap.size + 1 + 1) 29 (rgc 0 0 (.slice none 0 0)) (0, 0) _ rfl (R3.out.row _) Tryd.underlying29 rfl HI.out) rfl ?_
      exact ⟨rfl, below_setRow B3.out (by omega) _⟩
  · have h1' : frm a b n = false := by simpa using h1
    rw [h1'] at CF1
    clear h h1 h1' CF2
    go_enter Tryd.func21, Tryd.ntmps21
    go_wp2_with (first
      | (refine load_at rfl 29 (.tmp 2) rfl w.heap.size 0 rfl _ _ (gblk_rng K1.out) Tryd.underlying29 rfl HI1.out (rgc a b (.slice A n c)) rfl ?_)
      | (go_at_call 23; refine (CF1.out _ B1.out).mono ?_; clear CF1; rintro e w1 ⟨rfl, hb1⟩; have B2 := hid (B1.out.trans (hb1.mono B1.out.size)); have Q3 := hid (K3.out.below hb1); clear hb1)
      | (refine wpList_store_row rfl 29 (.tmp 4) (.tmp 24) rfl (w.heap.size + 1 + 1) (rgc 0 0 (.slice none 0 0)) rfl rfl 29 (rgc 0 0 (.slice none 0 0)) Q3.out HI.out rfl (rgc_ones _ _ rfl) ?_))
    try go_frame
    refine bodyPost_ret (results_cell_slot Tryd.results21 _ _ (w.heap.size + 1 + 1) 29 (rgc 0 0 (.slice none 0 0)) (0, 0) _ rfl (Q3.out.row _) Tryd.underlying29 rfl HI.out) rfl ?_
    exact ⟨rfl, below_setRow B2.out (by omega) _⟩
theorem al_exp : ∀ {E : List Nat} {a b : Nat}, Al a E b → b ≤ 2147483647 → ∀ m ∈ E, m ≤ 30
  | [], _, _, _, _, m, hm => by cases hm
  | k :: E, a, b, h, hb, m, hm => by
    rcases List.mem_cons.1 hm with rfl | hm
    · have := al_le h.2
      refine Nat.le_of_not_lt fun hc => ?_
      have := pow_mono2 (show 31 ≤ m from hc)
      omega
    · exact al_exp h.2 hb m hm
def mJ (s6 s8 : Value) : Nat := 2 * lenOf s6 + (if 0 ≤ intOf s8 then 1 else 0)
/-- the document's Join at work -/
structure JnI (w : World) (x z : Nat) (c1 c2 : Array Value) (v6 : Value) (E : List Nat) (v7 : Value) (H : List (List Int)) (W : World) : Prop where
  ka : Blk W w.heap.size 29 c1
  kb : Blk W (w.heap.size + 1) 29 c2
  kr : Blk W (w.heap.size + 1 + 1) 29 (rgc 0 0 (.slice none 0 0))
  oi : OwI w.heap.size W v6 (szs E)
  oh : OwH w.heap.size W v7 H
  bl : Below w.heap.size w W
  al : Al x E z
  le : H.length = E.length
section
variable {w a b : World} {x z : Nat} {c1 c2 : Array Value} {v6 v7 : Value} {E : List Nat} {H : List (List Int)}
theorem JnI.below (h : JnI w x z c1 c2 v6 E v7 H a) (hb : Below a.heap.size a b) : JnI w x z c1 c2 v6 E v7 H b :=
  ⟨h.ka.below hb, h.kb.below hb, h.kr.below hb, h.oi.below hb, h.oh.below hb, h.bl.trans (hb.mono h.bl.size), h.al, h.le⟩
theorem md_len {x i : Nat} {E : List Nat} (hf : fstM x E = some i) : (mdE E i).length + 1 = E.length ∧ i + 1 < E.length := by
  obtain ⟨A, m, B, hE, hAl, hd⟩ := fstM_some hf
  have e1 : mdE E i = A ++ (m + 1) :: B := by rw [hE, ← hAl]; exact mdE_mid A B m m
  refine ⟨?_, ?_⟩
  · rw [e1, hE]; simp; omega
  · rw [hE, ← hAl]; simp; try omega
theorem JnI.made {v1 v2 : Value} {i : Nat} (h : JnI w x z c1 c2 v6 E v7 H a) (hf : fstM x E = some i) (ho : OwI a.heap.size b v1 (szs (mdE E i))) (hh : OwH a.heap.size b v2 (mdL ndF [] H i)) (hb : Below a.heap.size a b) : JnI w x z c1 c2 v1 (mdE E i) v2 (mdL ndF [] H i) b := by
  obtain ⟨A, m, B, hE, hAl, hd⟩ := fstM_some hf
  have hal := h.al
  rw [hE] at hal
  have e1 : mdE E i = A ++ (m + 1) :: B := by rw [hE, ← hAl]; exact mdE_mid A B m m
  have hlen : H.length = A.length + (B.length + 2) := by rw [h.le, hE]; simp
  obtain ⟨LA, g, k, LB, hL, hLA, hLB⟩ := split_mid hlen
  have e2 : mdL ndF [] H i = LA ++ ndF g k :: LB := by rw [hL]; exact mdL_mid ndF [] LA LB g k (by rw [hLA]; exact hAl)
  refine ⟨h.ka.below hb, h.kb.below hb, h.kr.below hb, OwI.weak ho h.bl.size, hh.weak h.bl.size, h.bl.trans (hb.mono h.bl.size), by rw [e1]; exact al_mid hal hd, ?_⟩
  rw [e1, e2]; simp [hLA, hLB]
end
theorem joinHs_some {x : Nat} {E : List Nat} {H : List (List Int)} {i : Nat} (hf : fstM x E = some i) (hl : (mdE E i).length + 1 = E.length) : joinHs ndF [] x E H = joinHs ndF [] x (mdE E i) (mdL ndF [] H i) := by
  unfold joinHs
  rw [← hl]
  rw [joinH, hf]
theorem joinHs_none {x : Nat} {E : List Nat} {H : List (List Int)} (hf : fstM x E = none) : joinHs ndF [] x E H = H := by
  unfold joinHs
  cases hl : E.length with
  | zero => rfl
  | succ n =>
    rw [joinH, hf]
set_option maxHeartbeats 16000000 in
theorem gJoin_yes {w : World} {x y z : Nat} {A B : Option Addr} {n m c d : Nat} {L M : List (List Int)} (hL : InH w A n L) (hM : InH w B m M) (hnc : n ≤ c) (hmd : m ≤ d) (hxy : x ≤ y) (hyz : y ≤ z) (hz : z ≤ 2147483647) (hn : n = (seg x y).length) (hm : m = (seg y z).length) :
    Calls Tryd.prog 21 #[.agg (rgc (x : Int) (y : Int) (.slice A n c)), .agg (rgc (y : Int) (z : Int) (.slice B m d))] w (RgYes w (x : Int) (z : Int) (joinHs ndF [] x (seg x y ++ seg y z) (L ++ M))) := by
  obtain ⟨k1, k2, k3, b1⟩ := g3rng w (rgc (x : Int) (y : Int) (.slice A n c)) (rgc (y : Int) (z : Int) (.slice B m d)) (rgc 0 0 (.slice none 0 0)) 29
  have K1 := hid k1; have K2 := hid k2; have K3 := hid k3; have B1 := hid b1
  have hn62 : n ≤ 62 := by rw [hn]; exact seg_few (by omega)
  have hm62 : m ≤ 62 := by rw [hm]; exact seg_few (by omega)
  have hLl := hL.1; have hMl := hM.1
  have hz0 := zero_gRng
  have HI1 := hid (info_gRng (x : Int) (y : Int) (.slice A n c))
  have HI2 := hid (info_gRng (y : Int) (z : Int) (.slice B m d))
  have HIR := hid (info_gRng (x : Int) (z : Int))
  have f1 := frm_of hxy (by omega) hn
  have f2 := frm_of hyz hz hm
  have cf1 := fun (w1 : World) => gFormed_any (x : Int) (y : Int) A n c w1 (by omega)
  have cf2 := fun (w1 : World) => gFormed_any (y : Int) (z : Int) B m d w1 (by omega)
  simp only [f1] at cf1
  simp only [f2] at cf2
  have CF1 := hid cf1; have CF2 := hid cf2
  have sgI : ∀ {p q : Nat}, p ≤ q → q ≤ 2147483647 → segI (p : Int) (q : Int) = szs (seg p q) := fun {p q} h1 h2 => by
    unfold segI mayR
    rw [decide_eq_true (by omega : 0 ≤ (p : Int) ∧ (p : Int) ≤ (q : Int) ∧ (q : Int) ≤ 2147483647), if_pos rfl, Int.toNat_natCast, Int.toNat_natCast]
  have cs1 := fun (w1 : World) => gSegs_any (x : Int) (y : Int) w1
  have cs2 := fun (w1 : World) => gSegs_any (y : Int) (z : Int) w1
  simp only [sgI hxy (by omega)] at cs1
  simp only [sgI hyz hz] at cs2
  have CS1 := hid cs1; have CS2 := hid cs2
  have hal1 := al_seg (y - x) (Nat.le_refl _) hxy
  have hal2 := al_seg (z - y) (Nat.le_refl _) hyz
  have HAL := hid (show Al x (seg x y ++ seg y z) z from al_append.2 ⟨by rw [al_adv hal1]; exact hal1, by rw [al_adv hal1]; exact hal2⟩)
  obtain ⟨E1, hE1⟩ : ∃ E1, E1 = seg x y := ⟨_, rfl⟩
  obtain ⟨E2, hE2⟩ : ∃ E2, E2 = seg y z := ⟨_, rfl⟩
  rw [← hE1] at CS1 HAL hn
  rw [← hE2] at CS2 HAL hm
  rw [← hE1, ← hE2]
  have HE1 := hid hn; have HE2 := hid hm; have HLL := hid hLl; have HML := hid hMl; have HZ := hid hz
  have HN62 := hid hn62; have HM62 := hid hm62
  have HIL := hid hL; have HIM := hid hM
  obtain ⟨R, hR⟩ : ∃ R, R = joinHs ndF [] x (E1 ++ E2) (L ++ M) := ⟨_, rfl⟩
  have HR := hid hR
  rw [← hR]
  clear k1 k2 k3 b1 f1 f2 cf1 cf2 sgI cs1 cs2 hal1 hal2 hE1 hE2 hn hm hLl hMl hn62 hm62 hL hM hR hxy hyz hz
  unfold RgYes
  unfold SgA at CS1 CS2
  go_enter Tryd.func21, Tryd.ntmps21
  go_upto_region 5 with (first
    | (refine load_at rfl 29 (.tmp 2) rfl w.heap.size 0 rfl _ _ (gblk_rng K1.out) Tryd.underlying29 rfl HI1.out (rgc (x : Int) (y : Int) (.slice A n c)) rfl ?_)
    | (refine load_at rfl 29 (.tmp 3) rfl (w.heap.size + 1) 0 rfl _ _ (gblk_rng K2.out) Tryd.underlying29 rfl HI2.out (rgc (y : Int) (z : Int) (.slice B m d)) rfl ?_)
    | (go_at_call 23; first
        | (refine (CF1.out _).mono ?_; clear CF1; rintro e w1 ⟨rfl, hb1⟩; have B2 := hid (B1.out.trans (hb1.mono B1.out.size)); have Q2 := hid (K2.out.below hb1); have Q1 := hid (K1.out.below hb1); have Q3 := hid (K3.out.below hb1); clear hb1 K1 K2 K3 B1; have K2 := Q2; clear Q2)
        | (refine (CF2.out _).mono ?_; clear CF2; rintro e w2 ⟨rfl, hb2⟩; have B3 := hid (B2.out.trans (hb2.mono B2.out.size)); have RB := hid (K2.out.below hb2); have RA := hid (Q1.out.below hb2); have RC := hid (Q3.out.below hb2); have a0 : w2.cell? ⟨w.heap.size, 0, none⟩ = some (.int .i64 (x : Int)) := RA.out.cell 0; have a1 : w2.cell? ⟨w.heap.size, 1, none⟩ = some (.int .i64 (y : Int)) := RA.out.cell 1; have b0 : w2.cell? ⟨w.heap.size + 1, 0, none⟩ = some (.int .i64 (y : Int)) := RB.out.cell 0; clear hb2 Q1 Q3 K2 B2)))
  go_upto_region 6 with (first
    | (go_at_call 41; refine (CS1.out _).mono ?_; rintro e w3 ⟨v3, rfl, ho3, hb3⟩; have O3 := hid ho3; have B4 := hid (B3.out.trans (hb3.mono B3.out.size)); have RA3 := hid (RA.out.below hb3); have RB3 := hid (RB.out.below hb3); have RC3 := hid (RC.out.below hb3); obtain ⟨A3, d3, hv3, _, _⟩ := O3.out.len; generalize hl3 : (szs E1).length = n3 at hv3; have HN3 := hid hl3; subst hv3; have I3 := hid (OwI.in O3.out); clear ho3 hb3 hl3)
    | (at_builtin; refine append_i rfl (.tmp 25) (.tmp 30) rfl w.heap.size (.slice none 0 0) [] rfl (OwI.nil _ _) _ _ _ (szs E1) I3.out rfl (by have := HN62.out; have := HE1.out; have := HN3.out; rw [szs_len] at this; simp; omega) B4.out.size ?_; intro v4 w4 ho hg _; rw [List.nil_append] at ho; have O4 := hid ho; have B5 := hid (B4.out.grown hg B4.out.size (fun k e => ((OwI.nil w.heap.size w3).lt k e).1)); have RA4 := hid (RA3.out.same (hg.block _ RA3.out.lt (fun e => by cases e))); have RB4 := hid (RB3.out.same (hg.block _ RB3.out.lt (fun e => by cases e))); have RC4 := hid (RC3.out.same (hg.block _ RC3.out.lt (fun e => by cases e))); clear ho hg O3 I3))
  have a4x : w4.cell? ⟨w.heap.size + 1, 0, none⟩ = some (.int .i64 (y : Int)) := RB4.out.cell 0
  have a4z : w4.cell? ⟨w.heap.size + 1, 1, none⟩ = some (.int .i64 (z : Int)) := RB4.out.cell 1
  clear a0 a1 b0 RA3 RB3 RC3 RA RB RC B3 B4 CS1
  go_upto_region 7 with (first
    | (go_at_call 41; refine (CS2.out _).mono ?_; rintro e w5 ⟨v5, rfl, ho5, hb5⟩; have O5 := hid ho5; have B6 := hid (B5.out.trans (hb5.mono B5.out.size)); have RA5 := hid (RA4.out.below hb5); have RB5 := hid (RB4.out.below hb5); have RC5 := hid (RC4.out.below hb5); have P5 := hid (O4.out.below hb5); obtain ⟨A5, d5, hv5, _, _⟩ := O5.out.len; generalize hl5 : (szs E2).length = n5 at hv5; have HN5 := hid hl5; subst hv5; have I5 := hid (OwI.in O5.out); clear ho5 hb5 hl5)
    | (at_builtin; refine append_i rfl (.tmp 32) (.tmp 37) rfl w.heap.size v4 (szs E1) rfl P5.out _ _ _ (szs E2) I5.out rfl (by have := HN62.out; have := HE1.out; have := HM62.out; have := HE2.out; have := HN5.out; rw [szs_len] at this ⊢; omega) B6.out.size ?_; intro v6 w6 ho hg _; rw [← szs_app] at ho; have O6 := hid ho; have B7 := hid (B6.out.grown hg B6.out.size (fun k e => (P5.out.lt k e).1)); have gk : ∀ k {t : TypeId} {cs : Array Value}, Blk w5 k t cs → t ≠ 3 → Blk w6 k t cs := (fun k t cs hk ht => hk.same (hg.block _ hk.lt (fun e => by obtain ⟨_, C, hC⟩ := P5.out.ty k e.symm; exact hk.ne hC ht rfl))); have RA6 := hid (gk _ RA5.out (by decide)); have RB6 := hid (gk _ RB5.out (by decide)); have RC6 := hid (gk _ RC5.out (by decide)); clear ho hg gk))
  have a6 : w6.cell? ⟨w.heap.size, 2, none⟩ = some (.slice A n c) := RA6.out.cell 2
  have IL6 := hid (HIL.out.below B7.out)
  clear a4x a4z RA4 RB4 RC4 RA5 RB5 RC5 B5 B6 CS2 O4 P5 O5 I5
  go_upto_region 8 with (first
    | (at_builtin; refine append_h rfl (.tmp 39) (.tmp 41) rfl w.heap.size (.slice none 0 0) [] rfl (OwH.nil _ _) _ _ _ L IL6.out rfl (by have := HN62.out; simp; omega) B7.out.size ?_; intro v7 w7 ho hg _; rw [List.nil_append] at ho; have O7 := hid ho; have P7 := hid (OwI.grown_h O6.out (OwH.nil w.heap.size w6) hg); have B8 := hid (B7.out.grown hg B7.out.size (fun k e => ((OwH.nil w.heap.size w6).lt k e).1)); have RA7 := hid (RA6.out.same (hg.block _ RA6.out.lt (fun e => by cases e))); have RB7 := hid (RB6.out.same (hg.block _ RB6.out.lt (fun e => by cases e))); have RC7 := hid (RC6.out.same (hg.block _ RC6.out.lt (fun e => by cases e))); clear ho hg))
  have a7 : w7.cell? ⟨w.heap.size + 1, 2, none⟩ = some (.slice B m d) := RB7.out.cell 2
  have IM7 := hid (HIM.out.below B8.out)
  clear a6 RA6 RB6 RC6 B7 IL6 O6
  go_upto_region 9 with (first
    | (at_builtin; refine append_h rfl (.tmp 43) (.tmp 45) rfl w.heap.size v7 L rfl O7.out _ _ _ M IM7.out rfl (by have := HN62.out; have := HM62.out; have := HLL.out; omega) B8.out.size ?_; intro v8 w8 ho hg _; have P8 := hid (OwI.grown_h P7.out O7.out hg); have B9 := hid (B8.out.grown hg B8.out.size (fun k e => (O7.out.lt k e).1)); have gk : ∀ k {t : TypeId} {cs : Array Value}, Blk w7 k t cs → t ≠ 33 → Blk w8 k t cs := (fun k t cs hk ht => hk.same (hg.block _ hk.lt (fun e => by obtain ⟨_, C, hC⟩ := O7.out.ty k e.symm; exact hk.ne hC ht rfl))); have PI0 : Hid (JnI w x z (rgc (x : Int) (y : Int) (.slice A n c)) (rgc (y : Int) (z : Int) (.slice B m d)) v6 (E1 ++ E2) v8 (L ++ M) w8) := ⟨gk _ RA7.out (by decide), gk _ RB7.out (by decide), gk _ RC7.out (by decide), P8.out, ho, B9.out, HAL.out, by rw [List.length_append, List.length_append, HLL.out, HML.out, HE1.out, HE2.out]⟩; clear ho hg gk))
  clear a7 RA7 RB7 RC7 B8 B9 P7 P8 O7 IM7
  have HLE := hid (show (E1 ++ E2).length ≤ 124 by rw [List.length_append]; have := HN62.out; have := HM62.out; have := HE1.out; have := HE2.out; omega)
  go_wp2
  go_loopw [6, 7, 8] (fun s6 s7 s8 wr => ∃ (E : List Nat) (H : List (List Int)) (i : Int), s8 = .int .i64 i ∧ (i = -1 ∨ (0 ≤ i ∧ i ≤ 1000)) ∧ Hid (E.length ≤ 124) ∧ Hid (i < 0 → R = H) ∧ Hid (R = joinHs ndF [] x E H) ∧ Hid (JnI w x z (rgc (x : Int) (y : Int) (.slice A n c)) (rgc (y : Int) (z : Int) (.slice B m d)) s6 E s7 H wr)) (fun s6 _ s8 _ => mJ s6 s8)
  case atStart => exact ⟨E1 ++ E2, L ++ M, 0, rfl, .inr ⟨by omega, by omega⟩, HLE.out, (fun h => by omega), HR.out, PI0.out⟩
  case round =>
    obtain ⟨E, H, i, rfl, hi, HEL, HRH, HRJ, PI⟩ := hrel
    clear PI0 HLE
    obtain ⟨A6, d6, hv6, hc6, _⟩ := PI.out.oi.len
    generalize hl6 : (szs E).length = n6 at hv6 hc6
    have hen : E.length = n6 := by rw [← hl6, szs_len]
    subst hv6
    obtain ⟨A7, d7, hv7, hc7, _⟩ := PI.out.oh.len
    have hhn : H.length = n6 := by rw [PI.out.le, hen]
    rw [hhn] at hv7 hc7
    subst hv7
    have hn124 : n6 ≤ 124 := by have := HEL.out; omega
    by_cases hge : 0 ≤ i
    · have a0 : wr.cell? ⟨w.heap.size, 0, none⟩ = some (.int .i64 (x : Int)) := PI.out.ka.cell 0
      have hex := al_exp PI.out.al HZ.out
      have hcf := gFirst_any (a := x) (c := d6) (OwI.in PI.out.oi) (fun m hm => by have := hex m hm; omega) (by rw [al_adv PI.out.al]; have := HZ.out; omega) (by omega)
      have HI := hid (OwI.in PI.out.oi); have HH := hid PI.out.oh.in
      cases hfm : fstM x E with
      | none =>
        rw [hfm] at hcf
        have hcf' : Calls Tryd.prog 50 #[.int .i64 (x : Int), .slice A6 n6 d6] wr fun e w' => e = .returned (.int .i64 (-1)) ∧ Below wr.heap.size wr w' := hcf
        have CF := hid hcf'
        have HRN := hid (show R = H from by rw [HRJ.out, joinHs_none hfm])
        clear hcf hcf' hex hfm hl6 hen hhn
        go_wp2_with (go_at_call 50; refine CF.out.mono ?_; rintro e wx ⟨rfl, hb⟩; have PN := hid (PI.out.below hb); clear hb)
        go_roundw
        case rel => exact ⟨E, H, -1, rfl, .inl rfl, HEL.out, fun _ => HRN.out, HRJ.out, PN.out⟩
        case measure =>
          have e0 : ∀ (q : Int), intOf (.int .i64 q) = q := fun q => rfl
          unfold mJ
          rw [e0, e0, if_pos hge, if_neg (by omega)]; omega
      | some k =>
        rw [hfm] at hcf
        have hcf' : Calls Tryd.prog 50 #[.int .i64 (x : Int), .slice A6 n6 d6] wr fun e w' => e = .returned (.int .i64 (k : Int)) ∧ Below wr.heap.size wr w' := hcf
        have CF := hid hcf'
        obtain ⟨hk0, hk1⟩ := md_len hfm
        have hcm0 := fun (w' : World) (hb : Below wr.heap.size wr w') => gMade_any (c := d6) (d := d7) (E := E) (L := H) (i := k) (w := w') ((OwI.in PI.out.oi).below hb) (PI.out.oh.in.below hb) (fun m hm => by have := hex m hm; omega) hc6 hc7 (by omega) (by omega)
        unfold MdA at hcm0
        have CM := hid hcm0
        have HRN := hid (show R = joinHs ndF [] x (mdE E k) (mdL ndF [] H k) from by rw [HRJ.out]; exact joinHs_some hfm hk0)
        have HML := hid (show (szs (mdE E k)).length + 1 = n6 by rw [szs_len]; omega)
        have HML2 := hid (show (mdE E k).length ≤ 124 by omega)
        have HFM := hid hfm
        have hk9 : (k : Int) ≤ 1000 := by omega
        have hk8 : (0 : Int) ≤ (k : Int) := by omega
        clear hcf hcf' hex hfm hl6 hen hhn hcm0 hk0
        go_wp2_with (first
          | (go_at_call 50; refine CF.out.mono ?_; rintro e wx ⟨rfl, hb⟩; have PN := hid (PI.out.below hb); have BX := hid hb; clear hb)
          | (go_at_call 51; refine (CM.out _ BX.out).mono ?_; rintro e wy ⟨v1, v2, rfl, ho, hh, hb⟩; have PM := hid (PN.out.made HFM.out ho hh hb); obtain ⟨A9, d9, hv9, _, _⟩ := ho.len; generalize hl9 : (szs (mdE E k)).length = n9 at hv9; have HL9 := hid hl9; subst hv9; clear ho hh hb hl9))
        go_roundw
        case rel => exact ⟨mdE E k, mdL ndF [] H k, (k : Int), rfl, .inr ⟨hk8, hk9⟩, HML2.out, (fun h => by omega), HRN.out, PM.out⟩
        case measure =>
          have e0 : ∀ (q : Int), intOf (.int .i64 q) = q := fun q => rfl
          have e1 : ∀ A n d, lenOf (.slice A n d) = n := fun A n d => rfl
          have := HML.out; have := HL9.out
          unfold mJ
          rw [e0, e0, e1, e1, if_pos hge, if_pos hk8]; omega
    · obtain rfl : i = -1 := by omega
      have HRN := hid (HRH.out (by omega))
      have a0 : wr.cell? ⟨w.heap.size, 0, none⟩ = some (.int .i64 (x : Int)) := PI.out.ka.cell 0
      have b1 : wr.cell? ⟨w.heap.size + 1, 1, none⟩ = some (.int .i64 (z : Int)) := PI.out.kb.cell 1
      have KR := hid PI.out.kr
      have BL := hid PI.out.bl
      have HIV := hid (HIR.out (.slice A7 n6 d7))
      have hok : OwH w.heap.size wr (.slice A7 n6 d7) R := by rw [HRN.out]; exact PI.out.oh
      have HOK := hid (hok.keep (w' := wr.setRow (w.heap.size + 1 + 1) (rgc (x : Int) (z : Int) (.slice A7 n6 d7))) (fun k hk => by
        obtain ⟨_, C, hC⟩ := hok.ty k hk
        exact setRow_other _ _ _ _ (hC.ne KR.out (by decide))))
      clear hok hl6 hen hhn
      go_wp2_with (refine wpList_store_row rfl 29 (.tmp 4) (.tmp 67) rfl (w.heap.size + 1 + 1) (rgc (x : Int) (z : Int) (.slice A7 n6 d7)) rfl rfl 29 (rgc 0 0 (.slice none 0 0)) KR.out HIV.out rfl (rgc_ones _ _ rfl) ?_)
      try go_frame
      refine bodyPost_ret (results_cell_slot Tryd.results21 _ _ (w.heap.size + 1 + 1) 29 (rgc (x : Int) (z : Int) (.slice A7 n6 d7)) (0, 0) _ rfl (KR.out.row _) Tryd.underlying29 rfl HIV.out) rfl ?_
      exact ⟨_, rfl, HOK.out, below_setRow BL.out (by omega) _⟩
end Go.Proofs.YtoacjaecfabahaaDoor
