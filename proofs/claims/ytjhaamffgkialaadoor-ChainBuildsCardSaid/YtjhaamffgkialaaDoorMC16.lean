/-
  What is proved here: all chains grow as the chapter says, or are refused; what is handed in stays: the walk of the statement.
-/
import Derived.Test.YtjhaamffgkialaaDoorMC13
set_option linter.unusedSimpArgs false
set_option linter.unusedVariables false
namespace Go.Proofs.YtjhaamffgkialaaDoor
open Go.ChangeShapes Go.WideShapes Go.ChangeAt Go.RowKit
set_option linter.unusedVariables false
set_option linter.unusedSimpArgs false
set_option maxRecDepth 20000

def erG (r : Bool) : Int := if r then 0 else 1
def mrG (r : Bool) (L : List Vs) : List Vs := if r then L else []
theorem grA_any {w w' : World} {r : Bool} {L : List Vs} {e : Ending} (h : GrA w r L e w') : (∃ A n c, e = .returned (.tuple #[.slice A n c, .int .i64 (erG r)]) ∧ InV w' A n (mrG r L)) ∧ Below w.heap.size w w' := by
  obtain ⟨⟨A, n, c, h1, h2, h3, h4⟩, h5⟩ := h
  refine ⟨⟨A, n, c, h1, ?_⟩, h5⟩
  cases r with
  | false =>
    have h3 : n = 0 := h3
    subst h3
    exact InV.nil _ _
  | true => exact h4
theorem gcs_vc {w : World} {g : Nat} {V : Value} {q : Gw} (h : w.rangeAt g 0 (gcs V q)) (hs : Hh q.s) : w.rangeAt g 0 (u8s q.s) ∧ w.cell? ⟨g, 32, none⟩ = some (.int .i64 q.e) ∧ w.cell? ⟨g, 33, none⟩ = some V := by
  have h1 := crng_sub h
  rw [Nat.zero_add, u8s_length, hs.len] at h1
  exact ⟨crng_sub0 h, h1 0 _ rfl, h1 1 _ rfl⟩
set_option maxHeartbeats 8000000 in
theorem cgrows_walk {A B : Option Addr} {n c m c2 : Nat} {lab : List Int} {L : List Vs} {G : Value} {g : Gw} {w : World} (h : InB w A n c lab) (hc : n ≤ c) (hL : InV w B m L) (hmc : m ≤ c2) (hg : GArg w G g) (ht : Tab w) :
    Calls Tryd.prog 8 #[.slice A n c, .slice B m c2, .agg (gcs G g).toArray] w fun e w' => e = .returned (.bool true) ∧ Below w.heap.size w w' := by
  obtain ⟨hl, hm, hb, hr⟩ := h
  have K0 := Blk.new w 71 (gcs G g).toArray
  have B0 : Hid (Below w.heap.size w (w.alloc (.cells (gcs G g).toArray 71))) := (Below.refl _ _).alloc (Nat.le_refl _) _
  obtain ⟨rs, ce, cv⟩ := gcs_vc (w := w.alloc (.cells (gcs G g).toArray 71)) (g := w.heap.size) (V := G) (q := g) (fun j u hu => by rw [K0.cell, Nat.zero_add, List.getElem?_toArray]; exact hu) hg.s
  obtain ⟨hgs, hge, hgv, Bv, dv, rfl, hdv, hrv⟩ := hg
  have HAW := hid (fun w1 (hb : Below w.heap.size w w1) => chAwake_any w1 (ht.below hb))
  have HFW := hid (fun w1 (hb : Below w.heap.size w w1) => few_any (c := c2) 20 (hL.below hb))
  have LB := hid (fun w1 (hb' : Below w.heap.size w w1) (hn : n ≤ 200) => (⟨hr.belowN hb', hb, by rw [hl]; exact hc, by rw [hl]; omega⟩ : Lbl w1 A c lab))
  have HT := hid (fun w1 (hb : Below w.heap.size w w1) => ht.below hb)
  have RV := hid (fun w1 (hb : Below w.heap.size w w1) => hrv.belowN hb)
  have HL := hid hl; have HIN := hid hL; have HMC := hid hmc
  have LL := hid hL.len
  have HGS := hid hgs; have HGE := hid hge; have HGV := hid hgv; have HDV := hid hdv
  have HSI := hid (hinfo hgs)
  have hmax := hL.max
  obtain ⟨vl, hvl⟩ : ∃ vl, vl = g.v.length := ⟨_, rfl⟩
  have HVL := hid hvl
  obtain ⟨CC, hCC⟩ : ∃ CC, CC = gcs (.slice Bv g.v.length dv) g := ⟨_, rfl⟩
  rw [← hCC] at B0 rs ce cv
  rw [← hCC]
  rw [← hvl] at cv
  have RS := hid rs; have CE := hid ce; have CV := hid cv
  clear hl hb hr hc ht hL hmc K0 rs ce cv hgs hge hgv hdv hrv hvl hCC
  go_enter Tryd.func8, Tryd.ntmps8
  go_upto_region 1 with (fail)
  generalize w.alloc (.cells CC.toArray 71) = w0 at B0 RS CE CV ⊢
  have cv := CV.out
  by_cases hn : 200 < n
  ·
    have hni : (200 : Int) < (n : Int) := by omega
    have tk : True := trivial
    clear cv
    go_wp2_with (first
      | (go_at_call 31; have _t := tk; refine (HAW.out _ B0.out).mono ?_; rintro e w2 ⟨rfl, hb⟩; have B2 := hid (B0.out.trans (hb.mono B0.out.size)); have cv2 := ccell_bel hb CV.out; clear tk hb)
      | (go_at_call 31; refine (HAW.out _ B2.out).mono ?_; rintro e w3 ⟨rfl, hb⟩; have B3 := hid (B2.out.trans (hb.mono B2.out.size)); clear hb))
    go_ret
    exact ⟨rfl, B3.out⟩
  have hni : ¬ (200 : Int) < (n : Int) := by omega
  obtain ⟨fw, hfw⟩ : ∃ fw, fw = fewV L 20 := ⟨_, rfl⟩
  rw [← hfw] at HFW
  have HFWE := hid hfw
  clear hfw
  cases fw with
  | false =>
    have tk : True := trivial
    clear cv
    go_wp2_with (first
      | (go_at_call 31; have _t := tk; refine (HAW.out _ B0.out).mono ?_; rintro e w2 ⟨rfl, hb⟩; have B2 := hid (B0.out.trans (hb.mono B0.out.size)); have cv2 := ccell_bel hb CV.out; clear tk hb)
      | (go_at_call 41; refine (HFW.out _ B2.out).mono ?_; rintro e w9 ⟨rfl, rfl⟩)
      | (go_at_call 31; refine (HAW.out _ B2.out).mono ?_; rintro e w3 ⟨rfl, hb⟩; have B3 := hid (B2.out.trans (hb.mono B2.out.size)); clear hb))
    go_ret
    exact ⟨rfl, B3.out⟩
  | true =>
    obtain ⟨hm20, hvs⟩ := fewV_all HFWE.out.symm (by decide)
    rw [LL.out] at hm20
    have HVS := hid hvs; have HM20 := hid hm20; have HN2 : Hid (n ≤ 200) := by show _ ≤ _; omega
    clear hvs hm20
    by_cases hvb : 200 < vl
    ·
      have hvi : (200 : Int) < (vl : Int) := by omega
      have tk : True := trivial
      clear cv
      go_wp2_with (first
        | (go_at_call 31; have _t := tk; refine (HAW.out _ B0.out).mono ?_; rintro e w2 ⟨rfl, hb⟩; have B2 := hid (B0.out.trans (hb.mono B0.out.size)); have cv2 := ccell_bel hb CV.out; clear tk hb)
        | (go_at_call 41; refine (HFW.out _ B2.out).mono ?_; rintro e w9 ⟨rfl, rfl⟩)
        | (go_at_call 31; refine (HAW.out _ B2.out).mono ?_; rintro e w3 ⟨rfl, hb⟩; have B3 := hid (B2.out.trans (hb.mono B2.out.size)); clear hb))
      go_ret
      exact ⟨rfl, B3.out⟩
    have hvi : ¬ (200 : Int) < (vl : Int) := by omega
    clear cv
    go_upto_region 3 with (first
      | (go_at_call 31; refine (HAW.out _ B0.out).mono ?_; rintro e w2 ⟨rfl, hb⟩; have B2 := hid (B0.out.trans (hb.mono B0.out.size)); have cv := ccell_bel hb CV.out; have RS2 := hid (crng_bel hb RS.out); have CE2 := hid (ccell_bel hb CE.out); have CV2 := hid (ccell_bel hb CV.out); clear hb)
      | (go_at_call 41; refine (HFW.out _ B2.out).mono ?_; rintro e w3 ⟨rfl, rfl⟩))
    clear cv
    have HLL : Hid (L.length ≤ 20) := by show _ ≤ _; rw [LL.out]; exact HM20.out
    have hv300 : ∀ q ∈ L, q.v.length ≤ 300 := fun q hq => by have := HVS.out q hq; omega
    have hvl3 : g.v.length ≤ 200 := by rw [← HVL.out]; omega
    have HV3 := hid hv300; have HVL3 := hid hvl3
    have hm := HM20.out
    have CFr := hid (from_any (c := c2) (HIN.out.below B2.out) (by omega))
    unfold OvA at CFr
    clear hv300 hvl3 hni hvi
    go_upto_region 4 with (go_at_call 42; refine CFr.out.mono ?_; rintro e w4 ⟨v8, rfl, ho, hb⟩; have O8 := hid ho; have B4 := hid (B2.out.trans (hb.mono B2.out.size)); have RS4 := hid (crng_bel hb RS2.out); have ce := ccell_bel hb CE2.out; have cv := ccell_bel hb CV2.out; clear ho hb)
    obtain ⟨A8, c8, hv8, hc8, hin8⟩ := O8.out.any (by have := HLL.out; omega)
    rw [LL.out] at hv8 hc8 hin8
    subst hv8
    have I8 := hid hin8
    have CE4 := hid ce; have CV4 := hid cv
    obtain ⟨L', hL'⟩ : ∃ L', L' = L ++ [gw g.s lab L g.e g.v] := ⟨_, rfl⟩
    have CG1 := grow_any (c2 := c8) (cv := dv) (LB.out _ B4.out HN2.out) hin8 HV3.out (by omega) HGS.out HGE.out (RV.out _ B4.out) HGV.out (by have := HVL3.out; omega) (HT.out _ B4.out)
    have CG2 := fun x (hb : Below w4.heap.size w4 x) => rgrow_any (c2 := c2) (cv := dv) (LB.out x (B4.out.trans (hb.mono B4.out.size)) HN2.out) (HIN.out.below (B4.out.trans (hb.mono B4.out.size))) HV3.out (by omega) HGS.out HGE.out (RV.out x (B4.out.trans (hb.mono B4.out.size))) HGV.out (by have := HVL3.out; omega) HDV.out
    rw [← hL', HL.out, ← HVL.out] at CG1 CG2
    have HLV : Hid (∀ q ∈ L', q.v.length ≤ 1000) := fun q hq => by
      rw [hL'] at hq
      rcases List.mem_append.1 hq with hq | hq
      · have := HV3.out q hq; omega
      · rw [List.mem_singleton.1 hq]; have := HVL3.out; show g.v.length ≤ 1000; omega
    have HLN : Hid (L'.length ≤ 21) := by show _ ≤ _; rw [hL', List.length_append, List.length_singleton]; have := HLL.out; omega
    have HLV1 : Hid (∀ q ∈ L, q.v.length ≤ 1000) := fun q hq => by have := HVS.out q hq; omega
    generalize okF (cm lab) n L' = r at CG1 CG2
    have CG1 := hid CG1; have CG2 := hid CG2
    clear hL' O8 CFr hin8 hm hc8
    have HMV : Hid (∀ q ∈ mrG r L', q.v.length ≤ 1000) := fun q hq => by
      unfold mrG at hq
      cases r with
      | false => simp at hq
      | true => exact HLV.out q hq
    have HMN : Hid ((mrG r L').length ≤ 21) := by
      show _ ≤ _
      unfold mrG
      cases r with
      | false => simp
      | true => exact HLN.out
    go_upto_region 5 with (first
      | (refine wpList_load_mid rfl 26 (.tmp 34) rfl w.heap.size 0 rfl (u8s g.s) _ RS4.out Tryd.underlying26 rfl HSI.out ?_)
      | (go_at_call 51; refine CG1.out.mono ?_; intro e w5 hgr; obtain ⟨⟨A5, n5, c5, rfl, hin5⟩, hb5⟩ := grA_any hgr; have I5 := hid hin5; have B5 := hid hb5; have RS5 := hid (crng_bel hb5 RS4.out); have ce5 := ccell_bel hb5 CE4.out; have cv5 := ccell_bel hb5 CV4.out; clear hgr hin5 hb5 ce cv))
    go_upto_region 6 with (first
      | (refine wpList_load_mid rfl 26 (.tmp 46) rfl w.heap.size 0 rfl (u8s g.s) _ RS5.out Tryd.underlying26 rfl HSI.out ?_)
      | (go_at_call 52; refine (CG2.out _ B5.out).mono ?_; intro e w6 hgr; obtain ⟨⟨A6, n6, c6, rfl, hin6⟩, hb6⟩ := grA_any hgr; have I6 := hid hin6; have B6 := hid (B5.out.trans (hb6.mono B5.out.size)); have I56 := hid (I5.out.below hb6); clear hgr hin6 hb6 ce5 cv5))
    clear CG1 CG2 RS5 RS4 CE4 CV4 I5
    generalize erG r = er
    generalize mrG r L' = M at I6 I56 HMV HMN
    have n56 := I56.out.len; have n66 := I6.out.len
    have T1 := hid (to_any (c := c5) I56.out (by have := HMN.out; omega))
    unfold OvA at T1
    have I8x := hid (fun x (hb : Below w4.heap.size w4 x) => to_any (c := c8) (I8.out.below hb) (by have := HM20.out; omega))
    unfold OvA at I8x
    have HNM : Hid (M.length ≤ 1000000) := by have := HMN.out; show _ ≤ _; omega
    have HNL : Hid (L.length ≤ 1000000) := by have := HLL.out; show _ ≤ _; omega
    have HBB := hid (fun x (hb : Below w4.heap.size w4 x) => B4.out.trans (hb.mono B4.out.size))
    have tk : True := trivial
    clear n56 n66
    go_wp2_with (first
      | (go_at_call 48; have _t := tk; refine T1.out.mono ?_; rintro e w7 ⟨v7, rfl, ho, hb⟩; have I67 := hid (I6.out.below hb); have B7 := hid (B6.out.trans (hb.mono B6.out.size)); have OX := hid (ho.any HNM.out); clear tk ho hb; obtain ⟨A7, c7, hv7, hc7, hin7⟩ := OX.out; have I7 := hid hin7; clear OX hc7 hin7; subst hv7; have CS1 := hid (sameV_any (c := c7) (d := c6) I7.out I67.out HMV.out HMV.out))
      | (go_at_call 47; refine CS1.out.mono ?_; rintro e w8 ⟨rfl, hb⟩; have B8 := hid (B7.out.trans (hb.mono B7.out.size)); clear hb CS1)
      | (go_at_call 48; refine (I8x.out _ B8.out).mono ?_; rintro e w9 ⟨v9, rfl, ho, hb⟩; have B9 := hid (B8.out.trans (hb.mono B8.out.size)); have OX := hid (ho.any HNL.out); clear ho hb; obtain ⟨A9, c9, hv9, hc9, hin9⟩ := OX.out; have I9 := hid hin9; clear OX hc9 hin9; subst hv9; have CS2 := hid (sameV_any (c := c9) (d := c2) I9.out (HIN.out.below (HBB.out _ B9.out)) HLV1.out HLV1.out))
      | (go_at_call 47; refine CS2.out.mono ?_; rintro e w10 ⟨rfl, hb⟩; have B10 := hid (B9.out.trans (hb.mono B9.out.size)); clear hb))
    go_ret
    exact ⟨by simp, HBB.out _ B10.out⟩
end Go.Proofs.YtjhaamffgkialaaDoor
