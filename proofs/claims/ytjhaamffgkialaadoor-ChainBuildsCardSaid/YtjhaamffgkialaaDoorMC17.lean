/-
  What is proved here: what grows, whatever comes, is formed, and its first versions up to an epoch are those that were put till then: the walk of the statement.
-/
import Derived.Test.YtjhaamffgkialaaDoorMC16
set_option linter.unusedSimpArgs false
set_option linter.unusedVariables false
namespace Go.Proofs.YtjhaamffgkialaaDoor
open Go.ChangeShapes Go.WideShapes Go.ChangeAt Go.RowKit
set_option linter.unusedVariables false
set_option linter.unusedSimpArgs false
set_option maxRecDepth 20000

theorem grA_no {w w' : World} {L : List Vs} {e : Ending} (h : GrA w false L e w') : e = .returned (.tuple #[.slice none 0 0, .int .i64 1]) ∧ Below w.heap.size w w' := by
  obtain ⟨⟨A, n, c, h1, h2, h3, h4⟩, h5⟩ := h
  have h3 : n = 0 := h3
  obtain ⟨h6, h7⟩ : A = none ∧ c = 0 := h4
  subst h3 h6 h7
  exact ⟨h1, h5⟩
theorem grA_yes {w w' : World} {L : List Vs} {e : Ending} (h : GrA w true L e w') : (∃ A n c, e = .returned (.tuple #[.slice A n c, .int .i64 0]) ∧ n ≤ c ∧ n = L.length ∧ InV w' A n L) ∧ Below w.heap.size w w' := by
  obtain ⟨⟨A, n, c, h1, h2, h3, h4⟩, h5⟩ := h
  exact ⟨⟨A, n, c, h1, h2, h3, h4⟩, h5⟩
theorem gcs_at {w : World} {g o : Nat} {V : Value} {q : Gw} (h : w.rangeAt g o (gcs V q)) (hs : Hh q.s) : w.cell? ⟨g, o + 32, none⟩ = some (.int .i64 q.e) ∧ w.cell? ⟨g, o + 33, none⟩ = some V := by
  have h1 := crng_sub h
  rw [u8s_length, hs.len] at h1
  exact ⟨h1 0 _ rfl, h1 1 _ rfl⟩
/-- the chain so far -/
structure ChS (w : World) (A : Option Addr) (n c k : Nat) (L : List Vs) : Prop where
  inv : InV w A n L
  cap : n ≤ c
  few : n ≤ k
  v : ∀ q ∈ L, q.v.length ≤ 200
theorem ChS.below {w w' : World} {A : Option Addr} {n c k : Nat} {L : List Vs} (h : ChS w A n c k L) (hb : Below w.heap.size w w') : ChS w' A n c k L := ⟨h.inv.below hb, h.cap, h.few, h.v⟩
set_option maxHeartbeats 16000000 in
theorem cbuilds_walk {A B : Option Addr} {n c m c2 : Nat} {lab : List Int} {Lg : List Gw} {G : Value} {g : Gw} {w : World} (h : InB w A n c lab) (hc : n ≤ c) (hL : InG w B m Lg) (hg : GArg w G g) (ht : Tab w) :
    Calls Tryd.prog 9 #[.slice A n c, .slice B m c2, .agg (gcs G g).toArray] w fun e w' => e = .returned (.bool true) ∧ Below w.heap.size w w' := by
  obtain ⟨hl, hm, hb, hr⟩ := h
  obtain ⟨Z, HZ, hZ0, hZs⟩ := zero_Hash
  obtain ⟨seed, hsd⟩ : ∃ seed, seed = g.s := ⟨_, rfl⟩
  have hsk : Hh seed := by rw [hsd]; exact hg.s
  have K0 := Blk.new w 71 (gcs G g).toArray
  have B0 : Hid (Below w.heap.size w (w.alloc (.cells (gcs G g).toArray 71))) := (Below.refl _ _).alloc (Nat.le_refl _) _
  have RG : Hid (World.rangeAt (w.alloc (.cells (gcs G g).toArray 71)) w.heap.size 0 (u8s seed)) := by
    rw [hsd]
    exact (gcs_vc (fun j u hu => by rw [K0.cell, Nat.zero_add, List.getElem?_toArray]; exact hu) hg.s).1
  have HSI := hid (hinfo hsk); have HSI2 := hid (info_hash seed hsk.len)
  have hzl : Z.size = 32 := by rw [HZ.out, List.size_toArray, u8s_length]; simp
  have HSZ : Hid (Z.size = (u8s seed).toArray.size) := by show _ = _; rw [hzl, hash_size32 hsk]
  have HAW := hid (fun w1 (hb : Below w.heap.size w w1) => chAwake_any w1 (ht.below hb))
  have LB := hid (fun w1 (hb' : Below w.heap.size w w1) (hn : n ≤ 200) => (⟨hr.belowN hb', hb, by rw [hl]; exact hc, by rw [hl]; omega⟩ : Lbl w1 A c lab))
  have HT := hid (fun w1 (hb : Below w.heap.size w w1) => ht.below hb)
  have HL := hid hl; have HIN := hid hL; have HSK := hid hsk
  have hmax := hL.max
  obtain ⟨ZV, HZV, hzv0, hzvs⟩ : ∃ Z : Array Value, Hid (Z = (vcs (.slice none 0 0) vZ).toArray) ∧ (¬ Z = #[]) ∧ ∀ w : World, Sem.run Tryd.prog (zeroValue 75) w = Result.ok (.agg Z) w := by
    refine ⟨_, rfl, fun h => ?_, fun w => by kernel_rfl⟩
    have := congrArg Array.size h
    rw [List.size_toArray, vcs_length _ vZ_ok] at this
    exact absurd this (by decide)
  obtain ⟨CC, hCC⟩ : ∃ CC, CC = gcs G g := ⟨_, rfl⟩
  rw [← hCC] at B0 RG
  rw [← hCC]
  clear hl hb hr hc ht hL K0 hsk hsd hg hzl hCC
  go_enter Tryd.func9, Tryd.ntmps9
  go_upto_region 1 with (fail)
  generalize w.alloc (.cells CC.toArray 71) = w0 at B0 RG ⊢
  go_upto_region 2 with (first
    | (refine wpList_load_mid rfl 26 (.tmp 13) rfl w.heap.size 0 rfl (u8s seed) _ RG.out Tryd.underlying26 rfl HSI.out ?_)
    | (refine wpList_store_row rfl 26 (.tmp 7) (.tmp 14) rfl w0.heap.size (u8s seed).toArray rfl rfl 26 Z (Blk.new w0 26 Z) HSI2.out HSZ.out (u8s_all seed) ?_))
  have KS : Hid (Blk ((w0.alloc (.cells Z 26)).setRow w0.heap.size (u8s seed).toArray) w0.heap.size 26 (u8s seed).toArray) := (Blk.new w0 26 Z).row _
  have B1 : Hid (Below w.heap.size w ((w0.alloc (.cells Z 26)).setRow w0.heap.size (u8s seed).toArray)) := below_setRow (B0.out.alloc B0.out.size _) B0.out.size _
  clear B0 RG HSZ
  generalize (w0.alloc (.cells Z 26)).setRow w0.heap.size (u8s seed).toArray = w1 at KS B1 ⊢
  generalize w0.heap.size = e7 at KS ⊢
  by_cases hn : 200 < n
  ·
    have hni : (200 : Int) < (n : Int) := by omega
    have tk : True := trivial
    go_wp2_with (first
      | (go_at_call 31; have _t := tk; refine (HAW.out _ B1.out).mono ?_; rintro e w2 ⟨rfl, hb⟩; have B2 := hid (B1.out.trans (hb.mono B1.out.size)); clear tk hb)
      | (go_at_call 31; refine (HAW.out _ B2.out).mono ?_; rintro e w3 ⟨rfl, hb⟩; have B3 := hid (B2.out.trans (hb.mono B2.out.size)); clear hb))
    go_ret
    exact ⟨rfl, B3.out⟩
  have hni : ¬ (200 : Int) < (n : Int) := by omega
  by_cases hm15 : 15 < m
  ·
    have hmi : (15 : Int) < (m : Int) := by omega
    have tk : True := trivial
    go_wp2_with (first
      | (go_at_call 31; have _t := tk; refine (HAW.out _ B1.out).mono ?_; rintro e w2 ⟨rfl, hb⟩; have B2 := hid (B1.out.trans (hb.mono B1.out.size)); clear tk hb)
      | (go_at_call 31; refine (HAW.out _ B2.out).mono ?_; rintro e w3 ⟨rfl, hb⟩; have B3 := hid (B2.out.trans (hb.mono B2.out.size)); clear hb))
    go_ret
    exact ⟨rfl, B3.out⟩
  have hmi : ¬ (15 : Int) < (m : Int) := by omega
  have HN2 : Hid (n ≤ 200) := by show _ ≤ _; omega
  have HM15 : Hid (m ≤ 15) := by show _ ≤ _; omega
  go_upto_region 4 with (go_at_call 31; refine (HAW.out _ B1.out).mono ?_; rintro e w2 ⟨rfl, hb⟩; have B2 := hid (B1.out.trans (hb.mono B1.out.size)); have KS2 := hid (KS.out.below hb); clear hb)
  clear hn hni hm15 hmi B1
  have RS : Hid (w2.rangeAt e7 0 (u8s seed)) := fun j u hu => by rw [KS2.out.cell, Nat.zero_add, List.getElem?_toArray]; exact hu
  clear KS KS2
  go_wp2
  go_loopw [8, 9] (fun v i wr => ∃ (k : Nat) (Lc : List Vs) (Ac : Option Addr) (nc cc : Nat), k ≤ m ∧ i = .int .i64 (k : Nat) ∧ v = .slice Ac nc cc ∧ Hid (ChS wr Ac nc cc k Lc) ∧ Hid (Below w2.heap.size w2 wr)) (fun _ i _ => m - (intOf i).toNat)
  case atStart => exact ⟨0, [], none, 0, 0, Nat.zero_le _, rfl, rfl, ⟨InV.nil _ _, Nat.le_refl _, Nat.le_refl _, fun q hq => by simp at hq⟩, Below.refl _ _⟩
  case round =>
    obtain ⟨k, Lc, Ac, nc, cc, hk, rfl, rfl, CHW, BL⟩ := hrel
    by_cases hkm : k < m
    ·
      have hlt : ((k : Int) < (m : Int)) := by omega
      obtain ⟨b, oo, hbe, hbl, hatg⟩ := HIN.out.at' (by omega)
      subst hbe
      obtain ⟨gk, hgk⟩ : ∃ gk, Lg[k]? = some gk := ⟨_, List.getElem?_eq_getElem (by have := HIN.out.len; omega)⟩
      obtain ⟨Vg, hrg, hga⟩ := hatg k gk hgk
      have BW := B2.out.trans (BL.out.mono B2.out.size)
      obtain ⟨ce0, cv0⟩ := gcs_at (crng_bel BW hrg) hga.s
      obtain ⟨_, hge, hgv, Bv, dv, hVg, hdv, hrv⟩ := hga
      subst hVg
      obtain ⟨vl, hvl⟩ : ∃ vl, vl = gk.v.length := ⟨_, rfl⟩
      rw [← hvl] at cv0
      have CE := hid ce0; have CVv := hid cv0; have HGE := hid hge; have HGV := hid hgv; have HVL := hid hvl; have HDV := hid hdv
      have HVA := hid (fun y (hb : Below w.heap.size w y) => hrv.belowN hb)
      have hoe : oo + k * 34 + 33 = oo + k * 34 + 33 := rfl
      have BWH := hid BW
      clear hatg hgk hrg hge hgv hdv hrv hvl BW hbl ce0 hoe
      by_cases hbig : 200 < vl
      ·
        have hbi : (200 : Int) < (vl : Int) := by omega
        go_wp2
        go_ret
        exact ⟨rfl, BWH.out⟩
      have hbi : ¬ (200 : Int) < (vl : Int) := by omega
      have HVL2 : Hid (gk.v.length ≤ 200) := by show _ ≤ _; rw [← HVL.out]; omega
      have HNC : Hid (nc ≤ 15) := by have := CHW.out.few; have := HM15.out; show _ ≤ _; omega
      have RSw := hid (crng_bel BL.out RS.out)
      obtain ⟨Q, hQ⟩ : ∃ Q, Q = gw seed lab Lc gk.e gk.v := ⟨_, rfl⟩
      have HQE : Hid (Q.e = gk.e) := by rw [hQ]; rfl
      have HQV : Hid (Q.v = gk.v) := by rw [hQ]; rfl
      have hv3 : ∀ q ∈ Lc, q.v.length ≤ 300 := fun q hq => by have := CHW.out.v q hq; omega
      have CG := fun y (hb : Below wr.heap.size wr y) => grow_any (seed := seed) (val := gk.v) (ep := gk.e) (c2 := cc) (cv := dv) (Av := Bv) (LB.out y (BWH.out.trans (hb.mono BWH.out.size)) HN2.out) (CHW.out.inv.below hb) hv3 (by have := HNC.out; omega) HSK.out HGE.out (HVA.out y (BWH.out.trans (hb.mono BWH.out.size))) HGV.out (by have := HVL2.out; omega) (HT.out y (BWH.out.trans (hb.mono BWH.out.size)))
      rw [← hQ, ← HVL.out] at CG
      obtain ⟨r, hr⟩ : ∃ r, r = okF (cm lab) lab.length (Lc ++ [Q]) := ⟨_, rfl⟩
      rw [← hr, HL.out] at CG
      have CG := hid CG
      have HR := hid hr
      have HVQ : Hid (∀ q ∈ Lc ++ [Q], q.v.length ≤ 200) := fun q hq => by
        rcases List.mem_append.1 hq with hq | hq
        · exact CHW.out.v q hq
        · rw [List.mem_singleton.1 hq, HQV.out]; exact HVL2.out
      go_upto_region 10 with (fail)
      clear cv0 hbig hbi hlt hQ hr hv3
      cases r with
      | false =>
        refine wp_region_held (S := fun w' => Hid (Below wr.heap.size wr w')) (by kernel_rfl) ?_
        change wpAnyH _ _ _ _ _ _ _ _ wr.drew
        have Gx0 : Hid (Below wr.heap.size wr wr.drew) := (Below.refl _ _).drew
        generalize wr.drew = x0 at Gx0  ⊢
        refine wpAnyH_take (i := 0) (oi := { dst := some 42, op := _, type := _, pos := _, after := _, guard := _ }) (v := .agg ((u8s seed).toArray)) rfl (by kernel_rfl) (by kernel_rfl) (by kernel_rfl) (fun _ _ _ h => h) (yieldsIf_load_mid (cs := u8s seed) (by rfl) _ _ rfl _ _ rfl _ (fun w' hSw => crng_bel hSw.out RSw.out) Tryd.underlying26 rfl HSI.out) Gx0 ?_
        try simp only [Act.put, List.setIfInBounds_toArray, List.set_cons_zero, List.set_cons_succ]
        refine wpAnyH_take (i := 1) (oi := { dst := some 43, op := _, type := _, pos := _, after := _, guard := _ }) (v := ?_) rfl (by kernel_rfl) (by kernel_rfl) (by kernel_rfl) (fun _ _ _ h => h) (Or.inl ⟨by kernel_rfl, ?_⟩) Gx0 ?_
        rotate_left
        · (intro w hSw; go_simp; try with_reducible rfl)
        try simp only [Act.put, List.setIfInBounds_toArray, List.set_cons_zero, List.set_cons_succ]
        refine wpAnyH_take (i := 2) (oi := { dst := some 44, op := _, type := _, pos := _, after := _, guard := _ }) (v := ?_) rfl (by kernel_rfl) (by kernel_rfl) (by kernel_rfl) (fun _ _ _ h => h) (Or.inl ⟨by kernel_rfl, ?_⟩) Gx0 ?_
        rotate_left
        · (intro w hSw; go_simp; try with_reducible rfl)
        try simp only [Act.put, List.setIfInBounds_toArray, List.set_cons_zero, List.set_cons_succ]
        refine wpAnyH_take (i := 3) (oi := { dst := some 45, op := _, type := _, pos := _, after := _, guard := _ }) (v := ?_) rfl (by kernel_rfl) (by kernel_rfl) (by kernel_rfl) (fun _ _ _ h => h) (Or.inl ⟨by kernel_rfl, ?_⟩) Gx0 ?_
        rotate_left
        · (intro w hSw; go_simp; try with_reducible rfl)
        try simp only [Act.put, List.setIfInBounds_toArray, List.set_cons_zero, List.set_cons_succ]
        refine wpAnyH_take (i := 4) (oi := { dst := some 46, op := _, type := _, pos := _, after := _, guard := _ }) (v := ?_) rfl (by kernel_rfl) (by kernel_rfl) (by kernel_rfl) (fun _ _ _ h => h) (Or.inl ⟨by kernel_rfl, ?_⟩) Gx0 ?_
        rotate_left
        · (intro w hSw; go_simp; try with_reducible rfl)
        try simp only [Act.put, List.setIfInBounds_toArray, List.set_cons_zero, List.set_cons_succ]
        refine wpAnyH_take (i := 5) (oi := { dst := some 47, op := _, type := _, pos := _, after := _, guard := _ }) (v := ?_) rfl (by kernel_rfl) (by kernel_rfl) (by kernel_rfl) (fun _ _ _ h => h) (Or.inl ⟨by kernel_rfl, ?_⟩) Gx0 ?_
        rotate_left
        · (intro w hSw; go_simp; try with_reducible rfl)
        try simp only [Act.put, List.setIfInBounds_toArray, List.set_cons_zero, List.set_cons_succ]
        refine wpAnyH_take (i := 6) (oi := { dst := some 48, op := _, type := _, pos := _, after := _, guard := _ }) (v := ?_) rfl (by kernel_rfl) (by kernel_rfl) (by kernel_rfl) (fun _ _ _ h => h) (Or.inl ⟨by kernel_rfl, ?_⟩) Gx0 ?_
        rotate_left
        · (intro w hSw; go_simp; try with_reducible rfl)
        try simp only [Act.put, List.setIfInBounds_toArray, List.set_cons_zero, List.set_cons_succ]
        refine wpAnyH_take (i := 7) (oi := { dst := some 49, op := _, type := _, pos := _, after := _, guard := _ }) (v := .int .i64 gk.e) rfl (by kernel_rfl) (by kernel_rfl) (by kernel_rfl) (fun _ _ _ h => h) (Or.inl ⟨by kernel_rfl, ?_⟩) Gx0 ?_
        · (intro w hSw; have c9 := ccell_bel hSw.out CE.out; go_simp; try with_reducible rfl)
        try simp only [Act.put, List.setIfInBounds_toArray, List.set_cons_zero, List.set_cons_succ]
        refine wpAnyH_take (i := 8) (oi := { dst := some 50, op := _, type := _, pos := _, after := _, guard := _ }) (v := ?_) rfl (by kernel_rfl) (by kernel_rfl) (by kernel_rfl) (fun _ _ _ h => h) (Or.inl ⟨by kernel_rfl, ?_⟩) Gx0 ?_
        rotate_left
        · (intro w hSw; go_simp; try with_reducible rfl)
        try simp only [Act.put, List.setIfInBounds_toArray, List.set_cons_zero, List.set_cons_succ]
        refine wpAnyH_take (i := 9) (oi := { dst := some 51, op := _, type := _, pos := _, after := _, guard := _ }) (v := ?_) rfl (by kernel_rfl) (by kernel_rfl) (by kernel_rfl) (fun _ _ _ h => h) (Or.inl ⟨by kernel_rfl, ?_⟩) Gx0 ?_
        rotate_left
        · (intro w hSw; go_simp; try with_reducible rfl)
        try simp only [Act.put, List.setIfInBounds_toArray, List.set_cons_zero, List.set_cons_succ]
        refine wpAnyH_take (i := 10) (oi := { dst := some 52, op := _, type := _, pos := _, after := _, guard := _ }) (v := ?_) rfl (by kernel_rfl) (by kernel_rfl) (by kernel_rfl) (fun _ _ _ h => h) (Or.inl ⟨by kernel_rfl, ?_⟩) Gx0 ?_
        rotate_left
        · (intro w hSw; go_simp; try with_reducible rfl)
        try simp only [Act.put, List.setIfInBounds_toArray, List.set_cons_zero, List.set_cons_succ]
        refine wpAnyH_take (i := 11) (oi := { dst := some 53, op := _, type := _, pos := _, after := _, guard := _ }) (v := ?_) rfl (by kernel_rfl) (by kernel_rfl) (by kernel_rfl) (fun _ _ _ h => h) (Or.inl ⟨by kernel_rfl, ?_⟩) Gx0 ?_
        rotate_left
        · (intro w hSw; go_simp; try with_reducible rfl)
        try simp only [Act.put, List.setIfInBounds_toArray, List.set_cons_zero, List.set_cons_succ]
        refine wpAnyH_take (i := 12) (oi := { dst := some 54, op := _, type := _, pos := _, after := _, guard := _ }) (v := .slice Bv vl dv) rfl (by kernel_rfl) (by kernel_rfl) (by kernel_rfl) (fun _ _ _ h => h) (Or.inl ⟨by kernel_rfl, ?_⟩) Gx0 ?_
        · (intro w hSw; have c9 := ccell_bel hSw.out CVv.out; go_simp; try with_reducible rfl)
        try simp only [Act.put, List.setIfInBounds_toArray, List.set_cons_zero, List.set_cons_succ]
        refine wpAnyH_ready (rs := [13]) (by kernel_rfl) (by simp) ?_
        refine (AllReadyH.cons (o := { dst := some 55, op := _, type := _, pos := _, after := _, guard := _ }) rfl (fun Qc hQc => ?_) AllReadyH.nil)
        go_simp
        go_at_call 51
        refine (CG.out x0 Gx0.out).mono ?_
        intro e x1 hgr
        obtain ⟨rfl, hb⟩ := grA_no hgr
        have Gx1 := hid (Gx0.out.trans (hb.mono Gx0.out.size))
        clear hb hgr
        go_wp2_with fail
        refine hQc.out _ _ Gx1 (fun hHeld => ?_)
        clear hQc Qc hHeld
        try simp only [Act.put, List.setIfInBounds_toArray, List.set_cons_zero, List.set_cons_succ]
        refine wpAnyH_take (i := 14) (oi := { dst := some 41, op := _, type := _, pos := _, after := _, guard := _ }) (v := ?_) rfl (by kernel_rfl) (by kernel_rfl) (by kernel_rfl) (fun _ _ _ h => h) (Or.inl ⟨by kernel_rfl, ?_⟩) Gx1 ?_
        rotate_left
        · (intro w hSw; go_simp; try with_reducible rfl)
        try simp only [Act.put, List.setIfInBounds_toArray, List.set_cons_zero, List.set_cons_succ]
        refine wpAnyH_take (i := 15) (oi := { dst := some 56, op := _, type := _, pos := _, after := _, guard := _ }) (v := ?_) rfl (by kernel_rfl) (by kernel_rfl) (by kernel_rfl) (fun _ _ _ h => h) (Or.inl ⟨by kernel_rfl, ?_⟩) Gx1 ?_
        rotate_left
        · (intro w hSw; go_simp; try with_reducible rfl)
        try simp only [Act.put, List.setIfInBounds_toArray, List.set_cons_zero, List.set_cons_succ]
        refine wpAnyH_take (i := 16) (oi := { dst := some 57, op := _, type := _, pos := _, after := _, guard := _ }) (v := ?_) rfl (by kernel_rfl) (by kernel_rfl) (by kernel_rfl) (fun _ _ _ h => h) (Or.inl ⟨by kernel_rfl, ?_⟩) Gx1 ?_
        rotate_left
        · (intro w hSw; go_simp; try with_reducible rfl)
        try simp only [Act.put, List.setIfInBounds_toArray, List.set_cons_zero, List.set_cons_succ]
        refine wpAnyH_take (i := 17) (oi := { dst := some 10, op := _, type := _, pos := _, after := _, guard := _ }) (v := ?_) rfl (by kernel_rfl) (by kernel_rfl) (by kernel_rfl) (fun _ _ _ h => h) (Or.inl ⟨by kernel_rfl, ?_⟩) Gx1 ?_
        rotate_left
        · (intro w hSw; go_simp; try with_reducible rfl)
        try simp only [Act.put, List.setIfInBounds_toArray, List.set_cons_zero, List.set_cons_succ]
        refine wpAnyH_take (i := 18) (oi := { dst := some 11, op := _, type := _, pos := _, after := _, guard := _ }) (v := ?_) rfl (by kernel_rfl) (by kernel_rfl) (by kernel_rfl) (fun _ _ _ h => h) (Or.inl ⟨by kernel_rfl, ?_⟩) Gx1 ?_
        rotate_left
        · (intro w hSw; go_simp; try with_reducible rfl)
        try simp only [Act.put, List.setIfInBounds_toArray, List.set_cons_zero, List.set_cons_succ]
        refine wpAnyH_done (by kernel_rfl) ?_ _
        try simp only [Act.put, List.setIfInBounds_toArray, List.set_cons_zero, List.set_cons_succ]
        have BLx := hid (BL.out.trans (Gx1.out.mono BL.out.size))
        have CHx := hid (CHW.out.below Gx1.out)
        go_wp2
        go_roundw
        case rel => exact ⟨k + 1, Lc, Ac, nc, cc, by omega, by go_num, rfl, ⟨CHx.out.inv, CHx.out.cap, by have := CHx.out.few; omega, CHx.out.v⟩, BLx.out⟩
        case measure => simp [intOf]; omega
      | true =>
        have HOK5 : Hid (okF (cm lab) lab.length (Lc ++ [Q]) = true) := HR.out.symm
        have HEP : Hid (1 ≤ gk.e) := by
          have h1 := ((okV_iff _ _ _).1 HOK5.out).2 Lc.length (by simp)
          unfold stF at h1
          rw [vAt_snoc, Bool.and_eq_true, decide_eq_true_eq, HQE.out] at h1
          exact h1.1.2.1
        have HOKQ : Hid (okF (cm lab) lab.length (Lc ++ [Q]) = true ∧ Q.e = gk.e) := ⟨HOK5.out, HQE.out⟩
        refine wp_region_held (S := fun w' => Hid (Below wr.heap.size wr w')) (by kernel_rfl) ?_
        change wpAnyH _ _ _ _ _ _ _ _ wr.drew
        have Gx0 : Hid (Below wr.heap.size wr wr.drew) := (Below.refl _ _).drew
        generalize wr.drew = x0 at Gx0  ⊢
        refine wpAnyH_take (i := 0) (oi := { dst := some 42, op := _, type := _, pos := _, after := _, guard := _ }) (v := .agg ((u8s seed).toArray)) rfl (by kernel_rfl) (by kernel_rfl) (by kernel_rfl) (fun _ _ _ h => h) (yieldsIf_load_mid (cs := u8s seed) (by rfl) _ _ rfl _ _ rfl _ (fun w' hSw => crng_bel hSw.out RSw.out) Tryd.underlying26 rfl HSI.out) Gx0 ?_
        try simp only [Act.put, List.setIfInBounds_toArray, List.set_cons_zero, List.set_cons_succ]
        refine wpAnyH_take (i := 1) (oi := { dst := some 43, op := _, type := _, pos := _, after := _, guard := _ }) (v := ?_) rfl (by kernel_rfl) (by kernel_rfl) (by kernel_rfl) (fun _ _ _ h => h) (Or.inl ⟨by kernel_rfl, ?_⟩) Gx0 ?_
        rotate_left
        · (intro w hSw; go_simp; try with_reducible rfl)
        try simp only [Act.put, List.setIfInBounds_toArray, List.set_cons_zero, List.set_cons_succ]
        refine wpAnyH_take (i := 2) (oi := { dst := some 44, op := _, type := _, pos := _, after := _, guard := _ }) (v := ?_) rfl (by kernel_rfl) (by kernel_rfl) (by kernel_rfl) (fun _ _ _ h => h) (Or.inl ⟨by kernel_rfl, ?_⟩) Gx0 ?_
        rotate_left
        · (intro w hSw; go_simp; try with_reducible rfl)
        try simp only [Act.put, List.setIfInBounds_toArray, List.set_cons_zero, List.set_cons_succ]
        refine wpAnyH_take (i := 3) (oi := { dst := some 45, op := _, type := _, pos := _, after := _, guard := _ }) (v := ?_) rfl (by kernel_rfl) (by kernel_rfl) (by kernel_rfl) (fun _ _ _ h => h) (Or.inl ⟨by kernel_rfl, ?_⟩) Gx0 ?_
        rotate_left
        · (intro w hSw; go_simp; try with_reducible rfl)
        try simp only [Act.put, List.setIfInBounds_toArray, List.set_cons_zero, List.set_cons_succ]
        refine wpAnyH_take (i := 4) (oi := { dst := some 46, op := _, type := _, pos := _, after := _, guard := _ }) (v := ?_) rfl (by kernel_rfl) (by kernel_rfl) (by kernel_rfl) (fun _ _ _ h => h) (Or.inl ⟨by kernel_rfl, ?_⟩) Gx0 ?_
        rotate_left
        · (intro w hSw; go_simp; try with_reducible rfl)
        try simp only [Act.put, List.setIfInBounds_toArray, List.set_cons_zero, List.set_cons_succ]
        refine wpAnyH_take (i := 5) (oi := { dst := some 47, op := _, type := _, pos := _, after := _, guard := _ }) (v := ?_) rfl (by kernel_rfl) (by kernel_rfl) (by kernel_rfl) (fun _ _ _ h => h) (Or.inl ⟨by kernel_rfl, ?_⟩) Gx0 ?_
        rotate_left
        · (intro w hSw; go_simp; try with_reducible rfl)
        try simp only [Act.put, List.setIfInBounds_toArray, List.set_cons_zero, List.set_cons_succ]
        refine wpAnyH_take (i := 6) (oi := { dst := some 48, op := _, type := _, pos := _, after := _, guard := _ }) (v := ?_) rfl (by kernel_rfl) (by kernel_rfl) (by kernel_rfl) (fun _ _ _ h => h) (Or.inl ⟨by kernel_rfl, ?_⟩) Gx0 ?_
        rotate_left
        · (intro w hSw; go_simp; try with_reducible rfl)
        try simp only [Act.put, List.setIfInBounds_toArray, List.set_cons_zero, List.set_cons_succ]
        refine wpAnyH_take (i := 7) (oi := { dst := some 49, op := _, type := _, pos := _, after := _, guard := _ }) (v := .int .i64 gk.e) rfl (by kernel_rfl) (by kernel_rfl) (by kernel_rfl) (fun _ _ _ h => h) (Or.inl ⟨by kernel_rfl, ?_⟩) Gx0 ?_
        · (intro w hSw; have c9 := ccell_bel hSw.out CE.out; go_simp; try with_reducible rfl)
        try simp only [Act.put, List.setIfInBounds_toArray, List.set_cons_zero, List.set_cons_succ]
        refine wpAnyH_take (i := 8) (oi := { dst := some 50, op := _, type := _, pos := _, after := _, guard := _ }) (v := ?_) rfl (by kernel_rfl) (by kernel_rfl) (by kernel_rfl) (fun _ _ _ h => h) (Or.inl ⟨by kernel_rfl, ?_⟩) Gx0 ?_
        rotate_left
        · (intro w hSw; go_simp; try with_reducible rfl)
        try simp only [Act.put, List.setIfInBounds_toArray, List.set_cons_zero, List.set_cons_succ]
        refine wpAnyH_take (i := 9) (oi := { dst := some 51, op := _, type := _, pos := _, after := _, guard := _ }) (v := ?_) rfl (by kernel_rfl) (by kernel_rfl) (by kernel_rfl) (fun _ _ _ h => h) (Or.inl ⟨by kernel_rfl, ?_⟩) Gx0 ?_
        rotate_left
        · (intro w hSw; go_simp; try with_reducible rfl)
        try simp only [Act.put, List.setIfInBounds_toArray, List.set_cons_zero, List.set_cons_succ]
        refine wpAnyH_take (i := 10) (oi := { dst := some 52, op := _, type := _, pos := _, after := _, guard := _ }) (v := ?_) rfl (by kernel_rfl) (by kernel_rfl) (by kernel_rfl) (fun _ _ _ h => h) (Or.inl ⟨by kernel_rfl, ?_⟩) Gx0 ?_
        rotate_left
        · (intro w hSw; go_simp; try with_reducible rfl)
        try simp only [Act.put, List.setIfInBounds_toArray, List.set_cons_zero, List.set_cons_succ]
        refine wpAnyH_take (i := 11) (oi := { dst := some 53, op := _, type := _, pos := _, after := _, guard := _ }) (v := ?_) rfl (by kernel_rfl) (by kernel_rfl) (by kernel_rfl) (fun _ _ _ h => h) (Or.inl ⟨by kernel_rfl, ?_⟩) Gx0 ?_
        rotate_left
        · (intro w hSw; go_simp; try with_reducible rfl)
        try simp only [Act.put, List.setIfInBounds_toArray, List.set_cons_zero, List.set_cons_succ]
        refine wpAnyH_take (i := 12) (oi := { dst := some 54, op := _, type := _, pos := _, after := _, guard := _ }) (v := .slice Bv vl dv) rfl (by kernel_rfl) (by kernel_rfl) (by kernel_rfl) (fun _ _ _ h => h) (Or.inl ⟨by kernel_rfl, ?_⟩) Gx0 ?_
        · (intro w hSw; have c9 := ccell_bel hSw.out CVv.out; go_simp; try with_reducible rfl)
        try simp only [Act.put, List.setIfInBounds_toArray, List.set_cons_zero, List.set_cons_succ]
        refine wpAnyH_ready (rs := [13]) (by kernel_rfl) (by simp) ?_
        refine (AllReadyH.cons (o := { dst := some 55, op := _, type := _, pos := _, after := _, guard := _ }) rfl (fun Qc hQc => ?_) AllReadyH.nil)
        go_simp
        go_at_call 51
        refine (CG.out x0 Gx0.out).mono ?_
        intro e x1 hgr
        obtain ⟨⟨A5, m5, c5, rfl, hc5, hn5, hin5⟩, hb⟩ := grA_yes hgr
        have Gx1 := hid (Gx0.out.trans (hb.mono Gx0.out.size))
        have I5 : Hid (InV x1 A5 m5 (Lc ++ [Q])) := hin5
        have HC5 := hid hc5
        have HN5 : Hid (m5 = (Lc ++ [Q]).length) := hn5
        clear hc5 hn5 hin5
        clear hb hgr
        go_wp2_with fail
        refine hQc.out _ _ Gx1 (fun hHeld => ?_)
        clear hQc Qc hHeld
        try simp only [Act.put, List.setIfInBounds_toArray, List.set_cons_zero, List.set_cons_succ]
        refine wpAnyH_take (i := 14) (oi := { dst := some 41, op := _, type := _, pos := _, after := _, guard := _ }) (v := ?_) rfl (by kernel_rfl) (by kernel_rfl) (by kernel_rfl) (fun _ _ _ h => h) (Or.inl ⟨by kernel_rfl, ?_⟩) Gx1 ?_
        rotate_left
        · (intro w hSw; go_simp; try with_reducible rfl)
        try simp only [Act.put, List.setIfInBounds_toArray, List.set_cons_zero, List.set_cons_succ]
        refine wpAnyH_take (i := 15) (oi := { dst := some 56, op := _, type := _, pos := _, after := _, guard := _ }) (v := ?_) rfl (by kernel_rfl) (by kernel_rfl) (by kernel_rfl) (fun _ _ _ h => h) (Or.inl ⟨by kernel_rfl, ?_⟩) Gx1 ?_
        rotate_left
        · (intro w hSw; go_simp; try with_reducible rfl)
        try simp only [Act.put, List.setIfInBounds_toArray, List.set_cons_zero, List.set_cons_succ]
        refine wpAnyH_take (i := 16) (oi := { dst := some 57, op := _, type := _, pos := _, after := _, guard := _ }) (v := ?_) rfl (by kernel_rfl) (by kernel_rfl) (by kernel_rfl) (fun _ _ _ h => h) (Or.inl ⟨by kernel_rfl, ?_⟩) Gx1 ?_
        rotate_left
        · (intro w hSw; go_simp; try with_reducible rfl)
        try simp only [Act.put, List.setIfInBounds_toArray, List.set_cons_zero, List.set_cons_succ]
        refine wpAnyH_take (i := 17) (oi := { dst := some 10, op := _, type := _, pos := _, after := _, guard := _ }) (v := ?_) rfl (by kernel_rfl) (by kernel_rfl) (by kernel_rfl) (fun _ _ _ h => h) (Or.inl ⟨by kernel_rfl, ?_⟩) Gx1 ?_
        rotate_left
        · (intro w hSw; go_simp; try with_reducible rfl)
        try simp only [Act.put, List.setIfInBounds_toArray, List.set_cons_zero, List.set_cons_succ]
        refine wpAnyH_take (i := 18) (oi := { dst := some 11, op := _, type := _, pos := _, after := _, guard := _ }) (v := ?_) rfl (by kernel_rfl) (by kernel_rfl) (by kernel_rfl) (fun _ _ _ h => h) (Or.inl ⟨by kernel_rfl, ?_⟩) Gx1 ?_
        rotate_left
        · (intro w hSw; go_simp; try with_reducible rfl)
        try simp only [Act.put, List.setIfInBounds_toArray, List.set_cons_zero, List.set_cons_succ]
        refine wpAnyH_done (by kernel_rfl) ?_ _
        try simp only [Act.put, List.setIfInBounds_toArray, List.set_cons_zero, List.set_cons_succ]
        have BL5 := hid (BL.out.trans (Gx1.out.mono BL.out.size))
        have CH5 := hid (CHW.out.below Gx1.out)
        have hm5 : m5 = nc + 1 := by rw [HN5.out, List.length_append, List.length_singleton, CHW.out.inv.len]
        have HM5 := hid hm5
        have hk5 : nc < m5 := by omega
        have hlc : Lc.length = nc := CHW.out.inv.len
        obtain ⟨b5, o5, V5, hA5, hbl5, hat5, harg5, hq5⟩ := I5.out.at hk5
        subst hA5
        have hQ5 : vAt (Lc ++ [Q]) nc = Q := by rw [← hlc]; exact vAt_snoc _ _
        rw [hQ5] at hat5 harg5
        have RA5 := hid hat5.all
        have DI5 := hid (vlenC V5 harg5.ok); have DJ5 := hid (vinfoC V5 harg5.ok)
        have QOK := hid harg5.ok
        have HZQ : Hid (ZV.size = (vcs V5 Q).toArray.size) := by show _ = _; rw [HZV.out, List.size_toArray, List.size_toArray, vcs_length _ vZ_ok, vcs_length _ QOK.out]
        have HVO := hid (vcs_all harg5.one Q)
        have HARG5 := hid harg5
        have hsubw : IntKind.i64.wrap ((m5 : Int) - 1) = (nc : Int) := by rw [show (m5 : Int) - 1 = (nc : Int) by omega]; exact IntWalk.i64_in _ (by have := HNC.out; omega)
        have hki : (nc : Int) < (m5 : Int) := by omega
        have hmax5 : m5 ≤ 9223372036854775807 := I5.out.max
        clear hat5 harg5 hq5 hQ5 hbl5 hlc hm5
        go_upto_region 15 with (first
          | (refine wpList_load_mid rfl 75 (.tmp 71) rfl b5 (o5 + nc * 67) rfl (vcs V5 Q) _ RA5.out Tryd.underlying75 rfl DI5.out ?_)
          | (refine wpList_store_row rfl 75 (.tmp 12) (.tmp 72) rfl x1.heap.size (vcs V5 Q).toArray rfl rfl 75 ZV (Blk.new x1 75 ZV) DJ5.out HZQ.out HVO.out ?_))
        have KQ : Hid (Blk ((x1.alloc (.cells ZV 75)).setRow x1.heap.size (vcs V5 Q).toArray) x1.heap.size 75 (vcs V5 Q).toArray) := (Blk.new x1 75 ZV).row _
        have B6 : Hid (Below x1.heap.size x1 ((x1.alloc (.cells ZV 75)).setRow x1.heap.size (vcs V5 Q).toArray)) := below_setRow ((Below.refl _ _).alloc (Nat.le_refl _) _) (Nat.le_refl _) _
        have BL6 := hid (BL5.out.trans (B6.out.mono BL5.out.size))
        have I6 := hid (I5.out.below B6.out); have CH6 := hid (CH5.out.below B6.out); have A6 := hid (HARG5.out.below B6.out)
        have CE6 := hid (ccell_bel (Gx1.out.trans (B6.out.mono Gx1.out.size)) CE.out)
        have CV6 := hid (ccell_bel (Gx1.out.trans (B6.out.mono Gx1.out.size)) CVv.out)
        clear B6 RA5 DI5 HZQ HVO DJ5 HARG5 I5 CH5 BL5 hsubw hki hk5 CG
        generalize (x1.alloc (.cells ZV 75)).setRow x1.heap.size (vcs V5 Q).toArray = w6 at KQ BL6 I6 CH6 A6 CE6 CV6 ⊢
        generalize x1.heap.size = e12 at KQ ⊢
        have RQ : Hid (w6.rangeAt e12 0 (vcs V5 Q)) := (KQ.out.vc QOK.out).all
        have DQ2 := hid (vlenC V5 QOK.out)
        have CQE : Hid (w6.cell? ⟨e12, 1, none⟩ = some (.int .i64 gk.e)) := by have := (KQ.out.vc QOK.out).e; rw [HQE.out] at this; exact this
        obtain ⟨B5, d5, hV5, hd5, hr5⟩ := A6.out.val
        have CQV : Hid (w6.cell? ⟨e12, 66, none⟩ = some (.slice B5 vl d5)) := by have := (KQ.out.vc QOK.out).v; rw [Nat.zero_add, hV5, HQV.out, ← HVL.out] at this; exact this
        have hrv5 : Rp w6 none B5 gk.v := by rw [← HQV.out]; exact hr5
        have HV5 : Hid (∀ q ∈ Lc ++ [Q], q.v.length ≤ 1000) := fun q hq => by have := HVQ.out q hq; omega
        have HV3 : Hid (∀ q ∈ Lc ++ [Q], q.v.length ≤ 300) := fun q hq => by have := HVQ.out q hq; omega
        have HV4 : Hid (∀ q ∈ Lc, q.v.length ≤ 1000) := fun q hq => by have := CH6.out.v q hq; omega
        have BW6 := fun y (hb : Below w6.heap.size w6 y) => B2.out.trans ((BL6.out.trans (hb.mono BL6.out.size)).mono B2.out.size)
        have hqv : Q.v.length ≤ 300 := HV3.out Q (by simp)
        have hh5 : Hh (cm lab Q) := hh_sum _
        have CF := hid (fun y (hb : Below w6.heap.size w6 y) => formed_any (c2 := c5) (LB.out y (BW6 y hb) HN2.out) (I6.out.below hb) HV3.out (by have := HM5.out; have := HNC.out; omega) (HT.out y (BW6 y hb)))
        have CM := hid (fun y (hb : Below w6.heap.size w6 y) => cmC_any (LB.out y (BW6 y hb) HN2.out) (A6.out.below hb) hqv (HT.out y (BW6 y hb)))
        have CK := hid (fun y (hb : Below w6.heap.size w6 y) => check_any (c2 := c5) (LB.out y (BW6 y hb) HN2.out) (I6.out.below hb) HV3.out (by have := HM5.out; have := HNC.out; omega) hh5 (HT.out y (BW6 y hb)))
        have hlast : lastC (cm lab) (Lc ++ [Q]) = cm lab Q := by
          rw [lastC_some (by simp)]
          have : (Lc ++ [Q]).length - 1 = Lc.length := by simp
          rw [this, vAt_snoc]
        have hch : chF (cm lab) lab.length (Lc ++ [Q]) (cm lab Q) = true := by rw [chV_eq, hlast, HOK5.out]; simp
        rw [HOK5.out] at CF
        rw [hch] at CK
        rw [HL.out] at CF CM CK
        have CSV := hid (fun y (hb : Below w6.heap.size w6 y) => csame_any (c := d5) (d := dv) y (hrv5.belowN hb) (HVA.out y (BW6 y hb)) (by have := HVL2.out; omega) (by have := HVL2.out; omega))
        rw [decide_eq_true rfl, ← HVL.out] at CSV
        generalize cm lab Q = S at CM CK
        have hadd : IntKind.i64.wrap ((nc : Int) + 1) = (m5 : Int) := by rw [show (nc : Int) + 1 = (m5 : Int) by have := HM5.out; omega]; exact IntWalk.i64_in _ (by have := HM5.out; have := HNC.out; omega)
        have hsubE : IntKind.i64.wrap (gk.e - 1) = gk.e - 1 := IntWalk.i64_in _ (by have := HGE.out; have := HEP.out; unfold I64 at *; omega)
        have HLM : Hid (Lc.length ≤ 1000000) := by have := CH6.out.inv.len; have := HNC.out; show _ ≤ _; omega
        have HLC : Hid (Lc.length ≤ 1000) := by have := CH6.out.inv.len; have := HNC.out; show _ ≤ _; omega
        have HL5 : Hid ((Lc ++ [Q]).length = m5) := HN5.out.symm
        have HLM5 : Hid ((Lc ++ [Q]).length ≤ 1000000) := by rw [HL5.out]; have := HM5.out; have := HNC.out; show _ ≤ _; omega
        clear hh5 hlast hch hqv BW6 hV5 hd5 hr5 hrv5
        refine wp_region_held (S := fun w' => Hid (Below w6.heap.size w6 w')) (by kernel_rfl) ?_
        change wpAnyH _ _ _ _ _ _ _ _ w6.drew
        have Gz0 : Hid (Below w6.heap.size w6 w6.drew) := (Below.refl _ _).drew
        generalize w6.drew = z0 at Gz0  ⊢
        refine wpAnyH_take (i := 0) (oi := { dst := some 73, op := _, type := _, pos := _, after := _, guard := _ }) (v := ?_) rfl (by kernel_rfl) (by kernel_rfl) (by kernel_rfl) (fun _ _ _ h => h) (Or.inl ⟨by kernel_rfl, ?_⟩) Gz0 ?_
        rotate_left
        · (intro w hSw; go_simp; try with_reducible rfl)
        try simp only [Act.put, List.setIfInBounds_toArray, List.set_cons_zero, List.set_cons_succ]
        refine wpAnyH_take (i := 1) (oi := { dst := some 74, op := _, type := _, pos := _, after := _, guard := _ }) (v := ?_) rfl (by kernel_rfl) (by kernel_rfl) (by kernel_rfl) (fun _ _ _ h => h) (Or.inl ⟨by kernel_rfl, ?_⟩) Gz0 ?_
        rotate_left
        · (intro w hSw; go_simp; try with_reducible rfl)
        try simp only [Act.put, List.setIfInBounds_toArray, List.set_cons_zero, List.set_cons_succ]
        refine wpAnyH_ready (rs := [2]) (by kernel_rfl) (by simp) ?_
        refine (AllReadyH.cons (o := { dst := some 75, op := _, type := _, pos := _, after := _, guard := _ }) rfl (fun Qc hQc => ?_) AllReadyH.nil)
        go_simp
        go_at_call 43
        refine (CF.out z0 Gz0.out).mono ?_
        rintro e x51 ⟨rfl, hb⟩
        have Gx51 := hid (Gz0.out.trans (hb.mono Gz0.out.size))
        clear hb
        go_wp2_with fail
        refine hQc.out _ _ Gx51 (fun hHeld => ?_)
        clear hQc Qc hHeld
        try simp only [Act.put, List.setIfInBounds_toArray, List.set_cons_zero, List.set_cons_succ]
        refine wpAnyH_take (i := 3) (oi := { dst := some 76, op := _, type := _, pos := _, after := _, guard := _ }) (v := ?_) rfl (by kernel_rfl) (by kernel_rfl) (by kernel_rfl) (fun _ _ _ h => h) (Or.inl ⟨by kernel_rfl, ?_⟩) Gx51 ?_
        rotate_left
        · (intro w hSw; go_simp; try with_reducible rfl)
        try simp only [Act.put, List.setIfInBounds_toArray, List.set_cons_zero, List.set_cons_succ]
        refine wpAnyH_take (i := 4) (oi := { dst := some 77, op := _, type := _, pos := _, after := _, guard := _ }) (v := ?_) rfl (by kernel_rfl) (by kernel_rfl) (by kernel_rfl) (fun _ _ _ h => h) (Or.inl ⟨by kernel_rfl, ?_⟩) Gx51 ?_
        rotate_left
        · (intro w hSw; go_simp; try with_reducible rfl)
        try simp only [Act.put, List.setIfInBounds_toArray, List.set_cons_zero, List.set_cons_succ]
        refine wpAnyH_take (i := 5) (oi := { dst := some 78, op := _, type := _, pos := _, after := _, guard := _ }) (v := ?_) rfl (by kernel_rfl) (by kernel_rfl) (by kernel_rfl) (fun _ _ _ h => h) (Or.inl ⟨by kernel_rfl, ?_⟩) Gx51 ?_
        rotate_left
        · (intro w hSw; go_simp; try with_reducible rfl)
        try simp only [Act.put, List.setIfInBounds_toArray, List.set_cons_zero, List.set_cons_succ]
        refine wpAnyH_take (i := 6) (oi := { dst := some 79, op := _, type := _, pos := _, after := _, guard := _ }) (v := ?_) rfl (by kernel_rfl) (by kernel_rfl) (by kernel_rfl) (fun _ _ _ h => h) (Or.inl ⟨by kernel_rfl, ?_⟩) Gx51 ?_
        rotate_left
        · (intro w hSw; go_simp; try with_reducible rfl)
        try simp only [Act.put, List.setIfInBounds_toArray, List.set_cons_zero, List.set_cons_succ]
        refine wpAnyH_take (i := 7) (oi := { dst := some 80, op := _, type := _, pos := _, after := _, guard := _ }) (v := ?_) rfl (by kernel_rfl) (by kernel_rfl) (by kernel_rfl) (fun _ _ _ h => h) (Or.inl ⟨by kernel_rfl, ?_⟩) Gx51 ?_
        rotate_left
        · (intro w hSw; go_simp; try with_reducible rfl)
        try simp only [Act.put, List.setIfInBounds_toArray, List.set_cons_zero, List.set_cons_succ]
        refine wpAnyH_take (i := 8) (oi := { dst := some 81, op := _, type := _, pos := _, after := _, guard := _ }) (v := .agg ((vcs V5 Q).toArray)) rfl (by kernel_rfl) (by kernel_rfl) (by kernel_rfl) (fun _ _ _ h => h) (yieldsIf_load_mid (cs := vcs V5 Q) (by rfl) _ _ rfl _ _ rfl _ (fun w' hSw => crng_bel hSw.out RQ.out) Tryd.underlying75 rfl DQ2.out) Gx51 ?_
        try simp only [Act.put, List.setIfInBounds_toArray, List.set_cons_zero, List.set_cons_succ]
        refine wpAnyH_ready (rs := [9]) (by kernel_rfl) (by simp) ?_
        refine (AllReadyH.cons (o := { dst := some 82, op := _, type := _, pos := _, after := _, guard := _ }) rfl (fun Qc hQc => ?_) AllReadyH.nil)
        go_simp
        go_at_call 36
        refine (CM.out x51 Gx51.out).mono ?_
        rintro e x52 ⟨rfl, hb⟩
        have Gx52 := hid (Gx51.out.trans (hb.mono Gx51.out.size))
        clear hb
        go_wp2_with fail
        refine hQc.out _ _ Gx52 (fun hHeld => ?_)
        clear hQc Qc hHeld
        try simp only [Act.put, List.setIfInBounds_toArray, List.set_cons_zero, List.set_cons_succ]
        refine wpAnyH_ready (rs := [10]) (by kernel_rfl) (by simp) ?_
        refine (AllReadyH.cons (o := { dst := some 83, op := _, type := _, pos := _, after := _, guard := _ }) rfl (fun Qc hQc => ?_) AllReadyH.nil)
        go_simp
        go_at_call 45
        refine (CK.out x52 Gx52.out).mono ?_
        rintro e x53 ⟨rfl, hb⟩
        have Gx53 := hid (Gx52.out.trans (hb.mono Gx52.out.size))
        clear hb
        go_wp2_with fail
        refine hQc.out _ _ Gx53 (fun hHeld => ?_)
        clear hQc Qc hHeld
        try simp only [Act.put, List.setIfInBounds_toArray, List.set_cons_zero, List.set_cons_succ]
        refine wpAnyH_take (i := 11) (oi := { dst := some 84, op := _, type := _, pos := _, after := _, guard := _ }) (v := ?_) rfl (by kernel_rfl) (by kernel_rfl) (by kernel_rfl) (fun _ _ _ h => h) (Or.inl ⟨by kernel_rfl, ?_⟩) Gx53 ?_
        rotate_left
        · (intro w hSw; go_simp; try with_reducible rfl)
        try simp only [Act.put, List.setIfInBounds_toArray, List.set_cons_zero, List.set_cons_succ]
        refine wpAnyH_take (i := 12) (oi := { dst := some 85, op := _, type := _, pos := _, after := _, guard := _ }) (v := ?_) rfl (by kernel_rfl) (by kernel_rfl) (by kernel_rfl) (fun _ _ _ h => h) (Or.inl ⟨by kernel_rfl, ?_⟩) Gx53 ?_
        rotate_left
        · (intro w hSw; go_simp; try with_reducible rfl)
        try simp only [Act.put, List.setIfInBounds_toArray, List.set_cons_zero, List.set_cons_succ]
        refine wpAnyH_take (i := 13) (oi := { dst := some 86, op := _, type := _, pos := _, after := _, guard := _ }) (v := ?_) rfl (by kernel_rfl) (by kernel_rfl) (by kernel_rfl) (fun _ _ _ h => h) (Or.inl ⟨by kernel_rfl, ?_⟩) Gx53 ?_
        rotate_left
        · (intro w hSw; go_simp; try with_reducible rfl)
        try simp only [Act.put, List.setIfInBounds_toArray, List.set_cons_zero, List.set_cons_succ]
        refine wpAnyH_take (i := 14) (oi := { dst := some 87, op := _, type := _, pos := _, after := _, guard := _ }) (v := ?_) rfl (by kernel_rfl) (by kernel_rfl) (by kernel_rfl) (fun _ _ _ h => h) (Or.inl ⟨by kernel_rfl, ?_⟩) Gx53 ?_
        rotate_left
        · (intro w hSw; go_simp; try with_reducible rfl)
        try simp only [Act.put, List.setIfInBounds_toArray, List.set_cons_zero, List.set_cons_succ]
        refine wpAnyH_take (i := 15) (oi := { dst := some 88, op := _, type := _, pos := _, after := _, guard := _ }) (v := ?_) rfl (by kernel_rfl) (by kernel_rfl) (by kernel_rfl) (fun _ _ _ h => h) (Or.inl ⟨by kernel_rfl, ?_⟩) Gx53 ?_
        rotate_left
        · (intro w hSw; go_simp; try with_reducible rfl)
        try simp only [Act.put, List.setIfInBounds_toArray, List.set_cons_zero, List.set_cons_succ]
        refine wpAnyH_take (i := 16) (oi := { dst := some 89, op := _, type := _, pos := _, after := _, guard := _ }) (v := ?_) rfl (by kernel_rfl) (by kernel_rfl) (by kernel_rfl) (fun _ _ _ h => h) (Or.inl ⟨by kernel_rfl, ?_⟩) Gx53 ?_
        rotate_left
        · (intro w hSw; go_simp; try with_reducible rfl)
        try simp only [Act.put, List.setIfInBounds_toArray, List.set_cons_zero, List.set_cons_succ]
        refine wpAnyH_take (i := 17) (oi := { dst := some 90, op := _, type := _, pos := _, after := _, guard := _ }) (v := ?_) rfl (by kernel_rfl) (by kernel_rfl) (by kernel_rfl) (fun _ _ _ h => h) (Or.inl ⟨by kernel_rfl, ?_⟩) Gx53 ?_
        rotate_left
        · (intro w hSw; go_simp; try with_reducible rfl)
        try simp only [Act.put, List.setIfInBounds_toArray, List.set_cons_zero, List.set_cons_succ]
        refine wpAnyH_take (i := 18) (oi := { dst := some 91, op := _, type := _, pos := _, after := _, guard := _ }) (v := ?_) rfl (by kernel_rfl) (by kernel_rfl) (by kernel_rfl) (fun _ _ _ h => h) (Or.inl ⟨by kernel_rfl, ?_⟩) Gx53 ?_
        rotate_left
        · (intro w hSw; go_simp; try with_reducible rfl)
        try simp only [Act.put, List.setIfInBounds_toArray, List.set_cons_zero, List.set_cons_succ]
        refine wpAnyH_take (i := 19) (oi := { dst := some 92, op := _, type := _, pos := _, after := _, guard := _ }) (v := ?_) rfl (by kernel_rfl) (by kernel_rfl) (by kernel_rfl) (fun _ _ _ h => h) (Or.inl ⟨by kernel_rfl, ?_⟩) Gx53 ?_
        rotate_left
        · (intro w hSw; go_simp; try with_reducible rfl)
        try simp only [Act.put, List.setIfInBounds_toArray, List.set_cons_zero, List.set_cons_succ]
        refine wpAnyH_take (i := 20) (oi := { dst := some 93, op := _, type := _, pos := _, after := _, guard := _ }) (v := ?_) rfl (by kernel_rfl) (by kernel_rfl) (by kernel_rfl) (fun _ _ _ h => h) (Or.inl ⟨by kernel_rfl, ?_⟩) Gx53 ?_
        rotate_left
        · (intro w hSw; go_simp; try with_reducible rfl)
        try simp only [Act.put, List.setIfInBounds_toArray, List.set_cons_zero, List.set_cons_succ]
        refine wpAnyH_take (i := 21) (oi := { dst := some 94, op := _, type := _, pos := _, after := _, guard := _ }) (v := ?_) rfl (by kernel_rfl) (by kernel_rfl) (by kernel_rfl) (fun _ _ _ h => h) (Or.inl ⟨by kernel_rfl, ?_⟩) Gx53 ?_
        rotate_left
        · (intro w hSw; go_simp; try with_reducible rfl)
        try simp only [Act.put, List.setIfInBounds_toArray, List.set_cons_zero, List.set_cons_succ]
        refine wpAnyH_take (i := 22) (oi := { dst := some 95, op := _, type := _, pos := _, after := _, guard := _ }) (v := ?_) rfl (by kernel_rfl) (by kernel_rfl) (by kernel_rfl) (fun _ _ _ h => h) (Or.inl ⟨by kernel_rfl, ?_⟩) Gx53 ?_
        rotate_left
        · (intro w hSw; go_simp; try with_reducible rfl)
        try simp only [Act.put, List.setIfInBounds_toArray, List.set_cons_zero, List.set_cons_succ]
        refine wpAnyH_take (i := 23) (oi := { dst := some 96, op := _, type := _, pos := _, after := _, guard := _ }) (v := .int .i64 gk.e) rfl (by kernel_rfl) (by kernel_rfl) (by kernel_rfl) (fun _ _ _ h => h) (Or.inl ⟨by kernel_rfl, ?_⟩) Gx53 ?_
        · (intro w hSw; have c9 := ccell_bel hSw.out CQE.out; go_simp; try with_reducible rfl)
        try simp only [Act.put, List.setIfInBounds_toArray, List.set_cons_zero, List.set_cons_succ]
        refine wpAnyH_take (i := 24) (oi := { dst := some 97, op := _, type := _, pos := _, after := _, guard := _ }) (v := ?_) rfl (by kernel_rfl) (by kernel_rfl) (by kernel_rfl) (fun _ _ _ h => h) (Or.inl ⟨by kernel_rfl, ?_⟩) Gx53 ?_
        rotate_left
        · (intro w hSw; go_simp; try with_reducible rfl)
        try simp only [Act.put, List.setIfInBounds_toArray, List.set_cons_zero, List.set_cons_succ]
        refine wpAnyH_take (i := 25) (oi := { dst := some 98, op := _, type := _, pos := _, after := _, guard := _ }) (v := ?_) rfl (by kernel_rfl) (by kernel_rfl) (by kernel_rfl) (fun _ _ _ h => h) (Or.inl ⟨by kernel_rfl, ?_⟩) Gx53 ?_
        rotate_left
        · (intro w hSw; go_simp; try with_reducible rfl)
        try simp only [Act.put, List.setIfInBounds_toArray, List.set_cons_zero, List.set_cons_succ]
        refine wpAnyH_take (i := 26) (oi := { dst := some 99, op := _, type := _, pos := _, after := _, guard := _ }) (v := ?_) rfl (by kernel_rfl) (by kernel_rfl) (by kernel_rfl) (fun _ _ _ h => h) (Or.inl ⟨by kernel_rfl, ?_⟩) Gx53 ?_
        rotate_left
        · (intro w hSw; go_simp; try with_reducible rfl)
        try simp only [Act.put, List.setIfInBounds_toArray, List.set_cons_zero, List.set_cons_succ]
        refine wpAnyH_take (i := 27) (oi := { dst := some 100, op := _, type := _, pos := _, after := _, guard := _ }) (v := ?_) rfl (by kernel_rfl) (by kernel_rfl) (by kernel_rfl) (fun _ _ _ h => h) (Or.inl ⟨by kernel_rfl, ?_⟩) Gx53 ?_
        rotate_left
        · (intro w hSw; go_simp; try with_reducible rfl)
        try simp only [Act.put, List.setIfInBounds_toArray, List.set_cons_zero, List.set_cons_succ]
        refine wpAnyH_take (i := 28) (oi := { dst := some 101, op := _, type := _, pos := _, after := _, guard := _ }) (v := .int .i64 gk.e) rfl (by kernel_rfl) (by kernel_rfl) (by kernel_rfl) (fun _ _ _ h => h) (Or.inl ⟨by kernel_rfl, ?_⟩) Gx53 ?_
        · (intro w hSw; have c9 := ccell_bel hSw.out CE6.out; go_simp; try with_reducible rfl)
        try simp only [Act.put, List.setIfInBounds_toArray, List.set_cons_zero, List.set_cons_succ]
        refine wpAnyH_take (i := 29) (oi := { dst := some 102, op := _, type := _, pos := _, after := _, guard := _ }) (v := ?_) rfl (by kernel_rfl) (by kernel_rfl) (by kernel_rfl) (fun _ _ _ h => h) (Or.inl ⟨by kernel_rfl, ?_⟩) Gx53 ?_
        rotate_left
        · (intro w hSw; go_simp; try with_reducible rfl)
        try simp only [Act.put, List.setIfInBounds_toArray, List.set_cons_zero, List.set_cons_succ]
        refine wpAnyH_take (i := 30) (oi := { dst := some 103, op := _, type := _, pos := _, after := _, guard := _ }) (v := ?_) rfl (by kernel_rfl) (by kernel_rfl) (by kernel_rfl) (fun _ _ _ h => h) (Or.inl ⟨by kernel_rfl, ?_⟩) Gx53 ?_
        rotate_left
        · (intro w hSw; go_simp; try with_reducible rfl)
        try simp only [Act.put, List.setIfInBounds_toArray, List.set_cons_zero, List.set_cons_succ]
        refine wpAnyH_take (i := 31) (oi := { dst := some 104, op := _, type := _, pos := _, after := _, guard := _ }) (v := ?_) rfl (by kernel_rfl) (by kernel_rfl) (by kernel_rfl) (fun _ _ _ h => h) (Or.inl ⟨by kernel_rfl, ?_⟩) Gx53 ?_
        rotate_left
        · (intro w hSw; go_simp; try with_reducible rfl)
        try simp only [Act.put, List.setIfInBounds_toArray, List.set_cons_zero, List.set_cons_succ]
        refine wpAnyH_take (i := 32) (oi := { dst := some 105, op := _, type := _, pos := _, after := _, guard := _ }) (v := ?_) rfl (by kernel_rfl) (by kernel_rfl) (by kernel_rfl) (fun _ _ _ h => h) (Or.inl ⟨by kernel_rfl, ?_⟩) Gx53 ?_
        rotate_left
        · (intro w hSw; go_simp; try with_reducible rfl)
        try simp only [Act.put, List.setIfInBounds_toArray, List.set_cons_zero, List.set_cons_succ]
        refine wpAnyH_take (i := 33) (oi := { dst := some 106, op := _, type := _, pos := _, after := _, guard := _ }) (v := .slice B5 vl d5) rfl (by kernel_rfl) (by kernel_rfl) (by kernel_rfl) (fun _ _ _ h => h) (Or.inl ⟨by kernel_rfl, ?_⟩) Gx53 ?_
        · (intro w hSw; have c9 := ccell_bel hSw.out CQV.out; go_simp; try with_reducible rfl)
        try simp only [Act.put, List.setIfInBounds_toArray, List.set_cons_zero, List.set_cons_succ]
        refine wpAnyH_take (i := 34) (oi := { dst := some 107, op := _, type := _, pos := _, after := _, guard := _ }) (v := ?_) rfl (by kernel_rfl) (by kernel_rfl) (by kernel_rfl) (fun _ _ _ h => h) (Or.inl ⟨by kernel_rfl, ?_⟩) Gx53 ?_
        rotate_left
        · (intro w hSw; go_simp; try with_reducible rfl)
        try simp only [Act.put, List.setIfInBounds_toArray, List.set_cons_zero, List.set_cons_succ]
        refine wpAnyH_take (i := 35) (oi := { dst := some 108, op := _, type := _, pos := _, after := _, guard := _ }) (v := ?_) rfl (by kernel_rfl) (by kernel_rfl) (by kernel_rfl) (fun _ _ _ h => h) (Or.inl ⟨by kernel_rfl, ?_⟩) Gx53 ?_
        rotate_left
        · (intro w hSw; go_simp; try with_reducible rfl)
        try simp only [Act.put, List.setIfInBounds_toArray, List.set_cons_zero, List.set_cons_succ]
        refine wpAnyH_take (i := 36) (oi := { dst := some 109, op := _, type := _, pos := _, after := _, guard := _ }) (v := ?_) rfl (by kernel_rfl) (by kernel_rfl) (by kernel_rfl) (fun _ _ _ h => h) (Or.inl ⟨by kernel_rfl, ?_⟩) Gx53 ?_
        rotate_left
        · (intro w hSw; go_simp; try with_reducible rfl)
        try simp only [Act.put, List.setIfInBounds_toArray, List.set_cons_zero, List.set_cons_succ]
        refine wpAnyH_take (i := 37) (oi := { dst := some 110, op := _, type := _, pos := _, after := _, guard := _ }) (v := ?_) rfl (by kernel_rfl) (by kernel_rfl) (by kernel_rfl) (fun _ _ _ h => h) (Or.inl ⟨by kernel_rfl, ?_⟩) Gx53 ?_
        rotate_left
        · (intro w hSw; go_simp; try with_reducible rfl)
        try simp only [Act.put, List.setIfInBounds_toArray, List.set_cons_zero, List.set_cons_succ]
        refine wpAnyH_take (i := 38) (oi := { dst := some 111, op := _, type := _, pos := _, after := _, guard := _ }) (v := .slice Bv vl dv) rfl (by kernel_rfl) (by kernel_rfl) (by kernel_rfl) (fun _ _ _ h => h) (Or.inl ⟨by kernel_rfl, ?_⟩) Gx53 ?_
        · (intro w hSw; have c9 := ccell_bel hSw.out CV6.out; go_simp; try with_reducible rfl)
        try simp only [Act.put, List.setIfInBounds_toArray, List.set_cons_zero, List.set_cons_succ]
        refine wpAnyH_ready (rs := [39]) (by kernel_rfl) (by simp) ?_
        refine (AllReadyH.cons (o := { dst := some 112, op := _, type := _, pos := _, after := _, guard := _ }) rfl (fun Qc hQc => ?_) AllReadyH.nil)
        go_simp
        go_at_call 38
        refine (CSV.out x53 Gx53.out).mono ?_
        rintro e x54 ⟨rfl, hb⟩
        have Gx54 := hid (Gx53.out.trans (hb.mono Gx53.out.size))
        clear hb
        go_wp2_with fail
        refine hQc.out _ _ Gx54 (fun hHeld => ?_)
        clear hQc Qc hHeld
        try simp only [Act.put, List.setIfInBounds_toArray, List.set_cons_zero, List.set_cons_succ]
        refine wpAnyH_take (i := 40) (oi := { dst := some 113, op := _, type := _, pos := _, after := _, guard := _ }) (v := ?_) rfl (by kernel_rfl) (by kernel_rfl) (by kernel_rfl) (fun _ _ _ h => h) (Or.inl ⟨by kernel_rfl, ?_⟩) Gx54 ?_
        rotate_left
        · (intro w hSw; go_simp; try with_reducible rfl)
        try simp only [Act.put, List.setIfInBounds_toArray, List.set_cons_zero, List.set_cons_succ]
        refine wpAnyH_take (i := 41) (oi := { dst := some 114, op := _, type := _, pos := _, after := _, guard := _ }) (v := ?_) rfl (by kernel_rfl) (by kernel_rfl) (by kernel_rfl) (fun _ _ _ h => h) (Or.inl ⟨by kernel_rfl, ?_⟩) Gx54 ?_
        rotate_left
        · (intro w hSw; go_simp; try with_reducible rfl)
        try simp only [Act.put, List.setIfInBounds_toArray, List.set_cons_zero, List.set_cons_succ]
        refine wpAnyH_done (by kernel_rfl) ?_ _
        try simp only [Act.put, List.setIfInBounds_toArray, List.set_cons_zero, List.set_cons_succ]
        have BLx := hid (BL6.out.trans (Gx54.out.mono BL6.out.size))
        have I5x := hid (I6.out.below Gx54.out)
        have CHx := hid (CH6.out.below Gx54.out)
        have cqe := ccell_bel Gx54.out CQE.out
        have CQX := hid cqe
        have U1 := uptoC_any (gk.e - 1) I5x.out (by have := HM5.out; have := HNC.out; omega) HC5.out HV5.out
        have hf := upt_front HOK5.out
        rw [HQE.out] at hf
        rw [hf] at U1
        have U2 := fun y (hb : Below x54.heap.size x54 y) => uptoC_any gk.e (I5x.out.below hb) (by have := HM5.out; have := HNC.out; omega) HC5.out HV5.out
        have hf2 := upt_all HOK5.out
        rw [HQE.out] at hf2
        rw [hf2] at U2
        clear hf hf2
        unfold OvA at U1 U2
        have U1 := hid U1; have U2 := hid U2
        have TC := hid (fun y (hb : Below x54.heap.size x54 y) => to_any (c := cc) (CHx.out.inv.below hb) (by have := HNC.out; omega))
        unfold OvA at TC
        have tk : True := trivial
        have tk2 : True := trivial
        clear CF CM CK CSV
        go_wp2_with (first
          | (go_at_call 49; have _t := tk; refine U1.out.mono ?_; rintro e y1 ⟨u1, rfl, ho, hb⟩; have Y1 := hid hb; have OX := hid (ho.any HLM.out); clear ho tk; obtain ⟨A7, c7, hv7, hc7, hin7⟩ := OX.out; have TT := to_any (c := c7) hin7 (by have := HLC.out; omega); unfold OvA at TT; have TT := hid TT; have cqe1 := ccell_bel hb CQX.out; clear OX hc7 hin7 hb; subst hv7)
          | (go_at_call 48; have _t := tk2; refine TT.out.mono ?_; rintro e y2 ⟨u2, rfl, ho, hb⟩; have Y2 := hid (Y1.out.trans (hb.mono Y1.out.size)); have OX := hid (ho.any HLM.out); clear ho tk2; obtain ⟨A8, c8, hv8, hc8, hin8⟩ := OX.out; have I8 := hid hin8; have cqe2 := ccell_bel Y2.out CQX.out; clear OX hc8 hin8 hb TT cqe1; subst hv8)
          | (go_at_call 48; refine (TC.out _ Y2.out).mono ?_; rintro e y3 ⟨u3, rfl, ho, hb⟩; have Y3 := hid (Y2.out.trans (hb.mono Y2.out.size)); have OX := hid (ho.any HLM.out); clear ho; obtain ⟨A9, c9, hv9, hc9, hin9⟩ := OX.out; have SM := hid (sameV_any (c := c8) (d := c9) (I8.out.below hb) hin9 HV4.out HV4.out); have cqe3 := ccell_bel Y3.out CQX.out; clear OX hc9 hin9 hb cqe2; subst hv9)
          | (go_at_call 47; refine SM.out.mono ?_; rintro e y4 ⟨rfl, hb⟩; have Y4 := hid (Y3.out.trans (hb.mono Y3.out.size)); have cqe4 := ccell_bel Y4.out CQX.out; clear hb cqe3 SM)
          | (go_at_call 49; refine (U2.out _ Y4.out).mono ?_; rintro e y5 ⟨u5, rfl, ho, hb⟩; have Y5 := hid (Y4.out.trans (hb.mono Y4.out.size)); have OX := hid (ho.any HLM5.out); clear ho hb cqe4; obtain ⟨A10, c10, hv10, hc10, hin10⟩ := OX.out; have hl10 : (Lc ++ [Q]).length = m5 := HL5.out; rw [hl10] at hv10; clear OX hc10 hin10 hl10; subst hv10))
        go_roundw
        case rel => exact ⟨k + 1, Lc ++ [Q], _, m5, c5, by omega, by go_num, rfl, ⟨I5x.out.below Y5.out, HC5.out, by have := HM5.out; have := CHx.out.few; omega, HVQ.out⟩, BLx.out.trans (Y5.out.mono BLx.out.size)⟩
        case measure => simp [intOf]; omega
    ·
      have hkm2 : k = m := by omega
      subst hkm2
      go_wp2
      go_ret
      exact ⟨rfl, B2.out.trans (BL.out.mono B2.out.size)⟩
end Go.Proofs.YtjhaamffgkialaaDoor
