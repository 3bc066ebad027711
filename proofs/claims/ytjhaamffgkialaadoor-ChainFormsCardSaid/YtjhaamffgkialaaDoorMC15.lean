/-
  What is proved here: of all versions it is told whether they are a chain of the label, and with which commitment; and its first ones: the walk of the statement.
-/
import Derived.Test.YtjhaamffgkialaaDoorMC13
set_option linter.unusedSimpArgs false
set_option linter.unusedVariables false
namespace Go.Proofs.YtjhaamffgkialaaDoor
open Go.ChangeShapes Go.WideShapes Go.ChangeAt Go.RowKit
set_option linter.unusedVariables false
set_option linter.unusedSimpArgs false
set_option maxRecDepth 20000

set_option maxHeartbeats 8000000 in
theorem cforms_walk {A B : Option Addr} {n c m c2 : Nat} {lab : List Int} {L : List Vs} {ep : Int} {w : World} (h : InB w A n c lab) (hc : n ≤ c) (hL : InV w B m L) (hmc : m ≤ c2) (ht : Tab w) :
    Calls Tryd.prog 7 #[.slice A n c, .slice B m c2, .int .i64 ep] w fun e w' => e = .returned (.bool true) ∧ Below w.heap.size w w' := by
  obtain ⟨hl, hm, hb, hr⟩ := h
  have B0 := hid (Below.refl w.heap.size w)
  have HAW := hid (fun w1 (hb : Below w.heap.size w w1) => chAwake_any w1 (ht.below hb))
  have HFW := hid (fun w1 (hb : Below w.heap.size w w1) => few_any (c := c2) 20 (hL.below hb))
  have LB := hid (fun w1 (hb' : Below w.heap.size w w1) (hn : n ≤ 200) => (⟨hr.belowN hb', hb, by rw [hl]; exact hc, by rw [hl]; omega⟩ : Lbl w1 A c lab))
  have HT := hid (fun w1 (hb : Below w.heap.size w w1) => ht.below hb)
  have HL := hid hl; have HIN := hid hL; have HMC := hid hmc
  have LL := hid hL.len
  have hmax := hL.max
  clear hl hb hr hc ht hL hmc
  go_enter Tryd.func7, Tryd.ntmps7
  by_cases hn : 200 < n
  ·
    have hni : (200 : Int) < (n : Int) := by omega
    have tk : True := trivial
    go_wp2_with (first
      | (go_at_call 31; have _t := tk; refine (HAW.out _ B0.out).mono ?_; rintro e w2 ⟨rfl, hb⟩; have B2 := hid (B0.out.trans (hb.mono B0.out.size)); clear tk hb)
      | (go_at_call 31; refine (HAW.out _ B2.out).mono ?_; rintro e w3 ⟨rfl, hb⟩; have B3 := hid (B2.out.trans (hb.mono B2.out.size)); clear hb))
    go_ret
    exact ⟨rfl, B3.out⟩
  have hni : ¬ (200 : Int) < (n : Int) := by omega
  obtain ⟨fw, hfw⟩ : ∃ fw, fw = fewV L 20 := ⟨_, rfl⟩
  rw [← hfw] at HFW
  have HFWE := hid hfw
  clear hfw
  cases fw with
  | false =>
    have tk : True := trivial
    go_wp2_with (first
      | (go_at_call 31; have _t := tk; refine (HAW.out _ B0.out).mono ?_; rintro e w2 ⟨rfl, hb⟩; have B2 := hid (B0.out.trans (hb.mono B0.out.size)); clear tk hb)
      | (go_at_call 41; refine (HFW.out _ B2.out).mono ?_; rintro e w9 ⟨rfl, rfl⟩)
      | (go_at_call 31; refine (HAW.out _ B2.out).mono ?_; rintro e w3 ⟨rfl, hb⟩; have B3 := hid (B2.out.trans (hb.mono B2.out.size)); clear hb))
    go_ret
    exact ⟨rfl, B3.out⟩
  | true =>
    obtain ⟨hm20, hvs⟩ := fewV_all HFWE.out.symm (by decide)
    rw [LL.out] at hm20
    have HVS := hid hvs; have HM20 := hid hm20; have HN2 : Hid (n ≤ 200) := by show _ ≤ _; omega
    obtain ⟨Z, HZ, hZ0, hZs⟩ := zero_Hash
    go_upto_region 4 with (first
      | (go_at_call 31; refine (HAW.out _ B0.out).mono ?_; rintro e w2 ⟨rfl, hb⟩; have B2 := hid (B0.out.trans (hb.mono B0.out.size)); clear hb)
      | (go_at_call 41; refine (HFW.out _ B2.out).mono ?_; rintro e w3 ⟨rfl, rfl⟩))
    clear hvs hm20 hni hn
    have hZ : Z = (u8s zH).toArray := HZ.out
    subst hZ
    have HLL : Hid (L.length ≤ 20) := by show _ ≤ _; rw [LL.out]; exact HM20.out
    have KH0 : Hid (Blk (w2.alloc (.cells (u8s zH).toArray 26)) w2.heap.size 26 (u8s zH).toArray) := Blk.new w2 26 _
    have B3 : Hid (Below w.heap.size w (w2.alloc (.cells (u8s zH).toArray 26))) := B2.out.alloc B2.out.size _
    have SE7 : Hid (w.heap.size ≤ w2.heap.size) := B2.out.size
    generalize w2.alloc (.cells (u8s zH).toArray 26) = w4 at KH0 B3 ⊢
    generalize w2.heap.size = e7 at KH0 SE7 ⊢
    go_upto_if 24 with (fail)
    go_cut [] from 24 to 69 (fun wx => ∃ HH, Hid (Hh HH) ∧ Hid (L ≠ [] → HH = lastC (cm lab) L) ∧ Hid (Blk wx e7 26 (u8s HH).toArray) ∧ Hid (Below w.heap.size w wx))
    case first =>
      by_cases hz : L = []
      ·
        have hz0 : m = 0 := by rw [← LL.out, hz]; rfl
        subst hz0
        have HZZ := hid hz
        clear hz
        go_wp2
        go_meet
        exact ⟨zH, hh_zero, fun h => absurd HZZ.out h, KH0.out, B3.out⟩
      ·
        have hpos : 0 < L.length := List.length_pos_iff.2 hz
        have hln := LL.out
        have hz1 : ((0 : Int) < (m : Int)) := by omega
        have hz2 : 0 < m := by omega
        have hk : m - 1 < m := by omega
        obtain ⟨b, oo, V', rfl, hbl, hat, harg, hq⟩ := HIN.out.at hk
        have hvl' : (vAt L (m - 1)).v.length ≤ 300 := Nat.le_trans (HIN.out.shorts HVS.out hk) (by decide)
        have hb4 : lastC (cm lab) L = cm lab (vAt L (m - 1)) := by rw [lastC_some hpos, hln]
        obtain ⟨k, hkk⟩ : ∃ k, k = m - 1 := ⟨_, rfl⟩
        rw [← hkk] at hat harg hvl' hk hb4
        have hsub : (m : Int) - 1 = (k : Int) := by omega
        have hsubw : IntKind.i64.wrap ((m : Int) - 1) = (k : Int) := by rw [hsub]; exact IntWalk.i64_in _ (by omega)
        have hki : (k : Int) < (m : Int) := by omega
        have RA := hid (crng_bel B3.out hat.all)
        have DI := hid (vlenR V' harg.ok)
        have CM := cmR_any (LB.out _ B3.out HN2.out) (harg.below B3.out) hvl'
        rw [← hb4, HL.out] at CM
        have hhS : Hh (lastC (cm lab) L) := hh_last _ _
        obtain ⟨S, hS⟩ : ∃ S, S = lastC (cm lab) L := ⟨_, rfl⟩
        rw [← hS] at CM hhS
        have CM := hid CM
        have HS := hid hS; have HHS := hid hhS
        have HI := hid (info_hash S hhS.len)
        have HZS : Hid ((u8s zH).toArray.size = (u8s S).toArray.size) := by show _ = _; rw [hash_size32 hhS, hash_size32 hh_zero]
        clear hat harg hq hvl' hb4 hbl hkk hsub hln hS hhS hpos hz
        go_wp2_with (first
          | (refine wpList_load_mid rfl 69 (.tmp 30) rfl b (oo + k * 67) rfl (vcs V' (vAt L k)) _ RA.out Tryd.underlying69 rfl DI.out ?_)
          | (go_at_call 37; refine CM.out.mono ?_; rintro e w5 ⟨rfl, hb⟩; have KH5 := hid (KH0.out.below hb); have B5 := hid (B3.out.trans (hb.mono B3.out.size)); clear hb)
          | (refine wpList_store_row rfl 26 (.tmp 7) (.tmp 32) rfl e7 (u8s S).toArray rfl rfl 26 (u8s zH).toArray KH5.out HI.out HZS.out (u8s_all S) ?_))
        go_meet
        exact ⟨S, HHS.out, fun _ => HS.out, KH5.out.row _, below_setRow B5.out SE7.out _⟩
    case rest =>
      obtain ⟨HH, HHK, HHL, KH, BH⟩ := hcut
      clear KH0 B3 B2
      generalize wc = w5 at KH BH ⊢
      have CFr := hid (from_any (c := c2) (HIN.out.below BH.out) (by have := HM20.out; omega))
      unfold OvA at CFr
      go_wp2_with (go_at_call 42; refine CFr.out.mono ?_; rintro e w2 ⟨v8, rfl, ho, hb⟩; have O8 := hid ho; have B2 := hid (BH.out.trans (hb.mono BH.out.size)); have KH2 := hid (KH.out.below hb); clear ho hb)
      obtain ⟨A8, c8, hv8, hc8, hin8⟩ := O8.out.any (by have := HLL.out; omega)
      rw [LL.out] at hv8 hc8 hin8
      subst hv8
      have RH : Hid (w2.rangeAt e7 0 (u8s HH)) := fun j u hu => by rw [KH2.out.cell, Nat.zero_add, List.getElem?_toArray]; exact hu
      have HHI := hid (hinfo HHK.out)
      have LBx := fun x (hb : Below w2.heap.size w2 x) => LB.out x (B2.out.trans (hb.mono B2.out.size)) HN2.out
      have HTx := fun x (hb : Below w2.heap.size w2 x) => HT.out x (B2.out.trans (hb.mono B2.out.size))
      have hv300 : ∀ q ∈ L, q.v.length ≤ 300 := fun q hq => by have := HVS.out q hq; omega
      have hv1000 : ∀ q ∈ L, q.v.length ≤ 1000 := fun q hq => by have := HVS.out q hq; omega
      have hm := HM20.out
      have I1 := fun x (hb : Below w2.heap.size w2 x) => HIN.out.below (B2.out.trans (hb.mono B2.out.size))
      have CF1 := hid (fun x (hb : Below w2.heap.size w2 x) => formed_any (c2 := c8) (LBx x hb) (hin8.below hb) hv300 (by omega) (HTx x hb))
      have CF2 := hid (fun x (hb : Below w2.heap.size w2 x) => rform_any (c2 := c2) (LBx x hb) (I1 x hb) hv300 (by omega))
      have CK1 := hid (fun x (hb : Below w2.heap.size w2 x) => check_any (c2 := c8) (LBx x hb) (hin8.below hb) hv300 (by omega) HHK.out (HTx x hb))
      have CK2 := hid (fun x (hb : Below w2.heap.size w2 x) => rcheck_any (c2 := c2) (LBx x hb) (I1 x hb) hv300 (by omega) HHK.out)
      have CK3 := hid (fun x (hb : Below w2.heap.size w2 x) => check_any (c2 := 0) (LBx x hb) (InV.nil x none) (fun q hq => by simp at hq) (by decide) HHK.out (HTx x hb))
      have CU1 := hid (fun x (hb : Below w2.heap.size w2 x) => uptoC_any ep (hin8.below hb) (by omega) hc8 hv1000)
      have CU2 := hid (fun x (hb : Below w2.heap.size w2 x) => uptoR_any (c := c2) ep (I1 x hb) (by omega))
      have e3 : chF (cm lab) lab.length [] HH = false := by unfold chF labB; simp
      rw [e3] at CK3
      rw [chV_eq] at CK1
      have HUL : Hid ((upt L ep).length ≤ 1000) := by have := upt_bound L ep; have := HLL.out; show _ ≤ _; omega
      have HUB : Hid ((upt L ep).length ≤ 1000000) := by have := HUL.out; show _ ≤ _; omega
      have HUV : Hid (∀ q ∈ upt L ep, q.v.length ≤ 1000) := fun q hq => hv1000 q (by unfold upt at hq; exact (List.takeWhile_sublist _).subset hq)
      unfold OvA at CU1 CU2
      rw [HL.out] at CF1 CF2 CK1 CK2 CK3
      generalize okF (cm lab) n L = v1 at CF1 CF2 CK1 CK2
      generalize (v1 && decide (lastC (cm lab) L = HH)) = v2 at CK1 CK2
      generalize upt L ep = U at CU1 CU2 HUL HUB HUV
      clear LBx HTx hv300 hv1000 hm I1 e3 hin8 hc8 O8 CFr KH2
      refine wp_region_held (S := fun w' => Hid (Below w2.heap.size w2 w')) (by kernel_rfl) ?_
      change wpAnyH _ _ _ _ _ _ _ _ w2.drew
      have Gx0 : Hid (Below w2.heap.size w2 w2.drew) := (Below.refl _ _).drew
      generalize w2.drew = x0 at Gx0  ⊢
      refine wpAnyH_take (i := 0) (oi := { dst := some 35, op := _, type := _, pos := _, after := _, guard := _ }) (v := ?_) rfl (by kernel_rfl) (by kernel_rfl) (by kernel_rfl) (fun _ _ _ h => h) (Or.inl ⟨by kernel_rfl, ?_⟩) Gx0 ?_
      rotate_left
      · (intro w hSw; go_simp; try with_reducible rfl)
      try simp only [Act.put, List.setIfInBounds_toArray, List.set_cons_zero, List.set_cons_succ]
      refine wpAnyH_take (i := 1) (oi := { dst := some 36, op := _, type := _, pos := _, after := _, guard := _ }) (v := ?_) rfl (by kernel_rfl) (by kernel_rfl) (by kernel_rfl) (fun _ _ _ h => h) (Or.inl ⟨by kernel_rfl, ?_⟩) Gx0 ?_
      rotate_left
      · (intro w hSw; go_simp; try with_reducible rfl)
      try simp only [Act.put, List.setIfInBounds_toArray, List.set_cons_zero, List.set_cons_succ]
      refine wpAnyH_take (i := 3) (oi := { dst := some 38, op := _, type := _, pos := _, after := _, guard := _ }) (v := ?_) rfl (by kernel_rfl) (by kernel_rfl) (by kernel_rfl) (fun _ _ _ h => h) (Or.inl ⟨by kernel_rfl, ?_⟩) Gx0 ?_
      rotate_left
      · (intro w hSw; go_simp; try with_reducible rfl)
      try simp only [Act.put, List.setIfInBounds_toArray, List.set_cons_zero, List.set_cons_succ]
      refine wpAnyH_take (i := 4) (oi := { dst := some 39, op := _, type := _, pos := _, after := _, guard := _ }) (v := ?_) rfl (by kernel_rfl) (by kernel_rfl) (by kernel_rfl) (fun _ _ _ h => h) (Or.inl ⟨by kernel_rfl, ?_⟩) Gx0 ?_
      rotate_left
      · (intro w hSw; go_simp; try with_reducible rfl)
      try simp only [Act.put, List.setIfInBounds_toArray, List.set_cons_zero, List.set_cons_succ]
      refine wpAnyH_ready (rs := [2]) (by kernel_rfl) (by simp) ?_
      refine (AllReadyH.cons (o := { dst := some 37, op := _, type := _, pos := _, after := _, guard := _ }) rfl (fun Qc hQc => ?_) AllReadyH.nil)
      go_simp
      go_at_call 43
      refine (CF1.out x0 Gx0.out).mono ?_
      rintro e x1 ⟨rfl, hb⟩
      have Gx1 := hid (Gx0.out.trans (hb.mono Gx0.out.size))
      clear hb
      go_wp2_with fail
      refine hQc.out _ _ Gx1 (fun hHeld => ?_)
      clear hQc Qc hHeld
      try simp only [Act.put, List.setIfInBounds_toArray, List.set_cons_zero, List.set_cons_succ]
      refine wpAnyH_ready (rs := [5]) (by kernel_rfl) (by simp) ?_
      refine (AllReadyH.cons (o := { dst := some 40, op := _, type := _, pos := _, after := _, guard := _ }) rfl (fun Qc hQc => ?_) AllReadyH.nil)
      go_simp
      go_at_call 44
      refine (CF2.out x1 Gx1.out).mono ?_
      rintro e x2 ⟨rfl, hb⟩
      have Gx2 := hid (Gx1.out.trans (hb.mono Gx1.out.size))
      clear hb
      go_wp2_with fail
      refine hQc.out _ _ Gx2 (fun hHeld => ?_)
      clear hQc Qc hHeld
      try simp only [Act.put, List.setIfInBounds_toArray, List.set_cons_zero, List.set_cons_succ]
      refine wpAnyH_take (i := 6) (oi := { dst := some 41, op := _, type := _, pos := _, after := _, guard := _ }) (v := ?_) rfl (by kernel_rfl) (by kernel_rfl) (by kernel_rfl) (fun _ _ _ h => h) (Or.inl ⟨by kernel_rfl, ?_⟩) Gx2 ?_
      rotate_left
      · (intro w hSw; go_simp; try with_reducible rfl)
      try simp only [Act.put, List.setIfInBounds_toArray, List.set_cons_zero, List.set_cons_succ]
      refine wpAnyH_take (i := 7) (oi := { dst := some 42, op := _, type := _, pos := _, after := _, guard := _ }) (v := ?_) rfl (by kernel_rfl) (by kernel_rfl) (by kernel_rfl) (fun _ _ _ h => h) (Or.inl ⟨by kernel_rfl, ?_⟩) Gx2 ?_
      rotate_left
      · (intro w hSw; go_simp; try with_reducible rfl)
      try simp only [Act.put, List.setIfInBounds_toArray, List.set_cons_zero, List.set_cons_succ]
      refine wpAnyH_take (i := 8) (oi := { dst := some 43, op := _, type := _, pos := _, after := _, guard := _ }) (v := ?_) rfl (by kernel_rfl) (by kernel_rfl) (by kernel_rfl) (fun _ _ _ h => h) (Or.inl ⟨by kernel_rfl, ?_⟩) Gx2 ?_
      rotate_left
      · (intro w hSw; go_simp; try with_reducible rfl)
      try simp only [Act.put, List.setIfInBounds_toArray, List.set_cons_zero, List.set_cons_succ]
      refine wpAnyH_take (i := 9) (oi := { dst := some 44, op := _, type := _, pos := _, after := _, guard := _ }) (v := ?_) rfl (by kernel_rfl) (by kernel_rfl) (by kernel_rfl) (fun _ _ _ h => h) (Or.inl ⟨by kernel_rfl, ?_⟩) Gx2 ?_
      rotate_left
      · (intro w hSw; go_simp; try with_reducible rfl)
      try simp only [Act.put, List.setIfInBounds_toArray, List.set_cons_zero, List.set_cons_succ]
      refine wpAnyH_take (i := 10) (oi := { dst := some 45, op := _, type := _, pos := _, after := _, guard := _ }) (v := .agg ((u8s HH).toArray)) rfl (by kernel_rfl) (by kernel_rfl) (by kernel_rfl) (fun _ _ _ h => h) (yieldsIf_load_mid (cs := u8s HH) (by rfl) _ _ rfl _ _ rfl _ (fun w' hSw => crng_bel hSw.out RH.out) Tryd.underlying26 rfl HHI.out) Gx2 ?_
      try simp only [Act.put, List.setIfInBounds_toArray, List.set_cons_zero, List.set_cons_succ]
      refine wpAnyH_take (i := 12) (oi := { dst := some 47, op := _, type := _, pos := _, after := _, guard := _ }) (v := ?_) rfl (by kernel_rfl) (by kernel_rfl) (by kernel_rfl) (fun _ _ _ h => h) (Or.inl ⟨by kernel_rfl, ?_⟩) Gx2 ?_
      rotate_left
      · (intro w hSw; go_simp; try with_reducible rfl)
      try simp only [Act.put, List.setIfInBounds_toArray, List.set_cons_zero, List.set_cons_succ]
      refine wpAnyH_take (i := 13) (oi := { dst := some 48, op := _, type := _, pos := _, after := _, guard := _ }) (v := ?_) rfl (by kernel_rfl) (by kernel_rfl) (by kernel_rfl) (fun _ _ _ h => h) (Or.inl ⟨by kernel_rfl, ?_⟩) Gx2 ?_
      rotate_left
      · (intro w hSw; go_simp; try with_reducible rfl)
      try simp only [Act.put, List.setIfInBounds_toArray, List.set_cons_zero, List.set_cons_succ]
      refine wpAnyH_take (i := 14) (oi := { dst := some 49, op := _, type := _, pos := _, after := _, guard := _ }) (v := .agg ((u8s HH).toArray)) rfl (by kernel_rfl) (by kernel_rfl) (by kernel_rfl) (fun _ _ _ h => h) (yieldsIf_load_mid (cs := u8s HH) (by rfl) _ _ rfl _ _ rfl _ (fun w' hSw => crng_bel hSw.out RH.out) Tryd.underlying26 rfl HHI.out) Gx2 ?_
      try simp only [Act.put, List.setIfInBounds_toArray, List.set_cons_zero, List.set_cons_succ]
      refine wpAnyH_ready (rs := [11]) (by kernel_rfl) (by simp) ?_
      refine (AllReadyH.cons (o := { dst := some 46, op := _, type := _, pos := _, after := _, guard := _ }) rfl (fun Qc hQc => ?_) AllReadyH.nil)
      go_simp
      go_at_call 45
      refine (CK1.out x2 Gx2.out).mono ?_
      rintro e x3 ⟨rfl, hb⟩
      have Gx3 := hid (Gx2.out.trans (hb.mono Gx2.out.size))
      clear hb
      go_wp2_with fail
      refine hQc.out _ _ Gx3 (fun hHeld => ?_)
      clear hQc Qc hHeld
      try simp only [Act.put, List.setIfInBounds_toArray, List.set_cons_zero, List.set_cons_succ]
      refine wpAnyH_ready (rs := [15]) (by kernel_rfl) (by simp) ?_
      refine (AllReadyH.cons (o := { dst := some 50, op := _, type := _, pos := _, after := _, guard := _ }) rfl (fun Qc hQc => ?_) AllReadyH.nil)
      go_simp
      go_at_call 46
      refine (CK2.out x3 Gx3.out).mono ?_
      rintro e x4 ⟨rfl, hb⟩
      have Gx4 := hid (Gx3.out.trans (hb.mono Gx3.out.size))
      clear hb
      go_wp2_with fail
      refine hQc.out _ _ Gx4 (fun hHeld => ?_)
      clear hQc Qc hHeld
      try simp only [Act.put, List.setIfInBounds_toArray, List.set_cons_zero, List.set_cons_succ]
      refine wpAnyH_take (i := 16) (oi := { dst := some 51, op := _, type := _, pos := _, after := _, guard := _ }) (v := ?_) rfl (by kernel_rfl) (by kernel_rfl) (by kernel_rfl) (fun _ _ _ h => h) (Or.inl ⟨by kernel_rfl, ?_⟩) Gx4 ?_
      rotate_left
      · (intro w hSw; go_simp; try with_reducible rfl)
      try simp only [Act.put, List.setIfInBounds_toArray, List.set_cons_zero, List.set_cons_succ]
      refine wpAnyH_take (i := 17) (oi := { dst := some 52, op := _, type := _, pos := _, after := _, guard := _ }) (v := ?_) rfl (by kernel_rfl) (by kernel_rfl) (by kernel_rfl) (fun _ _ _ h => h) (Or.inl ⟨by kernel_rfl, ?_⟩) Gx4 ?_
      rotate_left
      · (intro w hSw; go_simp; try with_reducible rfl)
      try simp only [Act.put, List.setIfInBounds_toArray, List.set_cons_zero, List.set_cons_succ]
      refine wpAnyH_take (i := 18) (oi := { dst := some 53, op := _, type := _, pos := _, after := _, guard := _ }) (v := ?_) rfl (by kernel_rfl) (by kernel_rfl) (by kernel_rfl) (fun _ _ _ h => h) (Or.inl ⟨by kernel_rfl, ?_⟩) Gx4 ?_
      rotate_left
      · (intro w hSw; go_simp; try with_reducible rfl)
      try simp only [Act.put, List.setIfInBounds_toArray, List.set_cons_zero, List.set_cons_succ]
      refine wpAnyH_take (i := 19) (oi := { dst := some 54, op := _, type := _, pos := _, after := _, guard := _ }) (v := ?_) rfl (by kernel_rfl) (by kernel_rfl) (by kernel_rfl) (fun _ _ _ h => h) (Or.inl ⟨by kernel_rfl, ?_⟩) Gx4 ?_
      rotate_left
      · (intro w hSw; go_simp; try with_reducible rfl)
      try simp only [Act.put, List.setIfInBounds_toArray, List.set_cons_zero, List.set_cons_succ]
      refine wpAnyH_take (i := 20) (oi := { dst := some 55, op := _, type := _, pos := _, after := _, guard := _ }) (v := .agg ((u8s HH).toArray)) rfl (by kernel_rfl) (by kernel_rfl) (by kernel_rfl) (fun _ _ _ h => h) (yieldsIf_load_mid (cs := u8s HH) (by rfl) _ _ rfl _ _ rfl _ (fun w' hSw => crng_bel hSw.out RH.out) Tryd.underlying26 rfl HHI.out) Gx4 ?_
      try simp only [Act.put, List.setIfInBounds_toArray, List.set_cons_zero, List.set_cons_succ]
      refine wpAnyH_ready (rs := [21]) (by kernel_rfl) (by simp) ?_
      refine (AllReadyH.cons (o := { dst := some 56, op := _, type := _, pos := _, after := _, guard := _ }) rfl (fun Qc hQc => ?_) AllReadyH.nil)
      go_simp
      go_at_call 45
      refine (CK3.out x4 Gx4.out).mono ?_
      rintro e x5 ⟨rfl, hb⟩
      have Gx5 := hid (Gx4.out.trans (hb.mono Gx4.out.size))
      clear hb
      go_wp2_with fail
      refine hQc.out _ _ Gx5 (fun hHeld => ?_)
      clear hQc Qc hHeld
      try simp only [Act.put, List.setIfInBounds_toArray, List.set_cons_zero, List.set_cons_succ]
      refine wpAnyH_take (i := 22) (oi := { dst := some 57, op := _, type := _, pos := _, after := _, guard := _ }) (v := ?_) rfl (by kernel_rfl) (by kernel_rfl) (by kernel_rfl) (fun _ _ _ h => h) (Or.inl ⟨by kernel_rfl, ?_⟩) Gx5 ?_
      rotate_left
      · (intro w hSw; go_simp; try with_reducible rfl)
      try simp only [Act.put, List.setIfInBounds_toArray, List.set_cons_zero, List.set_cons_succ]
      refine wpAnyH_take (i := 23) (oi := { dst := some 58, op := _, type := _, pos := _, after := _, guard := _ }) (v := ?_) rfl (by kernel_rfl) (by kernel_rfl) (by kernel_rfl) (fun _ _ _ h => h) (Or.inl ⟨by kernel_rfl, ?_⟩) Gx5 ?_
      rotate_left
      · (intro w hSw; go_simp; try with_reducible rfl)
      try simp only [Act.put, List.setIfInBounds_toArray, List.set_cons_zero, List.set_cons_succ]
      refine wpAnyH_take (i := 24) (oi := { dst := some 59, op := _, type := _, pos := _, after := _, guard := _ }) (v := ?_) rfl (by kernel_rfl) (by kernel_rfl) (by kernel_rfl) (fun _ _ _ h => h) (Or.inl ⟨by kernel_rfl, ?_⟩) Gx5 ?_
      rotate_left
      · (intro w hSw; go_simp; try with_reducible rfl)
      try simp only [Act.put, List.setIfInBounds_toArray, List.set_cons_zero, List.set_cons_succ]
      refine wpAnyH_take (i := 25) (oi := { dst := some 60, op := _, type := _, pos := _, after := _, guard := _ }) (v := ?_) rfl (by kernel_rfl) (by kernel_rfl) (by kernel_rfl) (fun _ _ _ h => h) (Or.inl ⟨by kernel_rfl, ?_⟩) Gx5 ?_
      rotate_left
      · (intro w hSw; go_simp; try with_reducible rfl)
      try simp only [Act.put, List.setIfInBounds_toArray, List.set_cons_zero, List.set_cons_succ]
      refine wpAnyH_take (i := 26) (oi := { dst := some 61, op := _, type := _, pos := _, after := _, guard := _ }) (v := ?_) rfl (by kernel_rfl) (by kernel_rfl) (by kernel_rfl) (fun _ _ _ h => h) (Or.inl ⟨by kernel_rfl, ?_⟩) Gx5 ?_
      rotate_left
      · (intro w hSw; go_simp; try with_reducible rfl)
      try simp only [Act.put, List.setIfInBounds_toArray, List.set_cons_zero, List.set_cons_succ]
      refine wpAnyH_take (i := 29) (oi := { dst := some 64, op := _, type := _, pos := _, after := _, guard := _ }) (v := ?_) rfl (by kernel_rfl) (by kernel_rfl) (by kernel_rfl) (fun _ _ _ h => h) (Or.inl ⟨by kernel_rfl, ?_⟩) Gx5 ?_
      rotate_left
      · (intro w hSw; go_simp; try with_reducible rfl)
      try simp only [Act.put, List.setIfInBounds_toArray, List.set_cons_zero, List.set_cons_succ]
      refine wpAnyH_take (i := 30) (oi := { dst := some 65, op := _, type := _, pos := _, after := _, guard := _ }) (v := ?_) rfl (by kernel_rfl) (by kernel_rfl) (by kernel_rfl) (fun _ _ _ h => h) (Or.inl ⟨by kernel_rfl, ?_⟩) Gx5 ?_
      rotate_left
      · (intro w hSw; go_simp; try with_reducible rfl)
      try simp only [Act.put, List.setIfInBounds_toArray, List.set_cons_zero, List.set_cons_succ]
      refine wpAnyH_ready (rs := [27]) (by kernel_rfl) (by simp) ?_
      refine (AllReadyH.cons (o := { dst := some 62, op := _, type := _, pos := _, after := _, guard := _ }) rfl (fun Qc hQc => ?_) AllReadyH.nil)
      go_simp
      go_at_call 49
      refine (CU1.out x5 Gx5.out).mono ?_
      rintro e x6 ⟨v5, rfl, ho, hb⟩
      have Gx6 := hid (Gx5.out.trans (hb.mono Gx5.out.size))
      obtain ⟨A5, c5, hv5, _, hin5⟩ := ho.any HUB.out
      subst hv5
      have I5 := hid hin5
      clear hb ho hin5
      go_wp2_with fail
      refine hQc.out _ _ Gx6 (fun hHeld => ?_)
      clear hQc Qc hHeld
      try simp only [Act.put, List.setIfInBounds_toArray, List.set_cons_zero, List.set_cons_succ]
      refine wpAnyH_ready (rs := [28]) (by kernel_rfl) (by simp) ?_
      refine (AllReadyH.cons (o := { dst := some 63, op := _, type := _, pos := _, after := _, guard := _ }) rfl (fun Qc hQc => ?_) AllReadyH.nil)
      go_simp
      go_at_call 48
      refine (to_any I5.out HUL.out).mono ?_
      rintro e x7 ⟨v6, rfl, ho, hb⟩
      have Gx7 := hid (Gx6.out.trans (hb.mono Gx6.out.size))
      obtain ⟨A6, c6, hv6, _, hin6⟩ := ho.any HUB.out
      subst hv6
      have I6 := hid hin6
      clear hb ho hin6
      go_wp2_with fail
      refine hQc.out _ _ Gx7 (fun hHeld => ?_)
      clear hQc Qc hHeld
      try simp only [Act.put, List.setIfInBounds_toArray, List.set_cons_zero, List.set_cons_succ]
      refine wpAnyH_ready (rs := [31]) (by kernel_rfl) (by simp) ?_
      refine (AllReadyH.cons (o := { dst := some 66, op := _, type := _, pos := _, after := _, guard := _ }) rfl (fun Qc hQc => ?_) AllReadyH.nil)
      go_simp
      go_at_call 50
      refine (CU2.out x7 Gx7.out).mono ?_
      rintro e x8 ⟨v7, rfl, ho, hb⟩
      have Gx8 := hid (Gx7.out.trans (hb.mono Gx7.out.size))
      obtain ⟨A7, c7, hv7, _, hin7⟩ := ho.any HUB.out
      subst hv7
      have I7 := hid hin7
      have I6' := hid (I6.out.below hb)
      clear I6
      have I6 := I6'
      clear I6'
      clear hb ho hin7
      go_wp2_with fail
      refine hQc.out _ _ Gx8 (fun hHeld => ?_)
      clear hQc Qc hHeld
      try simp only [Act.put, List.setIfInBounds_toArray, List.set_cons_zero, List.set_cons_succ]
      refine wpAnyH_ready (rs := [32]) (by kernel_rfl) (by simp) ?_
      refine (AllReadyH.cons (o := { dst := some 67, op := _, type := _, pos := _, after := _, guard := _ }) rfl (fun Qc hQc => ?_) AllReadyH.nil)
      go_simp
      go_at_call 47
      refine (sameV_any I6.out I7.out HUV.out HUV.out).mono ?_
      rintro e x9 ⟨rfl, hb⟩
      have Gx9 := hid (Gx8.out.trans (hb.mono Gx8.out.size))
      clear hb
      go_wp2_with fail
      refine hQc.out _ _ Gx9 (fun hHeld => ?_)
      clear hQc Qc hHeld
      try simp only [Act.put, List.setIfInBounds_toArray, List.set_cons_zero, List.set_cons_succ]
      refine wpAnyH_take (i := 33) (oi := { dst := some 68, op := _, type := _, pos := _, after := _, guard := _ }) (v := ?_) rfl (by kernel_rfl) (by kernel_rfl) (by kernel_rfl) (fun _ _ _ h => h) (Or.inl ⟨by kernel_rfl, ?_⟩) Gx9 ?_
      rotate_left
      · (intro w hSw; go_simp; try with_reducible rfl)
      try simp only [Act.put, List.setIfInBounds_toArray, List.set_cons_zero, List.set_cons_succ]
      refine wpAnyH_take (i := 34) (oi := { dst := some 6, op := _, type := _, pos := _, after := _, guard := _ }) (v := ?_) rfl (by kernel_rfl) (by kernel_rfl) (by kernel_rfl) (fun _ _ _ h => h) (Or.inl ⟨by kernel_rfl, ?_⟩) Gx9 ?_
      rotate_left
      · (intro w hSw; go_simp; try with_reducible rfl)
      try simp only [Act.put, List.setIfInBounds_toArray, List.set_cons_zero, List.set_cons_succ]
      refine wpAnyH_done (by kernel_rfl) ?_ _
      try simp only [Act.put, List.setIfInBounds_toArray, List.set_cons_zero, List.set_cons_succ]
      go_wp2
      go_ret
      exact ⟨by simp, B2.out.trans (Gx9.out.mono B2.out.size)⟩
end Go.Proofs.YtjhaamffgkialaaDoor
