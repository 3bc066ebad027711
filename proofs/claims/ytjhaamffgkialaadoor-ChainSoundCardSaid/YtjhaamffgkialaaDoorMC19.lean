/-
  What is proved here: two chains of one label with one commitment are the same, or two different texts that are hashed have one hash: the walk of the statement.
-/
import Derived.Test.YtjhaamffgkialaaDoorMC13
import Derived.Test.YtjhaamffgkialaaDoorMCX
set_option linter.unusedSimpArgs false
set_option linter.unusedVariables false
namespace Go.Proofs.YtjhaamffgkialaaDoor
open Go.ChangeShapes Go.WideShapes Go.ChangeAt Go.RowKit
set_option linter.unusedVariables false
set_option linter.unusedSimpArgs false
set_option maxRecDepth 20000

theorem be4_in {n k : Int} (hn : 0 ≤ n ∧ n < 4294967296) (hk : 0 ≤ k ∧ k < 4294967296) (h : be n 4 = be k 4) : n = k := by
  rw [be4_eq, be4_eq] at h
  injection h with h1 h; injection h with h2 h; injection h with h3 h; injection h with h4 h
  omega
theorem verTin {lab : List Int} {x y : Vs} (hl : lab.length ≤ 300) (hx : x.Ok) (hy : y.Ok) (hxv : x.v.length ≤ 300) (hyv : y.v.length ≤ 300) (h1 : 0 ≤ x.n ∧ x.n < 4294967296) (h2 : 0 ≤ y.n ∧ y.n < 4294967296) (h3 : 0 ≤ x.e ∧ x.e < 4294967296) (h4 : 0 ≤ y.e ∧ y.e < 4294967296) (h : verT lab x = verT lab y) : x = y := by
  have hle : ∀ q : Vs, q.Ok → q.v.length ≤ 300 → ∀ f ∈ [lab, be q.n 4, be q.e 4, q.s, q.b, q.v], f.length ≤ 300 := fun q hq hv f hf => by
    simp only [List.mem_cons, List.not_mem_nil, or_false] at hf
    rcases hf with rfl | rfl | rfl | rfl | rfl | rfl
    · exact hl
    · rw [be_length]; decide
    · rw [be_length]; decide
    · rw [hq.s.len]; decide
    · rw [hq.b.len]; decide
    · exact hv
  have h5 := ((textL_inj 99 99 _ _ (hle x hx hxv) (hle y hy hyv)).1 h).2
  injection h5 with _ h5; injection h5 with e1 h5; injection h5 with e2 h5; injection h5 with e3 h5; injection h5 with e4 h5; injection h5 with e5 _
  exact vs_ext.2 ⟨be4_in h1 h2 e1, be4_in h3 h4 e2, e3, e4, e5⟩
theorem stV_in {C : Vs → List Int} {m : Nat} {L : List Vs} (h : okF C m L = true) {i : Nat} (hi : i < L.length) : (vAt L i).n = (i : Int) + 1 ∧ 1 ≤ (vAt L i).e ∧ (vAt L i).e ≤ 2147483647 := by
  have := ((okV_iff C m L).1 h).2 i hi
  unfold stF at this
  rw [Bool.and_eq_true, decide_eq_true_eq] at this
  exact ⟨this.1.1, this.1.2.1, this.1.2.2.1⟩
theorem csound_math {lab : List Int} {m : Nat} {a b : List Vs} (hl : lab.length ≤ 300) (ha : ∀ q ∈ a, q.Ok) (hb : ∀ q ∈ b, q.Ok) (hav : ∀ q ∈ a, q.v.length ≤ 300) (hbv : ∀ q ∈ b, q.v.length ≤ 300) (hal : a.length ≤ 1000) (hbl : b.length ≤ 1000)
    (h1 : okF (cm lab) m a = true) (h2 : okF (cm lab) m b = true) (h3 : lastC (cm lab) a = lastC (cm lab) b) (hne : a ≠ b) : clashV (txsV lab a) (txsV lab b) = true := by
  have hmem : ∀ {L : List Vs} {i : Nat}, i < L.length → vAt L i ∈ L := fun {L} {i} hi => by
    unfold vAt; rw [List.getElem?_eq_getElem hi]; exact List.getElem_mem hi
  have key := sound_clash (T := verT lab) (H := sum) (n := m) (a := a) (b := b) (fun x y i j hi hj hx hy hxn hyn he => by
    subst hx hy
    obtain ⟨n1, e1, e2⟩ := stV_in h1 hi
    obtain ⟨n2, f1, f2⟩ := stV_in h2 hj
    exact verTin hl (ha _ (hmem hi)) (hb _ (hmem hj)) (hav _ (hmem hi)) (hbv _ (hmem hj)) (by omega) (by omega) (by omega) (by omega) he) h1 h2 h3
  rcases key with h | ⟨i, j, hi, hj, hT, hH⟩
  · exact absurd h hne
  · have g1 : (txsV lab a)[i]? = some (verT lab (vAt a i)) := by
      unfold txsV vAt; rw [List.getElem?_map, List.getElem?_eq_getElem hi]; rfl
    have g2 : (txsV lab b)[j]? = some (verT lab (vAt b j)) := by
      unfold txsV vAt; rw [List.getElem?_map, List.getElem?_eq_getElem hj]; rfl
    refine clashV_some g1 g2 ?_
    unfold clash1V
    rw [decide_eq_false hT, decide_eq_true hH]; rfl
set_option maxHeartbeats 8000000 in
theorem csound_walk {A B D : Option Addr} {n c m c2 k c3 : Nat} {lab : List Int} {La Lb : List Vs} {w : World} (h : InB w A n c lab) (hc : n ≤ c) (hL : InV w B m La) (hmc : m ≤ c2) (hM : InV w D k Lb) (hkc : k ≤ c3) (ht : Tab w) :
    Calls Tryd.prog 10 #[.slice A n c, .slice B m c2, .slice D k c3] w fun e w' => e = .returned (.bool true) ∧ Below w.heap.size w w' := by
  obtain ⟨hl, hm, hb, hr⟩ := h
  have B0 := hid (Below.refl w.heap.size w)
  have HAW := hid (fun w1 (hb : Below w.heap.size w w1) => chAwake_any w1 (ht.below hb))
  have HFa := hid (fun w1 (hb : Below w.heap.size w w1) => few_any (c := c2) 12 (hL.below hb))
  have HFb := hid (fun w1 (hb : Below w.heap.size w w1) => few_any (c := c3) 12 (hM.below hb))
  have LB := hid (fun w1 (hb' : Below w.heap.size w w1) (hn : n ≤ 200) => (⟨hr.belowN hb', hb, by rw [hl]; exact hc, by rw [hl]; omega⟩ : Lbl w1 A c lab))
  have HT := hid (fun w1 (hb : Below w.heap.size w w1) => ht.below hb)
  have HL := hid hl; have HIa := hid hL; have HIb := hid hM; have HBS := hid hb
  have LLa := hid hL.len; have LLb := hid hM.len
  have hmax := hL.max; have hmax2 := hM.max
  clear hl hb hr hc ht hL hmc hM hkc
  go_enter Tryd.func10, Tryd.ntmps10
  by_cases hn : 200 < n
  ·
    have hni : (200 : Int) < (n : Int) := by omega
    have tk : True := trivial
    go_wp2_with (first
      | (go_at_call 31; have _t := tk; refine (HAW.out _ B0.out).mono ?_; rintro e w2 ⟨rfl, hb⟩; have B2 := hid (B0.out.trans (hb.mono B0.out.size)); clear tk hb)
      | (go_at_call 31; refine (HAW.out _ B2.out).mono ?_; rintro e w3 ⟨rfl, hb⟩; have B3 := hid (B2.out.trans (hb.mono B2.out.size)); clear hb))
    go_ret
    exact ⟨rfl, B3.out⟩
  have hni : ¬ (200 : Int) < (n : Int) := by omega
  obtain ⟨fa, hfa⟩ : ∃ fw, fw = fewV La 12 := ⟨_, rfl⟩
  rw [← hfa] at HFa
  have HFAE := hid hfa
  clear hfa
  cases fa with
  | false =>
    have tk : True := trivial
    go_wp2_with (first
      | (go_at_call 31; have _t := tk; refine (HAW.out _ B0.out).mono ?_; rintro e w2 ⟨rfl, hb⟩; have B2 := hid (B0.out.trans (hb.mono B0.out.size)); clear tk hb)
      | (go_at_call 41; refine (HFa.out _ B2.out).mono ?_; rintro e w9 ⟨rfl, rfl⟩)
      | (go_at_call 31; refine (HAW.out _ B2.out).mono ?_; rintro e w3 ⟨rfl, hb⟩; have B3 := hid (B2.out.trans (hb.mono B2.out.size)); clear hb))
    go_ret
    exact ⟨rfl, B3.out⟩
  | true =>
    obtain ⟨fb, hfb⟩ : ∃ fw, fw = fewV Lb 12 := ⟨_, rfl⟩
    rw [← hfb] at HFb
    have HFBE := hid hfb
    clear hfb
    cases fb with
    | false =>
      have tk : True := trivial
      have tk2 : True := trivial
      go_wp2_with (first
        | (go_at_call 31; have _t := tk; refine (HAW.out _ B0.out).mono ?_; rintro e w2 ⟨rfl, hb⟩; have B2 := hid (B0.out.trans (hb.mono B0.out.size)); clear tk hb)
        | (go_at_call 41; have _t := tk2; refine (HFa.out _ B2.out).mono ?_; rintro e w9 ⟨rfl, rfl⟩; clear tk2)
        | (go_at_call 41; refine (HFb.out _ B2.out).mono ?_; rintro e w9 ⟨rfl, rfl⟩)
        | (go_at_call 31; refine (HAW.out _ B2.out).mono ?_; rintro e w3 ⟨rfl, hb⟩; have B3 := hid (B2.out.trans (hb.mono B2.out.size)); clear hb))
      go_ret
      exact ⟨rfl, B3.out⟩
    | true =>
      obtain ⟨hm20, hvs⟩ := fewV_all HFAE.out.symm (by decide)
      obtain ⟨hk20, hvs2⟩ := fewV_all HFBE.out.symm (by decide)
      rw [LLa.out] at hm20
      rw [LLb.out] at hk20
      have HVa : Hid (∀ q ∈ La, q.v.length ≤ 300) := fun q hq => by have := hvs q hq; omega
      have HVb : Hid (∀ q ∈ Lb, q.v.length ≤ 300) := fun q hq => by have := hvs2 q hq; omega
      have HMa := hid hm20; have HMb := hid hk20; have HN2 : Hid (n ≤ 200) := by show _ ≤ _; omega
      clear hvs hm20 hvs2 hk20
      by_cases hm0 : m = 0
      ·
        subst hm0
        have tk : True := trivial
        have tk2 : True := trivial
        go_wp2_with (first
          | (go_at_call 31; have _t := tk; refine (HAW.out _ B0.out).mono ?_; rintro e w2 ⟨rfl, hb⟩; have B2 := hid (B0.out.trans (hb.mono B0.out.size)); clear tk hb)
          | (go_at_call 41; have _t := tk2; refine (HFa.out _ B2.out).mono ?_; rintro e w9 ⟨rfl, rfl⟩; clear tk2)
          | (go_at_call 41; refine (HFb.out _ B2.out).mono ?_; rintro e w9 ⟨rfl, rfl⟩)
          | (go_at_call 31; refine (HAW.out _ B2.out).mono ?_; rintro e w3 ⟨rfl, hb⟩; have B3 := hid (B2.out.trans (hb.mono B2.out.size)); clear hb))
        go_ret
        exact ⟨rfl, B3.out⟩
      have hpos : 0 < La.length := by rw [LLa.out]; omega
      have hz0 : ((m : Int) == 0) = false := by simp; omega
      have hz1 : ¬ (m : Int) = 0 := by omega
      have hk : m - 1 < m := by omega
      obtain ⟨b, oo, V', rfl, hbl, hat, harg, hq⟩ := HIa.out.at hk
      have hvl' := HIa.out.shorts HVa.out hk
      have hln := LLa.out
      have hb4 : lastC (cm lab) La = cm lab (vAt La (m - 1)) := by rw [lastC_some hpos, hln]
      obtain ⟨j, hkk⟩ : ∃ k, k = m - 1 := ⟨_, rfl⟩
      rw [← hkk] at hat harg hvl' hk hb4
      have hsub : (m : Int) - 1 = (j : Int) := by omega
      have hsubw : IntKind.i64.wrap ((m : Int) - 1) = (j : Int) := by rw [hsub]; exact IntWalk.i64_in _ (by omega)
      have hki : (j : Int) < (m : Int) := by omega
      have HAT := hid (fun x (hb : Below w.heap.size w x) => crng_bel hb hat.all)
      have DI := hid (vlenR V' harg.ok)
      have CM := fun x (hb : Below w.heap.size w x) => cmR_any (LB.out x hb HN2.out) (harg.below hb) hvl'
      rw [← hb4, HL.out] at CM
      have HHK := hid (hh_last lab La)
      obtain ⟨HH, hHH⟩ : ∃ S, S = lastC (cm lab) La := ⟨_, rfl⟩
      rw [← hHH] at CM HHK
      have CM := hid CM
      have HS := hid hHH
      have HI := hid (info_hash HH HHK.out.len)
      obtain ⟨Z, HZ, hZ0, hZs⟩ := zero_Hash
      have hzl : Z.size = 32 := by rw [HZ.out, List.size_toArray, u8s_length]; simp
      have HZS : Hid (Z.size = (u8s HH).toArray.size) := by show _ = _; rw [hzl, hash_size32 HHK.out]
      have tk : True := trivial
      have tk2 : True := trivial
      clear hat harg hq hvl' hb4 hbl hkk hsub hln hHH hzl hpos
      go_upto_region 3 with (first
        | (go_at_call 31; refine (HAW.out _ B0.out).mono ?_; rintro e w2 ⟨rfl, hb⟩; have B2 := hid (B0.out.trans (hb.mono B0.out.size)); clear hb)
        | (go_at_call 41; have _t := tk; refine (HFa.out _ B2.out).mono ?_; rintro e w9 ⟨rfl, rfl⟩; clear tk)
        | (go_at_call 41; refine (HFb.out _ B2.out).mono ?_; rintro e w9 ⟨rfl, rfl⟩))
      have RA := hid (HAT.out _ B2.out)
      go_upto_region 4 with (first
        | (refine wpList_load_mid rfl 69 (.tmp 36) rfl b (oo + j * 67) rfl (vcs V' (vAt La j)) _ RA.out Tryd.underlying69 rfl DI.out ?_)
        | (go_at_call 37; refine (CM.out _ B2.out).mono ?_; rintro e w3 ⟨rfl, hb⟩; have B3 := hid (B2.out.trans (hb.mono B2.out.size)); clear hb)
        | (refine wpList_store_row rfl 26 (.tmp 7) (.tmp 38) rfl w3.heap.size (u8s HH).toArray rfl rfl 26 Z (Blk.new w3 26 Z) HI.out HZS.out (u8s_all HH) ?_))
      have KH : Hid (Blk ((w3.alloc (.cells Z 26)).setRow w3.heap.size (u8s HH).toArray) w3.heap.size 26 (u8s HH).toArray) := (Blk.new w3 26 Z).row _
      have B4 : Hid (Below w.heap.size w ((w3.alloc (.cells Z 26)).setRow w3.heap.size (u8s HH).toArray)) := below_setRow (B3.out.alloc B3.out.size _) B3.out.size _
      clear B3 B2 RA HAT DI CM HZS hsubw hki hk hz0 hz1 hni hn
      generalize (w3.alloc (.cells Z 26)).setRow w3.heap.size (u8s HH).toArray = w4 at KH B4 ⊢
      generalize w3.heap.size = e7 at KH ⊢
      have RH : Hid (w4.rangeAt e7 0 (u8s HH)) := fun j u hu => by rw [KH.out.cell, Nat.zero_add, List.getElem?_toArray]; exact hu
      have HHI := hid (hinfo HHK.out)
      have BB := fun x (hb : Below w4.heap.size w4 x) => B4.out.trans (hb.mono B4.out.size)
      have hma := HMa.out; have hmb := HMb.out
      have LBx := fun x (hb : Below w4.heap.size w4 x) => LB.out x (BB x hb) HN2.out
      have HTx := fun x (hb : Below w4.heap.size w4 x) => HT.out x (BB x hb)
      have Iax := fun x (hb : Below w4.heap.size w4 x) => HIa.out.below (BB x hb)
      have Ibx := fun x (hb : Below w4.heap.size w4 x) => HIb.out.below (BB x hb)
      have CFa := hid (fun x (hb : Below w4.heap.size w4 x) => from_any (c := c2) (Iax x hb) (by omega))
      have CFb := hid (fun x (hb : Below w4.heap.size w4 x) => from_any (c := c3) (Ibx x hb) (by omega))
      unfold OvA at CFa CFb
      have HLa : Hid (La.length ≤ 1000000) := by show _ ≤ _; rw [LLa.out]; omega
      have HLb : Hid (Lb.length ≤ 1000000) := by show _ ≤ _; rw [LLb.out]; omega
      have CKa := hid (fun x (hb : Below w4.heap.size w4 x) A5 c5 (hi : InV x A5 m La) => check_any (c2 := c5) (LBx x hb) hi HVa.out (by omega) HHK.out (HTx x hb))
      have CKb := hid (fun x (hb : Below w4.heap.size w4 x) A5 c5 (hi : InV x A5 k Lb) => check_any (c2 := c5) (LBx x hb) hi HVb.out (by omega) HHK.out (HTx x hb))
      rw [chV_eq, HL.out] at CKa CKb
      have CSm := hid (fun x (hb : Below w4.heap.size w4 x) => sameV_any (c := c2) (d := c3) (Iax x hb) (Ibx x hb) (fun q hq => by have := HVa.out q hq; omega) (fun q hq => by have := HVb.out q hq; omega))
      have hmath := csound_math (m := n) (a := La) (b := Lb) (lab := lab) (by rw [HL.out]; have := HN2.out; omega) HIa.out.ok HIb.out.ok HVa.out HVb.out (by rw [LLa.out]; omega) (by rw [LLb.out]; omega)
      obtain ⟨v1, hv1⟩ : ∃ v1, v1 = (okF (cm lab) n La && decide (lastC (cm lab) La = HH)) := ⟨_, rfl⟩
      obtain ⟨v2, hv2⟩ : ∃ v2, v2 = (okF (cm lab) n Lb && decide (lastC (cm lab) Lb = HH)) := ⟨_, rfl⟩
      obtain ⟨v3, hv3⟩ : ∃ v3, v3 = decide (La = Lb) := ⟨_, rfl⟩
      rw [← hv1] at CKa; rw [← hv2] at CKb; rw [← hv3] at CSm
      have HV1 := hid hv1; have HV2 := hid hv2; have HV3 := hid hv3; have HMT := hid hmath
      clear hv1 hv2 hv3 hmath hma hmb
      cases v1 with
      | false =>
        clear LBx HTx Iax Ibx BB
        refine wp_region_held (S := fun w' => Hid (Below w4.heap.size w4 w')) (by kernel_rfl) ?_
        change wpAnyH _ _ _ _ _ _ _ _ w4.drew
        have Gx0 : Hid (Below w4.heap.size w4 w4.drew) := (Below.refl _ _).drew
        generalize w4.drew = x0 at Gx0  ⊢
        refine wpAnyH_take (i := 0) (oi := { dst := some 39, op := _, type := _, pos := _, after := _, guard := _ }) (v := ?_) rfl (by kernel_rfl) (by kernel_rfl) (by kernel_rfl) (fun _ _ _ h => h) (Or.inl ⟨by kernel_rfl, ?_⟩) Gx0 ?_
        rotate_left
        · (intro w hSw; go_simp; try with_reducible rfl)
        try simp only [Act.put, List.setIfInBounds_toArray, List.set_cons_zero, List.set_cons_succ]
        refine wpAnyH_take (i := 1) (oi := { dst := some 40, op := _, type := _, pos := _, after := _, guard := _ }) (v := ?_) rfl (by kernel_rfl) (by kernel_rfl) (by kernel_rfl) (fun _ _ _ h => h) (Or.inl ⟨by kernel_rfl, ?_⟩) Gx0 ?_
        rotate_left
        · (intro w hSw; go_simp; try with_reducible rfl)
        try simp only [Act.put, List.setIfInBounds_toArray, List.set_cons_zero, List.set_cons_succ]
        refine wpAnyH_take (i := 3) (oi := { dst := some 42, op := _, type := _, pos := _, after := _, guard := _ }) (v := .agg ((u8s HH).toArray)) rfl (by kernel_rfl) (by kernel_rfl) (by kernel_rfl) (fun _ _ _ h => h) (yieldsIf_load_mid (cs := u8s HH) (by rfl) _ _ rfl _ _ rfl _ (fun w' hSw => crng_bel hSw.out RH.out) Tryd.underlying26 rfl HHI.out) Gx0 ?_
        try simp only [Act.put, List.setIfInBounds_toArray, List.set_cons_zero, List.set_cons_succ]
        refine wpAnyH_ready (rs := [2]) (by kernel_rfl) (by simp) ?_
        refine (AllReadyH.cons (o := { dst := some 41, op := _, type := _, pos := _, after := _, guard := _ }) rfl (fun Qc hQc => ?_) AllReadyH.nil)
        go_simp
        go_at_call 42
        refine (CFa.out x0 Gx0.out).mono ?_
        rintro e x1 ⟨v5, rfl, ho, hb⟩
        have Gx1 := hid (Gx0.out.trans (hb.mono Gx0.out.size))
        obtain ⟨A5, c5, hv5, _, hin5⟩ := ho.any HLa.out
        rw [LLa.out] at hv5 hin5
        subst hv5
        have I5 := hid hin5
        clear hb ho hin5
        go_wp2_with fail
        refine hQc.out _ _ Gx1 (fun hHeld => ?_)
        clear hQc Qc hHeld
        try simp only [Act.put, List.setIfInBounds_toArray, List.set_cons_zero, List.set_cons_succ]
        refine wpAnyH_ready (rs := [4]) (by kernel_rfl) (by simp) ?_
        refine (AllReadyH.cons (o := { dst := some 43, op := _, type := _, pos := _, after := _, guard := _ }) rfl (fun Qc hQc => ?_) AllReadyH.nil)
        go_simp
        go_at_call 45
        refine (CKa.out x1 Gx1.out _ _ I5.out).mono ?_
        rintro e x2 ⟨rfl, hb⟩
        have Gx2 := hid (Gx1.out.trans (hb.mono Gx1.out.size))
        clear hb
        go_wp2_with fail
        refine hQc.out _ _ Gx2 (fun hHeld => ?_)
        clear hQc Qc hHeld
        try simp only [Act.put, List.setIfInBounds_toArray, List.set_cons_zero, List.set_cons_succ]
        refine wpAnyH_take (i := 5) (oi := { dst := some 44, op := _, type := _, pos := _, after := _, guard := _ }) (v := ?_) rfl (by kernel_rfl) (by kernel_rfl) (by kernel_rfl) (fun _ _ _ h => h) (Or.inl ⟨by kernel_rfl, ?_⟩) Gx2 ?_
        rotate_left
        · (intro w hSw; go_simp; try with_reducible rfl)
        try simp only [Act.put, List.setIfInBounds_toArray, List.set_cons_zero, List.set_cons_succ]
        refine wpAnyH_take (i := 6) (oi := { dst := some 45, op := _, type := _, pos := _, after := _, guard := _ }) (v := ?_) rfl (by kernel_rfl) (by kernel_rfl) (by kernel_rfl) (fun _ _ _ h => h) (Or.inl ⟨by kernel_rfl, ?_⟩) Gx2 ?_
        rotate_left
        · (intro w hSw; go_simp; try with_reducible rfl)
        try simp only [Act.put, List.setIfInBounds_toArray, List.set_cons_zero, List.set_cons_succ]
        refine wpAnyH_take (i := 7) (oi := { dst := some 46, op := _, type := _, pos := _, after := _, guard := _ }) (v := undef) rfl (by kernel_rfl) (by kernel_rfl) (by kernel_rfl) (fun _ _ _ h => h) (Or.inr ⟨by rfl, rfl⟩) Gx2 ?_
        try simp only [Act.put, List.setIfInBounds_toArray, List.set_cons_zero, List.set_cons_succ]
        refine wpAnyH_take (i := 8) (oi := { dst := some 47, op := _, type := _, pos := _, after := _, guard := _ }) (v := undef) rfl (by kernel_rfl) (by kernel_rfl) (by kernel_rfl) (fun _ _ _ h => h) (Or.inr ⟨by rfl, rfl⟩) Gx2 ?_
        try simp only [Act.put, List.setIfInBounds_toArray, List.set_cons_zero, List.set_cons_succ]
        refine wpAnyH_take (i := 9) (oi := { dst := some 48, op := _, type := _, pos := _, after := _, guard := _ }) (v := undef) rfl (by kernel_rfl) (by kernel_rfl) (by kernel_rfl) (fun _ _ _ h => h) (Or.inr ⟨by rfl, rfl⟩) Gx2 ?_
        try simp only [Act.put, List.setIfInBounds_toArray, List.set_cons_zero, List.set_cons_succ]
        refine wpAnyH_take (i := 10) (oi := { dst := some 49, op := _, type := _, pos := _, after := _, guard := _ }) (v := undef) rfl (by kernel_rfl) (by kernel_rfl) (by kernel_rfl) (fun _ _ _ h => h) (Or.inr ⟨by rfl, rfl⟩) Gx2 ?_
        try simp only [Act.put, List.setIfInBounds_toArray, List.set_cons_zero, List.set_cons_succ]
        refine wpAnyH_take (i := 11) (oi := { dst := some 50, op := _, type := _, pos := _, after := _, guard := _ }) (v := undef) rfl (by kernel_rfl) (by kernel_rfl) (by kernel_rfl) (fun _ _ _ h => h) (Or.inr ⟨by rfl, rfl⟩) Gx2 ?_
        try simp only [Act.put, List.setIfInBounds_toArray, List.set_cons_zero, List.set_cons_succ]
        refine wpAnyH_take (i := 12) (oi := { dst := some 51, op := _, type := _, pos := _, after := _, guard := _ }) (v := undef) rfl (by kernel_rfl) (by kernel_rfl) (by kernel_rfl) (fun _ _ _ h => h) (Or.inr ⟨by rfl, rfl⟩) Gx2 ?_
        try simp only [Act.put, List.setIfInBounds_toArray, List.set_cons_zero, List.set_cons_succ]
        refine wpAnyH_take (i := 13) (oi := { dst := some 52, op := _, type := _, pos := _, after := _, guard := _ }) (v := ?_) rfl (by kernel_rfl) (by kernel_rfl) (by kernel_rfl) (fun _ _ _ h => h) (Or.inl ⟨by kernel_rfl, ?_⟩) Gx2 ?_
        rotate_left
        · (intro w hSw; go_simp; try with_reducible rfl)
        try simp only [Act.put, List.setIfInBounds_toArray, List.set_cons_zero, List.set_cons_succ]
        refine wpAnyH_take (i := 14) (oi := { dst := some 53, op := _, type := _, pos := _, after := _, guard := _ }) (v := ?_) rfl (by kernel_rfl) (by kernel_rfl) (by kernel_rfl) (fun _ _ _ h => h) (Or.inl ⟨by kernel_rfl, ?_⟩) Gx2 ?_
        rotate_left
        · (intro w hSw; go_simp; try with_reducible rfl)
        try simp only [Act.put, List.setIfInBounds_toArray, List.set_cons_zero, List.set_cons_succ]
        refine wpAnyH_take (i := 15) (oi := { dst := some 54, op := _, type := _, pos := _, after := _, guard := _ }) (v := undef) rfl (by kernel_rfl) (by kernel_rfl) (by kernel_rfl) (fun _ _ _ h => h) (Or.inr ⟨by rfl, rfl⟩) Gx2 ?_
        try simp only [Act.put, List.setIfInBounds_toArray, List.set_cons_zero, List.set_cons_succ]
        refine wpAnyH_take (i := 16) (oi := { dst := some 55, op := _, type := _, pos := _, after := _, guard := _ }) (v := undef) rfl (by kernel_rfl) (by kernel_rfl) (by kernel_rfl) (fun _ _ _ h => h) (Or.inr ⟨by rfl, rfl⟩) Gx2 ?_
        try simp only [Act.put, List.setIfInBounds_toArray, List.set_cons_zero, List.set_cons_succ]
        refine wpAnyH_take (i := 17) (oi := { dst := some 56, op := _, type := _, pos := _, after := _, guard := _ }) (v := undef) rfl (by kernel_rfl) (by kernel_rfl) (by kernel_rfl) (fun _ _ _ h => h) (Or.inr ⟨by rfl, rfl⟩) Gx2 ?_
        try simp only [Act.put, List.setIfInBounds_toArray, List.set_cons_zero, List.set_cons_succ]
        refine wpAnyH_take (i := 18) (oi := { dst := some 57, op := _, type := _, pos := _, after := _, guard := _ }) (v := ?_) rfl (by kernel_rfl) (by kernel_rfl) (by kernel_rfl) (fun _ _ _ h => h) (Or.inl ⟨by kernel_rfl, ?_⟩) Gx2 ?_
        rotate_left
        · (intro w hSw; go_simp; try with_reducible rfl)
        try simp only [Act.put, List.setIfInBounds_toArray, List.set_cons_zero, List.set_cons_succ]
        refine wpAnyH_done (by kernel_rfl) ?_ _
        try simp only [Act.put, List.setIfInBounds_toArray, List.set_cons_zero, List.set_cons_succ]
        go_wp2
        go_ret
        exact ⟨rfl, B4.out.trans (Gx2.out.mono B4.out.size)⟩
      | true =>
        cases v2 with
        | false =>
          clear LBx HTx Iax Ibx BB
          refine wp_region_held (S := fun w' => Hid (Below w4.heap.size w4 w')) (by kernel_rfl) ?_
          change wpAnyH _ _ _ _ _ _ _ _ w4.drew
          have Gx0 : Hid (Below w4.heap.size w4 w4.drew) := (Below.refl _ _).drew
          generalize w4.drew = x0 at Gx0  ⊢
          refine wpAnyH_take (i := 0) (oi := { dst := some 39, op := _, type := _, pos := _, after := _, guard := _ }) (v := ?_) rfl (by kernel_rfl) (by kernel_rfl) (by kernel_rfl) (fun _ _ _ h => h) (Or.inl ⟨by kernel_rfl, ?_⟩) Gx0 ?_
          rotate_left
          · (intro w hSw; go_simp; try with_reducible rfl)
          try simp only [Act.put, List.setIfInBounds_toArray, List.set_cons_zero, List.set_cons_succ]
          refine wpAnyH_take (i := 1) (oi := { dst := some 40, op := _, type := _, pos := _, after := _, guard := _ }) (v := ?_) rfl (by kernel_rfl) (by kernel_rfl) (by kernel_rfl) (fun _ _ _ h => h) (Or.inl ⟨by kernel_rfl, ?_⟩) Gx0 ?_
          rotate_left
          · (intro w hSw; go_simp; try with_reducible rfl)
          try simp only [Act.put, List.setIfInBounds_toArray, List.set_cons_zero, List.set_cons_succ]
          refine wpAnyH_take (i := 3) (oi := { dst := some 42, op := _, type := _, pos := _, after := _, guard := _ }) (v := .agg ((u8s HH).toArray)) rfl (by kernel_rfl) (by kernel_rfl) (by kernel_rfl) (fun _ _ _ h => h) (yieldsIf_load_mid (cs := u8s HH) (by rfl) _ _ rfl _ _ rfl _ (fun w' hSw => crng_bel hSw.out RH.out) Tryd.underlying26 rfl HHI.out) Gx0 ?_
          try simp only [Act.put, List.setIfInBounds_toArray, List.set_cons_zero, List.set_cons_succ]
          refine wpAnyH_ready (rs := [2]) (by kernel_rfl) (by simp) ?_
          refine (AllReadyH.cons (o := { dst := some 41, op := _, type := _, pos := _, after := _, guard := _ }) rfl (fun Qc hQc => ?_) AllReadyH.nil)
          go_simp
          go_at_call 42
          refine (CFa.out x0 Gx0.out).mono ?_
          rintro e x1 ⟨v5, rfl, ho, hb⟩
          have Gx1 := hid (Gx0.out.trans (hb.mono Gx0.out.size))
          obtain ⟨A5, c5, hv5, _, hin5⟩ := ho.any HLa.out
          rw [LLa.out] at hv5 hin5
          subst hv5
          have I5 := hid hin5
          clear hb ho hin5
          go_wp2_with fail
          refine hQc.out _ _ Gx1 (fun hHeld => ?_)
          clear hQc Qc hHeld
          try simp only [Act.put, List.setIfInBounds_toArray, List.set_cons_zero, List.set_cons_succ]
          refine wpAnyH_ready (rs := [4]) (by kernel_rfl) (by simp) ?_
          refine (AllReadyH.cons (o := { dst := some 43, op := _, type := _, pos := _, after := _, guard := _ }) rfl (fun Qc hQc => ?_) AllReadyH.nil)
          go_simp
          go_at_call 45
          refine (CKa.out x1 Gx1.out _ _ I5.out).mono ?_
          rintro e x2 ⟨rfl, hb⟩
          have Gx2 := hid (Gx1.out.trans (hb.mono Gx1.out.size))
          clear hb
          go_wp2_with fail
          refine hQc.out _ _ Gx2 (fun hHeld => ?_)
          clear hQc Qc hHeld
          try simp only [Act.put, List.setIfInBounds_toArray, List.set_cons_zero, List.set_cons_succ]
          refine wpAnyH_take (i := 5) (oi := { dst := some 44, op := _, type := _, pos := _, after := _, guard := _ }) (v := ?_) rfl (by kernel_rfl) (by kernel_rfl) (by kernel_rfl) (fun _ _ _ h => h) (Or.inl ⟨by kernel_rfl, ?_⟩) Gx2 ?_
          rotate_left
          · (intro w hSw; go_simp; try with_reducible rfl)
          try simp only [Act.put, List.setIfInBounds_toArray, List.set_cons_zero, List.set_cons_succ]
          refine wpAnyH_take (i := 6) (oi := { dst := some 45, op := _, type := _, pos := _, after := _, guard := _ }) (v := ?_) rfl (by kernel_rfl) (by kernel_rfl) (by kernel_rfl) (fun _ _ _ h => h) (Or.inl ⟨by kernel_rfl, ?_⟩) Gx2 ?_
          rotate_left
          · (intro w hSw; go_simp; try with_reducible rfl)
          try simp only [Act.put, List.setIfInBounds_toArray, List.set_cons_zero, List.set_cons_succ]
          refine wpAnyH_take (i := 7) (oi := { dst := some 46, op := _, type := _, pos := _, after := _, guard := _ }) (v := ?_) rfl (by kernel_rfl) (by kernel_rfl) (by kernel_rfl) (fun _ _ _ h => h) (Or.inl ⟨by kernel_rfl, ?_⟩) Gx2 ?_
          rotate_left
          · (intro w hSw; go_simp; try with_reducible rfl)
          try simp only [Act.put, List.setIfInBounds_toArray, List.set_cons_zero, List.set_cons_succ]
          refine wpAnyH_take (i := 8) (oi := { dst := some 47, op := _, type := _, pos := _, after := _, guard := _ }) (v := ?_) rfl (by kernel_rfl) (by kernel_rfl) (by kernel_rfl) (fun _ _ _ h => h) (Or.inl ⟨by kernel_rfl, ?_⟩) Gx2 ?_
          rotate_left
          · (intro w hSw; go_simp; try with_reducible rfl)
          try simp only [Act.put, List.setIfInBounds_toArray, List.set_cons_zero, List.set_cons_succ]
          refine wpAnyH_take (i := 10) (oi := { dst := some 49, op := _, type := _, pos := _, after := _, guard := _ }) (v := .agg ((u8s HH).toArray)) rfl (by kernel_rfl) (by kernel_rfl) (by kernel_rfl) (fun _ _ _ h => h) (yieldsIf_load_mid (cs := u8s HH) (by rfl) _ _ rfl _ _ rfl _ (fun w' hSw => crng_bel hSw.out RH.out) Tryd.underlying26 rfl HHI.out) Gx2 ?_
          try simp only [Act.put, List.setIfInBounds_toArray, List.set_cons_zero, List.set_cons_succ]
          refine wpAnyH_ready (rs := [9]) (by kernel_rfl) (by simp) ?_
          refine (AllReadyH.cons (o := { dst := some 48, op := _, type := _, pos := _, after := _, guard := _ }) rfl (fun Qc hQc => ?_) AllReadyH.nil)
          go_simp
          go_at_call 42
          refine (CFb.out x2 Gx2.out).mono ?_
          rintro e x3 ⟨v6, rfl, ho, hb⟩
          have Gx3 := hid (Gx2.out.trans (hb.mono Gx2.out.size))
          obtain ⟨A6, c6, hv6, _, hin6⟩ := ho.any HLb.out
          rw [LLb.out] at hv6 hin6
          subst hv6
          have I6 := hid hin6
          clear hb ho hin6
          go_wp2_with fail
          refine hQc.out _ _ Gx3 (fun hHeld => ?_)
          clear hQc Qc hHeld
          try simp only [Act.put, List.setIfInBounds_toArray, List.set_cons_zero, List.set_cons_succ]
          refine wpAnyH_ready (rs := [11]) (by kernel_rfl) (by simp) ?_
          refine (AllReadyH.cons (o := { dst := some 50, op := _, type := _, pos := _, after := _, guard := _ }) rfl (fun Qc hQc => ?_) AllReadyH.nil)
          go_simp
          go_at_call 45
          refine (CKb.out x3 Gx3.out _ _ I6.out).mono ?_
          rintro e x4 ⟨rfl, hb⟩
          have Gx4 := hid (Gx3.out.trans (hb.mono Gx3.out.size))
          clear hb
          go_wp2_with fail
          refine hQc.out _ _ Gx4 (fun hHeld => ?_)
          clear hQc Qc hHeld
          try simp only [Act.put, List.setIfInBounds_toArray, List.set_cons_zero, List.set_cons_succ]
          refine wpAnyH_take (i := 12) (oi := { dst := some 51, op := _, type := _, pos := _, after := _, guard := _ }) (v := ?_) rfl (by kernel_rfl) (by kernel_rfl) (by kernel_rfl) (fun _ _ _ h => h) (Or.inl ⟨by kernel_rfl, ?_⟩) Gx4 ?_
          rotate_left
          · (intro w hSw; go_simp; try with_reducible rfl)
          try simp only [Act.put, List.setIfInBounds_toArray, List.set_cons_zero, List.set_cons_succ]
          refine wpAnyH_take (i := 13) (oi := { dst := some 52, op := _, type := _, pos := _, after := _, guard := _ }) (v := ?_) rfl (by kernel_rfl) (by kernel_rfl) (by kernel_rfl) (fun _ _ _ h => h) (Or.inl ⟨by kernel_rfl, ?_⟩) Gx4 ?_
          rotate_left
          · (intro w hSw; go_simp; try with_reducible rfl)
          try simp only [Act.put, List.setIfInBounds_toArray, List.set_cons_zero, List.set_cons_succ]
          refine wpAnyH_take (i := 14) (oi := { dst := some 53, op := _, type := _, pos := _, after := _, guard := _ }) (v := ?_) rfl (by kernel_rfl) (by kernel_rfl) (by kernel_rfl) (fun _ _ _ h => h) (Or.inl ⟨by kernel_rfl, ?_⟩) Gx4 ?_
          rotate_left
          · (intro w hSw; go_simp; try with_reducible rfl)
          try simp only [Act.put, List.setIfInBounds_toArray, List.set_cons_zero, List.set_cons_succ]
          refine wpAnyH_take (i := 15) (oi := { dst := some 54, op := _, type := _, pos := _, after := _, guard := _ }) (v := undef) rfl (by kernel_rfl) (by kernel_rfl) (by kernel_rfl) (fun _ _ _ h => h) (Or.inr ⟨by rfl, rfl⟩) Gx4 ?_
          try simp only [Act.put, List.setIfInBounds_toArray, List.set_cons_zero, List.set_cons_succ]
          refine wpAnyH_take (i := 16) (oi := { dst := some 55, op := _, type := _, pos := _, after := _, guard := _ }) (v := undef) rfl (by kernel_rfl) (by kernel_rfl) (by kernel_rfl) (fun _ _ _ h => h) (Or.inr ⟨by rfl, rfl⟩) Gx4 ?_
          try simp only [Act.put, List.setIfInBounds_toArray, List.set_cons_zero, List.set_cons_succ]
          refine wpAnyH_take (i := 17) (oi := { dst := some 56, op := _, type := _, pos := _, after := _, guard := _ }) (v := undef) rfl (by kernel_rfl) (by kernel_rfl) (by kernel_rfl) (fun _ _ _ h => h) (Or.inr ⟨by rfl, rfl⟩) Gx4 ?_
          try simp only [Act.put, List.setIfInBounds_toArray, List.set_cons_zero, List.set_cons_succ]
          refine wpAnyH_take (i := 18) (oi := { dst := some 57, op := _, type := _, pos := _, after := _, guard := _ }) (v := ?_) rfl (by kernel_rfl) (by kernel_rfl) (by kernel_rfl) (fun _ _ _ h => h) (Or.inl ⟨by kernel_rfl, ?_⟩) Gx4 ?_
          rotate_left
          · (intro w hSw; go_simp; try with_reducible rfl)
          try simp only [Act.put, List.setIfInBounds_toArray, List.set_cons_zero, List.set_cons_succ]
          refine wpAnyH_done (by kernel_rfl) ?_ _
          try simp only [Act.put, List.setIfInBounds_toArray, List.set_cons_zero, List.set_cons_succ]
          go_wp2
          go_ret
          exact ⟨rfl, B4.out.trans (Gx4.out.mono B4.out.size)⟩
        | true =>
          have HCL : Hid (v3 = false → clashV (txsV lab La) (txsV lab Lb) = true) := fun h3 => by
            have a1 := HV1.out; have a2 := HV2.out; have a3 := HV3.out
            rw [h3] at a3
            have b1 := (Bool.and_eq_true _ _ ▸ a1.symm : okF (cm lab) n La = true ∧ decide (lastC (cm lab) La = HH) = true)
            have b2 := (Bool.and_eq_true _ _ ▸ a2.symm : okF (cm lab) n Lb = true ∧ decide (lastC (cm lab) Lb = HH) = true)
            exact HMT.out b1.1 b2.1 ((of_decide_eq_true b1.2).trans (of_decide_eq_true b2.2).symm) (of_decide_eq_false a3.symm)
          have CTa := hid (fun x (hb : Below w.heap.size w x) => rtexts_any (c2 := c2) (LB.out x hb HN2.out) (HIa.out.below hb) HVa.out (by have := HMa.out; omega))
          have CTb := hid (fun x (hb : Below w.heap.size w x) => rtexts_any (c2 := c3) (LB.out x hb HN2.out) (HIb.out.below hb) HVb.out (by have := HMb.out; omega))
          rw [HL.out] at CTa CTb
          have hta := txsV_ok (lab := lab) (L := La) HBS.out (by rw [HL.out]; have := HN2.out; omega) HIa.out.ok HVa.out
          have htb := txsV_ok (lab := lab) (L := Lb) HBS.out (by rw [HL.out]; have := HN2.out; omega) HIb.out.ok HVb.out
          have hlta : (txsV lab La).length ≤ 1000 := by unfold txsV; rw [List.length_map, LLa.out]; have := HMa.out; omega
          have hltb : (txsV lab Lb).length ≤ 1000 := by unfold txsV; rw [List.length_map, LLb.out]; have := HMb.out; omega
          generalize txsV lab La = Ta at CTa HCL hta hlta
          generalize txsV lab Lb = Tb at CTb HCL htb hltb
          have HCC : Hid (∀ x A8 c8 A9 c9 n1 n2, TxV n1 x Ta (.slice A8 Ta.length c8) → TxV n2 x Tb (.slice A9 Tb.length c9) → Calls Tryd.prog 23 #[.slice A8 Ta.length c8, .slice A9 Tb.length c9] x fun e w' => e = .returned (.bool (clashV Ta Tb)) ∧ Below x.heap.size x w') := fun x A8 c8 A9 c9 n1 n2 h1 h2 => cClash_any x (h1.in hta.1 hta.2 hlta) (h2.in htb.1 htb.2 hltb) hta.2 htb.2
          have tk : True := trivial
          clear LBx HTx Iax Ibx BB hta htb hlta hltb HV1 HV2 HV3 HMT
          refine wp_region_held (S := fun w' => Hid (Below w4.heap.size w4 w')) (by kernel_rfl) ?_
          change wpAnyH _ _ _ _ _ _ _ _ w4.drew
          have Gx0 : Hid (Below w4.heap.size w4 w4.drew) := (Below.refl _ _).drew
          generalize w4.drew = x0 at Gx0  ⊢
          refine wpAnyH_take (i := 0) (oi := { dst := some 39, op := _, type := _, pos := _, after := _, guard := _ }) (v := ?_) rfl (by kernel_rfl) (by kernel_rfl) (by kernel_rfl) (fun _ _ _ h => h) (Or.inl ⟨by kernel_rfl, ?_⟩) Gx0 ?_
          rotate_left
          · (intro w hSw; go_simp; try with_reducible rfl)
          try simp only [Act.put, List.setIfInBounds_toArray, List.set_cons_zero, List.set_cons_succ]
          refine wpAnyH_take (i := 1) (oi := { dst := some 40, op := _, type := _, pos := _, after := _, guard := _ }) (v := ?_) rfl (by kernel_rfl) (by kernel_rfl) (by kernel_rfl) (fun _ _ _ h => h) (Or.inl ⟨by kernel_rfl, ?_⟩) Gx0 ?_
          rotate_left
          · (intro w hSw; go_simp; try with_reducible rfl)
          try simp only [Act.put, List.setIfInBounds_toArray, List.set_cons_zero, List.set_cons_succ]
          refine wpAnyH_take (i := 3) (oi := { dst := some 42, op := _, type := _, pos := _, after := _, guard := _ }) (v := .agg ((u8s HH).toArray)) rfl (by kernel_rfl) (by kernel_rfl) (by kernel_rfl) (fun _ _ _ h => h) (yieldsIf_load_mid (cs := u8s HH) (by rfl) _ _ rfl _ _ rfl _ (fun w' hSw => crng_bel hSw.out RH.out) Tryd.underlying26 rfl HHI.out) Gx0 ?_
          try simp only [Act.put, List.setIfInBounds_toArray, List.set_cons_zero, List.set_cons_succ]
          refine wpAnyH_ready (rs := [2]) (by kernel_rfl) (by simp) ?_
          refine (AllReadyH.cons (o := { dst := some 41, op := _, type := _, pos := _, after := _, guard := _ }) rfl (fun Qc hQc => ?_) AllReadyH.nil)
          go_simp
          go_at_call 42
          refine (CFa.out x0 Gx0.out).mono ?_
          rintro e x1 ⟨v5, rfl, ho, hb⟩
          have Gx1 := hid (Gx0.out.trans (hb.mono Gx0.out.size))
          obtain ⟨A5, c5, hv5, _, hin5⟩ := ho.any HLa.out
          rw [LLa.out] at hv5 hin5
          subst hv5
          have I5 := hid hin5
          clear hb ho hin5
          go_wp2_with fail
          refine hQc.out _ _ Gx1 (fun hHeld => ?_)
          clear hQc Qc hHeld
          try simp only [Act.put, List.setIfInBounds_toArray, List.set_cons_zero, List.set_cons_succ]
          refine wpAnyH_ready (rs := [4]) (by kernel_rfl) (by simp) ?_
          refine (AllReadyH.cons (o := { dst := some 43, op := _, type := _, pos := _, after := _, guard := _ }) rfl (fun Qc hQc => ?_) AllReadyH.nil)
          go_simp
          go_at_call 45
          refine (CKa.out x1 Gx1.out _ _ I5.out).mono ?_
          rintro e x2 ⟨rfl, hb⟩
          have Gx2 := hid (Gx1.out.trans (hb.mono Gx1.out.size))
          clear hb
          go_wp2_with fail
          refine hQc.out _ _ Gx2 (fun hHeld => ?_)
          clear hQc Qc hHeld
          try simp only [Act.put, List.setIfInBounds_toArray, List.set_cons_zero, List.set_cons_succ]
          refine wpAnyH_take (i := 5) (oi := { dst := some 44, op := _, type := _, pos := _, after := _, guard := _ }) (v := ?_) rfl (by kernel_rfl) (by kernel_rfl) (by kernel_rfl) (fun _ _ _ h => h) (Or.inl ⟨by kernel_rfl, ?_⟩) Gx2 ?_
          rotate_left
          · (intro w hSw; go_simp; try with_reducible rfl)
          try simp only [Act.put, List.setIfInBounds_toArray, List.set_cons_zero, List.set_cons_succ]
          refine wpAnyH_take (i := 6) (oi := { dst := some 45, op := _, type := _, pos := _, after := _, guard := _ }) (v := ?_) rfl (by kernel_rfl) (by kernel_rfl) (by kernel_rfl) (fun _ _ _ h => h) (Or.inl ⟨by kernel_rfl, ?_⟩) Gx2 ?_
          rotate_left
          · (intro w hSw; go_simp; try with_reducible rfl)
          try simp only [Act.put, List.setIfInBounds_toArray, List.set_cons_zero, List.set_cons_succ]
          refine wpAnyH_take (i := 7) (oi := { dst := some 46, op := _, type := _, pos := _, after := _, guard := _ }) (v := ?_) rfl (by kernel_rfl) (by kernel_rfl) (by kernel_rfl) (fun _ _ _ h => h) (Or.inl ⟨by kernel_rfl, ?_⟩) Gx2 ?_
          rotate_left
          · (intro w hSw; go_simp; try with_reducible rfl)
          try simp only [Act.put, List.setIfInBounds_toArray, List.set_cons_zero, List.set_cons_succ]
          refine wpAnyH_take (i := 8) (oi := { dst := some 47, op := _, type := _, pos := _, after := _, guard := _ }) (v := ?_) rfl (by kernel_rfl) (by kernel_rfl) (by kernel_rfl) (fun _ _ _ h => h) (Or.inl ⟨by kernel_rfl, ?_⟩) Gx2 ?_
          rotate_left
          · (intro w hSw; go_simp; try with_reducible rfl)
          try simp only [Act.put, List.setIfInBounds_toArray, List.set_cons_zero, List.set_cons_succ]
          refine wpAnyH_take (i := 10) (oi := { dst := some 49, op := _, type := _, pos := _, after := _, guard := _ }) (v := .agg ((u8s HH).toArray)) rfl (by kernel_rfl) (by kernel_rfl) (by kernel_rfl) (fun _ _ _ h => h) (yieldsIf_load_mid (cs := u8s HH) (by rfl) _ _ rfl _ _ rfl _ (fun w' hSw => crng_bel hSw.out RH.out) Tryd.underlying26 rfl HHI.out) Gx2 ?_
          try simp only [Act.put, List.setIfInBounds_toArray, List.set_cons_zero, List.set_cons_succ]
          refine wpAnyH_ready (rs := [9]) (by kernel_rfl) (by simp) ?_
          refine (AllReadyH.cons (o := { dst := some 48, op := _, type := _, pos := _, after := _, guard := _ }) rfl (fun Qc hQc => ?_) AllReadyH.nil)
          go_simp
          go_at_call 42
          refine (CFb.out x2 Gx2.out).mono ?_
          rintro e x3 ⟨v6, rfl, ho, hb⟩
          have Gx3 := hid (Gx2.out.trans (hb.mono Gx2.out.size))
          obtain ⟨A6, c6, hv6, _, hin6⟩ := ho.any HLb.out
          rw [LLb.out] at hv6 hin6
          subst hv6
          have I6 := hid hin6
          clear hb ho hin6
          go_wp2_with fail
          refine hQc.out _ _ Gx3 (fun hHeld => ?_)
          clear hQc Qc hHeld
          try simp only [Act.put, List.setIfInBounds_toArray, List.set_cons_zero, List.set_cons_succ]
          refine wpAnyH_ready (rs := [11]) (by kernel_rfl) (by simp) ?_
          refine (AllReadyH.cons (o := { dst := some 50, op := _, type := _, pos := _, after := _, guard := _ }) rfl (fun Qc hQc => ?_) AllReadyH.nil)
          go_simp
          go_at_call 45
          refine (CKb.out x3 Gx3.out _ _ I6.out).mono ?_
          rintro e x4 ⟨rfl, hb⟩
          have Gx4 := hid (Gx3.out.trans (hb.mono Gx3.out.size))
          clear hb
          go_wp2_with fail
          refine hQc.out _ _ Gx4 (fun hHeld => ?_)
          clear hQc Qc hHeld
          try simp only [Act.put, List.setIfInBounds_toArray, List.set_cons_zero, List.set_cons_succ]
          refine wpAnyH_take (i := 12) (oi := { dst := some 51, op := _, type := _, pos := _, after := _, guard := _ }) (v := ?_) rfl (by kernel_rfl) (by kernel_rfl) (by kernel_rfl) (fun _ _ _ h => h) (Or.inl ⟨by kernel_rfl, ?_⟩) Gx4 ?_
          rotate_left
          · (intro w hSw; go_simp; try with_reducible rfl)
          try simp only [Act.put, List.setIfInBounds_toArray, List.set_cons_zero, List.set_cons_succ]
          refine wpAnyH_take (i := 13) (oi := { dst := some 52, op := _, type := _, pos := _, after := _, guard := _ }) (v := ?_) rfl (by kernel_rfl) (by kernel_rfl) (by kernel_rfl) (fun _ _ _ h => h) (Or.inl ⟨by kernel_rfl, ?_⟩) Gx4 ?_
          rotate_left
          · (intro w hSw; go_simp; try with_reducible rfl)
          try simp only [Act.put, List.setIfInBounds_toArray, List.set_cons_zero, List.set_cons_succ]
          refine wpAnyH_take (i := 14) (oi := { dst := some 53, op := _, type := _, pos := _, after := _, guard := _ }) (v := ?_) rfl (by kernel_rfl) (by kernel_rfl) (by kernel_rfl) (fun _ _ _ h => h) (Or.inl ⟨by kernel_rfl, ?_⟩) Gx4 ?_
          rotate_left
          · (intro w hSw; go_simp; try with_reducible rfl)
          try simp only [Act.put, List.setIfInBounds_toArray, List.set_cons_zero, List.set_cons_succ]
          refine wpAnyH_take (i := 15) (oi := { dst := some 54, op := _, type := _, pos := _, after := _, guard := _ }) (v := ?_) rfl (by kernel_rfl) (by kernel_rfl) (by kernel_rfl) (fun _ _ _ h => h) (Or.inl ⟨by kernel_rfl, ?_⟩) Gx4 ?_
          rotate_left
          · (intro w hSw; go_simp; try with_reducible rfl)
          try simp only [Act.put, List.setIfInBounds_toArray, List.set_cons_zero, List.set_cons_succ]
          refine wpAnyH_take (i := 16) (oi := { dst := some 55, op := _, type := _, pos := _, after := _, guard := _ }) (v := ?_) rfl (by kernel_rfl) (by kernel_rfl) (by kernel_rfl) (fun _ _ _ h => h) (Or.inl ⟨by kernel_rfl, ?_⟩) Gx4 ?_
          rotate_left
          · (intro w hSw; go_simp; try with_reducible rfl)
          try simp only [Act.put, List.setIfInBounds_toArray, List.set_cons_zero, List.set_cons_succ]
          refine wpAnyH_ready (rs := [17]) (by kernel_rfl) (by simp) ?_
          refine (AllReadyH.cons (o := { dst := some 56, op := _, type := _, pos := _, after := _, guard := _ }) rfl (fun Qc hQc => ?_) AllReadyH.nil)
          go_simp
          go_at_call 47
          refine (CSm.out x4 Gx4.out).mono ?_
          rintro e x5 ⟨rfl, hb⟩
          have Gx5 := hid (Gx4.out.trans (hb.mono Gx4.out.size))
          clear hb
          go_wp2_with fail
          refine hQc.out _ _ Gx5 (fun hHeld => ?_)
          clear hQc Qc hHeld
          try simp only [Act.put, List.setIfInBounds_toArray, List.set_cons_zero, List.set_cons_succ]
          refine wpAnyH_take (i := 18) (oi := { dst := some 57, op := _, type := _, pos := _, after := _, guard := _ }) (v := ?_) rfl (by kernel_rfl) (by kernel_rfl) (by kernel_rfl) (fun _ _ _ h => h) (Or.inl ⟨by kernel_rfl, ?_⟩) Gx5 ?_
          rotate_left
          · (intro w hSw; go_simp; try with_reducible rfl)
          try simp only [Act.put, List.setIfInBounds_toArray, List.set_cons_zero, List.set_cons_succ]
          refine wpAnyH_done (by kernel_rfl) ?_ _
          try simp only [Act.put, List.setIfInBounds_toArray, List.set_cons_zero, List.set_cons_succ]
          have BLx := hid (B4.out.trans (Gx5.out.mono B4.out.size))
          cases v3 with
          | true =>
            go_wp2
            go_ret
            exact ⟨rfl, BLx.out⟩
          | false =>
            have TA := CTa.out _ BLx.out
            unfold TxA9 at TA
            have TA := hid TA
            have CL := hid (HCL.out rfl)
            go_wp2_with (first
              | (go_at_call 53; have _t := tk; refine TA.out.mono ?_; rintro e w8 ⟨v8, rfl, ho, hb⟩; have O8 := hid ho; have B8 := hid (BLx.out.trans (hb.mono BLx.out.size)); have TB0 := CTb.out _ B8.out; unfold TxA9 at TB0; have TB := hid TB0; clear TB0 hb ho tk)
              | (go_at_call 53; refine TB.out.mono ?_; rintro e w9 ⟨v9, rfl, ho, hb⟩; have O9 := hid ho; have O89 := hid (O8.out.below hb); have B9 := hid (B8.out.trans (hb.mono B8.out.size)); clear hb ho; have len8 := hid O89.out.len; have len9 := hid O9.out.len; obtain ⟨A8, c8, hv8⟩ := len8.out; obtain ⟨A9, c9, hv9⟩ := len9.out; subst hv8 hv9; have CC := hid (HCC.out _ _ _ _ _ _ _ O89.out O9.out); clear len8 len9)
              | (go_at_call 23; refine CC.out.mono ?_; rintro e w10 ⟨rfl, hb⟩; have B10 := hid (B9.out.trans (hb.mono B9.out.size)); clear hb))
            go_ret
            exact ⟨by rw [CL.out]; rfl, B10.out⟩
end Go.Proofs.YtjhaamffgkialaaDoor
