/-
  What is proved here: a proof that is right of a tree's root shows what the tree has, or some texts clash: the walk of the statement.
-/
import Derived.Test.YtbhgchbacadgaaaDoorMTk
import Derived.Test.YtbhgchbacadgaaaDoorMYZ4
import Derived.Deep.DeepCutAuto
import Derived.Deep.RegionLaw
set_option linter.unusedSimpArgs false
set_option linter.unusedVariables false
namespace Go.Proofs.YtbhgchbacadgaaaDoor
open Go.ChangeShapes Go.WideShapes Go.ChangeAt Go.RowKit
set_option linter.unusedVariables false
set_option linter.unusedSimpArgs false
set_option maxRecDepth 20000

theorem txsX_len {key : List Int} {q : QP} : (txsX key q).length ≤ q.ss.length + 1 := by
  unfold txsX
  split
  · rw [List.length_reverse, all_len]; omega
  · simp
theorem get_ky {L : List KV} {K : List Int} (h : Kys L) : Ky ((getL L K).getD zk) := by
  cases hg : getL L K with
  | none => exact zk_ky
  | some v =>
    unfold getL at hg
    rw [Option.map_eq_some_iff] at hg
    obtain ⟨q9, hq9, e9⟩ := hg
    rw [← e9]
    exact (h q9 (List.mem_of_find?_eq_some hq9)).2
theorem two_lens (k : List Int) : ∀ (X : List KV), (lo X k).length + (hi X k).length ≤ X.length
  | [] => by simp [lo, hi]
  | x :: X => by
    have ih := two_lens k X
    unfold lo hi at ih ⊢
    by_cases h3 : lss x.1 k = true
    · have h4 := lss_asym h3
      simp only [List.filter_cons, h3, h4, if_true, List.length_cons]
      simp only [Bool.false_eq_true, if_false]; omega
    · have h3' : lss x.1 k = false := by simpa using h3
      simp only [List.filter_cons, h3', Bool.false_eq_true, if_false, List.length_cons]
      split
      · simp only [List.length_cons]; omega
      · omega
theorem allL_len : ∀ (P : List KV), Kys P → (allL P).length ≤ P.length := fun P => by
  induction P using rev_ind with
  | h0 => intro _; exact Nat.le_refl _
  | h1 l p ih =>
    intro hQ
    have hl : Kys l := fun q hq => hQ q (List.mem_append_left _ hq)
    have hp := hQ p (by simp)
    have i1 := ih hl
    have i2 := two_lens p.1 (allL l)
    rw [allL_snoc, List.length_append, putL_eq (allL_ok l hl).1 (allL_ok l hl).2 hp.1]
    simp only [List.length_append, List.length_singleton]
    omega
theorem tree_for {L : List KV} (hs : Srt L) (hk : Kys L) : ∃ T, TOk T ∧ lstO T = L := by
  by_cases e : L = []
  · exact ⟨none, trivial, e.symm⟩
  · obtain ⟨t, h1, h2⟩ := tree_of hs hk e
    exact ⟨some t, h1, h2⟩
set_option maxHeartbeats 16000000 in
theorem sound_walk {w : World} {A0 A1 : Option Addr} {m c0 n c1 : Nat} {P : List KV} {q : QP} {K : List Int} (h : InP w A0 m P) (hin : InS w A1 n q.ss) (hq : q.Ok) (hK : Ky K) (ht : Tab w) :
    Calls Tryd.prog 7 #[.slice A0 m c0, .agg (prc (.slice A1 n c1) q).toArray, .agg (kc K)] w fun e w' => e = .returned (.bool true) ∧ Below w.heap.size w w' := by
  obtain ⟨hk1, hk2, hb0⟩ := two_blks w (prc (.slice A1 n c1) q).toArray (kc K) 72 24
  have J1 := hid hk1; have J2 := hid hk2; have B0 := hid hb0
  have CA := hid (fun w1 (hb : Below w.heap.size w w1) => qawake_any w1 (ht.below hb))
  have hml : m ≤ 9223372036854775807 := h.2.1
  have hnl : n ≤ 9223372036854775807 := hin.max
  have c40 : ((w.alloc (.cells (prc (.slice A1 n c1) q).toArray 72)).alloc (.cells (kc K) 24)).cell? ⟨w.heap.size, 0, none⟩ = some (.slice A1 n c1) := (hk1.pr hq).steps
  have C40 := hid (fun (x : World) (hb : Below ((w.alloc (.cells (prc (.slice A1 n c1) q).toArray 72)).alloc (.cells (kc K) 24)).heap.size ((w.alloc (.cells (prc (.slice A1 n c1) q).toArray 72)).alloc (.cells (kc K) 24)) x) => ((hk1.below hb).pr hq).steps)
  clear hk1 hk2 hb0
  have early : (20 < m ∨ 50 < n) → Calls Tryd.prog 7 #[.slice A0 m c0, .agg (prc (.slice A1 n c1) q).toArray, .agg (kc K)] w fun e w' => e = .returned (.bool true) ∧ Below w.heap.size w w' := by
    intro he
    clear h hin ht
    by_cases h1 : 20 < m
    · have hm' : (20 : Int) < (m : Int) := by omega
      clear he h1
      go_enter Tryd.func7, Tryd.ntmps7
      go_wp2_with (first
        | (go_at_call 26; refine (CA.out _ B0.out).mono ?_; rintro e w1 ⟨rfl, hb⟩; have B1 := hid (B0.out.trans (hb.mono B0.out.size)); clear hb)
        | (go_at_call 26; refine (CA.out _ B1.out).mono ?_; rintro e w2 ⟨rfl, hb⟩; have B2 := hid (B1.out.trans (hb.mono B1.out.size)); clear hb))
      go_ret
      exact ⟨rfl, B2.out⟩
    · have hm' : ¬ (20 : Int) < (m : Int) := by omega
      have hd1 : decide ((20 : Int) < (m : Int)) = false := decide_eq_false hm'
      have hn' : (50 : Int) < (n : Int) := by omega
      clear he h1
      go_enter Tryd.func7, Tryd.ntmps7
      go_wp2_with (first
        | (go_at_call 26; refine (CA.out _ B0.out).mono ?_; rintro e w1 ⟨rfl, hb⟩; have B1 := hid (B0.out.trans (hb.mono B0.out.size)); have c41 := C40.out w1 hb; clear hb)
        | (go_at_call 26; refine (CA.out _ B1.out).mono ?_; rintro e w2 ⟨rfl, hb⟩; have B2 := hid (B1.out.trans (hb.mono B1.out.size)); clear hb))
      go_ret
      exact ⟨rfl, B2.out⟩
  by_cases he : 20 < m ∨ 50 < n
  · exact early he
  clear early
  have hm' : ¬ (20 : Int) < (m : Int) := by omega
  have hn' : ¬ (50 : Int) < (n : Int) := by omega
  have hd1 : decide ((20 : Int) < (m : Int)) = false := decide_eq_false hm'
  have hd2 : decide ((50 : Int) < (n : Int)) = false := decide_eq_false hn'
  obtain ⟨Z, HZ, hZ0, hZs⟩ := zero_key
  have HNN : Hid (n ≤ 50 ∧ m ≤ 20) := by show _ ∧ _; omega
  have HQL := hid hin.len
  have CAl := hid (fun w1 (hb : Below w.heap.size w w1) => yAll_any (c0 := c0) w1 (h.below hb) (by omega))
  have HIN := hid (fun x (hb : Below w.heap.size w x) => hin.below hb)
  have HQ := hid hq; have HK := hid hK; have HT := hid ht
  have HKI := hid (u8s_info hK); have HPI := hid (zproof_info hq (.slice A1 n c1))
  obtain ⟨hs0, hk0⟩ := allL_ok P h.2.2.1
  have hll : (allL P).length ≤ 20 := Nat.le_trans (allL_len P h.2.2.1) (by rw [h.1]; omega)
  obtain ⟨T, HTO0, hTL⟩ := tree_for hs0 hk0
  obtain ⟨L0, hL0⟩ : ∃ L0, L0 = allL P := ⟨_, rfl⟩
  rw [← hL0] at hs0 hk0 hll hTL CAl
  have HTO := hid HTO0
  have HLL := hid hll; have HSR := hid hs0
  have hrk := rtL_ky hs0 hk0
  obtain ⟨rt, hrt⟩ : ∃ rt, rt = rtL L0 := ⟨_, rfl⟩
  obtain ⟨hchk, hshw⟩ := chk_showP (K := K) HTO0
  rw [hTL, ← hrt] at hchk
  rw [hTL] at hshw
  rw [← hrt] at hrk
  have HPK := hid (showP_ok (K := K) HTO0); have HPR := hid (showP_rng (K := K) HTO0)
  have HPL : Hid ((showP K T).ss.length ≤ 20) := Nat.le_trans showP_len (by rw [hTL]; exact hll)
  have CZ := hid (fun (x : World) (A9 : Option Addr) (n9 c9 : Nat) (hin : InP x A9 n9 L0) (hc : n9 ≤ c9) (hs : n9 < 500) => zShow_any (w := x) (T := T) (K := K) HTO0 (by rw [hTL]; exact hin) hc hK hs)
  have hgy := get_ky (K := K) hk0
  have HRT := hid hrt; have HCHK := hid hchk; have HSHW := hid hshw
  have HKR := hid hrk
  generalize showP K T = p2 at HPK HPR HPL CZ HCHK HSHW
  obtain ⟨a, x8, ha, hch, hsh⟩ := chk_as K rt hq
  obtain ⟨ok1, hok1⟩ : ∃ ok1, ok1 = chkB K rt q := ⟨_, rfl⟩
  have HOK1 := hid hok1
  rw [← hok1] at hch hsh
  have HSH := hid hsh
  have CCk := hid (fun x (hb : Below w.heap.size w x) A5 c5 (hin : InS x A5 q.ss.length q.ss) => (by
    have := qCheck_any (c := c5) (root := rt) x hin hq hK hrk (by rw [HQL.out]; omega) (ht.below hb)
    rw [hch] at this
    exact this : Calls Tryd.prog 31 #[.agg (prc (.slice A5 q.ss.length c5) q).toArray, .agg (kc K), .agg (kc rt)] x fun e w' => e = .returned (.tuple #[.agg (kc a), .bool x8, .bool ok1]) ∧ Below x.heap.size x w'))
  have HAI := hid (kc_info ha); have HAL := hid (u8s_info ha)
  have HAZ : Hid (Z.size = (kc a).size) := by show _ = _; rw [HZ.out, kc_size zk_ky, kc_size ha]
  have HKA := hid ha
  have CY0 := fun (x : World) (A9 : Option Addr) (n9 c9 : Nat) (hin : InP x A9 n9 L0) => yGet_any (c0 := c9) x hin hK
  unfold gV hV at CY0
  obtain ⟨VV, hVV⟩ : ∃ VV, VV = (getL L0 K).getD zk := ⟨_, rfl⟩
  obtain ⟨ob, hob⟩ : ∃ ob, ob = (getL L0 K).isSome := ⟨_, rfl⟩
  rw [← hVV, ← hob] at CY0
  rw [← hVV] at hgy
  have CY := hid CY0
  have HVI := hid (kc_info hgy); have HVL := hid (u8s_info hgy)
  have HVZ : Hid (Z.size = (kc VV).size) := by show _ = _; rw [HZ.out, kc_size zk_ky, kc_size hgy]
  have HKV := hid hgy; have HVV := hid hVV; have HOB := hid hob
  clear CY0 hVV hob hgy hsh hch hok1 ha hchk hshw hrt hrk hL0 hTL HTO0 hs0 hk0 hll h hin he hq hK ht HTO
  go_enter Tryd.func7, Tryd.ntmps7
  go_upto_region 4 with (first
    | (go_at_call 26; refine (CA.out _ B0.out).mono ?_; clear CA; rintro e w1 ⟨rfl, hb⟩; have B1 := hid (B0.out.trans (hb.mono B0.out.size)); have J11 := hid (J1.out.below hb); have J21 := hid (J2.out.below hb); have c41 := C40.out w1 hb; clear hb)
    | (go_at_call 12; refine (CAl.out _ B1.out).mono ?_; clear CAl; rintro e w2 ⟨v7, rfl, ho, hb⟩; have B2 := hid (B1.out.trans (hb.mono B1.out.size)); have J12 := hid (J11.out.below hb); have J22 := hid (J21.out.below hb); have OW := hid ho; clear ho hb))
  obtain ⟨A7, c7, hv7, hc7⟩ := OW.out.cap
  obtain ⟨m7, hm7⟩ : ∃ m7, m7 = L0.length := ⟨_, rfl⟩
  rw [← hm7] at hv7 hc7
  subst hv7
  have HM7 := hid hm7; have HC7 := hid hc7
  have I2 := hid (OW.out.in (by have := HLL.out; omega))
  clear hm7 hc7 OW hm' hn' hd1 hd2 c41 c40 C40 J1 J2 B0 B1 J11 J21 hml hnl
  have PA2 := hid (J12.out.pr HQ.out)
  have YR0 := fun (x : World) (hb : Below w2.heap.size w2 x) => yRoot_any (c := c7) x (I2.out.below hb) HSR.out HC7.out (by have := HM7.out; have := HLL.out; omega)
  rw [← HRT.out] at YR0
  have YR := hid YR0
  clear YR0
  have KR2 := hid (blk_key J22.out)
  go_cut [8, 9, 10] (fun s8 s9 s10 wx => ∃ e8, s8 = .pointer (some ⟨e8, 0, none⟩) ∧ s9 = .bool x8 ∧ s10 = .bool ok1 ∧ Hid (Blk wx e8 24 (kc a)) ∧ Hid (Below w2.heap.size w2 wx))
  case first =>
    refine wp_region_held (S := fun w' => Hid (Below w2.heap.size w2 w')) (by kernel_rfl) ?_
    change wpAnyH _ _ _ _ _ _ _ _ w2.drew
    have Gx0 : Hid (Below w2.heap.size w2 w2.drew) := (Below.refl _ _).drew
    generalize w2.drew = x0 at Gx0  ⊢
    refine tkv 0 (some 30) (.agg ((prc (.slice A1 n c1) q).toArray)) rfl (yieldsIf_load_mid (cs := (prc (.slice A1 n c1) q)) (by rfl) _ _ rfl _ _ rfl _ (fun w' hSw => (rng_bel hSw.out PA2.out.all)) Tryd.underlying72 rfl HPI.out) ?_
    refine tkv 2 (some 32) (.agg (kc K)) rfl (yieldsIf_load_mid (cs := u8s K) (by rfl) _ _ rfl _ _ rfl _ (fun w' hSw => (rng_bel hSw.out KR2.out)) Tryd.underlying24 rfl HKI.out) ?_
    refine tk 3 (some 33) ?_
    refine wpAnyH_ready (rs := [1, 10]) (by kernel_rfl) (by simp) ?_
    refine (AllReadyH.cons (o := { dst := some 31, op := _, type := _, pos := _, after := _, guard := _ }) rfl (fun Qc hQc => ?_) (AllReadyH.cons (o := { dst := some 8, op := _, type := _, pos := _, after := _, guard := _ }) rfl (fun Qc hQc => ?_) AllReadyH.nil))
    ·
      go_simp
      go_at_call 32
      refine (qFrom_any (c := c1) x0 (HIN.out x0 (B2.out.trans (Gx0.out.mono B2.out.size))) HQ.out (by have := HNN.out; omega)).mono ?_
      rintro e x1 ⟨A5, c5, rfl, hin5, hb⟩
      have Gx1 := hid (Gx0.out.trans (hb.mono Gx0.out.size))
      have IN5 := hid hin5
      try (have NBd := hid (NBc.out.below hb); clear NBc; have NBc := NBd; clear NBd)
      clear hb hin5
      go_wp2_with fail
      refine hQc.out _ _ Gx1 (fun hHeld => ?_)
      clear hQc Qc hHeld
      try simp only [Act.put, List.setIfInBounds_toArray, List.set_cons_zero, List.set_cons_succ]
      refine wpAnyH_ready (rs := [4, 10]) (by kernel_rfl) (by simp) ?_
      refine (AllReadyH.cons (o := { dst := some 34, op := _, type := _, pos := _, after := _, guard := _ }) rfl (fun Qc hQc => ?_) (AllReadyH.cons (o := { dst := some 8, op := _, type := _, pos := _, after := _, guard := _ }) rfl (fun Qc hQc => ?_) AllReadyH.nil))
      ·
        go_simp
        go_at_call 16
        refine (YR.out x1 Gx1.out).mono ?_
        rintro e x2 ⟨rfl, hb⟩
        have Gx2 := hid (Gx1.out.trans (hb.mono Gx1.out.size))
        have IN5b := hid (IN5.out.below hb)
        clear IN5
        have IN5 := IN5b
        clear IN5b
        try (have NBd := hid (NBc.out.below hb); clear NBc; have NBc := NBd; clear NBd)
        clear hb
        go_wp2_with fail
        refine hQc.out _ _ Gx2 (fun hHeld => ?_)
        clear hQc Qc hHeld
        try simp only [Act.put, List.setIfInBounds_toArray, List.set_cons_zero, List.set_cons_succ]
        refine wpAnyH_ready (rs := [5, 10]) (by kernel_rfl) (by simp) ?_
        refine (AllReadyH.cons (o := { dst := some 35, op := _, type := _, pos := _, after := _, guard := _ }) rfl (fun Qc hQc => ?_) (AllReadyH.cons (o := { dst := some 8, op := _, type := _, pos := _, after := _, guard := _ }) rfl (fun Qc hQc => ?_) AllReadyH.nil))
        ·
          go_simp
          go_at_call 31
          refine (CCk.out x2 (B2.out.trans (Gx2.out.mono B2.out.size)) A5 c5 IN5.out).mono ?_
          rintro e x3 ⟨rfl, hb⟩
          have Gx3 := hid (Gx2.out.trans (hb.mono Gx2.out.size))
          clear IN5
          try (have NBd := hid (NBc.out.below hb); clear NBc; have NBc := NBd; clear NBd)
          clear hb
          go_wp2_with fail
          refine hQc.out _ _ Gx3 (fun hHeld => ?_)
          clear hQc Qc hHeld
          try simp only [Act.put, List.setIfInBounds_toArray, List.set_cons_zero, List.set_cons_succ]
          refine tk 6 (some 29) ?_
          refine tk 7 (some 36) ?_
          refine tk 8 (some 37) ?_
          refine tk 9 (some 38) ?_
          refine rd1 10 (some 8) (fun Qc hQc => ?_)
          go_simp
          have NBc : Hid (Blk (x3.alloc (.cells Z 24)) x3.heap.size 24 Z) := Blk.new x3 24 Z
          have GE : Hid (w2.heap.size ≤ x3.heap.size) := Gx3.out.size
          have Gx4 := hid (Gx3.out.alloc Gx3.out.size (.cells Z 24))
          try (have IN5b := hid (IN5.out.below ((Below.refl x3.heap.size x3).alloc (Nat.le_refl _) (.cells Z 24))); clear IN5; have IN5 := IN5b; clear IN5b)
          refine hQc.out _ _ Gx4 (fun hHeld => ?_)
          clear hQc Qc hHeld
          generalize x3.heap.size = e8 at NBc GE ⊢
          first | (generalize x3.alloc (.cells Z 24) = x4 at NBc Gx4 IN5 ⊢) | (generalize x3.alloc (.cells Z 24) = x4 at NBc Gx4 ⊢)
          try simp only [Act.put, List.setIfInBounds_toArray, List.set_cons_zero, List.set_cons_succ]
          refine rd1 11 none (fun Qc hQc => ?_)
          rw [if_pos (by rfl)]
          refine wp_store_row 24 (.tmp 8) (.tmp 36) rfl e8 (kc a) rfl rfl 24 Z NBc.out HAI.out HAZ.out (kc_one _) ?_
          have Gx5 : Hid (Below w2.heap.size w2 (x4.setRow e8 (kc a))) := below_setRow Gx4.out GE.out _
          have NBf := hid (NBc.out.row (kc a))
          refine hQc.out _ _ Gx5 (fun hHeld => ?_)
          clear hQc Qc hHeld
          generalize x4.setRow e8 (kc a) = x5 at Gx5 NBf ⊢
          try simp only [Act.put, List.setIfInBounds_toArray, List.set_cons_zero, List.set_cons_succ]
          refine tk 12 (some 9) ?_
          refine tk 13 (some 10) ?_
          refine wpAnyH_done (by kernel_rfl) ?_ _
          try simp only [Act.put, List.setIfInBounds_toArray, List.set_cons_zero, List.set_cons_succ]
          go_wp2
          go_meet
          exact ⟨e8, rfl, rfl, rfl, NBf, Gx5⟩
        ·
          go_simp
          have NBc : Hid (Blk (x2.alloc (.cells Z 24)) x2.heap.size 24 Z) := Blk.new x2 24 Z
          have GE : Hid (w2.heap.size ≤ x2.heap.size) := Gx2.out.size
          have Gx6 := hid (Gx2.out.alloc Gx2.out.size (.cells Z 24))
          try (have IN5b := hid (IN5.out.below ((Below.refl x2.heap.size x2).alloc (Nat.le_refl _) (.cells Z 24))); clear IN5; have IN5 := IN5b; clear IN5b)
          refine hQc.out _ _ Gx6 (fun hHeld => ?_)
          clear hQc Qc hHeld
          generalize x2.heap.size = e8 at NBc GE ⊢
          first | (generalize x2.alloc (.cells Z 24) = x6 at NBc Gx6 IN5 ⊢) | (generalize x2.alloc (.cells Z 24) = x6 at NBc Gx6 ⊢)
          try simp only [Act.put, List.setIfInBounds_toArray, List.set_cons_zero, List.set_cons_succ]
          refine rd1 5 (some 35) (fun Qc hQc => ?_)
          go_simp
          go_at_call 31
          refine (CCk.out x6 (B2.out.trans (Gx6.out.mono B2.out.size)) A5 c5 IN5.out).mono ?_
          rintro e x7 ⟨rfl, hb⟩
          have Gx7 := hid (Gx6.out.trans (hb.mono Gx6.out.size))
          clear IN5
          try (have NBd := hid (NBc.out.below hb); clear NBc; have NBc := NBd; clear NBd)
          clear hb
          go_wp2_with fail
          refine hQc.out _ _ Gx7 (fun hHeld => ?_)
          clear hQc Qc hHeld
          try simp only [Act.put, List.setIfInBounds_toArray, List.set_cons_zero, List.set_cons_succ]
          refine tk 6 (some 29) ?_
          refine tk 7 (some 36) ?_
          refine tk 8 (some 37) ?_
          refine tk 9 (some 38) ?_
          refine rd1 11 none (fun Qc hQc => ?_)
          rw [if_pos (by rfl)]
          refine wp_store_row 24 (.tmp 8) (.tmp 36) rfl e8 (kc a) rfl rfl 24 Z NBc.out HAI.out HAZ.out (kc_one _) ?_
          have Gx8 : Hid (Below w2.heap.size w2 (x7.setRow e8 (kc a))) := below_setRow Gx7.out GE.out _
          have NBf := hid (NBc.out.row (kc a))
          refine hQc.out _ _ Gx8 (fun hHeld => ?_)
          clear hQc Qc hHeld
          generalize x7.setRow e8 (kc a) = x8 at Gx8 NBf ⊢
          try simp only [Act.put, List.setIfInBounds_toArray, List.set_cons_zero, List.set_cons_succ]
          refine tk 12 (some 9) ?_
          refine tk 13 (some 10) ?_
          refine wpAnyH_done (by kernel_rfl) ?_ _
          try simp only [Act.put, List.setIfInBounds_toArray, List.set_cons_zero, List.set_cons_succ]
          go_wp2
          go_meet
          exact ⟨e8, rfl, rfl, rfl, NBf, Gx8⟩
      ·
        go_simp
        have NBc : Hid (Blk (x1.alloc (.cells Z 24)) x1.heap.size 24 Z) := Blk.new x1 24 Z
        have GE : Hid (w2.heap.size ≤ x1.heap.size) := Gx1.out.size
        have Gx9 := hid (Gx1.out.alloc Gx1.out.size (.cells Z 24))
        try (have IN5b := hid (IN5.out.below ((Below.refl x1.heap.size x1).alloc (Nat.le_refl _) (.cells Z 24))); clear IN5; have IN5 := IN5b; clear IN5b)
        refine hQc.out _ _ Gx9 (fun hHeld => ?_)
        clear hQc Qc hHeld
        generalize x1.heap.size = e8 at NBc GE ⊢
        first | (generalize x1.alloc (.cells Z 24) = x9 at NBc Gx9 IN5 ⊢) | (generalize x1.alloc (.cells Z 24) = x9 at NBc Gx9 ⊢)
        try simp only [Act.put, List.setIfInBounds_toArray, List.set_cons_zero, List.set_cons_succ]
        refine rd1 4 (some 34) (fun Qc hQc => ?_)
        go_simp
        go_at_call 16
        refine (YR.out x9 Gx9.out).mono ?_
        rintro e x10 ⟨rfl, hb⟩
        have Gx10 := hid (Gx9.out.trans (hb.mono Gx9.out.size))
        have IN5b := hid (IN5.out.below hb)
        clear IN5
        have IN5 := IN5b
        clear IN5b
        try (have NBd := hid (NBc.out.below hb); clear NBc; have NBc := NBd; clear NBd)
        clear hb
        go_wp2_with fail
        refine hQc.out _ _ Gx10 (fun hHeld => ?_)
        clear hQc Qc hHeld
        try simp only [Act.put, List.setIfInBounds_toArray, List.set_cons_zero, List.set_cons_succ]
        refine rd1 5 (some 35) (fun Qc hQc => ?_)
        go_simp
        go_at_call 31
        refine (CCk.out x10 (B2.out.trans (Gx10.out.mono B2.out.size)) A5 c5 IN5.out).mono ?_
        rintro e x11 ⟨rfl, hb⟩
        have Gx11 := hid (Gx10.out.trans (hb.mono Gx10.out.size))
        clear IN5
        try (have NBd := hid (NBc.out.below hb); clear NBc; have NBc := NBd; clear NBd)
        clear hb
        go_wp2_with fail
        refine hQc.out _ _ Gx11 (fun hHeld => ?_)
        clear hQc Qc hHeld
        try simp only [Act.put, List.setIfInBounds_toArray, List.set_cons_zero, List.set_cons_succ]
        refine tk 6 (some 29) ?_
        refine tk 7 (some 36) ?_
        refine tk 8 (some 37) ?_
        refine tk 9 (some 38) ?_
        refine rd1 11 none (fun Qc hQc => ?_)
        rw [if_pos (by rfl)]
        refine wp_store_row 24 (.tmp 8) (.tmp 36) rfl e8 (kc a) rfl rfl 24 Z NBc.out HAI.out HAZ.out (kc_one _) ?_
        have Gx12 : Hid (Below w2.heap.size w2 (x11.setRow e8 (kc a))) := below_setRow Gx11.out GE.out _
        have NBf := hid (NBc.out.row (kc a))
        refine hQc.out _ _ Gx12 (fun hHeld => ?_)
        clear hQc Qc hHeld
        generalize x11.setRow e8 (kc a) = x12 at Gx12 NBf ⊢
        try simp only [Act.put, List.setIfInBounds_toArray, List.set_cons_zero, List.set_cons_succ]
        refine tk 12 (some 9) ?_
        refine tk 13 (some 10) ?_
        refine wpAnyH_done (by kernel_rfl) ?_ _
        try simp only [Act.put, List.setIfInBounds_toArray, List.set_cons_zero, List.set_cons_succ]
        go_wp2
        go_meet
        exact ⟨e8, rfl, rfl, rfl, NBf, Gx12⟩
    ·
      go_simp
      have NBc : Hid (Blk (x0.alloc (.cells Z 24)) x0.heap.size 24 Z) := Blk.new x0 24 Z
      have GE : Hid (w2.heap.size ≤ x0.heap.size) := Gx0.out.size
      have Gx13 := hid (Gx0.out.alloc Gx0.out.size (.cells Z 24))
      try (have IN5b := hid (IN5.out.below ((Below.refl x0.heap.size x0).alloc (Nat.le_refl _) (.cells Z 24))); clear IN5; have IN5 := IN5b; clear IN5b)
      refine hQc.out _ _ Gx13 (fun hHeld => ?_)
      clear hQc Qc hHeld
      generalize x0.heap.size = e8 at NBc GE ⊢
      first | (generalize x0.alloc (.cells Z 24) = x13 at NBc Gx13 IN5 ⊢) | (generalize x0.alloc (.cells Z 24) = x13 at NBc Gx13 ⊢)
      try simp only [Act.put, List.setIfInBounds_toArray, List.set_cons_zero, List.set_cons_succ]
      refine rd1 1 (some 31) (fun Qc hQc => ?_)
      go_simp
      go_at_call 32
      refine (qFrom_any (c := c1) x13 (HIN.out x13 (B2.out.trans (Gx13.out.mono B2.out.size))) HQ.out (by have := HNN.out; omega)).mono ?_
      rintro e x14 ⟨A5, c5, rfl, hin5, hb⟩
      have Gx14 := hid (Gx13.out.trans (hb.mono Gx13.out.size))
      have IN5 := hid hin5
      try (have NBd := hid (NBc.out.below hb); clear NBc; have NBc := NBd; clear NBd)
      clear hb hin5
      go_wp2_with fail
      refine hQc.out _ _ Gx14 (fun hHeld => ?_)
      clear hQc Qc hHeld
      try simp only [Act.put, List.setIfInBounds_toArray, List.set_cons_zero, List.set_cons_succ]
      refine rd1 4 (some 34) (fun Qc hQc => ?_)
      go_simp
      go_at_call 16
      refine (YR.out x14 Gx14.out).mono ?_
      rintro e x15 ⟨rfl, hb⟩
      have Gx15 := hid (Gx14.out.trans (hb.mono Gx14.out.size))
      have IN5b := hid (IN5.out.below hb)
      clear IN5
      have IN5 := IN5b
      clear IN5b
      try (have NBd := hid (NBc.out.below hb); clear NBc; have NBc := NBd; clear NBd)
      clear hb
      go_wp2_with fail
      refine hQc.out _ _ Gx15 (fun hHeld => ?_)
      clear hQc Qc hHeld
      try simp only [Act.put, List.setIfInBounds_toArray, List.set_cons_zero, List.set_cons_succ]
      refine rd1 5 (some 35) (fun Qc hQc => ?_)
      go_simp
      go_at_call 31
      refine (CCk.out x15 (B2.out.trans (Gx15.out.mono B2.out.size)) A5 c5 IN5.out).mono ?_
      rintro e x16 ⟨rfl, hb⟩
      have Gx16 := hid (Gx15.out.trans (hb.mono Gx15.out.size))
      clear IN5
      try (have NBd := hid (NBc.out.below hb); clear NBc; have NBc := NBd; clear NBd)
      clear hb
      go_wp2_with fail
      refine hQc.out _ _ Gx16 (fun hHeld => ?_)
      clear hQc Qc hHeld
      try simp only [Act.put, List.setIfInBounds_toArray, List.set_cons_zero, List.set_cons_succ]
      refine tk 6 (some 29) ?_
      refine tk 7 (some 36) ?_
      refine tk 8 (some 37) ?_
      refine tk 9 (some 38) ?_
      refine rd1 11 none (fun Qc hQc => ?_)
      rw [if_pos (by rfl)]
      refine wp_store_row 24 (.tmp 8) (.tmp 36) rfl e8 (kc a) rfl rfl 24 Z NBc.out HAI.out HAZ.out (kc_one _) ?_
      have Gx17 : Hid (Below w2.heap.size w2 (x16.setRow e8 (kc a))) := below_setRow Gx16.out GE.out _
      have NBf := hid (NBc.out.row (kc a))
      refine hQc.out _ _ Gx17 (fun hHeld => ?_)
      clear hQc Qc hHeld
      generalize x16.setRow e8 (kc a) = x17 at Gx17 NBf ⊢
      try simp only [Act.put, List.setIfInBounds_toArray, List.set_cons_zero, List.set_cons_succ]
      refine tk 12 (some 9) ?_
      refine tk 13 (some 10) ?_
      refine wpAnyH_done (by kernel_rfl) ?_ _
      try simp only [Act.put, List.setIfInBounds_toArray, List.set_cons_zero, List.set_cons_succ]
      go_wp2
      go_meet
      exact ⟨e8, rfl, rfl, rfl, NBf, Gx17⟩
  case rest =>
  obtain ⟨e8, rfl, rfl, rfl, N8, G2⟩ := hcut
  clear YR CCk PA2 KR2
  have B3 := hid (B2.out.trans (G2.out.mono B2.out.size)); have J13 := hid (J12.out.below G2.out); have J23 := hid (J22.out.below G2.out); have I3 := hid (I2.out.below G2.out)
  clear B2 J12 J22 I2 G2
  generalize wc = w3 at N8 B3 J13 J23 I3 ⊢
  cases ok1 with
  | false =>
    go_wp2
    go_ret
    exact ⟨rfl, B3.out⟩
  | true =>
    have KR3 := hid (blk_key J23.out)
    go_upto_region 8 with (first
      | (refine load_at rfl 24 (.tmp 5) rfl (w.heap.size + 1) 0 rfl (u8s K) _ KR3.out Tryd.underlying24 rfl HKI.out (kc K) rfl ?_)
      | (go_at_call 15; refine (CY.out _ _ _ _ I3.out).mono ?_; clear CY; rintro e w4 ⟨rfl, hb⟩; have B4 := hid (B3.out.trans (hb.mono B3.out.size)); have J14 := hid (J13.out.below hb); have J24 := hid (J23.out.below hb); have I4 := hid (I3.out.below hb); have N84 := hid (N8.out.below hb); clear hb)
      | (refine wpList_store_row rfl 24 (.tmp 11) (.tmp 45) rfl w4.heap.size (kc VV) rfl rfl 24 Z (Blk.new w4 24 Z) HVI.out HVZ.out (kc_one _) ?_))
    have BX : Hid (Below w4.heap.size w4 ((w4.alloc (.cells Z 24)).setRow w4.heap.size (kc VV))) := below_setRow ((Below.refl _ _).alloc (Nat.le_refl _) _) (Nat.le_refl _) _
    have N11 : Hid (Blk ((w4.alloc (.cells Z 24)).setRow w4.heap.size (kc VV)) w4.heap.size 24 (kc VV)) := (Blk.new w4 24 Z).row _
    have B5 := hid (B4.out.trans (BX.out.mono B4.out.size)); have J15 := hid (J14.out.below BX.out); have J25 := hid (J24.out.below BX.out); have I5 := hid (I4.out.below BX.out); have N85 := hid (N84.out.below BX.out)
    clear BX B4 J14 J24 I4 N84 B3 J13 J23 I3 N8 KR3
    generalize (w4.alloc (.cells Z 24)).setRow w4.heap.size (kc VV) = w5 at N11 B5 J15 J25 I5 N85 ⊢
    generalize w4.heap.size = e11 at N11 ⊢
    have heq := fun w => equal_key 9998 a VV HKA.out HKV.out w
    obtain ⟨hsv, hsx⟩ := HSH.out (by trivial)
    by_cases hsame : a = VV ∧ x8 = ob
    · rw [decide_eq_true hsame.1] at heq
      obtain ⟨hs1, hs2⟩ := hsame
      subst hs2
      clear hs1 hsv hsx
      cases x8
      all_goals
        go_wp2_with (first
          | (refine load_at rfl 24 (.tmp 8) rfl e8 0 rfl (u8s a) _ (blk_key N85.out) Tryd.underlying24 rfl HAL.out (kc a) rfl ?_)
          | (refine load_at rfl 24 (.tmp 11) rfl e11 0 rfl (u8s VV) _ (blk_key N11.out) Tryd.underlying24 rfl HVL.out (kc VV) rfl ?_))
        go_ret
        exact ⟨rfl, B5.out⟩
    · have HYES : Hid (clashB (txsX K q) (txsX K p2) = true) := right_clash (root := rt) HQ.out HPK.out (by first | exact HOK1.out.symm | exact HOK1.out) HCHK.out (fun e => hsame ⟨by rw [hsv, HVV.out, e, HSHW.out], by rw [hsx, HOB.out, e, HSHW.out]⟩)
      clear hsv hsx
      go_upto_region 8 with (fail)
      go_cut [54] (fun s54 wx => s54 = .bool false ∧ w5 = wx)
      case first =>
        by_cases e1 : a = VV
        · have e2 : x8 ≠ ob := fun e => hsame ⟨e1, e⟩
          rw [decide_eq_true e1] at heq
          clear hsame e1
          revert e2
          cases x8 <;> cases ob <;> intro e2 <;> first | exact absurd rfl e2 | skip
          all_goals
            go_wp2_with (first
              | (refine load_at rfl 24 (.tmp 8) rfl e8 0 rfl (u8s a) _ (blk_key N85.out) Tryd.underlying24 rfl HAL.out (kc a) rfl ?_)
              | (refine load_at rfl 24 (.tmp 11) rfl e11 0 rfl (u8s VV) _ (blk_key N11.out) Tryd.underlying24 rfl HVL.out (kc VV) rfl ?_))
            go_meet
            exact ⟨rfl, rfl⟩
        · rw [decide_eq_false e1] at heq
          clear hsame e1
          cases x8 <;> cases ob
          all_goals
            go_wp2_with (first
              | (refine load_at rfl 24 (.tmp 8) rfl e8 0 rfl (u8s a) _ (blk_key N85.out) Tryd.underlying24 rfl HAL.out (kc a) rfl ?_)
              | (refine load_at rfl 24 (.tmp 11) rfl e11 0 rfl (u8s VV) _ (blk_key N11.out) Tryd.underlying24 rfl HVL.out (kc VV) rfl ?_))
            go_meet
            exact ⟨rfl, rfl⟩
      case rest =>
      obtain ⟨rfl, rfl⟩ := hcut
      have PA5 := hid (J15.out.pr HQ.out); have KR5 := hid (blk_key J25.out)
      have HQI2 := HPI
      clear heq hsame
      go_upto_region 10 with (fail)
      refine wp_region_held (S := fun w' => Hid (Below w5.heap.size w5 w')) (by kernel_rfl) ?_
      change wpAnyH _ _ _ _ _ _ _ _ w5.drew
      have Gx0 : Hid (Below w5.heap.size w5 w5.drew) := (Below.refl _ _).drew
      generalize w5.drew = x0 at Gx0  ⊢
      refine tkv 0 (some 55) (.agg ((prc (.slice A1 n c1) q).toArray)) rfl (yieldsIf_load_mid (cs := (prc (.slice A1 n c1) q)) (by rfl) _ _ rfl _ _ rfl _ (fun w' hSw => (rng_bel hSw.out PA5.out.all)) Tryd.underlying72 rfl HPI.out) ?_
      refine tkv 2 (some 57) (.agg (kc K)) rfl (yieldsIf_load_mid (cs := u8s K) (by rfl) _ _ rfl _ _ rfl _ (fun w' hSw => (rng_bel hSw.out KR5.out)) Tryd.underlying24 rfl HKI.out) ?_
      refine tk 4 (some 59) ?_
      refine tkv 5 (some 60) (.agg (kc K)) rfl (yieldsIf_load_mid (cs := u8s K) (by rfl) _ _ rfl _ _ rfl _ (fun w' hSw => (rng_bel hSw.out KR5.out)) Tryd.underlying24 rfl HKI.out) ?_
      refine tkv 7 (some 62) (.agg (kc K)) rfl (yieldsIf_load_mid (cs := u8s K) (by rfl) _ _ rfl _ _ rfl _ (fun w' hSw => (rng_bel hSw.out KR5.out)) Tryd.underlying24 rfl HKI.out) ?_
      refine rd1 1 (some 56) (fun Qc hQc => ?_)
      go_simp
      go_at_call 32
      refine (qFrom_any (c := c1) x0 (HIN.out x0 (B5.out.trans (Gx0.out.mono B5.out.size))) HQ.out (by have := HNN.out; omega)).mono ?_
      rintro e x1 ⟨A5, c5, rfl, hin5, hb⟩
      have Gx1 := hid (Gx0.out.trans (hb.mono Gx0.out.size))
      have IN5 := hid hin5
      try (have NBd := hid (NBc.out.below hb); clear NBc; have NBc := NBd; clear NBd)
      clear hb hin5
      go_wp2_with fail
      refine hQc.out _ _ Gx1 (fun hHeld => ?_)
      clear hQc Qc hHeld
      try simp only [Act.put, List.setIfInBounds_toArray, List.set_cons_zero, List.set_cons_succ]
      refine rd1 3 (some 58) (fun Qc hQc => ?_)
      go_simp
      go_at_call 34
      refine (qtexts_any (c := c5) x1 IN5.out HQ.out HK.out (by rw [HQL.out]; have := HNN.out; omega) (HT.out.below (B5.out.trans (Gx1.out.mono B5.out.size)))).mono ?_
      rintro e x2 ⟨v6, rfl, htx6, hb⟩
      have Gx2 := hid (Gx1.out.trans (hb.mono Gx1.out.size))
      obtain ⟨A6, c6, hv6⟩ := htx6.len
      subst hv6
      have TX6 := hid htx6
      have CZ9 := hid (CZ.out x2 A7 m7 c7 (I5.out.below Gx2.out) HC7.out (by have := HM7.out; have := HLL.out; omega))
      clear hb htx6 IN5
      go_wp2_with fail
      refine hQc.out _ _ Gx2 (fun hHeld => ?_)
      clear hQc Qc hHeld
      try simp only [Act.put, List.setIfInBounds_toArray, List.set_cons_zero, List.set_cons_succ]
      refine rd1 6 (some 61) (fun Qc hQc => ?_)
      go_simp
      go_at_call 30
      refine CZ9.out.mono ?_
      clear CZ9
      rintro e x3 ⟨A10, c10, rfl, hin10, hb⟩
      have Gx3 := hid (Gx2.out.trans (hb.mono Gx2.out.size))
      have TX7 := hid (TX6.out.below hb)
      have CT9 := hid (ztexts_any (c := c10) x3 hin10 HPK.out HPR.out HK.out (by have := HPL.out; omega))
      clear hb hin10 TX6
      go_wp2_with fail
      refine hQc.out _ _ Gx3 (fun hHeld => ?_)
      clear hQc Qc hHeld
      try simp only [Act.put, List.setIfInBounds_toArray, List.set_cons_zero, List.set_cons_succ]
      refine rd1 8 (some 63) (fun Qc hQc => ?_)
      go_simp
      go_at_call 35
      refine CT9.out.mono ?_
      clear CT9
      rintro e x4 ⟨v8, rfl, htx8, hb⟩
      have Gx4 := hid (Gx3.out.trans (hb.mono Gx3.out.size))
      obtain ⟨A8, c8, hv8⟩ := htx8.len
      subst hv8
      have CCL0 := zClash_any (c := c6) (d := c8) x4 ((TX7.out.below hb).in (fun x hx => (txsX_all HQ.out x hx).1) (fun x hx => (txsX_all HQ.out x hx).2) (Nat.le_trans txsX_len (by rw [HQL.out]; have := HNN.out; omega))) (htx8.in (fun x hx => (txsX_all HPK.out x hx).1) (fun x hx => (txsX_all HPK.out x hx).2) (Nat.le_trans txsX_len (by have := HPL.out; omega))) (fun x hx => (txsX_all HQ.out x hx).2) (fun x hx => (txsX_all HPK.out x hx).2)
      rw [HYES.out] at CCL0
      have CCL := hid CCL0
      clear hb htx8 TX7 CCL0
      go_wp2_with fail
      refine hQc.out _ _ Gx4 (fun hHeld => ?_)
      clear hQc Qc hHeld
      try simp only [Act.put, List.setIfInBounds_toArray, List.set_cons_zero, List.set_cons_succ]
      refine rd1 9 (some 64) (fun Qc hQc => ?_)
      go_simp
      go_at_call 33
      refine (CCL.out).mono ?_
      rintro e x5 ⟨rfl, hb⟩
      have Gx5 := hid (Gx4.out.trans (hb.mono Gx4.out.size))
      clear hb
      go_wp2_with fail
      refine hQc.out _ _ Gx5 (fun hHeld => ?_)
      clear hQc Qc hHeld
      try simp only [Act.put, List.setIfInBounds_toArray, List.set_cons_zero, List.set_cons_succ]
      refine tk 10 (some 6) ?_
      refine wpAnyH_done (by kernel_rfl) ?_ _
      try simp only [Act.put, List.setIfInBounds_toArray, List.set_cons_zero, List.set_cons_succ]
      have BF := hid (B5.out.trans (Gx5.out.mono B5.out.size))
      go_wp2
      go_ret
      exact ⟨rfl, BF.out⟩
end Go.Proofs.YtbhgchbacadgaaaDoor
