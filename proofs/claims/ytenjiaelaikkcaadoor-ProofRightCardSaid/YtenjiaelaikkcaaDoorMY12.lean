/-
  What is proved here: of two right proofs of one root that don't show the same some texts clash: the walk of the statement.
-/
import Derived.Test.YtenjiaelaikkcaaDoorMY9
import Derived.Test.YtenjiaelaikkcaaDoorMY1
import Derived.Test.YtenjiaelaikkcaaDoorMX20
import Derived.Deep.DeepCutAuto
import Derived.Deep.RegionLaw
set_option linter.unusedSimpArgs false
set_option linter.unusedVariables false
namespace Go.Proofs.YtenjiaelaikkcaaDoor
open Go.ChangeShapes Go.WideShapes Go.ChangeAt Go.RowKit
set_option linter.unusedVariables false
set_option linter.unusedSimpArgs false
set_option maxRecDepth 20000

theorem proof_built0 : Tryd.prog.built 66 [] = some (prc nilV qZ).toArray := by kernel_rfl
theorem chkZ (key : List Int) : chkV key emptyH qZ = .tuple #[.agg (kc zk), .bool false, .bool true] := by
  have h1 : chkB key emptyH qZ = true := by
    unfold chkB
    have h2 : leadB key qZ = true := by
      show endB key qZ (0, zk) = true
      unfold endB
      rw [if_pos (show qZ.e = 0 from rfl)]; rfl
    rw [h2, show sum (topQ key qZ) = emptyH from rfl, decide_eq_true rfl]
    rfl
  unfold chkV
  rw [if_pos h1]
  have h3 : shwO key qZ = none := if_neg (fun h => by have := h.1; exact absurd this (by decide))
  rw [h3]
  rfl
set_option maxHeartbeats 4000000 in
theorem qawake_any (w : World) (ht : Tab w) : Calls Tryd.prog 27 #[] w fun e w' => e = .returned (.bool true) ∧ Below w.heap.size w w' := by
  obtain ⟨Z, HZ, hZ0, hZs⟩ := zero_key
  have CE := hid (fun w => yEmpty_any w)
  have CC := hid (fun w1 (hb : Below w.heap.size w w1) => qCheck_any (A := none) (n := 0) (c := 0) (q := qZ) (key := k1 1) (root := emptyH) w1 (InS.nil _ _) qZ_ok (k1_ky 1 (by decide)) emptyH_ky (by decide) (ht.below hb))
  rw [chkZ] at CC
  have HPB := proof_built0
  have HK1 := built_k1 1
  have HZI := hid (kc_info zk_ky)
  have HZZ : Hid (Z.size = (kc zk).size) := by show _ = _; rw [HZ.out]
  change Hid (∀ w1, Below w.heap.size w w1 → Calls Tryd.prog 32 #[.agg (prc nilV qZ).toArray, .agg (kc (k1 1)), .agg (kc emptyH)] w1 _) at CC
  generalize (prc nilV qZ).toArray = PZ at CC HPB
  generalize kc (k1 1) = KZ at CC HK1
  clear ht
  go_enter Tryd.func27, Tryd.ntmps27
  go_wp2_with (first
    | (refine wpList_buildC rfl 66 _ rfl PZ ?hc ?_; case hc => (simp only [List.map_toArray, List.map_cons, List.map_nil, Act.eval]; exact HPB))
    | (refine wpList_buildC rfl 24 _ rfl KZ ?hc ?_; case hc => (simp only [List.map_toArray, List.map_cons, List.map_nil, Act.eval]; exact HK1))
    | (go_at_call 46; refine (CE.out _).mono ?_; rintro e w1 ⟨rfl, hb⟩; have B1 := hid hb; clear hb)
    | (go_at_call 32; refine (CC.out _ B1.out).mono ?_; rintro e w2 ⟨rfl, hb⟩; have B2 := hid (B1.out.trans (hb.mono B1.out.size)); clear hb)
    | (refine wpList_store_row rfl 24 (.tmp 1) (.tmp 9) rfl w2.heap.size (kc zk) rfl rfl 24 Z (Blk.new w2 24 Z) HZI.out HZZ.out (kc_one _) ?_))
  go_ret
  exact ⟨rfl, below_setRow (B2.out.alloc B2.out.size _) B2.out.size _⟩
theorem chk_as (key root : List Int) {q : QP} (hq : q.Ok) : ∃ a x, Ky a ∧ chkV key root q = .tuple #[.agg (kc a), .bool x, .bool (chkB key root q)] ∧ (chkB key root q = true → a = (shwO key q).getD zk ∧ x = (shwO key q).isSome) := by
  unfold chkV
  by_cases h : chkB key root q = true
  · rw [if_pos h]
    refine ⟨_, _, ?_, by rw [h], fun _ => ⟨rfl, rfl⟩⟩
    unfold shwO
    split
    · exact hq.v
    · exact zk_ky
  · rw [if_neg h]
    exact ⟨_, _, zk_ky, by rw [Bool.not_eq_true] at h; rw [h], fun h2 => absurd h2 h⟩
theorem shw_same {a b : Option (List Int)} (h : a.getD zk = b.getD zk) (h2 : a.isSome = b.isSome) : a = b := by
  cases a with
  | none => cases b with
    | none => rfl
    | some y => cases h2
  | some x => cases b with
    | none => cases h2
    | some y => exact congrArg some h
set_option maxHeartbeats 16000000 in
theorem turned_go {A B : Option Addr} {n m c d : Nat} {q1 q2 : QP} {key : List Int} {w : World} {Z : Array Value}
    (J1 : Hid (Blk (((w.alloc (.cells (prc (.slice A n c) q1).toArray 72)).alloc (.cells (prc (.slice B m d) q2).toArray 72)).alloc (.cells (kc key) 24)) w.heap.size 72 (prc (.slice A n c) q1).toArray)) (J2 : Hid (Blk (((w.alloc (.cells (prc (.slice A n c) q1).toArray 72)).alloc (.cells (prc (.slice B m d) q2).toArray 72)).alloc (.cells (kc key) 24)) (w.heap.size + 1) 72 (prc (.slice B m d) q2).toArray)) (J3 : Hid (Blk (((w.alloc (.cells (prc (.slice A n c) q1).toArray 72)).alloc (.cells (prc (.slice B m d) q2).toArray 72)).alloc (.cells (kc key) 24)) (w.heap.size + 1 + 1) 24 (kc key)))
    (B0 : Hid (Below w.heap.size w (((w.alloc (.cells (prc (.slice A n c) q1).toArray 72)).alloc (.cells (prc (.slice B m d) q2).toArray 72)).alloc (.cells (kc key) 24)))) (c7 : World.cell? (((w.alloc (.cells (prc (.slice A n c) q1).toArray 72)).alloc (.cells (prc (.slice B m d) q2).toArray 72)).alloc (.cells (kc key) 24)) ⟨w.heap.size, 0, none⟩ = some (.slice A n c)) (c8 : World.cell? (((w.alloc (.cells (prc (.slice A n c) q1).toArray 72)).alloc (.cells (prc (.slice B m d) q2).toArray 72)).alloc (.cells (kc key) 24)) ⟨w.heap.size + 1, 0, none⟩ = some (.slice B m d)) (SZ : Hid ((((w.alloc (.cells (prc (.slice A n c) q1).toArray 72)).alloc (.cells (prc (.slice B m d) q2).toArray 72)).alloc (.cells (kc key) 24)).heap.size = w.heap.size + 1 + 1 + 1))
    (HZ : Hid (Z = kc zk)) (hZ0 : ¬ Z = #[]) (hZs : ∀ w : World, Sem.run Tryd.prog (zeroValue 24) w = Result.ok (.agg Z) w)
    (CA : Hid (∀ w1, Below w.heap.size w w1 → Calls Tryd.prog 27 #[] w1 fun e w' => e = .returned (.bool true) ∧ Below w1.heap.size w1 w'))
    (HQ1 : Hid q1.Ok) (HQ2 : Hid q2.Ok) (HK : Hid (Ky key)) (HT : Hid (Tab w)) (HKI : Hid ((Tryd.prog.info? 24).map (·.size) = some (u8s key).length)) (HP1I : Hid ((Tryd.prog.info? 72).map (·.size) = some (prc (.slice A n c) q1).length)) (HP2I : Hid ((Tryd.prog.info? 72).map (·.size) = some (prc (.slice B m d) q2).length))
    (HIN1 : Hid (∀ x, Below w.heap.size w x → InS x A n q1.ss)) (HIN2 : Hid (∀ x, Below w.heap.size w x → InS x B m q2.ss)) (L1 : Hid (q1.ss.length = n)) (L2 : Hid (q2.ss.length = m)) (HN1 : Hid (n ≤ 500)) (HN2 : Hid (m ≤ 500)) (HL1 : Hid (q1.ss.length ≤ 100)) (HL2 : Hid (q2.ss.length ≤ 100)) (h1' : ¬ (50 : Int) < (n : Int)) (h2' : ¬ (50 : Int) < (m : Int)) :
    Calls Tryd.prog 9 #[.agg (prc (.slice A n c) q1).toArray, .agg (prc (.slice B m d) q2).toArray, .agg (kc key)] w fun e w' => e = .returned (.bool true) ∧ Below w.heap.size w w' := by
  go_enter Tryd.func9, Tryd.ntmps9
  go_upto_region 3 with (go_at_call 27; refine (CA.out _ B0.out).mono ?_; rintro e w1 ⟨rfl, hb⟩; have B1 := hid (B0.out.trans (hb.mono B0.out.size)); have BW1 := hid hb; have c70 : w1.cell? ⟨w.heap.size, 0, none⟩ = some (.slice A n c) := cell_bel hb c7; have c80 : w1.cell? ⟨w.heap.size + 1, 0, none⟩ = some (.slice B m d) := cell_bel hb c8; clear hb c7 c8)
  clear h1' h2' c70 c80
  have S1 : Hid (w.heap.size + 1 + 1 + 1 ≤ w1.heap.size) := by show _ ≤ _; rw [← SZ.out]; exact BW1.out.size
  have J1' := hid (J1.out.below BW1.out); have J2' := hid (J2.out.below BW1.out); have J3' := hid (J3.out.below BW1.out)
  clear J1 J2 J3 BW1 SZ B0 CA
  generalize w1 = w0 at J1' J2' J3' B1 S1 ⊢
  have PAw0q1 := hid (J1'.out.pr HQ1.out); have K5w0 := J3'
  have HINw0q1 := hid (fun x (hb : Below w0.heap.size w0 x) => HIN1.out x (B1.out.trans (hb.mono B1.out.size)))
  have HTw0 := hid (fun x (hb : Below w0.heap.size w0 x) => HT.out.below (B1.out.trans (hb.mono B1.out.size)))
  go_cut [7] (fun s7 wx => ∃ v, s7 = v ∧ Hid (Txs w0.heap.size wx (txsX key q1) v) ∧ Hid (Below w0.heap.size w0 wx))
  case first =>
    refine wp_region_held (S := fun w' => Hid (Below w0.heap.size w0 w')) (by kernel_rfl) ?_
    change wpAnyH _ _ _ _ _ _ _ _ w0.drew
    have Gx0 : Hid (Below w0.heap.size w0 w0.drew) := (Below.refl _ _).drew
    generalize w0.drew = x0 at Gx0  ⊢
    refine wpAnyH_take (i := 0) (oi := { dst := some 30, op := _, type := _, pos := _, after := _, guard := _ }) (v := .agg ((prc (.slice A n c) q1).toArray)) rfl (by kernel_rfl) (by kernel_rfl) (by kernel_rfl) (fun _ _ _ h => h) (yieldsIf_load_mid (cs := prc (.slice A n c) q1) (by rfl) _ _ rfl _ _ rfl _ (fun w' hSw => rng_bel hSw.out PAw0q1.out.all) Tryd.underlying72 rfl HP1I.out) Gx0 ?_
    try simp only [Act.put, List.setIfInBounds_toArray, List.set_cons_zero, List.set_cons_succ]
    refine wpAnyH_take (i := 2) (oi := { dst := some 32, op := _, type := _, pos := _, after := _, guard := _ }) (v := .agg (kc key)) rfl (by kernel_rfl) (by kernel_rfl) (by kernel_rfl) (fun _ _ _ h => h) (yieldsIf_load_mid (cs := u8s key) (by rfl) _ _ rfl _ _ rfl _ (fun w' hSw => rng_bel hSw.out (blk_key K5w0.out)) Tryd.underlying24 rfl HKI.out) Gx0 ?_
    try simp only [Act.put, List.setIfInBounds_toArray, List.set_cons_zero, List.set_cons_succ]
    refine wpAnyH_ready (rs := [1]) (by kernel_rfl) (by simp) ?_
    refine (AllReadyH.cons (o := { dst := some 31, op := _, type := _, pos := _, after := _, guard := _ }) rfl (fun Qc hQc => ?_) AllReadyH.nil)
    go_simp
    go_at_call 33
    refine (qFrom_any (c := c) x0 (HINw0q1.out x0 Gx0.out) HQ1.out HN1.out).mono ?_
    rintro e x1 ⟨A5, c5, rfl, hin5, hb⟩
    have Gx1 := hid (Gx0.out.trans (hb.mono Gx0.out.size))
    have INx1 := hid hin5
    clear hb hin5
    go_wp2_with fail
    refine hQc.out _ _ Gx1 (fun hHeld => ?_)
    clear hQc Qc hHeld
    try simp only [Act.put, List.setIfInBounds_toArray, List.set_cons_zero, List.set_cons_succ]
    refine wpAnyH_ready (rs := [3]) (by kernel_rfl) (by simp) ?_
    refine (AllReadyH.cons (o := { dst := some 33, op := _, type := _, pos := _, after := _, guard := _ }) rfl (fun Qc hQc => ?_) AllReadyH.nil)
    go_simp
    go_at_call 35
    refine (qtexts_any (c := c5) x1 INx1.out HQ1.out HK.out HL1.out (HTw0.out x1 Gx1.out)).mono ?_
    rintro e x2 ⟨v6, rfl, htx6, hb⟩
    have Gx2 := hid (Gx1.out.trans (hb.mono Gx1.out.size))
    have TX6 := hid (htx6.weak Gx1.out.size)
    obtain ⟨A6, c6, hv6⟩ := TX6.out.len
    subst hv6
    clear hb htx6
    go_wp2_with fail
    refine hQc.out _ _ Gx2 (fun hHeld => ?_)
    clear hQc Qc hHeld
    try simp only [Act.put, List.setIfInBounds_toArray, List.set_cons_zero, List.set_cons_succ]
    refine wpAnyH_take (i := 4) (oi := { dst := some 7, op := _, type := _, pos := _, after := _, guard := _ }) (v := ?_) rfl (by kernel_rfl) (by kernel_rfl) (by kernel_rfl) (fun _ _ _ h => h) (Or.inl ⟨by kernel_rfl, ?_⟩) Gx2 ?_
    rotate_left
    · (intro w hSw; go_simp; try with_reducible rfl)
    try simp only [Act.put, List.setIfInBounds_toArray, List.set_cons_zero, List.set_cons_succ]
    refine wpAnyH_done (by kernel_rfl) ?_ _
    try simp only [Act.put, List.setIfInBounds_toArray, List.set_cons_zero, List.set_cons_succ]
    go_wp2
    go_meet
    exact ⟨_, rfl, TX6, Gx2⟩
  case rest =>
  obtain ⟨v, rfl, TX1, G1⟩ := hcut
  have BB1 := hid (B1.out.trans (G1.out.mono B1.out.size))
  obtain ⟨A1, c1, hv⟩ := TX1.out.len
  subst hv
  clear PAw0q1 HINw0q1 HTw0
  cases he : isEnd q1.e with
  | false =>
    rw [txs_out he]
    go_wp2
    go_ret
    exact ⟨rfl, BB1.out⟩
  | true =>
    obtain ⟨tl1, tl2⟩ := txs_last (key := key) L1.out he
    have HT1L : Hid ((txsX key q1).length ≤ 1000) := by have := HL1.out; rw [L1.out] at this; show _ ≤ _; omega
    rw [tl1] at TX1 ⊢
    obtain ⟨hlm, g1, D1, d1, rfl, hg1, hc1, hd1, hB1⟩ := TX1.out.at (j := n) (by omega)
    rw [tl2] at hc1 hd1 hB1
    simp only [Option.getD_some] at hc1 hd1 hB1
    have hx1 := topQ_bs (key := key) HQ1.out
    have hx2 := topQ_len (key := key) HQ1.out
    obtain ⟨rt, hrt⟩ : ∃ rt, rt = sum (topQ key q1) := ⟨_, rfl⟩
    have HRT := hid hrt
    have CS : Hid (Calls Tryd.prog 25 #[.slice D1 (topQ key q1).length d1] wc (fun e w' => e = .returned (.agg (kc rt)) ∧ Below wc.heap.size wc w')) := by
      rw [hrt]
      exact RSum_any D1 d1 (topQ key q1) wc hB1.1 hx1 (by omega)
    have hrk : Ky rt := by rw [hrt]; exact sum_ky _
    have HRI := hid (u8s_info hrk); have HRK := hid (kc_info hrk)
    have HRZ : Hid (Z.size = (kc rt).size) := by show _ = _; rw [HZ.out, kc_size zk_ky, kc_size hrk]
    have HKR := hid hrk
    have hn2 : n < 1000 := by have := HN1.out; omega
    generalize topQ key q1 = X1 at CS hc1
    have HE := hid he
    clear he tl1 tl2 hlm hg1 hd1 hB1 hx1 hx2 hrt hrk
    go_upto_region 7 with (first
      | (go_at_call 25; refine CS.out.mono ?_; rintro e w2 ⟨rfl, hb⟩; have BW2 := hid hb; clear hb)
      | (refine wpList_store_row rfl 24 (.tmp 8) (.tmp 43) rfl w2.heap.size (kc rt) rfl rfl 24 Z (Blk.new w2 24 Z) HRK.out HRZ.out (kc_one _) ?_))
    have R8 : Hid (Blk ((w2.alloc (.cells Z 24)).setRow w2.heap.size (kc rt)) w2.heap.size 24 (kc rt)) := (Blk.new w2 24 Z).row _
    have BW3 : Hid (Below wc.heap.size wc ((w2.alloc (.cells Z 24)).setRow w2.heap.size (kc rt))) := below_setRow (BW2.out.alloc BW2.out.size _) BW2.out.size _
    clear CS hc1 BW2
    generalize (w2.alloc (.cells Z 24)).setRow w2.heap.size (kc rt) = w3a at R8 BW3 ⊢
    generalize w2.heap.size = g8 at R8 ⊢
    have BB2 := hid (BB1.out.trans (BW3.out.mono BB1.out.size))
    have GG2 := hid (G1.out.trans (BW3.out.mono G1.out.size))
    have TX2 := hid (TX1.out.below BW3.out)
    have PA1 := hid (fun x (hb : Below w0.heap.size w0 x) => (J1'.out.below hb).pr HQ1.out); have PA2 := hid (fun x (hb : Below w0.heap.size w0 x) => (J2'.out.below hb).pr HQ2.out)
    have K5 := hid (fun x (hb : Below w0.heap.size w0 x) => J3'.out.below hb)
    clear TX1 BW3 G1 BB1 J1' J2' J3'
    generalize w3a = wa at R8 BB2 GG2 TX2 ⊢
    have PAwaq1 := hid (PA1.out wa GG2.out); have K5wa := hid (K5.out wa GG2.out); have R8wa := R8
    have HINwaq1 := hid (fun x (hb : Below wa.heap.size wa x) => HIN1.out x (BB2.out.trans (hb.mono BB2.out.size)))
    obtain ⟨a1, x1, ha1, hch1, hsh1⟩ := chk_as key rt HQ1.out
    have CC1 := hid (fun x (hb : Below wa.heap.size wa x) A5 c5 (hin : InS x A5 q1.ss.length q1.ss) => qCheck_any (c := c5) x hin HQ1.out HK.out HKR.out HL1.out (HT.out.below (BB2.out.trans (hb.mono BB2.out.size))))
    rw [hch1] at CC1
    have HA1I := hid (kc_info ha1); have HA1L := hid (u8s_info ha1)
    have HA1Z : Hid (Z.size = (kc a1).size) := by show _ = _; rw [HZ.out, kc_size zk_ky, kc_size ha1]
    have HKA1 := hid ha1; have HSH1 := hid hsh1
    obtain ⟨ok1, hok1⟩ : ∃ ok1, ok1 = chkB key rt q1 := ⟨_, rfl⟩
    have HOK1 := hid hok1
    rw [← hok1] at CC1
    clear hch1 hsh1 ha1 hok1
    simp only [Act.put]
    go_cut [9, 10, 11] (fun s9 s10 s11 wx => ∃ g9, s9 = .pointer (some ⟨g9, 0, none⟩) ∧ s10 = .bool x1 ∧ s11 = .bool ok1 ∧ Hid (Blk wx g9 24 (kc a1)) ∧ Hid (Below wa.heap.size wa wx) ∧ Hid (wa.heap.size ≤ g9))
    case first =>
      refine wp_region_held (S := fun w' => Hid (Below wa.heap.size wa w')) (by kernel_rfl) ?_
      change wpAnyH _ _ _ _ _ _ _ _ wa.drew
      have Gx0 : Hid (Below wa.heap.size wa wa.drew) := (Below.refl _ _).drew
      generalize wa.drew = x0 at Gx0  ⊢
      refine wpAnyH_take (i := 0) (oi := { dst := some 45, op := _, type := _, pos := _, after := _, guard := _ }) (v := .agg ((prc (.slice A n c) q1).toArray)) rfl (by kernel_rfl) (by kernel_rfl) (by kernel_rfl) (fun _ _ _ h => h) (yieldsIf_load_mid (cs := prc (.slice A n c) q1) (by rfl) _ _ rfl _ _ rfl _ (fun w' hSw => rng_bel hSw.out PAwaq1.out.all) Tryd.underlying72 rfl HP1I.out) Gx0 ?_
      try simp only [Act.put, List.setIfInBounds_toArray, List.set_cons_zero, List.set_cons_succ]
      refine wpAnyH_take (i := 2) (oi := { dst := some 47, op := _, type := _, pos := _, after := _, guard := _ }) (v := .agg (kc key)) rfl (by kernel_rfl) (by kernel_rfl) (by kernel_rfl) (fun _ _ _ h => h) (yieldsIf_load_mid (cs := u8s key) (by rfl) _ _ rfl _ _ rfl _ (fun w' hSw => rng_bel hSw.out (blk_key K5wa.out)) Tryd.underlying24 rfl HKI.out) Gx0 ?_
      try simp only [Act.put, List.setIfInBounds_toArray, List.set_cons_zero, List.set_cons_succ]
      refine wpAnyH_take (i := 3) (oi := { dst := some 48, op := _, type := _, pos := _, after := _, guard := _ }) (v := .agg (kc rt)) rfl (by kernel_rfl) (by kernel_rfl) (by kernel_rfl) (fun _ _ _ h => h) (yieldsIf_load_mid (cs := u8s rt) (by rfl) _ _ rfl _ _ rfl _ (fun w' hSw => rng_bel hSw.out (blk_key R8wa.out)) Tryd.underlying24 rfl HRI.out) Gx0 ?_
      try simp only [Act.put, List.setIfInBounds_toArray, List.set_cons_zero, List.set_cons_succ]
      refine wpAnyH_ready (rs := [1, 9]) (by kernel_rfl) (by simp) ?_
      refine (AllReadyH.cons (o := { dst := some 46, op := _, type := _, pos := _, after := _, guard := _ }) rfl (fun Qc hQc => ?_) (AllReadyH.cons (o := { dst := some 9, op := _, type := _, pos := _, after := _, guard := _ }) rfl (fun Qc hQc => ?_) AllReadyH.nil))
      ·
        go_simp
        go_at_call 33
        refine (qFrom_any (c := c) x0 (HINwaq1.out x0 Gx0.out) HQ1.out HN1.out).mono ?_
        rintro e x1 ⟨A5, c5, rfl, hin5, hb⟩
        have Gx1 := hid (Gx0.out.trans (hb.mono Gx0.out.size))
        have INx1 := hid hin5
        clear hb hin5
        go_wp2_with fail
        refine hQc.out _ _ Gx1 (fun hHeld => ?_)
        clear hQc Qc hHeld
        try simp only [Act.put, List.setIfInBounds_toArray, List.set_cons_zero, List.set_cons_succ]
        refine wpAnyH_ready (rs := [4, 9]) (by kernel_rfl) (by simp) ?_
        refine (AllReadyH.cons (o := { dst := some 49, op := _, type := _, pos := _, after := _, guard := _ }) rfl (fun Qc hQc => ?_) (AllReadyH.cons (o := { dst := some 9, op := _, type := _, pos := _, after := _, guard := _ }) rfl (fun Qc hQc => ?_) AllReadyH.nil))
        ·
          go_simp
          go_at_call 32
          refine (CC1.out x1 Gx1.out _ c5 INx1.out).mono ?_
          rintro e x2 ⟨rfl, hb⟩
          have Gx2 := hid (Gx1.out.trans (hb.mono Gx1.out.size))
          have INx2 := hid (INx1.out.below hb)
          clear hb
          go_wp2_with fail
          refine hQc.out _ _ Gx2 (fun hHeld => ?_)
          clear hQc Qc hHeld
          try simp only [Act.put, List.setIfInBounds_toArray, List.set_cons_zero, List.set_cons_succ]
          refine wpAnyH_take (i := 5) (oi := { dst := some 44, op := _, type := _, pos := _, after := _, guard := _ }) (v := ?_) rfl (by kernel_rfl) (by kernel_rfl) (by kernel_rfl) (fun _ _ _ h => h) (Or.inl ⟨by kernel_rfl, ?_⟩) Gx2 ?_
          rotate_left
          · (intro w hSw; go_simp; try with_reducible rfl)
          try simp only [Act.put, List.setIfInBounds_toArray, List.set_cons_zero, List.set_cons_succ]
          refine wpAnyH_take (i := 6) (oi := { dst := some 50, op := _, type := _, pos := _, after := _, guard := _ }) (v := ?_) rfl (by kernel_rfl) (by kernel_rfl) (by kernel_rfl) (fun _ _ _ h => h) (Or.inl ⟨by kernel_rfl, ?_⟩) Gx2 ?_
          rotate_left
          · (intro w hSw; go_simp; try with_reducible rfl)
          try simp only [Act.put, List.setIfInBounds_toArray, List.set_cons_zero, List.set_cons_succ]
          refine wpAnyH_take (i := 7) (oi := { dst := some 51, op := _, type := _, pos := _, after := _, guard := _ }) (v := ?_) rfl (by kernel_rfl) (by kernel_rfl) (by kernel_rfl) (fun _ _ _ h => h) (Or.inl ⟨by kernel_rfl, ?_⟩) Gx2 ?_
          rotate_left
          · (intro w hSw; go_simp; try with_reducible rfl)
          try simp only [Act.put, List.setIfInBounds_toArray, List.set_cons_zero, List.set_cons_succ]
          refine wpAnyH_take (i := 8) (oi := { dst := some 52, op := _, type := _, pos := _, after := _, guard := _ }) (v := ?_) rfl (by kernel_rfl) (by kernel_rfl) (by kernel_rfl) (fun _ _ _ h => h) (Or.inl ⟨by kernel_rfl, ?_⟩) Gx2 ?_
          rotate_left
          · (intro w hSw; go_simp; try with_reducible rfl)
          try simp only [Act.put, List.setIfInBounds_toArray, List.set_cons_zero, List.set_cons_succ]
          refine wpAnyH_ready (rs := [9]) (by kernel_rfl) (by simp) ?_
          refine (AllReadyH.cons (o := { dst := some 9, op := _, type := _, pos := _, after := _, guard := _ }) rfl (fun Qc hQc => ?_) AllReadyH.nil)
          go_simp
          have NBx3 : Hid (Blk (x2.alloc (.cells Z 24)) x2.heap.size 24 Z) := Blk.new x2 24 Z
          have hb : Below x2.heap.size x2 (x2.alloc (.cells Z 24)) := (Below.refl _ _).alloc (Nat.le_refl _) _
          have INx3 := hid (INx2.out.below hb)
          clear hb
          have Gx3 := hid (Gx2.out.alloc Gx2.out.size (.cells Z 24))
          have GE : Hid (wa.heap.size ≤ x2.heap.size) := Gx2.out.size
          refine hQc.out _ _ Gx3 (fun hHeld => ?_)
          clear hQc Qc hHeld
          generalize x2.heap.size = g9 at NBx3 GE ⊢
          generalize x2.alloc (.cells Z 24) = x3 at NBx3 Gx3 INx3 ⊢
          try simp only [Act.put, List.setIfInBounds_toArray, List.set_cons_zero, List.set_cons_succ]
          refine wpAnyH_ready (rs := [10]) (by kernel_rfl) (by simp) ?_
          refine (AllReadyH.cons (o := { dst := none, op := _, type := _, pos := _, after := _, guard := _ }) rfl (fun Qc hQc => ?_) AllReadyH.nil)
          rw [if_pos (by rfl)]
          refine wp_store_row 24 (.tmp 9) (.tmp 50) rfl g9 (kc a1) rfl rfl 24 Z NBx3.out HA1I.out HA1Z.out (kc_one _) ?_
          have Gx4 : Hid (Below wa.heap.size wa (x3.setRow g9 (kc a1))) := below_setRow Gx3.out GE.out _
          have KP := hid (NBx3.out.row (kc a1))
          refine hQc.out _ _ Gx4 (fun hHeld => ?_)
          clear hQc Qc hHeld
          generalize x3.setRow g9 (kc a1) = x4 at Gx4 KP ⊢
          try simp only [Act.put, List.setIfInBounds_toArray, List.set_cons_zero, List.set_cons_succ]
          refine wpAnyH_take (i := 11) (oi := { dst := some 10, op := _, type := _, pos := _, after := _, guard := _ }) (v := ?_) rfl (by kernel_rfl) (by kernel_rfl) (by kernel_rfl) (fun _ _ _ h => h) (Or.inl ⟨by kernel_rfl, ?_⟩) Gx4 ?_
          rotate_left
          · (intro w hSw; go_simp; try with_reducible rfl)
          try simp only [Act.put, List.setIfInBounds_toArray, List.set_cons_zero, List.set_cons_succ]
          refine wpAnyH_take (i := 12) (oi := { dst := some 11, op := _, type := _, pos := _, after := _, guard := _ }) (v := ?_) rfl (by kernel_rfl) (by kernel_rfl) (by kernel_rfl) (fun _ _ _ h => h) (Or.inl ⟨by kernel_rfl, ?_⟩) Gx4 ?_
          rotate_left
          · (intro w hSw; go_simp; try with_reducible rfl)
          try simp only [Act.put, List.setIfInBounds_toArray, List.set_cons_zero, List.set_cons_succ]
          refine wpAnyH_done (by kernel_rfl) ?_ _
          try simp only [Act.put, List.setIfInBounds_toArray, List.set_cons_zero, List.set_cons_succ]
          go_wp2
          go_meet
          exact ⟨g9, rfl, rfl, rfl, KP, Gx4, GE⟩
        ·
          go_simp
          have NBx5 : Hid (Blk (x1.alloc (.cells Z 24)) x1.heap.size 24 Z) := Blk.new x1 24 Z
          have hb : Below x1.heap.size x1 (x1.alloc (.cells Z 24)) := (Below.refl _ _).alloc (Nat.le_refl _) _
          have INx5 := hid (INx1.out.below hb)
          clear hb
          have Gx5 := hid (Gx1.out.alloc Gx1.out.size (.cells Z 24))
          have GE : Hid (wa.heap.size ≤ x1.heap.size) := Gx1.out.size
          refine hQc.out _ _ Gx5 (fun hHeld => ?_)
          clear hQc Qc hHeld
          generalize x1.heap.size = g9 at NBx5 GE ⊢
          generalize x1.alloc (.cells Z 24) = x5 at NBx5 Gx5 INx5 ⊢
          try simp only [Act.put, List.setIfInBounds_toArray, List.set_cons_zero, List.set_cons_succ]
          refine wpAnyH_ready (rs := [4]) (by kernel_rfl) (by simp) ?_
          refine (AllReadyH.cons (o := { dst := some 49, op := _, type := _, pos := _, after := _, guard := _ }) rfl (fun Qc hQc => ?_) AllReadyH.nil)
          go_simp
          go_at_call 32
          refine (CC1.out x5 Gx5.out _ c5 INx5.out).mono ?_
          rintro e x6 ⟨rfl, hb⟩
          have Gx6 := hid (Gx5.out.trans (hb.mono Gx5.out.size))
          have INx6 := hid (INx5.out.below hb)
          have NBx6 := hid (NBx5.out.below hb)
          clear hb
          go_wp2_with fail
          refine hQc.out _ _ Gx6 (fun hHeld => ?_)
          clear hQc Qc hHeld
          try simp only [Act.put, List.setIfInBounds_toArray, List.set_cons_zero, List.set_cons_succ]
          refine wpAnyH_take (i := 5) (oi := { dst := some 44, op := _, type := _, pos := _, after := _, guard := _ }) (v := ?_) rfl (by kernel_rfl) (by kernel_rfl) (by kernel_rfl) (fun _ _ _ h => h) (Or.inl ⟨by kernel_rfl, ?_⟩) Gx6 ?_
          rotate_left
          · (intro w hSw; go_simp; try with_reducible rfl)
          try simp only [Act.put, List.setIfInBounds_toArray, List.set_cons_zero, List.set_cons_succ]
          refine wpAnyH_take (i := 6) (oi := { dst := some 50, op := _, type := _, pos := _, after := _, guard := _ }) (v := ?_) rfl (by kernel_rfl) (by kernel_rfl) (by kernel_rfl) (fun _ _ _ h => h) (Or.inl ⟨by kernel_rfl, ?_⟩) Gx6 ?_
          rotate_left
          · (intro w hSw; go_simp; try with_reducible rfl)
          try simp only [Act.put, List.setIfInBounds_toArray, List.set_cons_zero, List.set_cons_succ]
          refine wpAnyH_take (i := 7) (oi := { dst := some 51, op := _, type := _, pos := _, after := _, guard := _ }) (v := ?_) rfl (by kernel_rfl) (by kernel_rfl) (by kernel_rfl) (fun _ _ _ h => h) (Or.inl ⟨by kernel_rfl, ?_⟩) Gx6 ?_
          rotate_left
          · (intro w hSw; go_simp; try with_reducible rfl)
          try simp only [Act.put, List.setIfInBounds_toArray, List.set_cons_zero, List.set_cons_succ]
          refine wpAnyH_take (i := 8) (oi := { dst := some 52, op := _, type := _, pos := _, after := _, guard := _ }) (v := ?_) rfl (by kernel_rfl) (by kernel_rfl) (by kernel_rfl) (fun _ _ _ h => h) (Or.inl ⟨by kernel_rfl, ?_⟩) Gx6 ?_
          rotate_left
          · (intro w hSw; go_simp; try with_reducible rfl)
          try simp only [Act.put, List.setIfInBounds_toArray, List.set_cons_zero, List.set_cons_succ]
          refine wpAnyH_ready (rs := [10]) (by kernel_rfl) (by simp) ?_
          refine (AllReadyH.cons (o := { dst := none, op := _, type := _, pos := _, after := _, guard := _ }) rfl (fun Qc hQc => ?_) AllReadyH.nil)
          rw [if_pos (by rfl)]
          refine wp_store_row 24 (.tmp 9) (.tmp 50) rfl g9 (kc a1) rfl rfl 24 Z NBx6.out HA1I.out HA1Z.out (kc_one _) ?_
          have Gx7 : Hid (Below wa.heap.size wa (x6.setRow g9 (kc a1))) := below_setRow Gx6.out GE.out _
          have KP := hid (NBx6.out.row (kc a1))
          refine hQc.out _ _ Gx7 (fun hHeld => ?_)
          clear hQc Qc hHeld
          generalize x6.setRow g9 (kc a1) = x7 at Gx7 KP ⊢
          try simp only [Act.put, List.setIfInBounds_toArray, List.set_cons_zero, List.set_cons_succ]
          refine wpAnyH_take (i := 11) (oi := { dst := some 10, op := _, type := _, pos := _, after := _, guard := _ }) (v := ?_) rfl (by kernel_rfl) (by kernel_rfl) (by kernel_rfl) (fun _ _ _ h => h) (Or.inl ⟨by kernel_rfl, ?_⟩) Gx7 ?_
          rotate_left
          · (intro w hSw; go_simp; try with_reducible rfl)
          try simp only [Act.put, List.setIfInBounds_toArray, List.set_cons_zero, List.set_cons_succ]
          refine wpAnyH_take (i := 12) (oi := { dst := some 11, op := _, type := _, pos := _, after := _, guard := _ }) (v := ?_) rfl (by kernel_rfl) (by kernel_rfl) (by kernel_rfl) (fun _ _ _ h => h) (Or.inl ⟨by kernel_rfl, ?_⟩) Gx7 ?_
          rotate_left
          · (intro w hSw; go_simp; try with_reducible rfl)
          try simp only [Act.put, List.setIfInBounds_toArray, List.set_cons_zero, List.set_cons_succ]
          refine wpAnyH_done (by kernel_rfl) ?_ _
          try simp only [Act.put, List.setIfInBounds_toArray, List.set_cons_zero, List.set_cons_succ]
          go_wp2
          go_meet
          exact ⟨g9, rfl, rfl, rfl, KP, Gx7, GE⟩
      ·
        go_simp
        have NBx8 : Hid (Blk (x0.alloc (.cells Z 24)) x0.heap.size 24 Z) := Blk.new x0 24 Z
        have hb : Below x0.heap.size x0 (x0.alloc (.cells Z 24)) := (Below.refl _ _).alloc (Nat.le_refl _) _
        clear hb
        have Gx8 := hid (Gx0.out.alloc Gx0.out.size (.cells Z 24))
        have GE : Hid (wa.heap.size ≤ x0.heap.size) := Gx0.out.size
        refine hQc.out _ _ Gx8 (fun hHeld => ?_)
        clear hQc Qc hHeld
        generalize x0.heap.size = g9 at NBx8 GE ⊢
        generalize x0.alloc (.cells Z 24) = x8 at NBx8 Gx8  ⊢
        try simp only [Act.put, List.setIfInBounds_toArray, List.set_cons_zero, List.set_cons_succ]
        refine wpAnyH_ready (rs := [1]) (by kernel_rfl) (by simp) ?_
        refine (AllReadyH.cons (o := { dst := some 46, op := _, type := _, pos := _, after := _, guard := _ }) rfl (fun Qc hQc => ?_) AllReadyH.nil)
        go_simp
        go_at_call 33
        refine (qFrom_any (c := c) x8 (HINwaq1.out x8 Gx8.out) HQ1.out HN1.out).mono ?_
        rintro e x9 ⟨A5, c5, rfl, hin5, hb⟩
        have Gx9 := hid (Gx8.out.trans (hb.mono Gx8.out.size))
        have INx9 := hid hin5
        have NBx9 := hid (NBx8.out.below hb)
        clear hb hin5
        go_wp2_with fail
        refine hQc.out _ _ Gx9 (fun hHeld => ?_)
        clear hQc Qc hHeld
        try simp only [Act.put, List.setIfInBounds_toArray, List.set_cons_zero, List.set_cons_succ]
        refine wpAnyH_ready (rs := [4]) (by kernel_rfl) (by simp) ?_
        refine (AllReadyH.cons (o := { dst := some 49, op := _, type := _, pos := _, after := _, guard := _ }) rfl (fun Qc hQc => ?_) AllReadyH.nil)
        go_simp
        go_at_call 32
        refine (CC1.out x9 Gx9.out _ c5 INx9.out).mono ?_
        rintro e x10 ⟨rfl, hb⟩
        have Gx10 := hid (Gx9.out.trans (hb.mono Gx9.out.size))
        have INx10 := hid (INx9.out.below hb)
        have NBx10 := hid (NBx9.out.below hb)
        clear hb
        go_wp2_with fail
        refine hQc.out _ _ Gx10 (fun hHeld => ?_)
        clear hQc Qc hHeld
        try simp only [Act.put, List.setIfInBounds_toArray, List.set_cons_zero, List.set_cons_succ]
        refine wpAnyH_take (i := 5) (oi := { dst := some 44, op := _, type := _, pos := _, after := _, guard := _ }) (v := ?_) rfl (by kernel_rfl) (by kernel_rfl) (by kernel_rfl) (fun _ _ _ h => h) (Or.inl ⟨by kernel_rfl, ?_⟩) Gx10 ?_
        rotate_left
        · (intro w hSw; go_simp; try with_reducible rfl)
        try simp only [Act.put, List.setIfInBounds_toArray, List.set_cons_zero, List.set_cons_succ]
        refine wpAnyH_take (i := 6) (oi := { dst := some 50, op := _, type := _, pos := _, after := _, guard := _ }) (v := ?_) rfl (by kernel_rfl) (by kernel_rfl) (by kernel_rfl) (fun _ _ _ h => h) (Or.inl ⟨by kernel_rfl, ?_⟩) Gx10 ?_
        rotate_left
        · (intro w hSw; go_simp; try with_reducible rfl)
        try simp only [Act.put, List.setIfInBounds_toArray, List.set_cons_zero, List.set_cons_succ]
        refine wpAnyH_take (i := 7) (oi := { dst := some 51, op := _, type := _, pos := _, after := _, guard := _ }) (v := ?_) rfl (by kernel_rfl) (by kernel_rfl) (by kernel_rfl) (fun _ _ _ h => h) (Or.inl ⟨by kernel_rfl, ?_⟩) Gx10 ?_
        rotate_left
        · (intro w hSw; go_simp; try with_reducible rfl)
        try simp only [Act.put, List.setIfInBounds_toArray, List.set_cons_zero, List.set_cons_succ]
        refine wpAnyH_take (i := 8) (oi := { dst := some 52, op := _, type := _, pos := _, after := _, guard := _ }) (v := ?_) rfl (by kernel_rfl) (by kernel_rfl) (by kernel_rfl) (fun _ _ _ h => h) (Or.inl ⟨by kernel_rfl, ?_⟩) Gx10 ?_
        rotate_left
        · (intro w hSw; go_simp; try with_reducible rfl)
        try simp only [Act.put, List.setIfInBounds_toArray, List.set_cons_zero, List.set_cons_succ]
        refine wpAnyH_ready (rs := [10]) (by kernel_rfl) (by simp) ?_
        refine (AllReadyH.cons (o := { dst := none, op := _, type := _, pos := _, after := _, guard := _ }) rfl (fun Qc hQc => ?_) AllReadyH.nil)
        rw [if_pos (by rfl)]
        refine wp_store_row 24 (.tmp 9) (.tmp 50) rfl g9 (kc a1) rfl rfl 24 Z NBx10.out HA1I.out HA1Z.out (kc_one _) ?_
        have Gx11 : Hid (Below wa.heap.size wa (x10.setRow g9 (kc a1))) := below_setRow Gx10.out GE.out _
        have KP := hid (NBx10.out.row (kc a1))
        refine hQc.out _ _ Gx11 (fun hHeld => ?_)
        clear hQc Qc hHeld
        generalize x10.setRow g9 (kc a1) = x11 at Gx11 KP ⊢
        try simp only [Act.put, List.setIfInBounds_toArray, List.set_cons_zero, List.set_cons_succ]
        refine wpAnyH_take (i := 11) (oi := { dst := some 10, op := _, type := _, pos := _, after := _, guard := _ }) (v := ?_) rfl (by kernel_rfl) (by kernel_rfl) (by kernel_rfl) (fun _ _ _ h => h) (Or.inl ⟨by kernel_rfl, ?_⟩) Gx11 ?_
        rotate_left
        · (intro w hSw; go_simp; try with_reducible rfl)
        try simp only [Act.put, List.setIfInBounds_toArray, List.set_cons_zero, List.set_cons_succ]
        refine wpAnyH_take (i := 12) (oi := { dst := some 11, op := _, type := _, pos := _, after := _, guard := _ }) (v := ?_) rfl (by kernel_rfl) (by kernel_rfl) (by kernel_rfl) (fun _ _ _ h => h) (Or.inl ⟨by kernel_rfl, ?_⟩) Gx11 ?_
        rotate_left
        · (intro w hSw; go_simp; try with_reducible rfl)
        try simp only [Act.put, List.setIfInBounds_toArray, List.set_cons_zero, List.set_cons_succ]
        refine wpAnyH_done (by kernel_rfl) ?_ _
        try simp only [Act.put, List.setIfInBounds_toArray, List.set_cons_zero, List.set_cons_succ]
        go_wp2
        go_meet
        exact ⟨g9, rfl, rfl, rfl, KP, Gx11, GE⟩
    case rest =>
    obtain ⟨g9, rfl, rfl, rfl, N9, G3, GE9⟩ := hcut
    generalize wc = wb at N9 G3 ⊢
    have BB3 := hid (BB2.out.trans (G3.out.mono BB2.out.size)); have GG3 := hid (GG2.out.trans (G3.out.mono GG2.out.size))
    have TX3 := hid (TX2.out.below G3.out)
    have R83 := hid (R8.out.below G3.out)
    clear TX2 R8 R8wa PAwaq1 K5wa HINwaq1 CC1 G3 GE9 BB2
    have PAwbq2 := hid (PA2.out wb GG3.out); have K5wb := hid (K5.out wb GG3.out); have R8wb := R83
    have HINwbq2 := hid (fun x (hb : Below wb.heap.size wb x) => HIN2.out x (BB3.out.trans (hb.mono BB3.out.size)))
    obtain ⟨a2, x2, ha2, hch2, hsh2⟩ := chk_as key rt HQ2.out
    have CC2 := hid (fun x (hb : Below wb.heap.size wb x) A5 c5 (hin : InS x A5 q2.ss.length q2.ss) => qCheck_any (c := c5) x hin HQ2.out HK.out HKR.out HL2.out (HT.out.below (BB3.out.trans (hb.mono BB3.out.size))))
    rw [hch2] at CC2
    have HA2I := hid (kc_info ha2); have HA2L := hid (u8s_info ha2)
    have HA2Z : Hid (Z.size = (kc a2).size) := by show _ = _; rw [HZ.out, kc_size zk_ky, kc_size ha2]
    have HKA2 := hid ha2; have HSH2 := hid hsh2
    obtain ⟨ok2, hok2⟩ : ∃ ok2, ok2 = chkB key rt q2 := ⟨_, rfl⟩
    have HOK2 := hid hok2
    rw [← hok2] at CC2
    clear hch2 hsh2 ha2 hok2
    go_upto_region 8 with (fail)
    go_cut [12, 13, 14] (fun s9 s10 s11 wx => ∃ g12, s9 = .pointer (some ⟨g12, 0, none⟩) ∧ s10 = .bool x2 ∧ s11 = .bool ok2 ∧ Hid (Blk wx g12 24 (kc a2)) ∧ Hid (Below wb.heap.size wb wx) ∧ Hid (wb.heap.size ≤ g12))
    case first =>
      refine wp_region_held (S := fun w' => Hid (Below wb.heap.size wb w')) (by kernel_rfl) ?_
      change wpAnyH _ _ _ _ _ _ _ _ wb.drew
      have Gx0 : Hid (Below wb.heap.size wb wb.drew) := (Below.refl _ _).drew
      generalize wb.drew = x0 at Gx0  ⊢
      refine wpAnyH_take (i := 0) (oi := { dst := some 54, op := _, type := _, pos := _, after := _, guard := _ }) (v := .agg ((prc (.slice B m d) q2).toArray)) rfl (by kernel_rfl) (by kernel_rfl) (by kernel_rfl) (fun _ _ _ h => h) (yieldsIf_load_mid (cs := prc (.slice B m d) q2) (by rfl) _ _ rfl _ _ rfl _ (fun w' hSw => rng_bel hSw.out PAwbq2.out.all) Tryd.underlying72 rfl HP2I.out) Gx0 ?_
      try simp only [Act.put, List.setIfInBounds_toArray, List.set_cons_zero, List.set_cons_succ]
      refine wpAnyH_take (i := 2) (oi := { dst := some 56, op := _, type := _, pos := _, after := _, guard := _ }) (v := .agg (kc key)) rfl (by kernel_rfl) (by kernel_rfl) (by kernel_rfl) (fun _ _ _ h => h) (yieldsIf_load_mid (cs := u8s key) (by rfl) _ _ rfl _ _ rfl _ (fun w' hSw => rng_bel hSw.out (blk_key K5wb.out)) Tryd.underlying24 rfl HKI.out) Gx0 ?_
      try simp only [Act.put, List.setIfInBounds_toArray, List.set_cons_zero, List.set_cons_succ]
      refine wpAnyH_take (i := 3) (oi := { dst := some 57, op := _, type := _, pos := _, after := _, guard := _ }) (v := .agg (kc rt)) rfl (by kernel_rfl) (by kernel_rfl) (by kernel_rfl) (fun _ _ _ h => h) (yieldsIf_load_mid (cs := u8s rt) (by rfl) _ _ rfl _ _ rfl _ (fun w' hSw => rng_bel hSw.out (blk_key R8wb.out)) Tryd.underlying24 rfl HRI.out) Gx0 ?_
      try simp only [Act.put, List.setIfInBounds_toArray, List.set_cons_zero, List.set_cons_succ]
      refine wpAnyH_ready (rs := [1, 9]) (by kernel_rfl) (by simp) ?_
      refine (AllReadyH.cons (o := { dst := some 55, op := _, type := _, pos := _, after := _, guard := _ }) rfl (fun Qc hQc => ?_) (AllReadyH.cons (o := { dst := some 12, op := _, type := _, pos := _, after := _, guard := _ }) rfl (fun Qc hQc => ?_) AllReadyH.nil))
      ·
        go_simp
        go_at_call 33
        refine (qFrom_any (c := d) x0 (HINwbq2.out x0 Gx0.out) HQ2.out HN2.out).mono ?_
        rintro e x1 ⟨A5, c5, rfl, hin5, hb⟩
        have Gx1 := hid (Gx0.out.trans (hb.mono Gx0.out.size))
        have INx1 := hid hin5
        clear hb hin5
        go_wp2_with fail
        refine hQc.out _ _ Gx1 (fun hHeld => ?_)
        clear hQc Qc hHeld
        try simp only [Act.put, List.setIfInBounds_toArray, List.set_cons_zero, List.set_cons_succ]
        refine wpAnyH_ready (rs := [4, 9]) (by kernel_rfl) (by simp) ?_
        refine (AllReadyH.cons (o := { dst := some 58, op := _, type := _, pos := _, after := _, guard := _ }) rfl (fun Qc hQc => ?_) (AllReadyH.cons (o := { dst := some 12, op := _, type := _, pos := _, after := _, guard := _ }) rfl (fun Qc hQc => ?_) AllReadyH.nil))
        ·
          go_simp
          go_at_call 32
          refine (CC2.out x1 Gx1.out _ c5 INx1.out).mono ?_
          rintro e x2 ⟨rfl, hb⟩
          have Gx2 := hid (Gx1.out.trans (hb.mono Gx1.out.size))
          have INx2 := hid (INx1.out.below hb)
          clear hb
          go_wp2_with fail
          refine hQc.out _ _ Gx2 (fun hHeld => ?_)
          clear hQc Qc hHeld
          try simp only [Act.put, List.setIfInBounds_toArray, List.set_cons_zero, List.set_cons_succ]
          refine wpAnyH_take (i := 5) (oi := { dst := some 53, op := _, type := _, pos := _, after := _, guard := _ }) (v := ?_) rfl (by kernel_rfl) (by kernel_rfl) (by kernel_rfl) (fun _ _ _ h => h) (Or.inl ⟨by kernel_rfl, ?_⟩) Gx2 ?_
          rotate_left
          · (intro w hSw; go_simp; try with_reducible rfl)
          try simp only [Act.put, List.setIfInBounds_toArray, List.set_cons_zero, List.set_cons_succ]
          refine wpAnyH_take (i := 6) (oi := { dst := some 59, op := _, type := _, pos := _, after := _, guard := _ }) (v := ?_) rfl (by kernel_rfl) (by kernel_rfl) (by kernel_rfl) (fun _ _ _ h => h) (Or.inl ⟨by kernel_rfl, ?_⟩) Gx2 ?_
          rotate_left
          · (intro w hSw; go_simp; try with_reducible rfl)
          try simp only [Act.put, List.setIfInBounds_toArray, List.set_cons_zero, List.set_cons_succ]
          refine wpAnyH_take (i := 7) (oi := { dst := some 60, op := _, type := _, pos := _, after := _, guard := _ }) (v := ?_) rfl (by kernel_rfl) (by kernel_rfl) (by kernel_rfl) (fun _ _ _ h => h) (Or.inl ⟨by kernel_rfl, ?_⟩) Gx2 ?_
          rotate_left
          · (intro w hSw; go_simp; try with_reducible rfl)
          try simp only [Act.put, List.setIfInBounds_toArray, List.set_cons_zero, List.set_cons_succ]
          refine wpAnyH_take (i := 8) (oi := { dst := some 61, op := _, type := _, pos := _, after := _, guard := _ }) (v := ?_) rfl (by kernel_rfl) (by kernel_rfl) (by kernel_rfl) (fun _ _ _ h => h) (Or.inl ⟨by kernel_rfl, ?_⟩) Gx2 ?_
          rotate_left
          · (intro w hSw; go_simp; try with_reducible rfl)
          try simp only [Act.put, List.setIfInBounds_toArray, List.set_cons_zero, List.set_cons_succ]
          refine wpAnyH_ready (rs := [9]) (by kernel_rfl) (by simp) ?_
          refine (AllReadyH.cons (o := { dst := some 12, op := _, type := _, pos := _, after := _, guard := _ }) rfl (fun Qc hQc => ?_) AllReadyH.nil)
          go_simp
          have NBx3 : Hid (Blk (x2.alloc (.cells Z 24)) x2.heap.size 24 Z) := Blk.new x2 24 Z
          have hb : Below x2.heap.size x2 (x2.alloc (.cells Z 24)) := (Below.refl _ _).alloc (Nat.le_refl _) _
          have INx3 := hid (INx2.out.below hb)
          clear hb
          have Gx3 := hid (Gx2.out.alloc Gx2.out.size (.cells Z 24))
          have GE : Hid (wb.heap.size ≤ x2.heap.size) := Gx2.out.size
          refine hQc.out _ _ Gx3 (fun hHeld => ?_)
          clear hQc Qc hHeld
          generalize x2.heap.size = g12 at NBx3 GE ⊢
          generalize x2.alloc (.cells Z 24) = x3 at NBx3 Gx3 INx3 ⊢
          try simp only [Act.put, List.setIfInBounds_toArray, List.set_cons_zero, List.set_cons_succ]
          refine wpAnyH_ready (rs := [10]) (by kernel_rfl) (by simp) ?_
          refine (AllReadyH.cons (o := { dst := none, op := _, type := _, pos := _, after := _, guard := _ }) rfl (fun Qc hQc => ?_) AllReadyH.nil)
          rw [if_pos (by rfl)]
          refine wp_store_row 24 (.tmp 12) (.tmp 59) rfl g12 (kc a2) rfl rfl 24 Z NBx3.out HA2I.out HA2Z.out (kc_one _) ?_
          have Gx4 : Hid (Below wb.heap.size wb (x3.setRow g12 (kc a2))) := below_setRow Gx3.out GE.out _
          have KP := hid (NBx3.out.row (kc a2))
          refine hQc.out _ _ Gx4 (fun hHeld => ?_)
          clear hQc Qc hHeld
          generalize x3.setRow g12 (kc a2) = x4 at Gx4 KP ⊢
          try simp only [Act.put, List.setIfInBounds_toArray, List.set_cons_zero, List.set_cons_succ]
          refine wpAnyH_take (i := 11) (oi := { dst := some 13, op := _, type := _, pos := _, after := _, guard := _ }) (v := ?_) rfl (by kernel_rfl) (by kernel_rfl) (by kernel_rfl) (fun _ _ _ h => h) (Or.inl ⟨by kernel_rfl, ?_⟩) Gx4 ?_
          rotate_left
          · (intro w hSw; go_simp; try with_reducible rfl)
          try simp only [Act.put, List.setIfInBounds_toArray, List.set_cons_zero, List.set_cons_succ]
          refine wpAnyH_take (i := 12) (oi := { dst := some 14, op := _, type := _, pos := _, after := _, guard := _ }) (v := ?_) rfl (by kernel_rfl) (by kernel_rfl) (by kernel_rfl) (fun _ _ _ h => h) (Or.inl ⟨by kernel_rfl, ?_⟩) Gx4 ?_
          rotate_left
          · (intro w hSw; go_simp; try with_reducible rfl)
          try simp only [Act.put, List.setIfInBounds_toArray, List.set_cons_zero, List.set_cons_succ]
          refine wpAnyH_done (by kernel_rfl) ?_ _
          try simp only [Act.put, List.setIfInBounds_toArray, List.set_cons_zero, List.set_cons_succ]
          go_wp2
          go_meet
          exact ⟨g12, rfl, rfl, rfl, KP, Gx4, GE⟩
        ·
          go_simp
          have NBx5 : Hid (Blk (x1.alloc (.cells Z 24)) x1.heap.size 24 Z) := Blk.new x1 24 Z
          have hb : Below x1.heap.size x1 (x1.alloc (.cells Z 24)) := (Below.refl _ _).alloc (Nat.le_refl _) _
          have INx5 := hid (INx1.out.below hb)
          clear hb
          have Gx5 := hid (Gx1.out.alloc Gx1.out.size (.cells Z 24))
          have GE : Hid (wb.heap.size ≤ x1.heap.size) := Gx1.out.size
          refine hQc.out _ _ Gx5 (fun hHeld => ?_)
          clear hQc Qc hHeld
          generalize x1.heap.size = g12 at NBx5 GE ⊢
          generalize x1.alloc (.cells Z 24) = x5 at NBx5 Gx5 INx5 ⊢
          try simp only [Act.put, List.setIfInBounds_toArray, List.set_cons_zero, List.set_cons_succ]
          refine wpAnyH_ready (rs := [4]) (by kernel_rfl) (by simp) ?_
          refine (AllReadyH.cons (o := { dst := some 58, op := _, type := _, pos := _, after := _, guard := _ }) rfl (fun Qc hQc => ?_) AllReadyH.nil)
          go_simp
          go_at_call 32
          refine (CC2.out x5 Gx5.out _ c5 INx5.out).mono ?_
          rintro e x6 ⟨rfl, hb⟩
          have Gx6 := hid (Gx5.out.trans (hb.mono Gx5.out.size))
          have INx6 := hid (INx5.out.below hb)
          have NBx6 := hid (NBx5.out.below hb)
          clear hb
          go_wp2_with fail
          refine hQc.out _ _ Gx6 (fun hHeld => ?_)
          clear hQc Qc hHeld
          try simp only [Act.put, List.setIfInBounds_toArray, List.set_cons_zero, List.set_cons_succ]
          refine wpAnyH_take (i := 5) (oi := { dst := some 53, op := _, type := _, pos := _, after := _, guard := _ }) (v := ?_) rfl (by kernel_rfl) (by kernel_rfl) (by kernel_rfl) (fun _ _ _ h => h) (Or.inl ⟨by kernel_rfl, ?_⟩) Gx6 ?_
          rotate_left
          · (intro w hSw; go_simp; try with_reducible rfl)
          try simp only [Act.put, List.setIfInBounds_toArray, List.set_cons_zero, List.set_cons_succ]
          refine wpAnyH_take (i := 6) (oi := { dst := some 59, op := _, type := _, pos := _, after := _, guard := _ }) (v := ?_) rfl (by kernel_rfl) (by kernel_rfl) (by kernel_rfl) (fun _ _ _ h => h) (Or.inl ⟨by kernel_rfl, ?_⟩) Gx6 ?_
          rotate_left
          · (intro w hSw; go_simp; try with_reducible rfl)
          try simp only [Act.put, List.setIfInBounds_toArray, List.set_cons_zero, List.set_cons_succ]
          refine wpAnyH_take (i := 7) (oi := { dst := some 60, op := _, type := _, pos := _, after := _, guard := _ }) (v := ?_) rfl (by kernel_rfl) (by kernel_rfl) (by kernel_rfl) (fun _ _ _ h => h) (Or.inl ⟨by kernel_rfl, ?_⟩) Gx6 ?_
          rotate_left
          · (intro w hSw; go_simp; try with_reducible rfl)
          try simp only [Act.put, List.setIfInBounds_toArray, List.set_cons_zero, List.set_cons_succ]
          refine wpAnyH_take (i := 8) (oi := { dst := some 61, op := _, type := _, pos := _, after := _, guard := _ }) (v := ?_) rfl (by kernel_rfl) (by kernel_rfl) (by kernel_rfl) (fun _ _ _ h => h) (Or.inl ⟨by kernel_rfl, ?_⟩) Gx6 ?_
          rotate_left
          · (intro w hSw; go_simp; try with_reducible rfl)
          try simp only [Act.put, List.setIfInBounds_toArray, List.set_cons_zero, List.set_cons_succ]
          refine wpAnyH_ready (rs := [10]) (by kernel_rfl) (by simp) ?_
          refine (AllReadyH.cons (o := { dst := none, op := _, type := _, pos := _, after := _, guard := _ }) rfl (fun Qc hQc => ?_) AllReadyH.nil)
          rw [if_pos (by rfl)]
          refine wp_store_row 24 (.tmp 12) (.tmp 59) rfl g12 (kc a2) rfl rfl 24 Z NBx6.out HA2I.out HA2Z.out (kc_one _) ?_
          have Gx7 : Hid (Below wb.heap.size wb (x6.setRow g12 (kc a2))) := below_setRow Gx6.out GE.out _
          have KP := hid (NBx6.out.row (kc a2))
          refine hQc.out _ _ Gx7 (fun hHeld => ?_)
          clear hQc Qc hHeld
          generalize x6.setRow g12 (kc a2) = x7 at Gx7 KP ⊢
          try simp only [Act.put, List.setIfInBounds_toArray, List.set_cons_zero, List.set_cons_succ]
          refine wpAnyH_take (i := 11) (oi := { dst := some 13, op := _, type := _, pos := _, after := _, guard := _ }) (v := ?_) rfl (by kernel_rfl) (by kernel_rfl) (by kernel_rfl) (fun _ _ _ h => h) (Or.inl ⟨by kernel_rfl, ?_⟩) Gx7 ?_
          rotate_left
          · (intro w hSw; go_simp; try with_reducible rfl)
          try simp only [Act.put, List.setIfInBounds_toArray, List.set_cons_zero, List.set_cons_succ]
          refine wpAnyH_take (i := 12) (oi := { dst := some 14, op := _, type := _, pos := _, after := _, guard := _ }) (v := ?_) rfl (by kernel_rfl) (by kernel_rfl) (by kernel_rfl) (fun _ _ _ h => h) (Or.inl ⟨by kernel_rfl, ?_⟩) Gx7 ?_
          rotate_left
          · (intro w hSw; go_simp; try with_reducible rfl)
          try simp only [Act.put, List.setIfInBounds_toArray, List.set_cons_zero, List.set_cons_succ]
          refine wpAnyH_done (by kernel_rfl) ?_ _
          try simp only [Act.put, List.setIfInBounds_toArray, List.set_cons_zero, List.set_cons_succ]
          go_wp2
          go_meet
          exact ⟨g12, rfl, rfl, rfl, KP, Gx7, GE⟩
      ·
        go_simp
        have NBx8 : Hid (Blk (x0.alloc (.cells Z 24)) x0.heap.size 24 Z) := Blk.new x0 24 Z
        have hb : Below x0.heap.size x0 (x0.alloc (.cells Z 24)) := (Below.refl _ _).alloc (Nat.le_refl _) _
        clear hb
        have Gx8 := hid (Gx0.out.alloc Gx0.out.size (.cells Z 24))
        have GE : Hid (wb.heap.size ≤ x0.heap.size) := Gx0.out.size
        refine hQc.out _ _ Gx8 (fun hHeld => ?_)
        clear hQc Qc hHeld
        generalize x0.heap.size = g12 at NBx8 GE ⊢
        generalize x0.alloc (.cells Z 24) = x8 at NBx8 Gx8  ⊢
        try simp only [Act.put, List.setIfInBounds_toArray, List.set_cons_zero, List.set_cons_succ]
        refine wpAnyH_ready (rs := [1]) (by kernel_rfl) (by simp) ?_
        refine (AllReadyH.cons (o := { dst := some 55, op := _, type := _, pos := _, after := _, guard := _ }) rfl (fun Qc hQc => ?_) AllReadyH.nil)
        go_simp
        go_at_call 33
        refine (qFrom_any (c := d) x8 (HINwbq2.out x8 Gx8.out) HQ2.out HN2.out).mono ?_
        rintro e x9 ⟨A5, c5, rfl, hin5, hb⟩
        have Gx9 := hid (Gx8.out.trans (hb.mono Gx8.out.size))
        have INx9 := hid hin5
        have NBx9 := hid (NBx8.out.below hb)
        clear hb hin5
        go_wp2_with fail
        refine hQc.out _ _ Gx9 (fun hHeld => ?_)
        clear hQc Qc hHeld
        try simp only [Act.put, List.setIfInBounds_toArray, List.set_cons_zero, List.set_cons_succ]
        refine wpAnyH_ready (rs := [4]) (by kernel_rfl) (by simp) ?_
        refine (AllReadyH.cons (o := { dst := some 58, op := _, type := _, pos := _, after := _, guard := _ }) rfl (fun Qc hQc => ?_) AllReadyH.nil)
        go_simp
        go_at_call 32
        refine (CC2.out x9 Gx9.out _ c5 INx9.out).mono ?_
        rintro e x10 ⟨rfl, hb⟩
        have Gx10 := hid (Gx9.out.trans (hb.mono Gx9.out.size))
        have INx10 := hid (INx9.out.below hb)
        have NBx10 := hid (NBx9.out.below hb)
        clear hb
        go_wp2_with fail
        refine hQc.out _ _ Gx10 (fun hHeld => ?_)
        clear hQc Qc hHeld
        try simp only [Act.put, List.setIfInBounds_toArray, List.set_cons_zero, List.set_cons_succ]
        refine wpAnyH_take (i := 5) (oi := { dst := some 53, op := _, type := _, pos := _, after := _, guard := _ }) (v := ?_) rfl (by kernel_rfl) (by kernel_rfl) (by kernel_rfl) (fun _ _ _ h => h) (Or.inl ⟨by kernel_rfl, ?_⟩) Gx10 ?_
        rotate_left
        · (intro w hSw; go_simp; try with_reducible rfl)
        try simp only [Act.put, List.setIfInBounds_toArray, List.set_cons_zero, List.set_cons_succ]
        refine wpAnyH_take (i := 6) (oi := { dst := some 59, op := _, type := _, pos := _, after := _, guard := _ }) (v := ?_) rfl (by kernel_rfl) (by kernel_rfl) (by kernel_rfl) (fun _ _ _ h => h) (Or.inl ⟨by kernel_rfl, ?_⟩) Gx10 ?_
        rotate_left
        · (intro w hSw; go_simp; try with_reducible rfl)
        try simp only [Act.put, List.setIfInBounds_toArray, List.set_cons_zero, List.set_cons_succ]
        refine wpAnyH_take (i := 7) (oi := { dst := some 60, op := _, type := _, pos := _, after := _, guard := _ }) (v := ?_) rfl (by kernel_rfl) (by kernel_rfl) (by kernel_rfl) (fun _ _ _ h => h) (Or.inl ⟨by kernel_rfl, ?_⟩) Gx10 ?_
        rotate_left
        · (intro w hSw; go_simp; try with_reducible rfl)
        try simp only [Act.put, List.setIfInBounds_toArray, List.set_cons_zero, List.set_cons_succ]
        refine wpAnyH_take (i := 8) (oi := { dst := some 61, op := _, type := _, pos := _, after := _, guard := _ }) (v := ?_) rfl (by kernel_rfl) (by kernel_rfl) (by kernel_rfl) (fun _ _ _ h => h) (Or.inl ⟨by kernel_rfl, ?_⟩) Gx10 ?_
        rotate_left
        · (intro w hSw; go_simp; try with_reducible rfl)
        try simp only [Act.put, List.setIfInBounds_toArray, List.set_cons_zero, List.set_cons_succ]
        refine wpAnyH_ready (rs := [10]) (by kernel_rfl) (by simp) ?_
        refine (AllReadyH.cons (o := { dst := none, op := _, type := _, pos := _, after := _, guard := _ }) rfl (fun Qc hQc => ?_) AllReadyH.nil)
        rw [if_pos (by rfl)]
        refine wp_store_row 24 (.tmp 12) (.tmp 59) rfl g12 (kc a2) rfl rfl 24 Z NBx10.out HA2I.out HA2Z.out (kc_one _) ?_
        have Gx11 : Hid (Below wb.heap.size wb (x10.setRow g12 (kc a2))) := below_setRow Gx10.out GE.out _
        have KP := hid (NBx10.out.row (kc a2))
        refine hQc.out _ _ Gx11 (fun hHeld => ?_)
        clear hQc Qc hHeld
        generalize x10.setRow g12 (kc a2) = x11 at Gx11 KP ⊢
        try simp only [Act.put, List.setIfInBounds_toArray, List.set_cons_zero, List.set_cons_succ]
        refine wpAnyH_take (i := 11) (oi := { dst := some 13, op := _, type := _, pos := _, after := _, guard := _ }) (v := ?_) rfl (by kernel_rfl) (by kernel_rfl) (by kernel_rfl) (fun _ _ _ h => h) (Or.inl ⟨by kernel_rfl, ?_⟩) Gx11 ?_
        rotate_left
        · (intro w hSw; go_simp; try with_reducible rfl)
        try simp only [Act.put, List.setIfInBounds_toArray, List.set_cons_zero, List.set_cons_succ]
        refine wpAnyH_take (i := 12) (oi := { dst := some 14, op := _, type := _, pos := _, after := _, guard := _ }) (v := ?_) rfl (by kernel_rfl) (by kernel_rfl) (by kernel_rfl) (fun _ _ _ h => h) (Or.inl ⟨by kernel_rfl, ?_⟩) Gx11 ?_
        rotate_left
        · (intro w hSw; go_simp; try with_reducible rfl)
        try simp only [Act.put, List.setIfInBounds_toArray, List.set_cons_zero, List.set_cons_succ]
        refine wpAnyH_done (by kernel_rfl) ?_ _
        try simp only [Act.put, List.setIfInBounds_toArray, List.set_cons_zero, List.set_cons_succ]
        go_wp2
        go_meet
        exact ⟨g12, rfl, rfl, rfl, KP, Gx11, GE⟩
    case rest =>
    obtain ⟨g12, rfl, rfl, rfl, N12, G4, GE12⟩ := hcut
    generalize wc = w3 at N12 G4 ⊢
    have BB4 := hid (BB3.out.trans (G4.out.mono BB3.out.size)); have GG4 := hid (GG3.out.trans (G4.out.mono GG3.out.size))
    have TX4 := hid (TX3.out.below G4.out)
    have N94 := hid (N9.out.below G4.out)
    clear TX3 R83 R8wb PAwbq2 K5wb HINwbq2 CC2 G4 GE12 BB3 N9
    have BB3 := BB4
    have TX3 := TX4
    clear TX4 BB4
    cases ok1 with
    | false =>
      go_wp2
      go_ret
      exact ⟨rfl, BB3.out⟩
    | true =>
      cases ok2 with
      | false =>
        go_wp2
        go_ret
        exact ⟨rfl, BB3.out⟩
      | true =>
        have heq := fun w => equal_key 9998 a1 a2 HKA1.out HKA2.out w
        have hxb : (binOp .eql 4 (.bool x1) (.bool x2)) = (binOp .eql 4 (.bool x1) (.bool x2)) := rfl
        by_cases hsame : a1 = a2 ∧ x1 = x2
        · obtain ⟨e1, e2⟩ := hsame
          subst e2
          rw [decide_eq_true e1] at heq
          clear e1
          go_wp2_with (first
            | (refine load_at rfl 24 (.tmp 9) rfl g9 0 rfl (u8s a1) _ (blk_key N94.out) Tryd.underlying24 rfl HA1L.out (kc a1) rfl ?_)
            | (refine load_at rfl 24 (.tmp 12) rfl g12 0 rfl (u8s a2) _ (blk_key N12.out) Tryd.underlying24 rfl HA2L.out (kc a2) rfl ?_))
          go_ret
          exact ⟨rfl, BB3.out⟩
        · have HYES : Hid (clashB (txsX key q1) (txsX key q2) = true) := by
            refine right_clash (root := rt) HQ1.out HQ2.out HOK1.out.symm HOK2.out.symm (fun e => hsame ?_)
            obtain ⟨p1, p2⟩ := HSH1.out HOK1.out.symm
            obtain ⟨p3, p4⟩ := HSH2.out HOK2.out.symm
            exact ⟨by rw [p1, p3, e], by rw [p2, p4, e]⟩
          have PAw3q2 := hid (PA2.out w3 GG4.out); have K5w3 := hid (K5.out w3 GG4.out)
          have HINw3q2 := hid (fun x (hb : Below w3.heap.size w3 x) => HIN2.out x (BB3.out.trans (hb.mono BB3.out.size)))
          have HTw3 := hid (fun x (hb : Below w3.heap.size w3 x) => HT.out.below (BB3.out.trans (hb.mono BB3.out.size)))
          have HT2L : Hid ((txsX key q2).length ≤ 1000) := by
            show _ ≤ _
            unfold txsX
            split
            · have := HL2.out; rw [List.length_reverse, all_len]; omega
            · simp
          go_upto_region 9 with (fail)
          go_cut [77] (fun s77 wx => s77 = .bool false ∧ wx = w3)
          case first =>
            by_cases e1 : a1 = a2
            · have e2 : x1 ≠ x2 := fun e => hsame ⟨e1, e⟩
              rw [decide_eq_true e1] at heq
              clear hsame e1
              revert e2
              cases x1 <;> cases x2 <;> intro e2 <;> first | exact absurd rfl e2 | skip
              all_goals
                go_wp2_with (first
                  | (refine load_at rfl 24 (.tmp 9) rfl g9 0 rfl (u8s a1) _ (blk_key N94.out) Tryd.underlying24 rfl HA1L.out (kc a1) rfl ?_)
                  | (refine load_at rfl 24 (.tmp 12) rfl g12 0 rfl (u8s a2) _ (blk_key N12.out) Tryd.underlying24 rfl HA2L.out (kc a2) rfl ?_))
                go_meet
                exact ⟨rfl, rfl⟩
            · rw [decide_eq_false e1] at heq
              clear hsame e1
              go_wp2_with (first
                | (refine load_at rfl 24 (.tmp 9) rfl g9 0 rfl (u8s a1) _ (blk_key N94.out) Tryd.underlying24 rfl HA1L.out (kc a1) rfl ?_)
                | (refine load_at rfl 24 (.tmp 12) rfl g12 0 rfl (u8s a2) _ (blk_key N12.out) Tryd.underlying24 rfl HA2L.out (kc a2) rfl ?_))
              go_meet
              exact ⟨rfl, rfl⟩
          case rest =>
          obtain ⟨rfl, hwc⟩ := hcut
          rw [hwc]
          clear hwc
          clear heq hsame
          go_upto_region 11 with (fail)
          refine wp_region_held (S := fun w' => Hid (Below w3.heap.size w3 w')) (by kernel_rfl) ?_
          change wpAnyH _ _ _ _ _ _ _ _ w3.drew
          have Gx0 : Hid (Below w3.heap.size w3 w3.drew) := (Below.refl _ _).drew
          generalize w3.drew = x0 at Gx0  ⊢
          refine wpAnyH_take (i := 0) (oi := { dst := some 78, op := _, type := _, pos := _, after := _, guard := _ }) (v := ?_) rfl (by kernel_rfl) (by kernel_rfl) (by kernel_rfl) (fun _ _ _ h => h) (Or.inl ⟨by kernel_rfl, ?_⟩) Gx0 ?_
          rotate_left
          · (intro w hSw; go_simp; try with_reducible rfl)
          try simp only [Act.put, List.setIfInBounds_toArray, List.set_cons_zero, List.set_cons_succ]
          refine wpAnyH_take (i := 1) (oi := { dst := some 79, op := _, type := _, pos := _, after := _, guard := _ }) (v := .agg ((prc (.slice B m d) q2).toArray)) rfl (by kernel_rfl) (by kernel_rfl) (by kernel_rfl) (fun _ _ _ h => h) (yieldsIf_load_mid (cs := prc (.slice B m d) q2) (by rfl) _ _ rfl _ _ rfl _ (fun w' hSw => rng_bel hSw.out PAw3q2.out.all) Tryd.underlying72 rfl HP2I.out) Gx0 ?_
          try simp only [Act.put, List.setIfInBounds_toArray, List.set_cons_zero, List.set_cons_succ]
          refine wpAnyH_take (i := 3) (oi := { dst := some 81, op := _, type := _, pos := _, after := _, guard := _ }) (v := .agg (kc key)) rfl (by kernel_rfl) (by kernel_rfl) (by kernel_rfl) (fun _ _ _ h => h) (yieldsIf_load_mid (cs := u8s key) (by rfl) _ _ rfl _ _ rfl _ (fun w' hSw => rng_bel hSw.out (blk_key K5w3.out)) Tryd.underlying24 rfl HKI.out) Gx0 ?_
          try simp only [Act.put, List.setIfInBounds_toArray, List.set_cons_zero, List.set_cons_succ]
          refine wpAnyH_ready (rs := [2]) (by kernel_rfl) (by simp) ?_
          refine (AllReadyH.cons (o := { dst := some 80, op := _, type := _, pos := _, after := _, guard := _ }) rfl (fun Qc hQc => ?_) AllReadyH.nil)
          go_simp
          go_at_call 33
          refine (qFrom_any (c := d) x0 (HINw3q2.out x0 Gx0.out) HQ2.out HN2.out).mono ?_
          rintro e x1 ⟨A5, c5, rfl, hin5, hb⟩
          have Gx1 := hid (Gx0.out.trans (hb.mono Gx0.out.size))
          have INx1 := hid hin5
          clear hb hin5
          go_wp2_with fail
          refine hQc.out _ _ Gx1 (fun hHeld => ?_)
          clear hQc Qc hHeld
          try simp only [Act.put, List.setIfInBounds_toArray, List.set_cons_zero, List.set_cons_succ]
          refine wpAnyH_ready (rs := [4]) (by kernel_rfl) (by simp) ?_
          refine (AllReadyH.cons (o := { dst := some 82, op := _, type := _, pos := _, after := _, guard := _ }) rfl (fun Qc hQc => ?_) AllReadyH.nil)
          go_simp
          go_at_call 35
          refine (qtexts_any (c := c5) x1 INx1.out HQ2.out HK.out HL2.out (HTw3.out x1 Gx1.out)).mono ?_
          rintro e x2 ⟨v6, rfl, htx6, hb⟩
          have Gx2 := hid (Gx1.out.trans (hb.mono Gx1.out.size))
          have TX6 := hid (htx6.weak Gx1.out.size)
          obtain ⟨A6, c6, hv6⟩ := TX6.out.len
          subst hv6
          clear hb htx6
          go_wp2_with fail
          refine hQc.out _ _ Gx2 (fun hHeld => ?_)
          clear hQc Qc hHeld
          try simp only [Act.put, List.setIfInBounds_toArray, List.set_cons_zero, List.set_cons_succ]
          refine wpAnyH_ready (rs := [5]) (by kernel_rfl) (by simp) ?_
          refine (AllReadyH.cons (o := { dst := some 83, op := _, type := _, pos := _, after := _, guard := _ }) rfl (fun Qc hQc => ?_) AllReadyH.nil)
          go_simp
          go_at_call 34
          have CCL : Calls Tryd.prog 34 #[.slice (some ⟨g1, 0, none⟩) (n + 1) c1, .slice A6 (txsX key q2).length c6] x2 fun e w' => e = .returned (.bool true) ∧ Below x2.heap.size x2 w' := by
            have h := zClash_any (c := c1) (d := c6) x2 ((TX3.out.below Gx2.out).in (fun x hx => (txsX_all HQ1.out x hx).1) (fun x hx => (txsX_all HQ1.out x hx).2) HT1L.out) (TX6.out.in (fun x hx => (txsX_all HQ2.out x hx).1) (fun x hx => (txsX_all HQ2.out x hx).2) HT2L.out) (fun x hx => (txsX_all HQ1.out x hx).2) (fun x hx => (txsX_all HQ2.out x hx).2)
            rw [HYES.out] at h
            exact h
          refine CCL.mono ?_
          clear CCL
          rintro e x3 ⟨rfl, hb⟩
          have Gx3 := hid (Gx2.out.trans (hb.mono Gx2.out.size))
          clear hb
          go_wp2_with fail
          refine hQc.out _ _ Gx3 (fun hHeld => ?_)
          clear hQc Qc hHeld
          try simp only [Act.put, List.setIfInBounds_toArray, List.set_cons_zero, List.set_cons_succ]
          refine wpAnyH_take (i := 6) (oi := { dst := some 6, op := _, type := _, pos := _, after := _, guard := _ }) (v := ?_) rfl (by kernel_rfl) (by kernel_rfl) (by kernel_rfl) (fun _ _ _ h => h) (Or.inl ⟨by kernel_rfl, ?_⟩) Gx3 ?_
          rotate_left
          · (intro w hSw; go_simp; try with_reducible rfl)
          try simp only [Act.put, List.setIfInBounds_toArray, List.set_cons_zero, List.set_cons_succ]
          refine wpAnyH_done (by kernel_rfl) ?_ _
          try simp only [Act.put, List.setIfInBounds_toArray, List.set_cons_zero, List.set_cons_succ]
          go_wp2
          go_ret
          exact ⟨rfl, BB3.out.trans (Gx3.out.mono BB3.out.size)⟩
set_option maxHeartbeats 16000000 in
theorem turned_walk {A B : Option Addr} {n m c d : Nat} {q1 q2 : QP} {key : List Int} {w : World} (hin1 : InS w A n q1.ss) (hq1 : q1.Ok) (hin2 : InS w B m q2.ss) (hq2 : q2.Ok) (hK : Ky key) (ht : Tab w) :
    Calls Tryd.prog 9 #[.agg (prc (.slice A n c) q1).toArray, .agg (prc (.slice B m d) q2).toArray, .agg (kc key)] w fun e w' => e = .returned (.bool true) ∧ Below w.heap.size w w' := by
  obtain ⟨Z, HZ, hZ0, hZs⟩ := zero_key
  obtain ⟨hk1, hk2, hk3, hb0⟩ := three_blks w (prc (.slice A n c) q1).toArray (prc (.slice B m d) q2).toArray (kc key) 72 72 24
  have c7 : World.cell? (((w.alloc (.cells (prc (.slice A n c) q1).toArray 72)).alloc (.cells (prc (.slice B m d) q2).toArray 72)).alloc (.cells (kc key) 24)) ⟨w.heap.size, 0, none⟩ = some (.slice A n c) := hk1.cell 0
  have c8 : World.cell? (((w.alloc (.cells (prc (.slice A n c) q1).toArray 72)).alloc (.cells (prc (.slice B m d) q2).toArray 72)).alloc (.cells (kc key) 24)) ⟨w.heap.size + 1, 0, none⟩ = some (.slice B m d) := hk2.cell 0
  have SZ : Hid ((((w.alloc (.cells (prc (.slice A n c) q1).toArray 72)).alloc (.cells (prc (.slice B m d) q2).toArray 72)).alloc (.cells (kc key) 24)).heap.size = w.heap.size + 1 + 1 + 1) := by show _ = _; simp
  have B0 := hid hb0
  have CA := hid (fun w1 (hb : Below w.heap.size w w1) => qawake_any w1 (ht.below hb))
  have HQ1 := hid hq1; have HQ2 := hid hq2; have HK := hid hK; have HT := hid ht
  have HKI := hid (u8s_info hK)
  have HP1I := hid (zproof_info hq1 (.slice A n c)); have HP2I := hid (zproof_info hq2 (.slice B m d))
  have HIN1 := hid (fun x (hb : Below w.heap.size w x) => hin1.below hb); have HIN2 := hid (fun x (hb : Below w.heap.size w x) => hin2.below hb)
  have hmax1 := hin1.max; have hmax2 := hin2.max
  have L1 := hid hin1.len; have L2 := hid hin2.len
  have J1 := hid hk1; have J2 := hid hk2; have J3 := hid hk3
  clear hk1 hk2 hk3 hb0 hin1 hin2 hq1 hq2 hK ht
  by_cases h1 : 50 < n
  · have h1' : (50 : Int) < (n : Int) := by omega
    go_enter Tryd.func9, Tryd.ntmps9
    go_wp2_with (first | (go_at_call 27; refine (CA.out _ B0.out).mono ?_; rintro e w1 ⟨rfl, hb⟩; have B1 := hid (B0.out.trans (hb.mono B0.out.size)); have c70 : w1.cell? ⟨w.heap.size, 0, none⟩ = some (.slice A n c) := cell_bel hb c7; have c80 : w1.cell? ⟨w.heap.size + 1, 0, none⟩ = some (.slice B m d) := cell_bel hb c8; clear hb c7 c8) | (go_at_call 27; refine (CA.out _ B1.out).mono ?_; rintro e w2 ⟨rfl, hb⟩; have B2 := hid (B1.out.trans (hb.mono B1.out.size)); clear hb))
    go_ret
    exact ⟨rfl, B2.out⟩
  · have h1' : ¬ (50 : Int) < (n : Int) := by omega
    by_cases h2 : 50 < m
    · have h2' : (50 : Int) < (m : Int) := by omega
      go_enter Tryd.func9, Tryd.ntmps9
      go_wp2_with (first | (go_at_call 27; refine (CA.out _ B0.out).mono ?_; rintro e w1 ⟨rfl, hb⟩; have B1 := hid (B0.out.trans (hb.mono B0.out.size)); have c70 : w1.cell? ⟨w.heap.size, 0, none⟩ = some (.slice A n c) := cell_bel hb c7; have c80 : w1.cell? ⟨w.heap.size + 1, 0, none⟩ = some (.slice B m d) := cell_bel hb c8; clear hb c7 c8) | (go_at_call 27; refine (CA.out _ B1.out).mono ?_; rintro e w2 ⟨rfl, hb⟩; have B2 := hid (B1.out.trans (hb.mono B1.out.size)); clear hb))
      go_ret
      exact ⟨rfl, B2.out⟩
    · have h2' : ¬ (50 : Int) < (m : Int) := by omega
      have HN1 : Hid (n ≤ 500) := by show n ≤ 500; omega
      have HN2 : Hid (m ≤ 500) := by show m ≤ 500; omega
      have HL1 : Hid (q1.ss.length ≤ 100) := by show _ ≤ _; rw [L1.out]; omega
      have HL2 : Hid (q2.ss.length ≤ 100) := by show _ ≤ _; rw [L2.out]; omega
      refine turned_go J1 J2 J3 B0 c7 c8 SZ HZ hZ0 hZs CA HQ1 HQ2 HK HT HKI HP1I HP2I HIN1 HIN2 L1 L2 HN1 HN2 HL1 HL2 h1' h2'
end Go.Proofs.YtenjiaelaikkcaaDoor
