/-
  What is proved here: all labels, versions and numbers have the key, the commitment and the salt that the chapter says: the walk of the statement.
-/
import Derived.Test.YtjhaamffgkialaaDoorMC13
set_option linter.unusedSimpArgs false
set_option linter.unusedVariables false
namespace Go.Proofs.YtjhaamffgkialaaDoor
open Go.ChangeShapes Go.WideShapes Go.ChangeAt Go.RowKit
set_option linter.unusedVariables false
set_option linter.unusedSimpArgs false
set_option maxRecDepth 20000

set_option maxHeartbeats 8000000 in
theorem chashes_walk {A : Option Addr} {n c : Nat} {lab : List Int} {V G : Value} {q : Vs} {g : Gw} {w : World} (h : InB w A n c lab) (hc : n ≤ c) (hq : VArg w V q) (hg : GArg w G g) (ht : Tab w) :
    Calls Tryd.prog 6 #[.slice A n c, .agg (vcs V q).toArray, .agg (gcs G g).toArray] w fun e w' => e = .returned (.bool true) ∧ Below w.heap.size w w' := by
  obtain ⟨hl, hm, hb, hr⟩ := h
  obtain ⟨Z, HZ, hZ0, hZs⟩ := zero_Hash
  obtain ⟨seed, hsd⟩ : ∃ seed, seed = g.s := ⟨_, rfl⟩
  have hsk : Hh seed := by rw [hsd]; exact hg.s
  have KV0 := (Blk.new w 69 (vcs V q).toArray).alloc (.cells (gcs G g).toArray 71)
  have KG0 : Blk ((w.alloc (.cells (vcs V q).toArray 69)).alloc (.cells (gcs G g).toArray 71)) (w.heap.size + 1) 71 (gcs G g).toArray := by
    have := Blk.new (w.alloc (.cells (vcs V q).toArray 69)) 71 (gcs G g).toArray
    rw [show (w.alloc (.cells (vcs V q).toArray 69)).heap.size = w.heap.size + 1 by simp] at this
    exact this
  have B0 : Hid (Below w.heap.size w ((w.alloc (.cells (vcs V q).toArray 69)).alloc (.cells (gcs G g).toArray 71))) := ((Below.refl _ _).alloc (Nat.le_refl _) _).alloc (by simp) _
  have S0 : Hid (((w.alloc (.cells (vcs V q).toArray 69)).alloc (.cells (gcs G g).toArray 71)).heap.size = w.heap.size + 1 + 1) := by show _ = _; simp
  have RG : Hid (World.rangeAt ((w.alloc (.cells (vcs V q).toArray 69)).alloc (.cells (gcs G g).toArray 71)) (w.heap.size + 1) 0 (u8s seed)) := by
    have h1 : World.rangeAt ((w.alloc (.cells (vcs V q).toArray 69)).alloc (.cells (gcs G g).toArray 71)) (w.heap.size + 1) 0 (gcs G g) := fun j u hu => by
      rw [KG0.cell, Nat.zero_add, List.getElem?_toArray]; exact hu
    rw [hsd]
    exact crng_sub0 h1
  have KV := hid KV0
  have HSI := hid (hinfo hsk); have HSI2 := hid (info_hash seed hsk.len)
  have hzl : Z.size = 32 := by rw [HZ.out, List.size_toArray, u8s_length]; simp
  have HSZ : Hid (Z.size = (u8s seed).toArray.size) := by show _ = _; rw [hzl, hash_size32 hsk]
  have HVI := hid (vlenR V hq.ok)
  have HAW := hid (fun w1 (hb : Below w.heap.size w w1) => chAwake_any w1 (ht.below hb))
  have hq0 := hq
  obtain ⟨hok, Bv, dv, hVe, hdv, hrv⟩ := hq
  obtain ⟨vl, hvl⟩ : ∃ vl, vl = q.v.length := ⟨_, rfl⟩
  have LB := hid (fun w1 (hb' : Below w.heap.size w w1) (hn : n ≤ 200) => (⟨hr.belowN hb', hb, by rw [hl]; exact hc, by rw [hl]; omega⟩ : Lbl w1 A c lab))
  have VA := hid (fun w1 (hb : Below w.heap.size w w1) => hq0.below hb)
  have HT := hid (fun w1 (hb : Below w.heap.size w w1) => ht.below hb)
  have hvk : vl ≤ dv := by rw [hvl]; exact hdv
  have HVL := hid hvl; have HVE := hid hVe; have HOK := hid hok; have HSK := hid hsk; have HL := hid hl
  rw [← hvl] at hVe
  have HVE2 := hid hVe
  clear hl hb hr hc hq0 hok hVe hdv hrv hvl hsk hsd KV0 KG0 ht hg hzl hvk
  obtain ⟨C1, hC1⟩ : ∃ C, C = vcs V q := ⟨_, rfl⟩
  obtain ⟨C2, hC2⟩ : ∃ C, C = gcs G g := ⟨_, rfl⟩
  rw [← hC1, ← hC2] at B0 S0 RG KV
  rw [← hC1, ← hC2]
  have HC1 := hid hC1
  clear hC1 hC2
  go_enter Tryd.func6, Tryd.ntmps6
  go_upto_region 1 with (fail)
  generalize (w.alloc (.cells C1.toArray 69)).alloc (.cells C2.toArray 71) = w0 at B0 S0 RG KV ⊢
  go_upto_region 2 with (first
    | (refine wpList_load_mid rfl 26 (.tmp 8) rfl (w.heap.size + 1) 0 rfl (u8s seed) _ RG.out Tryd.underlying26 rfl HSI.out ?_)
    | (refine wpList_store_row rfl 26 (.tmp 7) (.tmp 9) rfl w0.heap.size (u8s seed).toArray rfl rfl 26 Z (Blk.new w0 26 Z) HSI2.out HSZ.out (u8s_all seed) ?_))
  have KS : Hid (Blk ((w0.alloc (.cells Z 26)).setRow w0.heap.size (u8s seed).toArray) w0.heap.size 26 (u8s seed).toArray) := (Blk.new w0 26 Z).row _
  have KV1 : Hid (Blk ((w0.alloc (.cells Z 26)).setRow w0.heap.size (u8s seed).toArray) w.heap.size 69 C1.toArray) := (KV.out.alloc _).rowFar (by rw [S0.out]; omega) _
  have B1 : Hid (Below w.heap.size w ((w0.alloc (.cells Z 26)).setRow w0.heap.size (u8s seed).toArray)) := below_setRow (B0.out.alloc B0.out.size _) B0.out.size _
  clear KV B0 S0 RG HSZ
  generalize (w0.alloc (.cells Z 26)).setRow w0.heap.size (u8s seed).toArray = w1 at KS KV1 B1 ⊢
  generalize w0.heap.size = e7 at KS ⊢
  rw [HC1.out] at KV1
  have hvc := KV1.out.vc HOK.out
  have CN := hid hvc.n
  have cv : w1.cell? ⟨w.heap.size, 66, none⟩ = some (.slice Bv vl dv) := by have := hvc.v; rw [Nat.zero_add, HVE2.out] at this; exact this
  have RV := hid hvc.all
  have RS : Hid (w1.rangeAt e7 0 (u8s seed)) := fun j u hu => by rw [KS.out.cell, Nat.zero_add, List.getElem?_toArray]; exact hu
  have CV := hid cv
  clear hvc
  by_cases hn : 200 < n
  ·
    have hni : (200 : Int) < (n : Int) := by omega
    have tk : True := trivial
    clear cv
    go_wp2_with (first
      | (go_at_call 31; have _t := tk; refine (HAW.out _ B1.out).mono ?_; rintro e w2 ⟨rfl, hb⟩; have B2 := hid (B1.out.trans (hb.mono B1.out.size)); clear tk hb)
      | (go_at_call 31; refine (HAW.out _ B2.out).mono ?_; rintro e w3 ⟨rfl, hb⟩; have B3 := hid (B2.out.trans (hb.mono B2.out.size)); clear hb))
    go_ret
    exact ⟨rfl, B3.out⟩
  have hni : ¬ (200 : Int) < (n : Int) := by omega
  by_cases hvb : 200 < vl
  ·
    have hvi : (200 : Int) < (vl : Int) := by omega
    have tk : True := trivial
    clear cv
    go_wp2_with (first
      | (go_at_call 31; have _t := tk; refine (HAW.out _ B1.out).mono ?_; rintro e w2 ⟨rfl, hb⟩; have B2 := hid (B1.out.trans (hb.mono B1.out.size)); have cv2 := ccell_bel hb CV.out; clear tk hb)
      | (go_at_call 31; refine (HAW.out _ B2.out).mono ?_; rintro e w3 ⟨rfl, hb⟩; have B3 := hid (B2.out.trans (hb.mono B2.out.size)); clear hb))
    go_ret
    exact ⟨rfl, B3.out⟩
  have hvi : ¬ (200 : Int) < (vl : Int) := by omega
  clear cv
  go_upto_region 4 with (go_at_call 31; refine (HAW.out _ B1.out).mono ?_; rintro e w2 ⟨rfl, hb⟩; have B2 := hid (B1.out.trans (hb.mono B1.out.size)); have RV2 := hid (crng_bel hb RV.out); have RS2 := hid (crng_bel hb RS.out); have CN2 := hid (ccell_bel hb CN.out); have cv := ccell_bel hb CV.out; clear hb)
  clear cv
  clear RV RS CN
  have RV := RV2; have RS := RS2; have CN := CN2
  clear RV2 RS2 CN2
  have hvl3 : q.v.length ≤ 300 := by rw [← HVL.out]; omega
  have hn2 : n ≤ 200 := by omega
  have LBx := hid (fun x (hb : Below w2.heap.size w2 x) => LB.out x (B2.out.trans (hb.mono B2.out.size)) hn2)
  have VAx := hid (fun x (hb : Below w2.heap.size w2 x) => VA.out x (B2.out.trans (hb.mono B2.out.size)))
  have HTx := hid (fun x (hb : Below w2.heap.size w2 x) => HT.out x (B2.out.trans (hb.mono B2.out.size)))
  have CK1 := hid (fun x (hb : Below w2.heap.size w2 x) => keyC_any (LBx.out x hb) (HTx.out x hb))
  have CK2 := hid (fun x (hb : Below w2.heap.size w2 x) => keyR_any (LBx.out x hb))
  have CS1 := hid (fun x (hb : Below w2.heap.size w2 x) => saltC_any q.n (LBx.out x hb) HSK.out (HTx.out x hb))
  have CS2 := hid (fun x (hb : Below w2.heap.size w2 x) => saltR_any q.n (LBx.out x hb) HSK.out)
  have CC1 := hid (fun x (hb : Below w2.heap.size w2 x) => cmC_any (LBx.out x hb) (VAx.out x hb) hvl3 (HTx.out x hb))
  have CC2 := hid (fun x (hb : Below w2.heap.size w2 x) => cmR_any (LBx.out x hb) (VAx.out x hb) hvl3)
  have CT1 := hid (fun x (hb : Below w2.heap.size w2 x) => verTC_any (LBx.out x hb) (VAx.out x hb) hvl3)
  have CT2 := hid (fun x (hb : Below w2.heap.size w2 x) => verTR_any (LBx.out x hb) (VAx.out x hb) hvl3)
  have HXL : Hid ((verT lab q).length < 1000000000) := by
    have := verTlen (lab := lab) (LBx.out w2 (Below.refl _ _)).len HOK.out hvl3
    show _ < _; omega
  have e1 := eql_hash1 (hh_sum (labT lab))
  have e2 := eql_hash1 (hh_sum (saltT seed lab q.n))
  have e3 : ∀ w : World, (binOp .eql 26 (.agg (u8s (cm lab q)).toArray) (.agg (u8s (cm lab q)).toArray)).run Tryd.prog w = .ok (.bool true) w := eql_hash1 (hh_sum _)
  unfold BytA at CT1 CT2
  rw [HL.out] at CK1 CK2 CS1 CS2 CC1 CC2 CT1 CT2
  generalize sum (labT lab) = s1 at CK1 CK2 e1
  generalize sum (saltT seed lab q.n) = s2 at CS1 CS2 e2
  generalize cm lab q = s3 at CC1 CC2 e3
  generalize verT lab q = X at CT1 CT2 HXL
  clear hvl3 hn2
  refine wp_region_held (S := fun w' => Hid (Below w2.heap.size w2 w')) (by kernel_rfl) ?_
  change wpAnyH _ _ _ _ _ _ _ _ w2.drew
  have Gx0 : Hid (Below w2.heap.size w2 w2.drew) := (Below.refl _ _).drew
  generalize w2.drew = x0 at Gx0  ⊢
  refine wpAnyH_take (i := 0) (oi := { dst := some 24, op := _, type := _, pos := _, after := _, guard := _ }) (v := ?_) rfl (by kernel_rfl) (by kernel_rfl) (by kernel_rfl) (fun _ _ _ h => h) (Or.inl ⟨by kernel_rfl, ?_⟩) Gx0 ?_
  rotate_left
  · (intro w hSw; go_simp; try with_reducible rfl)
  try simp only [Act.put, List.setIfInBounds_toArray, List.set_cons_zero, List.set_cons_succ]
  refine wpAnyH_take (i := 2) (oi := { dst := some 26, op := _, type := _, pos := _, after := _, guard := _ }) (v := ?_) rfl (by kernel_rfl) (by kernel_rfl) (by kernel_rfl) (fun _ _ _ h => h) (Or.inl ⟨by kernel_rfl, ?_⟩) Gx0 ?_
  rotate_left
  · (intro w hSw; go_simp; try with_reducible rfl)
  try simp only [Act.put, List.setIfInBounds_toArray, List.set_cons_zero, List.set_cons_succ]
  refine wpAnyH_ready (rs := [1]) (by kernel_rfl) (by simp) ?_
  refine (AllReadyH.cons (o := { dst := some 25, op := _, type := _, pos := _, after := _, guard := _ }) rfl (fun Qc hQc => ?_) AllReadyH.nil)
  go_simp
  go_at_call 32
  refine (CK1.out x0 Gx0.out).mono ?_
  rintro e x1 ⟨rfl, hb⟩
  have Gx1 := hid (Gx0.out.trans (hb.mono Gx0.out.size))
  clear hb
  go_wp2_with fail
  refine hQc.out _ _ Gx1 (fun hHeld => ?_)
  clear hQc Qc hHeld
  try simp only [Act.put, List.setIfInBounds_toArray, List.set_cons_zero, List.set_cons_succ]
  refine wpAnyH_ready (rs := [3]) (by kernel_rfl) (by simp) ?_
  refine (AllReadyH.cons (o := { dst := some 27, op := _, type := _, pos := _, after := _, guard := _ }) rfl (fun Qc hQc => ?_) AllReadyH.nil)
  go_simp
  go_at_call 33
  refine (CK2.out x1 Gx1.out).mono ?_
  rintro e x2 ⟨rfl, hb⟩
  have Gx2 := hid (Gx1.out.trans (hb.mono Gx1.out.size))
  clear hb
  go_wp2_with fail
  refine hQc.out _ _ Gx2 (fun hHeld => ?_)
  clear hQc Qc hHeld
  try simp only [Act.put, List.setIfInBounds_toArray, List.set_cons_zero, List.set_cons_succ]
  refine wpAnyH_take (i := 4) (oi := { dst := some 28, op := _, type := _, pos := _, after := _, guard := _ }) (v := ?_) rfl (by kernel_rfl) (by kernel_rfl) (by kernel_rfl) (fun _ _ _ h => h) (Or.inl ⟨by kernel_rfl, ?_⟩) Gx2 ?_
  rotate_left
  · (intro w hSw; go_simp; try with_reducible rfl)
  try simp only [Act.put, List.setIfInBounds_toArray, List.set_cons_zero, List.set_cons_succ]
  refine wpAnyH_take (i := 5) (oi := { dst := some 29, op := _, type := _, pos := _, after := _, guard := _ }) (v := ?_) rfl (by kernel_rfl) (by kernel_rfl) (by kernel_rfl) (fun _ _ _ h => h) (Or.inl ⟨by kernel_rfl, ?_⟩) Gx2 ?_
  rotate_left
  · (intro w hSw; go_simp; try with_reducible rfl)
  try simp only [Act.put, List.setIfInBounds_toArray, List.set_cons_zero, List.set_cons_succ]
  refine wpAnyH_take (i := 6) (oi := { dst := some 30, op := _, type := _, pos := _, after := _, guard := _ }) (v := .agg ((u8s seed).toArray)) rfl (by kernel_rfl) (by kernel_rfl) (by kernel_rfl) (fun _ _ _ h => h) (yieldsIf_load_mid (cs := u8s seed) (by rfl) _ _ rfl _ _ rfl _ (fun w' hSw => crng_bel hSw.out RS.out) Tryd.underlying26 rfl HSI.out) Gx2 ?_
  try simp only [Act.put, List.setIfInBounds_toArray, List.set_cons_zero, List.set_cons_succ]
  refine wpAnyH_take (i := 7) (oi := { dst := some 31, op := _, type := _, pos := _, after := _, guard := _ }) (v := ?_) rfl (by kernel_rfl) (by kernel_rfl) (by kernel_rfl) (fun _ _ _ h => h) (Or.inl ⟨by kernel_rfl, ?_⟩) Gx2 ?_
  rotate_left
  · (intro w hSw; go_simp; try with_reducible rfl)
  try simp only [Act.put, List.setIfInBounds_toArray, List.set_cons_zero, List.set_cons_succ]
  refine wpAnyH_take (i := 8) (oi := { dst := some 32, op := _, type := _, pos := _, after := _, guard := _ }) (v := ?_) rfl (by kernel_rfl) (by kernel_rfl) (by kernel_rfl) (fun _ _ _ h => h) (Or.inl ⟨by kernel_rfl, ?_⟩) Gx2 ?_
  rotate_left
  · (intro w hSw; go_simp; try with_reducible rfl)
  try simp only [Act.put, List.setIfInBounds_toArray, List.set_cons_zero, List.set_cons_succ]
  refine wpAnyH_take (i := 9) (oi := { dst := some 33, op := _, type := _, pos := _, after := _, guard := _ }) (v := .int .i64 q.n) rfl (by kernel_rfl) (by kernel_rfl) (by kernel_rfl) (fun _ _ _ h => h) (Or.inl ⟨by kernel_rfl, ?_⟩) Gx2 ?_
  · (intro w hSw; have c9 := ccell_bel hSw.out CN.out; go_simp; try with_reducible rfl)
  try simp only [Act.put, List.setIfInBounds_toArray, List.set_cons_zero, List.set_cons_succ]
  refine wpAnyH_take (i := 11) (oi := { dst := some 35, op := _, type := _, pos := _, after := _, guard := _ }) (v := .agg ((u8s seed).toArray)) rfl (by kernel_rfl) (by kernel_rfl) (by kernel_rfl) (fun _ _ _ h => h) (yieldsIf_load_mid (cs := u8s seed) (by rfl) _ _ rfl _ _ rfl _ (fun w' hSw => crng_bel hSw.out RS.out) Tryd.underlying26 rfl HSI.out) Gx2 ?_
  try simp only [Act.put, List.setIfInBounds_toArray, List.set_cons_zero, List.set_cons_succ]
  refine wpAnyH_take (i := 12) (oi := { dst := some 36, op := _, type := _, pos := _, after := _, guard := _ }) (v := ?_) rfl (by kernel_rfl) (by kernel_rfl) (by kernel_rfl) (fun _ _ _ h => h) (Or.inl ⟨by kernel_rfl, ?_⟩) Gx2 ?_
  rotate_left
  · (intro w hSw; go_simp; try with_reducible rfl)
  try simp only [Act.put, List.setIfInBounds_toArray, List.set_cons_zero, List.set_cons_succ]
  refine wpAnyH_take (i := 13) (oi := { dst := some 37, op := _, type := _, pos := _, after := _, guard := _ }) (v := ?_) rfl (by kernel_rfl) (by kernel_rfl) (by kernel_rfl) (fun _ _ _ h => h) (Or.inl ⟨by kernel_rfl, ?_⟩) Gx2 ?_
  rotate_left
  · (intro w hSw; go_simp; try with_reducible rfl)
  try simp only [Act.put, List.setIfInBounds_toArray, List.set_cons_zero, List.set_cons_succ]
  refine wpAnyH_take (i := 14) (oi := { dst := some 38, op := _, type := _, pos := _, after := _, guard := _ }) (v := .int .i64 q.n) rfl (by kernel_rfl) (by kernel_rfl) (by kernel_rfl) (fun _ _ _ h => h) (Or.inl ⟨by kernel_rfl, ?_⟩) Gx2 ?_
  · (intro w hSw; have c9 := ccell_bel hSw.out CN.out; go_simp; try with_reducible rfl)
  try simp only [Act.put, List.setIfInBounds_toArray, List.set_cons_zero, List.set_cons_succ]
  refine wpAnyH_ready (rs := [10]) (by kernel_rfl) (by simp) ?_
  refine (AllReadyH.cons (o := { dst := some 34, op := _, type := _, pos := _, after := _, guard := _ }) rfl (fun Qc hQc => ?_) AllReadyH.nil)
  go_simp
  go_at_call 34
  refine (CS1.out x2 Gx2.out).mono ?_
  rintro e x3 ⟨rfl, hb⟩
  have Gx3 := hid (Gx2.out.trans (hb.mono Gx2.out.size))
  clear hb
  go_wp2_with fail
  refine hQc.out _ _ Gx3 (fun hHeld => ?_)
  clear hQc Qc hHeld
  try simp only [Act.put, List.setIfInBounds_toArray, List.set_cons_zero, List.set_cons_succ]
  refine wpAnyH_ready (rs := [15]) (by kernel_rfl) (by simp) ?_
  refine (AllReadyH.cons (o := { dst := some 39, op := _, type := _, pos := _, after := _, guard := _ }) rfl (fun Qc hQc => ?_) AllReadyH.nil)
  go_simp
  go_at_call 35
  refine (CS2.out x3 Gx3.out).mono ?_
  rintro e x4 ⟨rfl, hb⟩
  have Gx4 := hid (Gx3.out.trans (hb.mono Gx3.out.size))
  clear hb
  go_wp2_with fail
  refine hQc.out _ _ Gx4 (fun hHeld => ?_)
  clear hQc Qc hHeld
  try simp only [Act.put, List.setIfInBounds_toArray, List.set_cons_zero, List.set_cons_succ]
  refine wpAnyH_take (i := 16) (oi := { dst := some 40, op := _, type := _, pos := _, after := _, guard := _ }) (v := ?_) rfl (by kernel_rfl) (by kernel_rfl) (by kernel_rfl) (fun _ _ _ h => h) (Or.inl ⟨by kernel_rfl, ?_⟩) Gx4 ?_
  rotate_left
  · (intro w hSw; go_simp; try with_reducible rfl)
  try simp only [Act.put, List.setIfInBounds_toArray, List.set_cons_zero, List.set_cons_succ]
  refine wpAnyH_take (i := 17) (oi := { dst := some 41, op := _, type := _, pos := _, after := _, guard := _ }) (v := ?_) rfl (by kernel_rfl) (by kernel_rfl) (by kernel_rfl) (fun _ _ _ h => h) (Or.inl ⟨by kernel_rfl, ?_⟩) Gx4 ?_
  rotate_left
  · (intro w hSw; go_simp; try with_reducible rfl)
  try simp only [Act.put, List.setIfInBounds_toArray, List.set_cons_zero, List.set_cons_succ]
  refine wpAnyH_take (i := 18) (oi := { dst := some 42, op := _, type := _, pos := _, after := _, guard := _ }) (v := ?_) rfl (by kernel_rfl) (by kernel_rfl) (by kernel_rfl) (fun _ _ _ h => h) (Or.inl ⟨by kernel_rfl, ?_⟩) Gx4 ?_
  rotate_left
  · (intro w hSw; go_simp; try with_reducible rfl)
  try simp only [Act.put, List.setIfInBounds_toArray, List.set_cons_zero, List.set_cons_succ]
  refine wpAnyH_take (i := 19) (oi := { dst := some 43, op := _, type := _, pos := _, after := _, guard := _ }) (v := ?_) rfl (by kernel_rfl) (by kernel_rfl) (by kernel_rfl) (fun _ _ _ h => h) (Or.inl ⟨by kernel_rfl, ?_⟩) Gx4 ?_
  rotate_left
  · (intro w hSw; go_simp; try with_reducible rfl)
  try simp only [Act.put, List.setIfInBounds_toArray, List.set_cons_zero, List.set_cons_succ]
  refine wpAnyH_take (i := 20) (oi := { dst := some 44, op := _, type := _, pos := _, after := _, guard := _ }) (v := .agg ((vcs V q).toArray)) rfl (by kernel_rfl) (by kernel_rfl) (by kernel_rfl) (fun _ _ _ h => h) (yieldsIf_load_mid (cs := vcs V q) (by rfl) _ _ rfl _ _ rfl _ (fun w' hSw => crng_bel hSw.out RV.out) Tryd.underlying69 rfl HVI.out) Gx4 ?_
  try simp only [Act.put, List.setIfInBounds_toArray, List.set_cons_zero, List.set_cons_succ]
  refine wpAnyH_take (i := 22) (oi := { dst := some 46, op := _, type := _, pos := _, after := _, guard := _ }) (v := ?_) rfl (by kernel_rfl) (by kernel_rfl) (by kernel_rfl) (fun _ _ _ h => h) (Or.inl ⟨by kernel_rfl, ?_⟩) Gx4 ?_
  rotate_left
  · (intro w hSw; go_simp; try with_reducible rfl)
  try simp only [Act.put, List.setIfInBounds_toArray, List.set_cons_zero, List.set_cons_succ]
  refine wpAnyH_take (i := 23) (oi := { dst := some 47, op := _, type := _, pos := _, after := _, guard := _ }) (v := .agg ((vcs V q).toArray)) rfl (by kernel_rfl) (by kernel_rfl) (by kernel_rfl) (fun _ _ _ h => h) (yieldsIf_load_mid (cs := vcs V q) (by rfl) _ _ rfl _ _ rfl _ (fun w' hSw => crng_bel hSw.out RV.out) Tryd.underlying69 rfl HVI.out) Gx4 ?_
  try simp only [Act.put, List.setIfInBounds_toArray, List.set_cons_zero, List.set_cons_succ]
  refine wpAnyH_ready (rs := [21]) (by kernel_rfl) (by simp) ?_
  refine (AllReadyH.cons (o := { dst := some 45, op := _, type := _, pos := _, after := _, guard := _ }) rfl (fun Qc hQc => ?_) AllReadyH.nil)
  go_simp
  go_at_call 36
  refine (CC1.out x4 Gx4.out).mono ?_
  rintro e x5 ⟨rfl, hb⟩
  have Gx5 := hid (Gx4.out.trans (hb.mono Gx4.out.size))
  clear hb
  go_wp2_with fail
  refine hQc.out _ _ Gx5 (fun hHeld => ?_)
  clear hQc Qc hHeld
  try simp only [Act.put, List.setIfInBounds_toArray, List.set_cons_zero, List.set_cons_succ]
  refine wpAnyH_ready (rs := [24]) (by kernel_rfl) (by simp) ?_
  refine (AllReadyH.cons (o := { dst := some 48, op := _, type := _, pos := _, after := _, guard := _ }) rfl (fun Qc hQc => ?_) AllReadyH.nil)
  go_simp
  go_at_call 37
  refine (CC2.out x5 Gx5.out).mono ?_
  rintro e x6 ⟨rfl, hb⟩
  have Gx6 := hid (Gx5.out.trans (hb.mono Gx5.out.size))
  clear hb
  go_wp2_with fail
  refine hQc.out _ _ Gx6 (fun hHeld => ?_)
  clear hQc Qc hHeld
  try simp only [Act.put, List.setIfInBounds_toArray, List.set_cons_zero, List.set_cons_succ]
  refine wpAnyH_take (i := 25) (oi := { dst := some 49, op := _, type := _, pos := _, after := _, guard := _ }) (v := ?_) rfl (by kernel_rfl) (by kernel_rfl) (by kernel_rfl) (fun _ _ _ h => h) (Or.inl ⟨by kernel_rfl, ?_⟩) Gx6 ?_
  rotate_left
  · (intro w hSw; go_simp; try with_reducible rfl)
  try simp only [Act.put, List.setIfInBounds_toArray, List.set_cons_zero, List.set_cons_succ]
  refine wpAnyH_take (i := 26) (oi := { dst := some 50, op := _, type := _, pos := _, after := _, guard := _ }) (v := ?_) rfl (by kernel_rfl) (by kernel_rfl) (by kernel_rfl) (fun _ _ _ h => h) (Or.inl ⟨by kernel_rfl, ?_⟩) Gx6 ?_
  rotate_left
  · (intro w hSw; go_simp; try with_reducible rfl)
  try simp only [Act.put, List.setIfInBounds_toArray, List.set_cons_zero, List.set_cons_succ]
  refine wpAnyH_take (i := 27) (oi := { dst := some 51, op := _, type := _, pos := _, after := _, guard := _ }) (v := ?_) rfl (by kernel_rfl) (by kernel_rfl) (by kernel_rfl) (fun _ _ _ h => h) (Or.inl ⟨by kernel_rfl, ?_⟩) Gx6 ?_
  rotate_left
  · (intro w hSw; go_simp; try with_reducible rfl)
  try simp only [Act.put, List.setIfInBounds_toArray, List.set_cons_zero, List.set_cons_succ]
  refine wpAnyH_take (i := 28) (oi := { dst := some 52, op := _, type := _, pos := _, after := _, guard := _ }) (v := ?_) rfl (by kernel_rfl) (by kernel_rfl) (by kernel_rfl) (fun _ _ _ h => h) (Or.inl ⟨by kernel_rfl, ?_⟩) Gx6 ?_
  rotate_left
  · (intro w hSw; go_simp; try with_reducible rfl)
  try simp only [Act.put, List.setIfInBounds_toArray, List.set_cons_zero, List.set_cons_succ]
  refine wpAnyH_take (i := 29) (oi := { dst := some 53, op := _, type := _, pos := _, after := _, guard := _ }) (v := .agg ((vcs V q).toArray)) rfl (by kernel_rfl) (by kernel_rfl) (by kernel_rfl) (fun _ _ _ h => h) (yieldsIf_load_mid (cs := vcs V q) (by rfl) _ _ rfl _ _ rfl _ (fun w' hSw => crng_bel hSw.out RV.out) Tryd.underlying69 rfl HVI.out) Gx6 ?_
  try simp only [Act.put, List.setIfInBounds_toArray, List.set_cons_zero, List.set_cons_succ]
  refine wpAnyH_take (i := 31) (oi := { dst := some 55, op := _, type := _, pos := _, after := _, guard := _ }) (v := ?_) rfl (by kernel_rfl) (by kernel_rfl) (by kernel_rfl) (fun _ _ _ h => h) (Or.inl ⟨by kernel_rfl, ?_⟩) Gx6 ?_
  rotate_left
  · (intro w hSw; go_simp; try with_reducible rfl)
  try simp only [Act.put, List.setIfInBounds_toArray, List.set_cons_zero, List.set_cons_succ]
  refine wpAnyH_take (i := 32) (oi := { dst := some 56, op := _, type := _, pos := _, after := _, guard := _ }) (v := .agg ((vcs V q).toArray)) rfl (by kernel_rfl) (by kernel_rfl) (by kernel_rfl) (fun _ _ _ h => h) (yieldsIf_load_mid (cs := vcs V q) (by rfl) _ _ rfl _ _ rfl _ (fun w' hSw => crng_bel hSw.out RV.out) Tryd.underlying69 rfl HVI.out) Gx6 ?_
  try simp only [Act.put, List.setIfInBounds_toArray, List.set_cons_zero, List.set_cons_succ]
  refine wpAnyH_ready (rs := [30]) (by kernel_rfl) (by simp) ?_
  refine (AllReadyH.cons (o := { dst := some 54, op := _, type := _, pos := _, after := _, guard := _ }) rfl (fun Qc hQc => ?_) AllReadyH.nil)
  go_simp
  go_at_call 39
  refine (CT1.out x6 Gx6.out).mono ?_
  rintro e x7 ⟨⟨A5, c5, rfl, h5, hf5⟩, hb⟩
  have Gx7 := hid (Gx6.out.trans (hb.mono Gx6.out.size))
  have F5 := hid (hf5.more (Nat.le_refl _))
  clear hb
  go_wp2_with fail
  refine hQc.out _ _ Gx7 (fun hHeld => ?_)
  clear hQc Qc hHeld
  try simp only [Act.put, List.setIfInBounds_toArray, List.set_cons_zero, List.set_cons_succ]
  refine wpAnyH_ready (rs := [33]) (by kernel_rfl) (by simp) ?_
  refine (AllReadyH.cons (o := { dst := some 57, op := _, type := _, pos := _, after := _, guard := _ }) rfl (fun Qc hQc => ?_) AllReadyH.nil)
  go_simp
  go_at_call 40
  refine (CT2.out x7 Gx7.out).mono ?_
  rintro e x8 ⟨⟨A6, c6, rfl, h6, hf6⟩, hb⟩
  have Gx8 := hid (Gx7.out.trans (hb.mono Gx7.out.size))
  have F6 := hid (hf6.more (Nat.le_refl _))
  have F5' := hid (F5.out.below hb)
  clear F5
  have F5 := F5'
  clear F5'
  clear hb
  go_wp2_with fail
  refine hQc.out _ _ Gx8 (fun hHeld => ?_)
  clear hQc Qc hHeld
  try simp only [Act.put, List.setIfInBounds_toArray, List.set_cons_zero, List.set_cons_succ]
  refine wpAnyH_ready (rs := [34]) (by kernel_rfl) (by simp) ?_
  refine (AllReadyH.cons (o := { dst := some 58, op := _, type := _, pos := _, after := _, guard := _ }) rfl (fun Qc hQc => ?_) AllReadyH.nil)
  go_simp
  go_at_call 38
  refine (csame_any x8 F5.out.rp0 F6.out.rp0 HXL.out HXL.out).mono ?_
  rintro e x9 ⟨rfl, hb⟩
  have Gx9 := hid (Gx8.out.trans (hb.mono Gx8.out.size))
  clear h5 h6
  clear hb
  go_wp2_with fail
  refine hQc.out _ _ Gx9 (fun hHeld => ?_)
  clear hQc Qc hHeld
  try simp only [Act.put, List.setIfInBounds_toArray, List.set_cons_zero, List.set_cons_succ]
  refine wpAnyH_take (i := 35) (oi := { dst := some 59, op := _, type := _, pos := _, after := _, guard := _ }) (v := ?_) rfl (by kernel_rfl) (by kernel_rfl) (by kernel_rfl) (fun _ _ _ h => h) (Or.inl ⟨by kernel_rfl, ?_⟩) Gx9 ?_
  rotate_left
  · (intro w hSw; go_simp; try with_reducible rfl)
  try simp only [Act.put, List.setIfInBounds_toArray, List.set_cons_zero, List.set_cons_succ]
  refine wpAnyH_take (i := 36) (oi := { dst := some 6, op := _, type := _, pos := _, after := _, guard := _ }) (v := ?_) rfl (by kernel_rfl) (by kernel_rfl) (by kernel_rfl) (fun _ _ _ h => h) (Or.inl ⟨by kernel_rfl, ?_⟩) Gx9 ?_
  rotate_left
  · (intro w hSw; go_simp; try with_reducible rfl)
  try simp only [Act.put, List.setIfInBounds_toArray, List.set_cons_zero, List.set_cons_succ]
  refine wpAnyH_done (by kernel_rfl) ?_ _
  try simp only [Act.put, List.setIfInBounds_toArray, List.set_cons_zero, List.set_cons_succ]
  go_wp2
  go_ret
  exact ⟨by simp, B2.out.trans (Gx9.out.mono B2.out.size)⟩
end Go.Proofs.YtjhaamffgkialaaDoor
