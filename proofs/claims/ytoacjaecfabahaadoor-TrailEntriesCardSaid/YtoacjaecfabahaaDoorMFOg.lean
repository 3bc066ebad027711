/-
  What is proved here: the range of a list's hashes, as the document makes it: the roots of the segments' parts.
-/
import Derived.Test.YtoacjaecfabahaaDoorMFGr
import Derived.Test.YtoacjaecfabahaaDoorMJM
set_option linter.unusedSimpArgs false
set_option linter.unusedVariables false
namespace Go.Proofs.YtoacjaecfabahaaDoor
open Go.ChangeShapes Go.WideShapes Go.ChangeAt Go.RowKit
set_option linter.unusedVariables false
set_option linter.unusedSimpArgs false
set_option maxRecDepth 20000

theorem own_cell2 {w : World} {n0 n c q : Nat} {X : List Int} {k : Nat} {z : Int} (h : OwI n0 w (.slice (some ⟨q, 0, none⟩) n c) X) (hk : X[k]? = some z) : w.cell? ⟨q, k, none⟩ = some (.int .i64 z) := by
  obtain ⟨q', e, hc⟩ := own_cell h hk
  injection e with e
  injection e with e
  rw [e]; exact hc
/-- the document's Of at work: the range's box, its hashes so far, the segments' sizes -/
structure OgI (w : World) (g : Nat) (x T : Int) (u : Value) (z7 : Value) (X : List Int) (v : Value) (L : List (List Int)) (W : World) : Prop where
  kr : Blk W w.heap.size 29 (rgc 0 0 (.slice none 0 0))
  kg : Blk W g 29 (rgc x T u)
  oi : OwI w.heap.size W z7 X
  ho : OwH w.heap.size W v L
  bl : Below w.heap.size w W
  gl : w.heap.size < g
section
variable {w x y : World} {g : Nat} {a T : Int} {u z7 v : Value} {X : List Int} {L : List (List Int)}
theorem OgI.below (H : OgI w g a T u z7 X v L x) (hb : Below x.heap.size x y) : OgI w g a T u z7 X v L y :=
  ⟨H.kr.below hb, H.kg.below hb, H.oi.below hb, H.ho.below hb, H.bl.trans (hb.mono H.bl.size), H.gl⟩
theorem OgI.app (H : OgI w g a T u z7 X v L x) {v' : Value} {L' : List (List Int)} (ho : OwH w.heap.size y v' L') (hg : x.grownBy y v.ownBlock) : OgI w g a T u z7 X v' L' y := by
  have ne : ∀ k {t : TypeId} {cs : Array Value}, Blk x k t cs → t ≠ 33 → some k ≠ v.ownBlock := fun k t cs hk ht e' => by
    obtain ⟨_, C, hC⟩ := H.ho.ty k e'.symm
    exact hk.ne hC ht rfl
  refine ⟨H.kr.same (hg.block _ H.kr.lt (ne _ H.kr (by decide))), H.kg.same (hg.block g H.kg.lt (ne g H.kg (by decide))), H.oi.keep (fun k hk => ?_), ho, H.bl.grown hg H.bl.size (fun k e => (H.ho.lt k e).1), H.gl⟩
  obtain ⟨_, C, hC⟩ := H.oi.ty k hk
  exact hg.block k hC.lt (ne k hC (by decide))
theorem OgI.field (H : OgI w g a T u z7 X v L x) (u' : Value) : OgI w g a T u' z7 X v L (x.setCell ⟨g, 2, none⟩ u') := by
  have hgl := H.gl
  refine ⟨H.kr.far (p := ⟨g, 2, none⟩) (show w.heap.size ≠ g by omega) u', H.kg.setd 2 u', H.oi.keep (fun k hk => ?_), H.ho.keep (fun k hk => ?_), ?_, H.gl⟩
  · obtain ⟨_, C, hC⟩ := H.oi.ty k hk
    exact Below.heap_setCell x _ _ k (hC.ne H.kg (by decide))
  · obtain ⟨_, C, hC⟩ := H.ho.ty k hk
    exact Below.heap_setCell x _ _ k (hC.ne H.kg (by decide))
  · exact H.bl.setCell (p := ⟨g, 2, none⟩) (Nat.le_of_lt H.gl) u'
end
theorem seg_split {x T : Nat} {E P : List Nat} {m : Nat} {R : List Nat} (hx : x ≤ T) (hE : seg x T = P ++ m :: R) : adv x P + 2 ^ m ≤ T := by
  have h1 := al_seg (T - x) (Nat.le_refl _) hx
  rw [hE, al_append] at h1
  have := al_le h1.2.2
  omega
set_option maxHeartbeats 16000000 in
theorem gOf_yes {w : World} {x : Nat} {A : Option Addr} {n c : Nat} {F : Nat → List Int} (hIn : InH w A n (lst F x n)) (hn : n ≤ 800) (hnc : n ≤ c) (hx : x + n ≤ 2147483647) :
    Calls Tryd.prog 14 #[.int .i64 (x : Int), .slice A n c] w (RgYes w ((x : Nat) : Int) ((x + n : Nat) : Int) (hsT (tw ndF F) x (seg x (x + n)))) := by
  have hz := zero_gRng
  obtain ⟨T, hT⟩ : ∃ T, T = x + n := ⟨_, rfl⟩
  obtain ⟨E, hE⟩ : ∃ E, E = seg x T := ⟨_, rfl⟩
  obtain ⟨g6, hg6⟩ : ∃ g6, g6 = w.heap.size + 1 := ⟨_, rfl⟩
  have HG6 := hid hg6
  have HE := hid hE; have HTT := hid hT; have HIN := hid hIn; have HN := hid hn; have HNC := hid hnc
  have h1 : ¬ ((x : Int) < 0) := by omega
  have h2 : ¬ ((2147483647 : Int) < (x : Int)) := by omega
  have h3 : ¬ ((2147483647 : Int) - (x : Int) < (n : Int)) := by omega
  have q1 : (x : Int) + (n : Int) = (T : Int) := by omega
  have HTM := hid (show T ≤ 2147483647 by omega)
  have hsg := fun w' => gSegs_any (x : Int) (T : Int) w'
  have e1 : segI (x : Int) (T : Int) = szs E := by
    unfold segI mayR
    rw [decide_eq_true (by omega : 0 ≤ (x : Int) ∧ (x : Int) ≤ (T : Int) ∧ (T : Int) ≤ 2147483647), if_pos rfl, Int.toNat_natCast, Int.toNat_natCast, ← hE]
  simp only [e1] at hsg
  have CS := hid hsg
  have HEF := hid (show (szs E).length ≤ 62 by rw [szs_len, hE]; exact seg_few (by omega))
  rw [← hT, ← hE]
  have KR := Blk.new w 29 (rgc 0 0 (.slice none 0 0))
  have K6 := Blk.new (w.alloc (.cells (rgc 0 0 (.slice none 0 0)) 29)) 29 (rgc (x : Int) (T : Int) (.slice none 0 0))
  rw [show (w.alloc (.cells (rgc 0 0 (.slice none 0 0)) 29)).heap.size = w.heap.size + 1 by simp, ← hg6] at K6
  have KR6 := KR.alloc (.cells (rgc (x : Int) (T : Int) (.slice none 0 0)) 29)
  have B6 := ((Below.refl w.heap.size w).alloc (Nat.le_refl _) (.cells (rgc 0 0 (.slice none 0 0)) 29)).alloc (by simp) (.cells (rgc (x : Int) (T : Int) (.slice none 0 0)) 29)
  have HK6 := hid K6; have HKR6 := hid KR6; have HB6 := hid B6
  have c0 := K6.cell 0
  have c1 := K6.cell 1
  have HI := hid (info_gRng (x : Int) (T : Int))
  clear K6 KR6 B6 KR hsg e1 hE hT hIn hn hnc hx hg6
  unfold RgYes
  unfold SgA at CS
  go_enter Tryd.func14, Tryd.ntmps14
  go_upto_region 4 with (first
    | (refine wpList_build rfl 29 _ rfl (built_gRng2 _ _) ?_)
    | (refine wpList_store_row rfl 29 (.tmp 6) (.tmp 28) rfl (w.heap.size + 1) (rgc (x : Int) (T : Int) (.slice none 0 0)) rfl rfl 29 (rgc 0 0 (.slice none 0 0)) (Blk.new _ _ _) (HI.out _) rfl (rgc_ones _ _ rfl) ?_))
  clear c0 c1
  rw [← HG6.out]
  have c0 := HK6.out.cell 0
  have c1 := HK6.out.cell 1
  have BW := hid HB6.out
  go_wp2_with (go_at_call 41; refine (CS.out _).mono ?_; rintro e w1 ⟨v7, rfl, ho7, hb7⟩)
  clear c0 c1
  have K7 := hid (HK6.out.below hb7)
  have KR7 := hid (HKR6.out.below hb7)
  have B7 := hid (HB6.out.trans (hb7.mono HB6.out.size))
  have O7 := hid (OwI.weak ho7 HB6.out.size)
  obtain ⟨A7, c7, hv7, hc7, _⟩ := O7.out.len
  generalize hn7 : (szs E).length = n7 at hv7 hc7
  have HN7 := hid hn7
  subst hv7
  have PI0 : Hid (OgI w g6 (x : Int) (T : Int) (.slice none 0 0) (.slice A7 n7 c7) (szs E) (.slice none 0 0) [] w1) := ⟨KR7.out, K7.out, O7.out, OwH.nil _ _, B7.out, by rw [HG6.out]; exact Nat.lt_succ_self _⟩
  clear ho7 hb7 hn7 hc7 K7 KR7 B7 O7 HK6 HKR6 HB6 BW
  go_loopw [1, 8] (fun s1 s8 wr => ∃ (j : Nat) (P R : List Nat) (p : Nat) (A1 : Option Addr) (n1 c1 : Nat) (v : Value), s1 = .slice A1 n1 c1 ∧ s8 = .int .i64 (j : Int) ∧ Hid (E = P ++ R) ∧ Hid (P.length = j) ∧ Hid (p = adv x P) ∧ Hid (p + n1 = T) ∧ Hid (n1 ≤ c1) ∧ Hid (InH w A1 n1 (lst F p n1)) ∧ Hid (OgI w g6 (x : Int) (T : Int) v (.slice A7 n7 c7) (szs E) v (hsT (tw ndF F) x P) wr)) (fun _ s _ => n7 - (intOf s).toNat)
  case atStart => exact ⟨0, [], E, x, A, n, c, .slice none 0 0, rfl, rfl, rfl, rfl, rfl, HTT.out.symm, HNC.out, HIN.out, PI0.out⟩
  case round =>
    obtain ⟨j, P, R, p, A1, n1, c1, v, rfl, rfl, HE1, HJ, HP, HN1, HC1, HI1, PI⟩ := hrel
    clear PI0
    have hjn : j + R.length = n7 := by rw [← HN7.out, szs_len, HE1.out, List.length_append, HJ.out]
    cases R with
    | cons m R =>
      have hj : j < n7 := by simp at hjn; omega
      have hj' : (j : Int) < (n7 : Int) := by omega
      have hn7b : n7 ≤ 62 := by rw [← HN7.out]; exact HEF.out
      have hEj : E[j]? = some m := by rw [HE1.out, List.getElem?_append_right (by rw [HJ.out]; exact Nat.le_refl _), HJ.out, Nat.sub_self]; rfl
      obtain ⟨z, hz⟩ : ∃ z, z = 2 ^ m := ⟨_, rfl⟩
      have hpz : p + z ≤ T := by rw [HP.out, hz]; exact seg_split (x := x) (T := T) (E := E) (by have := HTT.out; omega) (by rw [← HE.out]; exact HE1.out)
      have hzn : z ≤ n1 := by have := HN1.out; omega
      obtain ⟨q7, hq7, _⟩ := own_cell PI.out.oi (szs_get hEj)
      subst hq7
      obtain ⟨f, hf⟩ : ∃ f, f = tw ndF F p m := ⟨_, rfl⟩
      have hf2 : f = rootL ndF emp (lst F p z) := by rw [hf, hz]; exact tw_root ndF emp F m p
      have hcut := HI1.out.cut (c := c1) (l := 0) (m := z) (by omega) HC1.out
      rw [List.drop_zero, lst_take F p hzn] at hcut
      have hcut2 := HI1.out.cut (c := c1) (l := z) (m := n1 - z) (by omega) HC1.out
      rw [lst_drop F p hzn, List.take_of_length_le (by rw [lst_len]; exact Nat.le_refl _)] at hcut2
      have HF32 := hid (show H32 f from by rw [hf2]; exact root_ok hcut.ok)
      have HF := hid hf2
      have hxj := szs_get hEj
      rw [← hz] at hxj
      have HXJ := hid hxj
      have HCUT := hid hcut; have HI2 := hid hcut2
      have HZN := hid (show z < 1000000 by have := HN.out; have := HN1.out; have := HTT.out; have := adv_mono x P; have := HP.out; omega)
      have HZC := hid (show z ≤ c1 by have := HC1.out; omega)
      have HZN1 := hid hzn
      have HLL := hid (show (hsT (tw ndF F) x P).length + 1 < 1000000 by rw [hs_len, HJ.out]; have := HEF.out; have := HN7.out; omega)
      have HSP := hid (show E = (P ++ [m]) ++ R by rw [List.append_assoc]; exact HE1.out)
      have HJL := hid (show (P ++ [m]).length = j + 1 by rw [List.length_append, HJ.out]; rfl)
      have HPZ := hid (show p + z = adv x (P ++ [m]) by rw [adv_snc, ← HP.out, hz])
      have HPN := hid (show p + z + (n1 - z) = T by have := HN1.out; omega)
      have HC2 := hid (show n1 - z ≤ c1 - z by have := HC1.out; omega)
      have HLS : Hid (hsT (tw ndF F) x P ++ [f] = hsT (tw ndF F) x (P ++ [m])) := by show _ = _; rw [hs_append, ← HP.out, hf]; rfl
      generalize hsT (tw ndF F) x P = L at PI HLL HLS
      have PX := PI
      clear PI hcut hcut2 hf hf2 hxj hz hpz hzn hEj hjn
      go_wp2
      refine wp_region_L (B := fun w' => Hid (OgI w (g6) (x : Int) (T : Int) v (.slice (some ⟨q7, 0, none⟩) n7 c7) (szs E) v L w')) [10, 12] (by kernel_rfl) ?_
      change wpAnyL _ _ _ _ _ _ _ _ _ wr.drew
      have Gx0 : Hid (OgI w (g6) (x : Int) (T : Int) v (.slice (some ⟨q7, 0, none⟩) n7 c7) (szs E) v L wr.drew) := PX.out.below ((Below.refl _ _).drew)
      have PX' : Hid (OgI w (g6) (x : Int) (T : Int) v (.slice (some ⟨q7, 0, none⟩) n7 c7) (szs E) v L wr.drew) := PX.out.below ((Below.refl _ _).drew)
      clear PX
      have PX := PX'
      clear PX'
      generalize wr.drew = x0 at Gx0 PX ⊢
      refine wpAnyL_pure (i := 0) (oi := { dst := some 40, op := _, type := _, pos := _, after := _, guard := _ }) (v := ?_) rfl (by kernel_rfl) (by kernel_rfl) (by kernel_rfl) (by rfl) (fun _ _ _ h => h) (Or.inl ⟨by kernel_rfl, ?_⟩) (fun _ => Gx0) ?_
      rotate_left
      · (intro w _; go_simp; try with_reducible rfl)
      try simp only [Act.put, List.setIfInBounds_toArray, List.set_cons_zero, List.set_cons_succ]
      refine wpAnyL_take (i := 1) (oi := { dst := some 41, op := _, type := _, pos := _, after := _, guard := _ }) (v := ?_) [10, 11, 12] rfl (by kernel_rfl) (by kernel_rfl) (by kernel_rfl) (by kernel_rfl) (fun _ _ _ h => h) (Or.inl ⟨by kernel_rfl, ?_⟩) Gx0 ?_
      rotate_left
      · (intro w hSw; have c1 : w.cell? ⟨g6, 2, none⟩ = some v := hSw.out.kg.cell 2; go_simp; try with_reducible rfl)
      try simp only [Act.put, List.setIfInBounds_toArray, List.set_cons_zero, List.set_cons_succ]
      refine wpAnyL_pure (i := 2) (oi := { dst := some 42, op := _, type := _, pos := _, after := _, guard := _ }) (v := ?_) rfl (by kernel_rfl) (by kernel_rfl) (by kernel_rfl) (by rfl) (fun _ _ _ h => h) (Or.inl ⟨by kernel_rfl, ?_⟩) (fun _ => Gx0) ?_
      rotate_left
      · (intro w _; go_simp; try with_reducible rfl)
      try simp only [Act.put, List.setIfInBounds_toArray, List.set_cons_zero, List.set_cons_succ]
      refine wpAnyL_pure (i := 3) (oi := { dst := some 43, op := _, type := _, pos := _, after := _, guard := _ }) (v := ?_) rfl (by kernel_rfl) (by kernel_rfl) (by kernel_rfl) (by rfl) (fun _ _ _ h => h) (Or.inl ⟨by kernel_rfl, ?_⟩) (fun _ => Gx0) ?_
      rotate_left
      · (intro w _; go_simp; try with_reducible rfl)
      try simp only [Act.put, List.setIfInBounds_toArray, List.set_cons_zero, List.set_cons_succ]
      refine wpAnyL_pure (i := 4) (oi := { dst := some 44, op := _, type := _, pos := _, after := _, guard := _ }) (v := ?_) rfl (by kernel_rfl) (by kernel_rfl) (by kernel_rfl) (by rfl) (fun _ _ _ h => h) (Or.inl ⟨by kernel_rfl, ?_⟩) (fun _ => Gx0) ?_
      rotate_left
      · (intro w _; go_simp; try with_reducible rfl)
      try simp only [Act.put, List.setIfInBounds_toArray, List.set_cons_zero, List.set_cons_succ]
      refine wpAnyL_pure (i := 5) (oi := { dst := some 45, op := _, type := _, pos := _, after := _, guard := _ }) (v := ?_) rfl (by kernel_rfl) (by kernel_rfl) (by kernel_rfl) (by rfl) (fun _ _ _ h => h) (Or.inl ⟨by kernel_rfl, ?_⟩) (fun _ => Gx0) ?_
      rotate_left
      · (intro w _; go_simp; try with_reducible rfl)
      try simp only [Act.put, List.setIfInBounds_toArray, List.set_cons_zero, List.set_cons_succ]
      refine wpAnyL_take (i := 6) (oi := { dst := some 46, op := _, type := _, pos := _, after := _, guard := _ }) (v := ?_) [7, 8, 9, 10, 11, 12] rfl (by kernel_rfl) (by kernel_rfl) (by kernel_rfl) (by kernel_rfl) (fun _ _ _ h => h) (Or.inl ⟨by kernel_rfl, ?_⟩) Gx0 ?_
      rotate_left
      · (intro w hSw; have c2 : w.cell? ⟨q7, j, none⟩ = some (.int .i64 (z : Int)) := own_cell2 hSw.out.oi HXJ.out; go_simp; try with_reducible rfl)
      try simp only [Act.put, List.setIfInBounds_toArray, List.set_cons_zero, List.set_cons_succ]
      refine wpAnyL_take (i := 7) (oi := { dst := some 47, op := _, type := _, pos := _, after := _, guard := _ }) (v := .slice (slA A1 0 c1 32) z c1) [8, 9, 10, 11, 12] rfl (by kernel_rfl) (by kernel_rfl) (by kernel_rfl) (by kernel_rfl) (fun _ _ _ h => h) (Or.inl ⟨by kernel_rfl, ?_⟩) Gx0 ?_
      · (intro w hSw; exact exec_cutH rfl A1 n1 c1 z rfl rfl HZC.out w)
      try simp only [Act.put, List.setIfInBounds_toArray, List.set_cons_zero, List.set_cons_succ]
      refine wpAnyL_ready (rs := [8]) (by kernel_rfl) (by simp) ?_
      refine (AllReadyL.cons (o := { dst := some 48, op := _, type := _, pos := _, after := _, guard := _ }) rfl (fun Qc hQc => ?_) AllReadyL.nil)
      go_simp
      have hcg := gList_any (HCUT.out.below PX.out.bl) HZN.out HZC.out
      rw [← HF.out] at hcg
      have CG := hid hcg
      clear hcg
      go_at_call 19
      refine CG.out.mono ?_
      clear CG
      rintro e1 x1 ⟨rfl, hb⟩
      have PY := hid (PX.out.below hb)
      have Gx1 := PY
      clear hb PX
      have PX := PY
      clear PY
      go_wp2_with fail
      refine hQc.out _ _ (fun _ => Gx1) ?_
      clear hQc Qc
      try simp only [Act.put, List.setIfInBounds_toArray, List.set_cons_zero, List.set_cons_succ]
      refine wpAnyL_ready (rs := [9]) (by kernel_rfl) (by simp) ?_
      refine (AllReadyL.cons (o := { dst := some 49, op := _, type := _, pos := _, after := _, guard := _ }) rfl (fun Qc hQc => ?_) AllReadyL.nil)
      rw [if_pos (by rfl)]
      refine wp_hash_one (.tmp 48) rfl f HF32.out rfl ?_
      have NB : Hid (Blk (x1.alloc (.cells (hcs [f]).toArray 33)) x1.heap.size 33 (hcs [f]).toArray) := Blk.new x1 33 (hcs [f]).toArray
      have hb : Below x1.heap.size x1 (x1.alloc (.cells (hcs [f]).toArray 33)) := (Below.refl _ _).alloc (Nat.le_refl _) _
      have PY := hid (PX.out.below hb)
      have Gx2 := PY
      clear hb PX
      refine hQc.out _ _ (fun _ => Gx2) ?_
      clear hQc Qc
      generalize x1.heap.size = g9 at NB ⊢
      generalize x1.alloc (.cells (hcs [f]).toArray 33) = x2 at NB PY Gx2 ⊢
      have PX := PY
      clear PY
      try simp only [Act.put, List.setIfInBounds_toArray, List.set_cons_zero, List.set_cons_succ]
      refine wpAnyL_ready (rs := [10]) (by kernel_rfl) (by simp) ?_
      refine (AllReadyL.cons (o := { dst := some 50, op := _, type := _, pos := _, after := _, guard := _ }) rfl (fun Qc hQc => ?_) AllReadyL.nil)
      rw [if_pos (by rfl)]
      refine wp_app_h1 (.tmp 41) (.tmp 49) rfl w.heap.size v L rfl PX.out.ho g9 f HF32.out NB.out rfl HLL.out PX.out.bl.size ?_
      intro v' x3 ho hg _
      obtain ⟨B9, d9, hv9, _, _⟩ := ho.len
      generalize (L ++ [f]).length = n9 at hv9
      subst hv9
      have PY := hid (PX.out.app ho hg)
      clear ho hg NB PX
      refine hQc.out _ _ (unl_no (d := 10) (by rfl) (by kernel_rfl)) ?_
      clear hQc Qc
      have PX := PY
      clear PY
      try simp only [Act.put, List.setIfInBounds_toArray, List.set_cons_zero, List.set_cons_succ]
      refine wpAnyL_pure (i := 11) (oi := { dst := some 51, op := _, type := _, pos := _, after := _, guard := _ }) (v := ?_) rfl (by kernel_rfl) (by kernel_rfl) (by kernel_rfl) (by rfl) (fun _ _ _ h => h) (Or.inl ⟨by kernel_rfl, ?_⟩) (unl_no (d := 10) (by rfl) (by kernel_rfl)) ?_
      rotate_left
      · (intro w _; go_simp; try with_reducible rfl)
      try simp only [Act.put, List.setIfInBounds_toArray, List.set_cons_zero, List.set_cons_succ]
      refine wpAnyL_ready (rs := [12]) (by kernel_rfl) (by simp) ?_
      refine (AllReadyL.cons (o := { dst := none, op := _, type := _, pos := _, after := _, guard := _ }) rfl (fun Qc hQc => ?_) AllReadyL.nil)
      have c1 : x3.cell? ⟨g6, 2, none⟩ = some v := PX.out.kg.cell 2
      have f1 : x3.frozen? ⟨g6, 2, none⟩ = false := PX.out.kg.frozen 2
      go_simp
      clear c1 f1
      have PY := hid (PX.out.field (.slice B9 n9 d9))
      refine hQc.out _ _ (unl_no (d := 12) (by rfl) (by kernel_rfl)) ?_
      clear hQc Qc PX
      generalize x3.setCell ⟨g6, 2, none⟩ (.slice B9 n9 d9) = x4 at PY ⊢
      have PX := PY
      clear PY
      try simp only [Act.put, List.setIfInBounds_toArray, List.set_cons_zero, List.set_cons_succ]
      refine wpAnyL_done (by kernel_rfl) ?_ _
      try simp only [Act.put, List.setIfInBounds_toArray, List.set_cons_zero, List.set_cons_succ]
      have c2 : x4.cell? ⟨q7, j, none⟩ = some (.int .i64 (z : Int)) := own_cell2 PX.out.oi HXJ.out
      go_wp2_with (refine cutL_at rfl (.tmp 52) (.tmp 56) rfl A1 n1 c1 z rfl rfl HZN1.out ?_)
      have PN := PX
      rw [HLS.out] at PN
      clear c2
      go_roundw
      case rel => exact ⟨j + 1, P ++ [m], R, p + z, slA A1 z c1 32, n1 - z, c1 - z, .slice B9 n9 d9, rfl, by go_num, HSP.out, HJL.out, HPZ.out, HPN.out, HC2.out, HI2.out, PN.out⟩
      case measure => simp [intOf]; omega
    | nil =>
      have hj : j = n7 := by simpa using hjn
      subst hj
      have hnl : ¬ ((j : Int) < (j : Int)) := by omega
      have HPE : Hid (E = P) := by show _ = _; rw [HE1.out, List.append_nil]
      clear hjn
      obtain ⟨A9, c9, hv9, _, _⟩ := PI.out.ho.len
      have HPL : Hid (hsT (tw ndF F) x P = hsT (tw ndF F) x E) := by show _ = _; rw [HPE.out]
      generalize hsT (tw ndF F) x P = L at PI hv9 HPL
      generalize L.length = n9 at hv9
      subst hv9
      have KR := hid PI.out.kr
      have BL := hid PI.out.bl
      have HIV := hid (HI.out (.slice A9 n9 c9))
      have hok : OwH w.heap.size wr (.slice A9 n9 c9) (hsT (tw ndF F) x E) := by rw [← HPL.out]; exact PI.out.ho
      have HOK := hid (hok.keep (w' := wr.setRow w.heap.size (rgc (x : Int) (T : Int) (.slice A9 n9 c9))) (fun k hk => by
        obtain ⟨_, C, hC⟩ := hok.ty k hk
        exact setRow_other _ _ _ _ (hC.ne KR.out (by decide))))
      clear hok
      go_wp2_with (first
        | (refine load_at rfl 29 (.tmp 6) rfl g6 0 rfl _ _ (gblk_rng PI.out.kg) Tryd.underlying29 rfl HIV.out (rgc (x : Int) (T : Int) (.slice A9 n9 c9)) rfl ?_)
        | (refine wpList_store_row rfl 29 (.tmp 4) (.tmp 58) rfl w.heap.size (rgc (x : Int) (T : Int) (.slice A9 n9 c9)) rfl rfl 29 (rgc 0 0 (.slice none 0 0)) KR.out HIV.out rfl (rgc_ones _ _ rfl) ?_))
      try go_frame
      refine bodyPost_ret (results_cell_slot Tryd.results14 _ _ w.heap.size 29 (rgc (x : Int) (T : Int) (.slice A9 n9 c9)) (0, 0) _ rfl (KR.out.row _) Tryd.underlying29 rfl HIV.out) rfl ?_
      exact ⟨_, rfl, HOK.out, below_setRow BL.out (Nat.le_refl _) _⟩
end Go.Proofs.YtoacjaecfabahaaDoor
