/-
  What is proved here: all nodes have the text that the chapter says: the walk of the statement.
-/
import Derived.Test.YtdeohkgdmbfocaaDoorMXA
set_option linter.unusedSimpArgs false
set_option linter.unusedVariables false
namespace Go.Proofs.YtdeohkgdmbfocaaDoor
open Go.ChangeShapes Go.WideShapes Go.ChangeAt Go.RowKit
set_option linter.unusedVariables false
set_option linter.unusedSimpArgs false
set_option maxRecDepth 20000

theorem exec_build {P : Program} {o : Oper} {a : Act} (t : TypeId) (parts : Array (Nat × Operand)) (ho : o.op = .build t parts) (cells : Array Value) (hb : P.built t (parts.map fun (i, x) => (i, a.eval x)).toList = some cells) (w : World) : (execOp a.eval o).run P w = .ok (.value (.agg cells)) w := by
  unfold execOp
  simp only [ho, Sem.run_bind, run_build w t _ cells hb, Result.andThen_ok]
  rfl
theorem info_pair : (Tryd.prog.info? 36).map (fun i => (i.zero, i.size, i.bytes)) = some (some (.agg (kvc (z32, z32)).toArray), 64, 64) := by kernel_rfl
theorem pair_places : ∃ fields, Tryd.prog.underlying 36 = some (.struct fields) ∧ fields.toList.mapM (fun f => (Tryd.prog.info? f.type).map fun i => (f.offset, i.size)) = some [(0, 32), (32, 32)] := ⟨_, Tryd.underlying36, by kernel_rfl⟩
theorem kvc_len {q : KV} (h1 : Ky q.1) (h2 : Ky q.2) : (kvc q).length = 64 := by unfold kvc; rw [List.length_append, u8s_length, u8s_length, h1.len, h2.len]
theorem pair_built {k v : List Int} (hk : Ky k) (hv : Ky v) : Tryd.prog.built 36 [(0, .agg (kc k)), (1, .agg (kc v))] = some (kvc (k, v)).toArray := by
  obtain ⟨i0, hi, hz0, hz1, hz2⟩ := info_parts info_pair
  obtain ⟨fields, hu, hpl⟩ := pair_places
  unfold Program.built
  rw [hi, hu]
  simp only [hz0, hpl]
  have e3 : (Value.agg (kvc (z32, z32)).toArray).cells = (kvc (z32, z32)).toArray := rfl
  have sz : (kvc (z32, z32)).toArray.size = 64 := rfl
  rw [e3, fill_step (v := .agg (kc k)) (off := 0) (size := 32) rfl (kc_size hk) (by simp only [putRow_len, sz]; decide), fill_step (v := .agg (kc v)) (off := 32) (size := 32) rfl (kc_size hv) (by simp only [putRow_len, sz]; decide), fill_end]
  have c1 : (Value.agg (kc k)).cells.toList = u8s k := rfl
  have c2 : (Value.agg (kc v)).cells.toList = u8s v := rfl
  rw [c1, c2]
  have p1 : putRow (kvc (z32, z32)).toArray 0 (u8s k) = (u8s k ++ u8s z32).toArray := putRow_mid (A := []) (M := u8s z32) (M' := u8s k) (C := u8s z32) rfl (by rw [u8s_length, u8s_length, hk.len]; rfl)
  have p2 : putRow (u8s k ++ (u8s z32 ++ [])).toArray 32 (u8s v) = (u8s k ++ (u8s v ++ [])).toArray := putRow_mid (A := u8s k) (M := u8s z32) (by rw [u8s_length, hk.len]) (by rw [u8s_length, u8s_length, hv.len]; rfl)
  rw [List.append_nil, List.append_nil] at p2
  rw [p1, p2]
  rfl
theorem same_yes {A B : Option Addr} {c d : Nat} {X : List Int} {w : World} (hx : Rp w none A X) (hy : Rp w none B X) (hl : X.length < 1000000000000) :
    Calls Tryd.prog 20 #[.slice A X.length c, .slice B X.length d] w fun e w' => e = .returned (.bool true) ∧ Below w.heap.size w w' :=
  (Same_quiet A B c d X X w hx hy hl hl).mono fun e w' ⟨he, q, hw⟩ => ⟨by rw [he, decide_eq_true rfl], by rw [hw]; exact pbelow_drewN (Below.refl _ _) q⟩
set_option maxHeartbeats 8000000 in
theorem texts_leaf (q : Nd) (l r : List Int) (w : World) (hq : NdOk q) (hl : q.leaf = true) (hkl : Ky l) (hkr : Ky r) (ht : Tab w) : Calls Tryd.prog 5 #[.agg (nc q).toArray, .agg (kc l), .agg (kc r)] w fun e w' => e = .returned (.bool true) ∧ Below w.heap.size w w' := by
  obtain ⟨hk1, hk2, hk3, hb0⟩ := three_blks w (nc q).toArray (kc l) (kc r) 56 24 24
  have NA := hid (hk1.node hq); have K2 := hid hk2; have K3 := hid hk3
  have G0 := hid hb0
  have HT := hid (ht.below hb0)
  have HQI := hid (node_info hq); have HLI := hid (u8s_info hkl); have HRI := hid (u8s_info hkr); have HKI := hid (u8s_info hq.k); have HVI := hid (u8s_info hq.v)
  have HQ := hid hq; have HLF := hid hl; have HKL := hid hkl; have HKR := hid hkr
  have cl := NA.out.leaf
  rw [hl] at cl
  have HPB := hid (pair_built hq.k hq.v)
  have HXL : Hid ((leafT q.k q.v).length < 1000000000000) := leaf_tlen hq.k hq.v
  clear hk1 hk2 hk3 hb0 hq hl hkl hkr ht
  go_enter Tryd.func5, Tryd.ntmps5
  go_wp2
  generalize ((w.alloc (.cells (nc q).toArray 56)).alloc (.cells (kc l) 24)).alloc (.cells (kc r) 24) = w0 at NA K2 K3 G0 HT cl ⊢
  clear cl
  refine wp_region_held (S := fun w' => Hid (Below w0.heap.size w0 w')) (by kernel_rfl) ?_
  change wpAnyH _ _ _ _ _ _ _ _ w0.drew
  have Gx0 : Hid (Below w0.heap.size w0 w0.drew) := (Below.refl _ _).drew
  generalize w0.drew = x0 at Gx0  ⊢
  refine wpAnyH_ready (rs := [0]) (by kernel_rfl) (by simp) ?_
  refine (AllReadyH.cons (o := { dst := some 9, op := _, type := _, pos := _, after := _, guard := _ }) rfl (fun Qc hQc => ?_) AllReadyH.nil)
  go_simp
  go_at_call 9
  refine (xawake_any x0 (HT.out.below Gx0.out)).mono ?_
  rintro e x1 ⟨rfl, hb⟩
  have Gx1 := hid (Gx0.out.trans (hb.mono Gx0.out.size))
  clear hb
  go_wp2_with fail
  refine hQc.out _ _ Gx1 (fun hHeld => ?_)
  clear hQc Qc hHeld
  try simp only [Act.put, List.setIfInBounds_toArray, List.set_cons_zero, List.set_cons_succ]
  refine wpAnyH_take (i := 1) (oi := { dst := some 10, op := _, type := _, pos := _, after := _, guard := _ }) (v := ?_) rfl (by kernel_rfl) (by kernel_rfl) (by kernel_rfl) (fun _ _ _ h => h) (Or.inl ⟨by kernel_rfl, ?_⟩) Gx1 ?_
  rotate_left
  · (intro w hSw; go_simp; try with_reducible rfl)
  try simp only [Act.put, List.setIfInBounds_toArray, List.set_cons_zero, List.set_cons_succ]
  refine wpAnyH_take (i := 2) (oi := { dst := some 11, op := _, type := _, pos := _, after := _, guard := _ }) (v := .agg ((nc q).toArray)) rfl (by kernel_rfl) (by kernel_rfl) (by kernel_rfl) (fun _ _ _ h => h) (yieldsIf_load_mid (cs := nc q) (by rfl) _ _ rfl _ _ rfl _ (fun w' hSw => (rng_bel hSw.out NA.out.all)) Tryd.underlying56 rfl HQI.out) Gx1 ?_
  try simp only [Act.put, List.setIfInBounds_toArray, List.set_cons_zero, List.set_cons_succ]
  refine wpAnyH_take (i := 3) (oi := { dst := some 12, op := _, type := _, pos := _, after := _, guard := _ }) (v := .agg ((kc l))) rfl (by kernel_rfl) (by kernel_rfl) (by kernel_rfl) (fun _ _ _ h => h) (yieldsIf_load_mid (cs := u8s l) (by rfl) _ _ rfl _ _ rfl _ (fun w' hSw => (rng_bel hSw.out (blk_key K2.out))) Tryd.underlying24 rfl HLI.out) Gx1 ?_
  try simp only [Act.put, List.setIfInBounds_toArray, List.set_cons_zero, List.set_cons_succ]
  refine wpAnyH_take (i := 4) (oi := { dst := some 13, op := _, type := _, pos := _, after := _, guard := _ }) (v := .agg ((kc r))) rfl (by kernel_rfl) (by kernel_rfl) (by kernel_rfl) (fun _ _ _ h => h) (yieldsIf_load_mid (cs := u8s r) (by rfl) _ _ rfl _ _ rfl _ (fun w' hSw => (rng_bel hSw.out (blk_key K3.out))) Tryd.underlying24 rfl HRI.out) Gx1 ?_
  try simp only [Act.put, List.setIfInBounds_toArray, List.set_cons_zero, List.set_cons_succ]
  refine wpAnyH_take (i := 6) (oi := { dst := some 15, op := _, type := _, pos := _, after := _, guard := _ }) (v := ?_) rfl (by kernel_rfl) (by kernel_rfl) (by kernel_rfl) (fun _ _ _ h => h) (Or.inl ⟨by kernel_rfl, ?_⟩) Gx1 ?_
  rotate_left
  · (intro w hSw; go_simp; try with_reducible rfl)
  try simp only [Act.put, List.setIfInBounds_toArray, List.set_cons_zero, List.set_cons_succ]
  refine wpAnyH_take (i := 7) (oi := { dst := some 16, op := _, type := _, pos := _, after := _, guard := _ }) (v := .agg ((kc q.k))) rfl (by kernel_rfl) (by kernel_rfl) (by kernel_rfl) (fun _ _ _ h => h) (yieldsIf_load_mid (cs := u8s q.k) (by rfl) _ _ rfl _ _ rfl _ (fun w' hSw => (rng_bel hSw.out NA.out.key)) Tryd.underlying24 rfl HKI.out) Gx1 ?_
  try simp only [Act.put, List.setIfInBounds_toArray, List.set_cons_zero, List.set_cons_succ]
  refine wpAnyH_take (i := 8) (oi := { dst := some 17, op := _, type := _, pos := _, after := _, guard := _ }) (v := ?_) rfl (by kernel_rfl) (by kernel_rfl) (by kernel_rfl) (fun _ _ _ h => h) (Or.inl ⟨by kernel_rfl, ?_⟩) Gx1 ?_
  rotate_left
  · (intro w hSw; go_simp; try with_reducible rfl)
  try simp only [Act.put, List.setIfInBounds_toArray, List.set_cons_zero, List.set_cons_succ]
  refine wpAnyH_take (i := 9) (oi := { dst := some 18, op := _, type := _, pos := _, after := _, guard := _ }) (v := .agg ((kc q.v))) rfl (by kernel_rfl) (by kernel_rfl) (by kernel_rfl) (fun _ _ _ h => h) (yieldsIf_load_mid (cs := u8s q.v) (by rfl) _ _ rfl _ _ rfl _ (fun w' hSw => (rng_bel hSw.out NA.out.val)) Tryd.underlying24 rfl HVI.out) Gx1 ?_
  try simp only [Act.put, List.setIfInBounds_toArray, List.set_cons_zero, List.set_cons_succ]
  refine wpAnyH_take (i := 10) (oi := { dst := some 19, op := _, type := _, pos := _, after := _, guard := _ }) (v := .agg (kvc (q.k, q.v)).toArray) rfl (by kernel_rfl) (by kernel_rfl) (by kernel_rfl) (fun _ _ _ h => h) (Or.inl ⟨by kernel_rfl, ?_⟩) Gx1 ?_
  · (intro w hSw; have hbw := HPB.out; exact exec_build 36 #[(0, .tmp 16), (1, .tmp 18)] rfl _ (by simp only [List.map_toArray, List.map_cons, List.map_nil, Act.eval]; exact hbw) w)
  try simp only [Act.put, List.setIfInBounds_toArray, List.set_cons_zero, List.set_cons_succ]
  refine wpAnyH_ready (rs := [5]) (by kernel_rfl) (by simp) ?_
  refine (AllReadyH.cons (o := { dst := some 14, op := _, type := _, pos := _, after := _, guard := _ }) rfl (fun Qc hQc => ?_) AllReadyH.nil)
  go_simp
  go_at_call 21
  refine (xText_leaf q l r x1 HQ.out HLF.out HKL.out HKR.out).mono ?_
  rintro e x2 ⟨A5, c5, rfl, h5, hf5, hb⟩
  have Gx2 := hid (Gx1.out.trans (hb.mono Gx1.out.size))
  have R5 := hid hf5.rp0
  clear hb h5 hf5
  go_wp2_with fail
  refine hQc.out _ _ Gx2 (fun hHeld => ?_)
  clear hQc Qc hHeld
  try simp only [Act.put, List.setIfInBounds_toArray, List.set_cons_zero, List.set_cons_succ]
  refine wpAnyH_ready (rs := [11]) (by kernel_rfl) (by simp) ?_
  refine (AllReadyH.cons (o := { dst := some 20, op := _, type := _, pos := _, after := _, guard := _ }) rfl (fun Qc hQc => ?_) AllReadyH.nil)
  go_simp
  go_at_call 22
  refine (yLeaf_any q.k q.v x2 HQ.out.k HQ.out.v).mono ?_
  rintro e x3 ⟨A6, c6, rfl, h6, hf6, hb⟩
  have Gx3 := hid (Gx2.out.trans (hb.mono Gx2.out.size))
  have R6 := hid hf6.rp0
  have HB56 := hid hb
  clear hb h6 hf6
  go_wp2_with fail
  refine hQc.out _ _ Gx3 (fun hHeld => ?_)
  clear hQc Qc hHeld
  try simp only [Act.put, List.setIfInBounds_toArray, List.set_cons_zero, List.set_cons_succ]
  refine wpAnyH_ready (rs := [12]) (by kernel_rfl) (by simp) ?_
  refine (AllReadyH.cons (o := { dst := some 21, op := _, type := _, pos := _, after := _, guard := _ }) rfl (fun Qc hQc => ?_) AllReadyH.nil)
  go_simp
  go_at_call 20
  refine (same_yes (R5.out.belowN HB56.out) R6.out HXL.out).mono ?_
  rintro e x4 ⟨rfl, hb⟩
  have Gx4 := hid (Gx3.out.trans (hb.mono Gx3.out.size))
  clear hb
  go_wp2_with fail
  refine hQc.out _ _ Gx4 (fun hHeld => ?_)
  clear hQc Qc hHeld
  try simp only [Act.put, List.setIfInBounds_toArray, List.set_cons_zero, List.set_cons_succ]
  refine wpAnyH_take (i := 13) (oi := { dst := some 22, op := _, type := _, pos := _, after := _, guard := _ }) (v := ?_) rfl (by kernel_rfl) (by kernel_rfl) (by kernel_rfl) (fun _ _ _ h => h) (Or.inl ⟨by kernel_rfl, ?_⟩) Gx4 ?_
  rotate_left
  · (intro w hSw; go_simp; try with_reducible rfl)
  try simp only [Act.put, List.setIfInBounds_toArray, List.set_cons_zero, List.set_cons_succ]
  refine wpAnyH_take (i := 14) (oi := { dst := some 6, op := _, type := _, pos := _, after := _, guard := _ }) (v := ?_) rfl (by kernel_rfl) (by kernel_rfl) (by kernel_rfl) (fun _ _ _ h => h) (Or.inl ⟨by kernel_rfl, ?_⟩) Gx4 ?_
  rotate_left
  · (intro w hSw; go_simp; try with_reducible rfl)
  try simp only [Act.put, List.setIfInBounds_toArray, List.set_cons_zero, List.set_cons_succ]
  refine wpAnyH_done (by kernel_rfl) ?_ _
  try simp only [Act.put, List.setIfInBounds_toArray, List.set_cons_zero, List.set_cons_succ]
  go_wp2
  go_ret
  exact ⟨rfl, G0.out.trans (Gx4.out.mono G0.out.size)⟩
set_option maxHeartbeats 8000000 in
theorem texts_inner (q : Nd) (l r : List Int) (w : World) (hq : NdOk q) (hl : q.leaf = false) (hkl : Ky l) (hkr : Ky r) (ht : Tab w) : Calls Tryd.prog 5 #[.agg (nc q).toArray, .agg (kc l), .agg (kc r)] w fun e w' => e = .returned (.bool true) ∧ Below w.heap.size w w' := by
  obtain ⟨hk1, hk2, hk3, hb0⟩ := three_blks w (nc q).toArray (kc l) (kc r) 56 24 24
  have NA := hid (hk1.node hq); have K2 := hid hk2; have K3 := hid hk3
  have G0 := hid hb0
  have HT := hid (ht.below hb0)
  have HQI := hid (node_info hq); have HLI := hid (u8s_info hkl); have HRI := hid (u8s_info hkr); have HKI := hid (u8s_info hq.k); have HVI := hid (u8s_info hq.v)
  have HQ := hid hq; have HLF := hid hl; have HKL := hid hkl; have HKR := hid hkr
  have cl := NA.out.leaf
  rw [hl] at cl
  have cn := NA.out.len
  have HPI := hid (pcl_info q.n hq.b)
  have CA := hid (fun w1 (hb : Below w.heap.size w w1) => xawake_any w1 (ht.below hb))
  have HXL : Hid ((innerT q.n q.b l r).length < 1000000000000) := inner_tlen hq.b hkl hkr
  have HEQ : Hid (∀ w, (Op.equalIn 10000 24 (.agg (kc emptyH)) (.agg (kc emptyH))).run Tryd.prog w = .ok true w) := fun w => by
    have h := equal_key 9998 emptyH emptyH emptyH_ky emptyH_ky w
    rw [decide_eq_true rfl] at h
    exact h
  clear hk1 hk2 hk3 hb0 hq hl hkl hkr ht
  obtain ⟨n, hn⟩ : ∃ n, n = q.n := ⟨_, rfl⟩
  rw [← hn] at cn
  by_cases h0 : n < 0
  · clear hn
    go_enter Tryd.func5, Tryd.ntmps5
    go_wp2_with (go_at_call 9; refine (CA.out _ G0.out).mono ?_; rintro e w1 ⟨rfl, hb⟩; have B1 := hid (G0.out.trans (hb.mono G0.out.size)); clear hb)
    go_ret
    exact ⟨rfl, B1.out⟩
  · by_cases h1 : 256 < n
    · clear hn
      go_enter Tryd.func5, Tryd.ntmps5
      go_wp2_with (go_at_call 9; refine (CA.out _ G0.out).mono ?_; rintro e w1 ⟨rfl, hb⟩; have B1 := hid (G0.out.trans (hb.mono G0.out.size)); clear hb)
      go_ret
      exact ⟨rfl, B1.out⟩
    · have HN : Hid (0 ≤ q.n ∧ q.n ≤ 65535) := by show _ ∧ _; omega
      clear hn CA
      go_enter Tryd.func5, Tryd.ntmps5
      go_upto_region 5 with (fail)
      generalize ((w.alloc (.cells (nc q).toArray 56)).alloc (.cells (kc l) 24)).alloc (.cells (kc r) 24) = w0 at NA K2 K3 G0 HT cl cn ⊢
      clear cl cn
      refine wp_region_held (S := fun w' => Hid (Below w0.heap.size w0 w')) (by kernel_rfl) ?_
      change wpAnyH _ _ _ _ _ _ _ _ w0.drew
      have Gx0 : Hid (Below w0.heap.size w0 w0.drew) := (Below.refl _ _).drew
      generalize w0.drew = x0 at Gx0  ⊢
      refine wpAnyH_ready (rs := [0]) (by kernel_rfl) (by simp) ?_
      refine (AllReadyH.cons (o := { dst := some 34, op := _, type := _, pos := _, after := _, guard := _ }) rfl (fun Qc hQc => ?_) AllReadyH.nil)
      go_simp
      go_at_call 9
      refine (xawake_any x0 (HT.out.below Gx0.out)).mono ?_
      rintro e x1 ⟨rfl, hb⟩
      have Gx1 := hid (Gx0.out.trans (hb.mono Gx0.out.size))
      clear hb
      go_wp2_with fail
      refine hQc.out _ _ Gx1 (fun hHeld => ?_)
      clear hQc Qc hHeld
      try simp only [Act.put, List.setIfInBounds_toArray, List.set_cons_zero, List.set_cons_succ]
      refine wpAnyH_take (i := 1) (oi := { dst := some 35, op := _, type := _, pos := _, after := _, guard := _ }) (v := ?_) rfl (by kernel_rfl) (by kernel_rfl) (by kernel_rfl) (fun _ _ _ h => h) (Or.inl ⟨by kernel_rfl, ?_⟩) Gx1 ?_
      rotate_left
      · (intro w hSw; go_simp; try with_reducible rfl)
      try simp only [Act.put, List.setIfInBounds_toArray, List.set_cons_zero, List.set_cons_succ]
      refine wpAnyH_take (i := 2) (oi := { dst := some 36, op := _, type := _, pos := _, after := _, guard := _ }) (v := .agg ((nc q).toArray)) rfl (by kernel_rfl) (by kernel_rfl) (by kernel_rfl) (fun _ _ _ h => h) (yieldsIf_load_mid (cs := nc q) (by rfl) _ _ rfl _ _ rfl _ (fun w' hSw => (rng_bel hSw.out NA.out.all)) Tryd.underlying56 rfl HQI.out) Gx1 ?_
      try simp only [Act.put, List.setIfInBounds_toArray, List.set_cons_zero, List.set_cons_succ]
      refine wpAnyH_take (i := 3) (oi := { dst := some 37, op := _, type := _, pos := _, after := _, guard := _ }) (v := .agg ((kc l))) rfl (by kernel_rfl) (by kernel_rfl) (by kernel_rfl) (fun _ _ _ h => h) (yieldsIf_load_mid (cs := u8s l) (by rfl) _ _ rfl _ _ rfl _ (fun w' hSw => (rng_bel hSw.out (blk_key K2.out))) Tryd.underlying24 rfl HLI.out) Gx1 ?_
      try simp only [Act.put, List.setIfInBounds_toArray, List.set_cons_zero, List.set_cons_succ]
      refine wpAnyH_take (i := 4) (oi := { dst := some 38, op := _, type := _, pos := _, after := _, guard := _ }) (v := .agg ((kc r))) rfl (by kernel_rfl) (by kernel_rfl) (by kernel_rfl) (fun _ _ _ h => h) (yieldsIf_load_mid (cs := u8s r) (by rfl) _ _ rfl _ _ rfl _ (fun w' hSw => (rng_bel hSw.out (blk_key K3.out))) Tryd.underlying24 rfl HRI.out) Gx1 ?_
      try simp only [Act.put, List.setIfInBounds_toArray, List.set_cons_zero, List.set_cons_succ]
      refine wpAnyH_take (i := 6) (oi := { dst := some 40, op := _, type := _, pos := _, after := _, guard := _ }) (v := ?_) rfl (by kernel_rfl) (by kernel_rfl) (by kernel_rfl) (fun _ _ _ h => h) (Or.inl ⟨by kernel_rfl, ?_⟩) Gx1 ?_
      rotate_left
      · (intro w hSw; go_simp; try with_reducible rfl)
      try simp only [Act.put, List.setIfInBounds_toArray, List.set_cons_zero, List.set_cons_succ]
      refine wpAnyH_take (i := 7) (oi := { dst := some 41, op := _, type := _, pos := _, after := _, guard := _ }) (v := .agg ((pc q.n q.b))) rfl (by kernel_rfl) (by kernel_rfl) (by kernel_rfl) (fun _ _ _ h => h) (yieldsIf_load_mid (cs := (.int .i64 q.n :: u8s q.b)) (by rfl) _ _ rfl _ _ rfl _ (fun w' hSw => (rng_bel hSw.out NA.out.pre)) Tryd.underlying54 rfl HPI.out) Gx1 ?_
      try simp only [Act.put, List.setIfInBounds_toArray, List.set_cons_zero, List.set_cons_succ]
      refine wpAnyH_take (i := 8) (oi := { dst := some 42, op := _, type := _, pos := _, after := _, guard := _ }) (v := .agg ((kc l))) rfl (by kernel_rfl) (by kernel_rfl) (by kernel_rfl) (fun _ _ _ h => h) (yieldsIf_load_mid (cs := u8s l) (by rfl) _ _ rfl _ _ rfl _ (fun w' hSw => (rng_bel hSw.out (blk_key K2.out))) Tryd.underlying24 rfl HLI.out) Gx1 ?_
      try simp only [Act.put, List.setIfInBounds_toArray, List.set_cons_zero, List.set_cons_succ]
      refine wpAnyH_take (i := 9) (oi := { dst := some 43, op := _, type := _, pos := _, after := _, guard := _ }) (v := .agg ((kc r))) rfl (by kernel_rfl) (by kernel_rfl) (by kernel_rfl) (fun _ _ _ h => h) (yieldsIf_load_mid (cs := u8s r) (by rfl) _ _ rfl _ _ rfl _ (fun w' hSw => (rng_bel hSw.out (blk_key K3.out))) Tryd.underlying24 rfl HRI.out) Gx1 ?_
      try simp only [Act.put, List.setIfInBounds_toArray, List.set_cons_zero, List.set_cons_succ]
      refine wpAnyH_ready (rs := [5]) (by kernel_rfl) (by simp) ?_
      refine (AllReadyH.cons (o := { dst := some 39, op := _, type := _, pos := _, after := _, guard := _ }) rfl (fun Qc hQc => ?_) AllReadyH.nil)
      go_simp
      go_at_call 21
      refine (xText_inner q l r x1 HQ.out HLF.out HN.out HKL.out HKR.out).mono ?_
      rintro e x2 ⟨A5, c5, rfl, h5, hf5, hb⟩
      have Gx2 := hid (Gx1.out.trans (hb.mono Gx1.out.size))
      have R5 := hid hf5.rp0
      clear hb h5 hf5
      go_wp2_with fail
      refine hQc.out _ _ Gx2 (fun hHeld => ?_)
      clear hQc Qc hHeld
      try simp only [Act.put, List.setIfInBounds_toArray, List.set_cons_zero, List.set_cons_succ]
      refine wpAnyH_ready (rs := [10]) (by kernel_rfl) (by simp) ?_
      refine (AllReadyH.cons (o := { dst := some 44, op := _, type := _, pos := _, after := _, guard := _ }) rfl (fun Qc hQc => ?_) AllReadyH.nil)
      go_simp
      go_at_call 23
      refine (yInner_any q.n q.b l r x2 HN.out HQ.out.b HKL.out HKR.out).mono ?_
      rintro e x3 ⟨A6, c6, rfl, h6, hf6, hb⟩
      have Gx3 := hid (Gx2.out.trans (hb.mono Gx2.out.size))
      have R6 := hid hf6.rp0
      have HB56 := hid hb
      clear hb h6 hf6
      go_wp2_with fail
      refine hQc.out _ _ Gx3 (fun hHeld => ?_)
      clear hQc Qc hHeld
      try simp only [Act.put, List.setIfInBounds_toArray, List.set_cons_zero, List.set_cons_succ]
      refine wpAnyH_ready (rs := [11]) (by kernel_rfl) (by simp) ?_
      refine (AllReadyH.cons (o := { dst := some 45, op := _, type := _, pos := _, after := _, guard := _ }) rfl (fun Qc hQc => ?_) AllReadyH.nil)
      go_simp
      go_at_call 20
      refine (same_yes (R5.out.belowN HB56.out) R6.out HXL.out).mono ?_
      rintro e x4 ⟨rfl, hb⟩
      have Gx4 := hid (Gx3.out.trans (hb.mono Gx3.out.size))
      clear hb
      go_wp2_with fail
      refine hQc.out _ _ Gx4 (fun hHeld => ?_)
      clear hQc Qc hHeld
      try simp only [Act.put, List.setIfInBounds_toArray, List.set_cons_zero, List.set_cons_succ]
      refine wpAnyH_take (i := 12) (oi := { dst := some 46, op := _, type := _, pos := _, after := _, guard := _ }) (v := ?_) rfl (by kernel_rfl) (by kernel_rfl) (by kernel_rfl) (fun _ _ _ h => h) (Or.inl ⟨by kernel_rfl, ?_⟩) Gx4 ?_
      rotate_left
      · (intro w hSw; go_simp; try with_reducible rfl)
      try simp only [Act.put, List.setIfInBounds_toArray, List.set_cons_zero, List.set_cons_succ]
      refine wpAnyH_take (i := 13) (oi := { dst := some 47, op := _, type := _, pos := _, after := _, guard := _ }) (v := ?_) rfl (by kernel_rfl) (by kernel_rfl) (by kernel_rfl) (fun _ _ _ h => h) (Or.inl ⟨by kernel_rfl, ?_⟩) Gx4 ?_
      rotate_left
      · (intro w hSw; go_simp; try with_reducible rfl)
      try simp only [Act.put, List.setIfInBounds_toArray, List.set_cons_zero, List.set_cons_succ]
      refine wpAnyH_ready (rs := [14]) (by kernel_rfl) (by simp) ?_
      refine (AllReadyH.cons (o := { dst := some 48, op := _, type := _, pos := _, after := _, guard := _ }) rfl (fun Qc hQc => ?_) AllReadyH.nil)
      go_simp
      go_at_call 24
      refine (xEmpty_any x4 (HT.out.below Gx4.out)).mono ?_
      rintro e x5 ⟨rfl, hb⟩
      have Gx5 := hid (Gx4.out.trans (hb.mono Gx4.out.size))
      clear hb
      go_wp2_with fail
      refine hQc.out _ _ Gx5 (fun hHeld => ?_)
      clear hQc Qc hHeld
      try simp only [Act.put, List.setIfInBounds_toArray, List.set_cons_zero, List.set_cons_succ]
      refine wpAnyH_ready (rs := [15]) (by kernel_rfl) (by simp) ?_
      refine (AllReadyH.cons (o := { dst := some 49, op := _, type := _, pos := _, after := _, guard := _ }) rfl (fun Qc hQc => ?_) AllReadyH.nil)
      go_simp
      go_at_call 25
      refine (yEmpty_any x5).mono ?_
      rintro e x6 ⟨rfl, hb⟩
      have Gx6 := hid (Gx5.out.trans (hb.mono Gx5.out.size))
      clear hb
      go_wp2_with fail
      refine hQc.out _ _ Gx6 (fun hHeld => ?_)
      clear hQc Qc hHeld
      try simp only [Act.put, List.setIfInBounds_toArray, List.set_cons_zero, List.set_cons_succ]
      refine wpAnyH_take (i := 16) (oi := { dst := some 50, op := _, type := _, pos := _, after := _, guard := _ }) (v := .bool true) rfl (by kernel_rfl) (by kernel_rfl) (by kernel_rfl) (fun _ _ _ h => h) (Or.inl ⟨by kernel_rfl, ?_⟩) Gx6 ?_
      · (intro w hSw; have heq := HEQ.out w; go_simp; try with_reducible rfl)
      try simp only [Act.put, List.setIfInBounds_toArray, List.set_cons_zero, List.set_cons_succ]
      refine wpAnyH_take (i := 17) (oi := { dst := some 51, op := _, type := _, pos := _, after := _, guard := _ }) (v := ?_) rfl (by kernel_rfl) (by kernel_rfl) (by kernel_rfl) (fun _ _ _ h => h) (Or.inl ⟨by kernel_rfl, ?_⟩) Gx6 ?_
      rotate_left
      · (intro w hSw; go_simp; try with_reducible rfl)
      try simp only [Act.put, List.setIfInBounds_toArray, List.set_cons_zero, List.set_cons_succ]
      refine wpAnyH_take (i := 18) (oi := { dst := some 6, op := _, type := _, pos := _, after := _, guard := _ }) (v := ?_) rfl (by kernel_rfl) (by kernel_rfl) (by kernel_rfl) (fun _ _ _ h => h) (Or.inl ⟨by kernel_rfl, ?_⟩) Gx6 ?_
      rotate_left
      · (intro w hSw; go_simp; try with_reducible rfl)
      try simp only [Act.put, List.setIfInBounds_toArray, List.set_cons_zero, List.set_cons_succ]
      refine wpAnyH_done (by kernel_rfl) ?_ _
      try simp only [Act.put, List.setIfInBounds_toArray, List.set_cons_zero, List.set_cons_succ]
      go_wp2
      go_ret
      exact ⟨rfl, G0.out.trans (Gx6.out.mono G0.out.size)⟩
theorem texts_walk (q : Nd) (l r : List Int) (hq : NdOk q) (hkl : Ky l) (hkr : Ky r) (w : World) (ht : Tab w) : Calls Tryd.prog 5 #[.agg (nc q).toArray, .agg (kc l), .agg (kc r)] w fun e w' => e = .returned (.bool true) ∧ Below w.heap.size w w' := by
  cases hl : q.leaf with
  | true => exact texts_leaf q l r w hq hl hkl hkr ht
  | false => exact texts_inner q l r w hq hl hkl hkr ht
end Go.Proofs.YtdeohkgdmbfocaaDoor
