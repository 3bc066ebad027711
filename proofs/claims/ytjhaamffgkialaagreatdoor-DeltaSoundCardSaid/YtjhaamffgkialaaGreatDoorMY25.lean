/-
  What is proved here: the reference's Top and Root of a list that is a tree's.
-/
import Derived.Test.YtjhaamffgkialaaGreatDoorMY20
set_option linter.unusedSimpArgs false
set_option linter.unusedVariables false
namespace Go.Proofs.YtjhaamffgkialaaGreatDoor
open Go.ChangeShapes Go.WideShapes Go.ChangeAt Go.RowKit
set_option linter.unusedVariables false
set_option linter.unusedSimpArgs false
set_option maxRecDepth 20000

def topX2 : Tr → List Int
  | .leaf k v => leafT k v
  | .inner n b l r => innerT n b (l.hash hLf hIn) (r.hash hLf hIn)
theorem tops_sum (t : Tr) : sum (topX2 t) = t.hash hLf hIn := by cases t <;> rfl
theorem InP.take {w : World} {b o : Nat} {n : Nat} {X Y : List KV} (h : InP w (some ⟨b, o, none⟩) n (X ++ Y)) : InP w (some ⟨b, o, none⟩) X.length X := by
  refine ⟨rfl, by have := h.1; have := h.2.1; rw [List.length_append] at *; omega, fun q hq => h.2.2.1 q (List.mem_append_left _ hq), fun hn => ?_⟩
  obtain ⟨b', o', e, hlt, hat⟩ := h.2.2.2 (by have := h.1; rw [List.length_append] at this; omega)
  exact ⟨b', o', e, hlt, fun i q hq => hat i q (by rw [List.getElem?_append_left (List.getElem?_eq_some_iff.1 hq).1]; exact hq)⟩
theorem InP.drop {w : World} {b o : Nat} {n : Nat} {X Y : List KV} (h : InP w (some ⟨b, o, none⟩) n (X ++ Y)) : InP w (some ⟨b, o + X.length * 64, none⟩) Y.length Y := by
  refine ⟨rfl, by have := h.1; have := h.2.1; rw [List.length_append] at *; omega, fun q hq => h.2.2.1 q (List.mem_append_right _ hq), fun hn => ?_⟩
  obtain ⟨b', o', e, hlt, hat⟩ := h.2.2.2 (by have := h.1; rw [List.length_append] at this; omega)
  injection e with e
  injection e with e1 e2
  subst e1; subst e2
  refine ⟨_, _, rfl, hlt, fun i q hq => ?_⟩
  have := hat (X.length + i) q (by rw [List.getElem?_append_right (by omega), Nat.add_sub_cancel_left]; exact hq)
  rwa [Nat.add_mul, ← Nat.add_assoc] at this
/-- what Top of a list is said to answer -/
def TopOk (t : Tr) : Prop := ∀ (w : World) (A : Option Addr) (c : Nat), InP w A t.list.length t.list → t.list.length ≤ c → t.list.length ≤ 3000 → Calls Tryz.prog 21 #[.slice A t.list.length c] w (TxA w (topX2 t))
def RootOk (t : Tr) : Prop := ∀ (w : World) (A : Option Addr) (c : Nat), InP w A t.list.length t.list → t.list.length ≤ c → t.list.length ≤ 3000 → Calls Tryz.prog 9 #[.slice A t.list.length c] w fun e w' => e = .returned (.agg (kc (t.hash hLf hIn))) ∧ Below w.heap.size w w'
theorem tok_b {n : Nat} {b : List Int} {l r : Tr} (h : (Tr.inner n b l r).ok) : Ky b := by
  obtain ⟨q, hq⟩ := l.one
  rw [← (h.2.2.2.1 q hq).1]; exact cut_ky _ _
theorem thash_ky (t : Tr) : Ky (t.hash hLf hIn) := by rw [← tops_sum]; exact ⟨sum_length _, sum_bs _⟩
theorem top_bs : ∀ {t : Tr}, t.ok → Bs (topX2 t) ∧ (topX2 t).length < 1000000000
  | .leaf k v, h => ⟨leaf_tbs h.1 h.2, Nat.lt_of_le_of_lt (textL_all 108 [k, v] 2 rfl (by decide) (len_2k h.1 h.2)) (by decide)⟩
  | .inner n b l r, h => ⟨inner_tbs (tok_b h) (thash_ky l) (thash_ky r), Nat.lt_of_le_of_lt (textL_all 110 [be n 2, b, (l.hash hLf hIn), (r.hash hLf hIn)] 4 rfl (by decide) (len_4k (be_length n 2) (tok_b h) (thash_ky l) (thash_ky r))) (by decide)⟩
set_option maxHeartbeats 4000000 in
theorem root_of_top {t : Tr} (hok : t.ok) (hT : TopOk t) : RootOk t := by
  intro w A c hin hc hn
  obtain ⟨Z, HZ, hZ0, hZs⟩ := zero_key
  have HI := hid (kc_info (thash_ky t))
  have HZK : Hid (Z.size = (kc (t.hash hLf hIn)).size) := by show _ = _; rw [HZ.out, kc_size zk_ky, kc_size (thash_ky t)]
  have B0 : Hid (Below w.heap.size w (w.alloc (.cells Z 25))) := (Below.refl _ _).alloc (Nat.le_refl _) _
  have KZ := hid (Blk.new w 25 Z)
  have CT := hid (hT (w.alloc (.cells Z 25)) A c (hin.below ((Below.refl _ _).alloc (Nat.le_refl _) _)) hc hn)
  have CM := hid (fun (A9 : Option Addr) (c9 : Nat) (w1 : World) (h1 : (topX2 t).length ≤ c9) (h : Rp w1 none A9 (topX2 t)) => show Calls Tryz.prog 20 #[.slice A9 (topX2 t).length c9] w1 (fun e w' => e = .returned (.agg (kc (t.hash hLf hIn))) ∧ Below w1.heap.size w1 w') from by rw [← tops_sum]; exact RSum_any A9 c9 (topX2 t) w1 h (top_bs hok).1 (top_bs hok).2)
  have hpos : (t.list.length : Int) ≠ 0 := by have := t.pos; omega
  have hpos2 : ¬ (t.list.length = 0) := by have := t.pos; omega
  clear hin
  go_enter Tryz.func9, Tryz.ntmps9
  go_wp2_with fail
  generalize w.alloc (.cells Z 25) = w0 at B0 KZ CT ⊢
  go_wp2_with (first
    | (go_at_call 21; refine CT.out.mono ?_; rintro e w1 ⟨A9, c9, rfl, hc9, hf, hb⟩; have HC9 := hid hc9; have FR := hid hf; have B1 := hid (B0.out.trans (hb.mono B0.out.size)); have KZ1 := hid (KZ.out.below hb); clear hb hf hc9)
    | (go_at_call 20; refine (CM.out A9 c9 w1 HC9.out FR.out.rp0).mono ?_; rintro e w2 ⟨rfl, hb⟩; have B2 := hid (B1.out.trans (hb.mono B1.out.size)); have KZ2 := hid (KZ1.out.below hb); clear hb)
    | (refine wpList_store_row rfl 25 (.tmp 2) (.tmp 9) rfl w.heap.size (kc (t.hash hLf hIn)) rfl rfl 25 Z KZ2.out HI.out HZK.out (kc_one _) ?_))
  try go_frame
  refine bodyPost_ret (results_cell_row Tryz.results9 _ _ w.heap.size 25 (kc (t.hash hLf hIn)) (0, 0) _ rfl (KZ2.out.row _) Tryz.underlying25 rfl HI.out) rfl ?_
  exact ⟨rfl, below_setRow B2.out (Nat.le_refl _) _⟩
set_option maxHeartbeats 8000000 in
theorem top_leaf (k v : List Int) (hk : Ky k) (hv : Ky v) : TopOk (.leaf k v) := by
  intro w A c hin hc hn
  obtain ⟨b, oo, q, rfl, hq, hq1, hq2, hr0, _, _⟩ := hin.at (k := 0) (by show 0 < 1; omega)
  have e : q = (k, v) := by have : (k, v) = q := by simpa [Tr.list] using hq
                            exact this.symm
  subst e
  rw [Nat.zero_mul, Nat.add_zero] at hr0
  have R0 := hid hr0
  have HPI : Hid ((Tryz.prog.info? 43).map (·.size) = some (kvc (k, v)).length) := by show _ = _; rw [kvc_len hk hv]; kernel_rfl
  have CY := hid (yLeaf_any k v w hk hv)
  clear hr0 hq hin
  show Calls Tryz.prog 21 #[.slice (some ⟨b, oo, none⟩) 1 c] w (TxA w (leafT k v))
  unfold TxA
  go_enter Tryz.func21, Tryz.ntmps21
  go_wp2_with (first
    | (refine load_at rfl 43 (.tmp 9) rfl b oo (kvc (k, v)) _ R0.out Tryz.underlying43 rfl HPI.out (kvc (k, v)).toArray rfl ?_)
    | (refine load_at rfl 43 (.tmp 9) rfl b oo rfl (kvc (k, v)) _ R0.out Tryz.underlying43 rfl HPI.out (kvc (k, v)).toArray rfl ?_)
    | (go_at_call 40; refine CY.out.mono ?_; rintro e w1 ⟨A9, c9, rfl, h9⟩; have H9 := hid h9; clear h9))
  go_ret
  exact ⟨A9, c9, rfl, H9.out⟩
set_option maxHeartbeats 8000000 in
theorem top_inner {n : Nat} {b : List Int} {l r : Tr} (h : (Tr.inner n b l r).ok) (hl : RootOk l) (hr : RootOk r) : TopOk (.inner n b l r) := by
  intro w A c0 hin hc hn
  obtain ⟨e1, e2, e3⟩ := inner_parts h
  have hll := l.pos; have hrl := r.pos
  have hlen : (Tr.inner n b l r).list.length = l.list.length + r.list.length := by show (l.list ++ r.list).length = _; rw [List.length_append]
  have hN : n < 256 := h.2.2.1
  have HB : Ky b := by
    obtain ⟨q, hq⟩ := l.one
    rw [← (h.2.2.2.1 q hq).1]; exact cut_ky _ _
  obtain ⟨m, hm⟩ : ∃ m, l.list.length + r.list.length = m + 1 := ⟨_, (Nat.succ_pred_eq_of_pos (by omega)).symm⟩
  have hinL : InP w A (m + 1) (Tr.inner n b l r).list := by rw [← hm, ← hlen]; exact hin
  obtain ⟨bb, oo, q0, rfl, _⟩ := hinL.at (k := 0) (by omega)
  have HIN := hid hinL
  have CO := hid (fun w1 (hb : Below w.heap.size w w1) => yOver_any (c0 := c0) w1 (HIN.out.below hb) (by omega))
  have CPt := hid (fun w1 (hb : Below w.heap.size w w1) => yPart_any (c0 := c0) w1 (HIN.out.below hb) HB hN)
  rw [e1, e2] at CO
  rw [e3] at CPt
  have HINl : Hid (InP w (some ⟨bb, oo, none⟩) (m + 1) (l.list ++ r.list)) := hinL
  have HPL := hid (pcl_info n HB); have HPI := hid (pc_info n HB)
  have CI := hid (fun w1 => yInner_any n b (l.hash hLf hIn) (r.hash hLf hIn) w1 ⟨by omega, by omega⟩ HB (thash_ky l) (thash_ky r))
  rw [hlen] at hc hn
  rw [show (Tr.inner n b l r).list.length = m + 1 by rw [hlen, hm]]
  obtain ⟨Z, HZ, hZ0, hZs⟩ := zero_pre
  have HZP : Hid (Z.size = (pc n b).size) := by show _ = _; rw [HZ.out, pc_size _ zk_ky, pc_size _ HB]
  have hm1 : ¬ ((m : Int) + 1 = 1) := by omega
  have hm2 : ¬ (m + 1 = 1) := by omega
  have hm3 : ¬ (m = 0) := by omega
  have HLL := hid hl; have HRR := hid hr
  have HLN : Hid (l.list.length + r.list.length = m + 1 ∧ m + 1 ≤ c0 ∧ m + 1 ≤ 3000 ∧ 0 < l.list.length ∧ 0 < r.list.length) := ⟨hm, by omega, by omega, hll, hrl⟩
  clear hin hinL e1 e2 e3 hll hrl hlen hl hr hc hn h hm
  show Calls Tryz.prog 21 #[.slice (some ⟨bb, oo, none⟩) (m + 1) c0] w (TxA w (innerT n b (l.hash hLf hIn) (r.hash hLf hIn)))
  unfold TxA
  go_enter Tryz.func21, Tryz.ntmps21
  go_upto_region 4 with (first
    | (go_at_call 41; refine (CO.out _ (Below.refl _ _)).mono ?_; rintro e w1 ⟨rfl, hb⟩; have B1 := hid hb; clear hb)
    | (refine wpList_store_row rfl 47 (.tmp 3) (.tmp 13) rfl w1.heap.size (pc n b) rfl rfl 47 Z (Blk.new w1 47 Z) HPI.out HZP.out (pc_one _ _) ?_))
  have KP1 : Hid (Blk ((w1.alloc (.cells Z 47)).setRow w1.heap.size (pc n b)) w1.heap.size 47 (pc n b)) := (Blk.new w1 47 Z).row _
  have J1 : Hid (w.heap.size ≤ w1.heap.size) := B1.out.size
  have B2 : Hid (Below w.heap.size w ((w1.alloc (.cells Z 47)).setRow w1.heap.size (pc n b))) := below_setRow (B1.out.alloc J1.out _) J1.out _
  generalize w1.heap.size = p3 at KP1 J1 B2 ⊢
  generalize (w1.alloc (.cells Z 47)).setRow p3 (pc n b) = w2 at KP1 B2 ⊢
  go_upto_region 5 with (first
    | (refine load_at rfl 47 (.tmp 3) rfl p3 0 rfl (.int .i64 n :: u8s b) _ (blk_pre KP1.out) Tryz.underlying47 rfl HPL.out (pc n b) rfl ?_)
    | (go_at_call 42; refine (CPt.out _ B2.out).mono ?_; rintro e wq ⟨rfl, hb⟩; have BQ := hid (B2.out.trans (hb.mono B2.out.size)); have KP := hid (KP1.out.below hb); clear hb))
  clear B1 J1 B2 KP1 CO CPt
  have CL := hid (fun w1 (hb : Below wq.heap.size wq w1) => HLL.out w1 (some ⟨bb, oo, none⟩) c0 ((HINl.out.below (BQ.out.trans (hb.mono BQ.out.size))).take) (by have := HLN.out; omega) (by have := HLN.out; omega))
  have CR := hid (fun w1 (hb : Below wq.heap.size wq w1) => HRR.out w1 (some ⟨bb, oo + l.list.length * 64, none⟩) (c0 - l.list.length) ((HINl.out.below (BQ.out.trans (hb.mono BQ.out.size))).drop) (by have := HLN.out; omega) (by have := HLN.out; omega))
  refine wp_region_held (S := fun w' => Hid (Below wq.heap.size wq w')) (by kernel_rfl) ?_
  change wpAnyH _ _ _ _ _ _ _ _ wq.drew
  have Gx0 : Hid (Below wq.heap.size wq wq.drew) := (Below.refl _ _).drew
  generalize wq.drew = x0 at Gx0  ⊢
  refine wpAnyH_take (i := 0) (oi := { dst := some 17, op := _, type := _, pos := _, after := _, guard := _ }) (v := .agg ((pc n b))) rfl (by kernel_rfl) (by kernel_rfl) (by kernel_rfl) (fun _ _ _ h => h) (yieldsIf_load_mid (cs := (.int .i64 n :: u8s b)) (by rfl) _ _ rfl _ _ rfl _ (fun w' hSw => (blk_pre (KP.out.below hSw.out))) Tryz.underlying47 rfl HPL.out) Gx0 ?_
  try simp only [Act.put, List.setIfInBounds_toArray, List.set_cons_zero, List.set_cons_succ]
  refine wpAnyH_take (i := 1) (oi := { dst := some 18, op := _, type := _, pos := _, after := _, guard := _ }) (v := ?_) rfl (by kernel_rfl) (by kernel_rfl) (by kernel_rfl) (fun _ _ _ h => h) (Or.inl ⟨by kernel_rfl, ?_⟩) Gx0 ?_
  rotate_left
  · (intro w hSw; go_simp; try with_reducible rfl)
  try simp only [Act.put, List.setIfInBounds_toArray, List.set_cons_zero, List.set_cons_succ]
  refine wpAnyH_take (i := 2) (oi := { dst := some 19, op := _, type := _, pos := _, after := _, guard := _ }) (v := ?_) rfl (by kernel_rfl) (by kernel_rfl) (by kernel_rfl) (fun _ _ _ h => h) (Or.inl ⟨by kernel_rfl, ?_⟩) Gx0 ?_
  rotate_left
  · (intro w hSw; go_simp; try with_reducible rfl)
  try simp only [Act.put, List.setIfInBounds_toArray, List.set_cons_zero, List.set_cons_succ]
  refine wpAnyH_take (i := 3) (oi := { dst := some 20, op := _, type := _, pos := _, after := _, guard := _ }) (v := .slice (some ⟨bb, oo, none⟩) l.list.length c0) rfl (by kernel_rfl) (by kernel_rfl) (by kernel_rfl) (fun _ _ _ h => h) (Or.inl ⟨by kernel_rfl, ?_⟩) Gx0 ?_
  · (intro w hSw; go_simp; intro hlt9; have := HLN.out; omega)
  try simp only [Act.put, List.setIfInBounds_toArray, List.set_cons_zero, List.set_cons_succ]
  refine wpAnyH_take (i := 5) (oi := { dst := some 22, op := _, type := _, pos := _, after := _, guard := _ }) (v := ?_) rfl (by kernel_rfl) (by kernel_rfl) (by kernel_rfl) (fun _ _ _ h => h) (Or.inl ⟨by kernel_rfl, ?_⟩) Gx0 ?_
  rotate_left
  · (intro w hSw; go_simp; try with_reducible rfl)
  try simp only [Act.put, List.setIfInBounds_toArray, List.set_cons_zero, List.set_cons_succ]
  refine wpAnyH_take (i := 6) (oi := { dst := some 23, op := _, type := _, pos := _, after := _, guard := _ }) (v := ?_) rfl (by kernel_rfl) (by kernel_rfl) (by kernel_rfl) (fun _ _ _ h => h) (Or.inl ⟨by kernel_rfl, ?_⟩) Gx0 ?_
  rotate_left
  · (intro w hSw; go_simp; try with_reducible rfl)
  try simp only [Act.put, List.setIfInBounds_toArray, List.set_cons_zero, List.set_cons_succ]
  refine wpAnyH_take (i := 7) (oi := { dst := some 24, op := _, type := _, pos := _, after := _, guard := _ }) (v := .slice (some ⟨bb, oo + l.list.length * 64, none⟩) r.list.length (c0 - l.list.length)) rfl (by kernel_rfl) (by kernel_rfl) (by kernel_rfl) (fun _ _ _ h => h) (Or.inl ⟨by kernel_rfl, ?_⟩) Gx0 ?_
  · (intro w hSw; go_simp; rw [if_pos (by have := HLN.out; omega), if_neg (by have := HLN.out; omega), show m + 1 - l.list.length = r.list.length by have := HLN.out; omega])
  try simp only [Act.put, List.setIfInBounds_toArray, List.set_cons_zero, List.set_cons_succ]
  refine wpAnyH_ready (rs := [4]) (by kernel_rfl) (by simp) ?_
  refine (AllReadyH.cons (o := { dst := some 21, op := _, type := _, pos := _, after := _, guard := _ }) rfl (fun Qc hQc => ?_) AllReadyH.nil)
  go_simp
  go_at_call 9
  refine (CL.out x0 Gx0.out).mono ?_
  rintro e x1 ⟨rfl, hb⟩
  have Gx1 := hid (Gx0.out.trans (hb.mono Gx0.out.size))
  clear hb
  go_wp2_with fail
  refine hQc.out _ _ Gx1 (fun hHeld => ?_)
  clear hQc Qc hHeld
  try simp only [Act.put, List.setIfInBounds_toArray, List.set_cons_zero, List.set_cons_succ]
  refine wpAnyH_ready (rs := [8]) (by kernel_rfl) (by simp) ?_
  refine (AllReadyH.cons (o := { dst := some 25, op := _, type := _, pos := _, after := _, guard := _ }) rfl (fun Qc hQc => ?_) AllReadyH.nil)
  go_simp
  go_at_call 9
  refine (CR.out x1 Gx1.out).mono ?_
  rintro e x2 ⟨rfl, hb⟩
  have Gx2 := hid (Gx1.out.trans (hb.mono Gx1.out.size))
  clear hb
  go_wp2_with fail
  refine hQc.out _ _ Gx2 (fun hHeld => ?_)
  clear hQc Qc hHeld
  try simp only [Act.put, List.setIfInBounds_toArray, List.set_cons_zero, List.set_cons_succ]
  refine wpAnyH_ready (rs := [9]) (by kernel_rfl) (by simp) ?_
  refine (AllReadyH.cons (o := { dst := some 26, op := _, type := _, pos := _, after := _, guard := _ }) rfl (fun Qc hQc => ?_) AllReadyH.nil)
  go_simp
  go_at_call 43
  refine (CI.out x2).mono ?_
  rintro e x3 ⟨A9, c9, rfl, hc9, hf9, hb⟩
  have Gx3 := hid (Gx2.out.trans (hb.mono Gx2.out.size))
  have FR := hid (hf9.more Gx2.out.size); have HC9 := hid hc9
  clear hf9 hc9
  clear hb
  go_wp2_with fail
  refine hQc.out _ _ Gx3 (fun hHeld => ?_)
  clear hQc Qc hHeld
  try simp only [Act.put, List.setIfInBounds_toArray, List.set_cons_zero, List.set_cons_succ]
  refine wpAnyH_take (i := 10) (oi := { dst := some 2, op := _, type := _, pos := _, after := _, guard := _ }) (v := ?_) rfl (by kernel_rfl) (by kernel_rfl) (by kernel_rfl) (fun _ _ _ h => h) (Or.inl ⟨by kernel_rfl, ?_⟩) Gx3 ?_
  rotate_left
  · (intro w hSw; go_simp; try with_reducible rfl)
  try simp only [Act.put, List.setIfInBounds_toArray, List.set_cons_zero, List.set_cons_succ]
  refine wpAnyH_done (by kernel_rfl) ?_ _
  try simp only [Act.put, List.setIfInBounds_toArray, List.set_cons_zero, List.set_cons_succ]
  go_wp2
  go_ret
  exact ⟨A9, c9, rfl, HC9.out, FR.out.more BQ.out.size, BQ.out.trans (Gx3.out.mono BQ.out.size)⟩
theorem tree_top : ∀ (t : Tr), t.ok → TopOk t
  | .leaf k v, h => top_leaf k v h.1 h.2
  | .inner n b l r, h => top_inner h (root_of_top h.1 (tree_top l h.1)) (root_of_top h.2.1 (tree_top r h.2.1))
theorem yRoot_tree (t : Tr) (h : t.ok) : RootOk t := root_of_top h (tree_top t h)
end Go.Proofs.YtjhaamffgkialaaGreatDoor
/-
  What is proved here: the reference's Same: two lists of pairs are the same.
-/
namespace Go.Proofs.YtjhaamffgkialaaGreatDoor
open Go.ChangeShapes Go.WideShapes Go.ChangeAt Go.RowKit
set_option linter.unusedVariables false
set_option linter.unusedSimpArgs false
set_option maxRecDepth 20000

theorem kvc_ex0 {q : KV} (hq : Ky q.1 ∧ Ky q.2) : (List.take 32 (kvc q)).toArray = kc q.1 := by
  show (List.take 32 (u8s q.1 ++ u8s q.2)).toArray = (u8s q.1).toArray
  rw [List.take_left' (by rw [u8s_length, hq.1.len])]
theorem kvc_ex1 {q : KV} (hq : Ky q.1 ∧ Ky q.2) : (List.take 32 (List.drop 32 (kvc q))).toArray = kc q.2 := by
  show (List.take 32 (List.drop 32 (u8s q.1 ++ u8s q.2))).toArray = (u8s q.2).toArray
  rw [List.drop_left' (by rw [u8s_length, hq.1.len]), List.take_of_length_le (by rw [u8s_length, hq.2.len]; decide)]
theorem part_k {q : KV} (hq : Ky q.1 ∧ Ky q.2) (w : World) : (Go.part 25 (kvc q).toArray 0).run Tryz.prog w = .ok (.agg (kc q.1)) w := by
  have h : (isAgg 25).run Tryz.prog w = .ok true w := by kernel_rfl
  unfold Go.part
  simp [Sem.run_bind, h, Result.andThen_ok, kvc_ex0 hq]
theorem part_v {q : KV} (hq : Ky q.1 ∧ Ky q.2) (w : World) : (Go.part 25 (kvc q).toArray 32).run Tryz.prog w = .ok (.agg (kc q.2)) w := by
  have h : (isAgg 25).run Tryz.prog w = .ok true w := by kernel_rfl
  unfold Go.part
  simp [Sem.run_bind, h, Result.andThen_ok, kvc_ex1 hq]
theorem equal_pair (p q : KV) (hp : Ky p.1 ∧ Ky p.2) (hq : Ky q.1 ∧ Ky q.2) (w : World) : (Op.equalIn (9999 + 1) 43 (.agg (kvc p).toArray) (.agg (kvc q).toArray)).run Tryz.prog w = .ok (decide (p = q)) w := by
  have hf : ∃ f0 f1 : Field, (Tryz.prog.fieldsOf 43).toList = [f0, f1] ∧ f0.name ≠ "_" ∧ f1.name ≠ "_" ∧ f0.type = 25 ∧ f1.type = 25 ∧ f0.offset = 0 ∧ f1.offset = 32 := by
    refine ⟨_, _, by (have := Tryz.underlying43; unfold Program.fieldsOf; rw [this]), by decide, by decide, rfl, rfl, rfl, rfl⟩
  obtain ⟨f0, f1, e1, n0, n1, t0, t1, o0, o1⟩ := hf
  rw [run_equalIn_struct w 9999 43 _ _ (by kernel_rfl) (by kernel_rfl), e1]
  simp only [Op.eqFields, t0, t1, o0, o1]
  rw [if_pos n0, if_pos n1]
  simp only [Sem.run_bind, part_k hp, part_v hp, part_k hq, part_v hq, Result.andThen_ok, equal_key 9997 p.1 q.1 hp.1 hq.1, equal_key 9997 p.2 q.2 hp.2 hq.2, Sem.run_ite, Sem.run_pure]
  obtain ⟨p1, p2⟩ := p
  obtain ⟨q1, q2⟩ := q
  by_cases h1 : p1 = q1
  · subst h1
    by_cases h2 : p2 = q2
    · subst h2; simp
    · simp [h2]
  · simp [h1]
end Go.Proofs.YtjhaamffgkialaaGreatDoor
/-
  What is proved here: the code's pairs as the reference's.
-/
namespace Go.Proofs.YtjhaamffgkialaaGreatDoor
open Go.ChangeShapes Go.WideShapes Go.ChangeAt Go.RowKit
set_option linter.unusedVariables false
set_option linter.unusedSimpArgs false
set_option maxRecDepth 20000

end Go.Proofs.YtjhaamffgkialaaGreatDoor
/-
  What is proved here: the reference's Root of any sorted list; the capacity of a list of one's own.
-/
namespace Go.Proofs.YtjhaamffgkialaaGreatDoor
open Go.ChangeShapes Go.WideShapes Go.ChangeAt Go.RowKit
set_option linter.unusedVariables false
set_option linter.unusedSimpArgs false
set_option maxRecDepth 20000

theorem OwP.cap {n0 : Nat} {w : World} {v : Value} {L : List KV} (h : OwP n0 w v L) : ∃ A c, v = .slice A L.length c ∧ L.length ≤ c := by
  rcases h.row.2 with ⟨h1, h0⟩ | ⟨g, cap, cur, hv, hb, hh, hnc, hrest⟩
  · exact ⟨none, 0, by rw [h1, h0], by omega⟩
  · exact ⟨_, _, hv, hnc⟩
/-- the document's root of a list -/
def rtL (P : List KV) : List Int := rootF emptyH hLf hIn P.length P
theorem rtL_ky {P : List KV} (hs : Srt P) (hk : Kys P) : Ky (rtL P) := by
  cases P with
  | nil => exact emptyH_ky
  | cons q l =>
    obtain ⟨t, h1, h2⟩ := tree_of hs hk (by simp)
    unfold rtL
    rw [← h2, root_tree emptyH hLf hIn t h1 _ (Nat.le_refl _)]
    exact thash_ky t
set_option maxHeartbeats 4000000 in
theorem yRoot_none (w : World) (A : Option Addr) (c : Nat) : Calls Tryz.prog 9 #[.slice A 0 c] w fun e w' => e = .returned (.agg (kc emptyH)) ∧ Below w.heap.size w w' := by
  obtain ⟨Z, HZ, hZ0, hZs⟩ := zero_key
  have HI := hid (kc_info emptyH_ky)
  have HZK : Hid (Z.size = (kc emptyH).size) := by show _ = _; rw [HZ.out, kc_size zk_ky, kc_size emptyH_ky]
  have B0 : Hid (Below w.heap.size w (w.alloc (.cells Z 25))) := (Below.refl _ _).alloc (Nat.le_refl _) _
  have KZ := hid (Blk.new w 25 Z)
  have CE := hid (fun w1 => yEmpty_any w1)
  go_enter Tryz.func9, Tryz.ntmps9
  go_wp2_with fail
  generalize w.alloc (.cells Z 25) = w0 at B0 KZ ⊢
  go_wp2_with (first
    | (go_at_call 19; refine (CE.out _).mono ?_; rintro e w1 ⟨rfl, hb⟩; have B1 := hid (B0.out.trans (hb.mono B0.out.size)); have KZ1 := hid (KZ.out.below hb); clear hb)
    | (refine wpList_store_row rfl 25 (.tmp 2) (.tmp 6) rfl w.heap.size (kc emptyH) rfl rfl 25 Z KZ1.out HI.out HZK.out (kc_one _) ?_))
  try go_frame
  refine bodyPost_ret (results_cell_row Tryz.results9 _ _ w.heap.size 25 (kc emptyH) (0, 0) _ rfl (KZ1.out.row _) Tryz.underlying25 rfl HI.out) rfl ?_
  exact ⟨rfl, below_setRow B1.out (Nat.le_refl _) _⟩
theorem yRoot_any {A : Option Addr} {n c : Nat} {P : List KV} (w : World) (hin : InP w A n P) (hs : Srt P) (hc : n ≤ c) (hn : n ≤ 3000) :
    Calls Tryz.prog 9 #[.slice A n c] w fun e w' => e = .returned (.agg (kc (rtL P))) ∧ Below w.heap.size w w' := by
  cases P with
  | nil =>
    have : n = 0 := hin.1.symm
    subst this
    exact yRoot_none w A c
  | cons q l =>
    obtain ⟨t, h1, h2⟩ := tree_of hs hin.2.2.1 (by simp)
    have e : rtL (q :: l) = t.hash hLf hIn := by unfold rtL; rw [← h2, root_tree emptyH hLf hIn t h1 _ (Nat.le_refl _)]
    have hl : t.list.length = n := by rw [h2]; exact hin.1
    rw [e]
    rw [← h2] at hin
    subst hl
    exact yRoot_tree t h1 w A c hin hc hn
end Go.Proofs.YtjhaamffgkialaaGreatDoor
