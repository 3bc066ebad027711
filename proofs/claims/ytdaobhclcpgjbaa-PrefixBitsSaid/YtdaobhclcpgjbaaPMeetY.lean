/-
  What is proved here: the longest beginning that holds two that are formed, as the code tells it.
-/
import Derived.Test.YtdaobhclcpgjbaaPMeet
namespace Go.Proofs.Ytdaobhclcpgjbaa
open Go.ChangeShapes Go.WideShapes Go.ChangeAt Go.RowKit
set_option linter.unusedVariables false

/-- both beginnings lie where they lay, and there is room for a third -/
structure Mk (w : World) (l : Int) (B : List Int) (m : Int) (C : List Int) (w' : World) : Prop where
  b1 : Blk w' w.heap.size 30 (pc l B)
  b2 : Blk w' (w.heap.size + 1) 30 (pc m C)
  b3 : ∃ cs, Blk w' (w.heap.size + 1 + 1) 30 cs ∧ cs.size = 33
  bl : Below w.heap.size w w'
section
variable {w : World} {l : Int} {B : List Int} {m : Int} {C : List Int} {w' : World}
theorem Mk.drew (h : Mk w l B m C w') : Mk w l B m C w'.drew := ⟨h.b1, h.b2, h.b3, h.bl.drew⟩
theorem Mk.below (h : Mk w l B m C w') {w2 : World} (hb : Below w'.heap.size w' w2) : Mk w l B m C w2 := ⟨h.b1.below hb, h.b2.below hb, by
  obtain ⟨cs, h1, h2⟩ := h.b3
  exact ⟨cs, h1.below hb, h2⟩, h.bl.trans (hb.mono h.bl.size)⟩
theorem Mk.lenB (h : Mk w l B m C w') : w'.cell? ⟨w.heap.size, 0, none⟩ = some (.int .i64 l) := h.b1.cell 0
theorem Mk.lenC (h : Mk w l B m C w') : w'.cell? ⟨w.heap.size + 1, 0, none⟩ = some (.int .i64 m) := h.b2.cell 0
theorem Mk.bitsB (h : Mk w l B m C w') : w'.rangeAt w.heap.size 1 (u8s B) := pc_range h.b1
theorem Mk.bitsC (h : Mk w l B m C w') : w'.rangeAt (w.heap.size + 1) 1 (u8s C) := pc_range h.b2
end

theorem min3_run (l m : Int) (S : Nat) (h0 : 0 ≤ l) (h1 : 0 ≤ m) (w : World) :
    Sem.run Try.prog (Builtin.min_ #[3, 3, 3] 3 #[.int .i64 l, .int .i64 m, .int .i64 S]) w = .ok (.int .i64 (mt l m S : Nat)) w := by
  have e : (mt l m S : Int) = if (S : Int) < (if m < l then m else l) then (S : Int) else (if m < l then m else l) := by
    unfold mt
    split <;> split at * <;> omega
  rw [e]
  simp [Builtin.min_, Builtin.min2, Sem.run_bind, Sem.run_pure, Result.andThen_ok]
set_option maxRecDepth 5000 in
set_option maxHeartbeats 4000000 in
theorem pMeet_yes (l m : Int) (B C : List Int) (hB : Ky B) (hC : Ky C) (w : World) (h1 : frm l B = true) (h2 : frm m C = true) :
    Calls Try.prog 24 #[.agg (pc l B), .agg (pc m C)] w fun e w' => e = .returned (.agg (pc (mt l m (shr B C)) (cut B (mt l m (shr B C))))) ∧ Below w.heap.size w w' := by
  obtain ⟨Z, HZ, hZ0, hZs⟩ := zero_pre
  obtain ⟨hk1, hk2, hk3, hb0⟩ := three_blks w (pc l B) (pc m C) Z 30 30 30
  have K1 := hid hk1; have K2 := hid hk2; have K3 := hid hk3; have B0 := hid hb0
  clear hk1 hk2 hk3 hb0
  have CF := hid (fun w => pFormed_any l B hB w)
  have CG := hid (fun w => pFormed_any m C hC w)
  rw [h1] at CF
  rw [h2] at CG
  have g1 := frm_le h1
  have g2 := frm_le h2
  have gs := (shr_is B C).le
  clear h1 h2
  have CS := hid (fun (w1 : World) (h : Hid (Mk w l B m C w1)) => (pShared_any B C hB hC w1).mono fun e w' (⟨he, hb⟩ : _ ∧ _) => (⟨he, h.out.below hb⟩ : e = Ending.returned (.int .i64 (shr B C)) ∧ Hid (Mk w l B m C w')))
  generalize shr B C = S at CS gs ⊢
  have hmin := fun w => min3_run l m S g1.1 g2.1 w
  have hN : lim (mt l m S) = mt l m S := by unfold lim mt; omega
  obtain ⟨N, hNN⟩ : ∃ N, N = mt l m S := ⟨_, rfl⟩
  rw [← hNN] at hN hmin ⊢
  have CC0 := fun w => pCut_any B hB N w
  rw [hN] at CC0
  have CC := hid (fun (w1 : World) (h : Hid (Mk w l B m C w1)) => (CC0 w1).mono fun e w' (⟨he, hb⟩ : _ ∧ _) => (⟨he, h.out.below hb⟩ : e = Ending.returned (.agg (pc N (cut B N))) ∧ Hid (Mk w l B m C w')))
  have HI := hid (pc_info N (cut_ky B N))
  have HS33 := hid (pc_size N (cut_ky B N))
  clear hNN hN CC0
  have GG : Hid (0 ≤ l ∧ l ≤ 256 ∧ 0 ≤ m ∧ m ≤ 256 ∧ S ≤ 256) := ⟨g1.1, g1.2, g2.1, g2.2, gs⟩
  have HZ33 : Hid (Z.size = 33) := by show _ = _; rw [HZ.out, pc_size 0 zk_ky]
  clear g1 g2 gs
  go_enter Try.func24, Try.ntmps24
  go_wp2_with (first
    | (refine load_at rfl 30 (.tmp 2) rfl w.heap.size 0 rfl (.int .i64 l :: u8s B) _ (blk_pre K1.out) Try.underlying30 rfl (pcl_info l hB) (pc l B) rfl ?_)
    | (go_at_call 20; with_reducible refine (CF.out _).mono ?_; rintro e w1 ⟨rfl, hb1⟩; have L1 := hid (K1.out.below hb1); have L2 := hid (K2.out.below hb1); have L3 := hid (K3.out.below hb1); have B1 := hid (B0.out.trans (hb1.mono B0.out.size)); clear hb1)
    | (refine load_at rfl 30 (.tmp 3) rfl (w.heap.size + 1) 0 rfl (.int .i64 m :: u8s C) _ (blk_pre L2.out) Try.underlying30 rfl (pcl_info m hC) (pc m C) rfl ?_)
    | (go_at_call 20; with_reducible refine (CG.out _).mono ?_; rintro e w2 ⟨rfl, hb2⟩; have MK := hid (Mk.mk (m := m) (C := C) (L1.out.below hb2) (L2.out.below hb2) ⟨Z, L3.out.below hb2, HZ33.out⟩ (B1.out.trans (hb2.mono B1.out.size))); clear hb2))
  refine wp_region_held (S := fun w' => Hid (Mk w l B m C w')) (by kernel_rfl) ?_
  change wpAnyH _ _ _ _ _ _ _ _ w2.drew
  have KD : Hid (Mk w l B m C w2.drew) := Mk.drew MK.out
  clear MK
  clear L1 L2 L3 B1 K1 K2 K3 B0
  generalize w2.drew = w3 at KD ⊢
  refine wpAnyH_take (i := 0) (oi := { dst := some 14, op := _, type := _, pos := _, after := _, guard := _ }) (v := ?_) rfl (by kernel_rfl) (by kernel_rfl) (by kernel_rfl) (fun _ _ _ h => h) (Or.inl ⟨by kernel_rfl, ?_⟩) (by assumption) ?_
  rotate_left
  · (intro w hSw; go_simp; try with_reducible rfl)
  try simp only [Act.put, List.setIfInBounds_toArray, List.set_cons_zero, List.set_cons_succ]
  refine wpAnyH_take (i := 1) (oi := { dst := some 15, op := _, type := _, pos := _, after := _, guard := _ }) (v := .agg (u8s B).toArray) rfl (by kernel_rfl) (by kernel_rfl) (by kernel_rfl) (fun _ _ _ h => h) (yieldsIf_load_mid (by rfl) _ _ rfl _ _ rfl _ _ (fun w' hSw => Mk.bitsB (Hid.out hSw)) Try.underlying23 rfl (u8s_info hB)) (by assumption) ?_
  try simp only [Act.put, List.setIfInBounds_toArray, List.set_cons_zero, List.set_cons_succ]
  refine wpAnyH_take (i := 2) (oi := { dst := some 16, op := _, type := _, pos := _, after := _, guard := _ }) (v := ?_) rfl (by kernel_rfl) (by kernel_rfl) (by kernel_rfl) (fun _ _ _ h => h) (Or.inl ⟨by kernel_rfl, ?_⟩) (by assumption) ?_
  rotate_left
  · (intro w hSw; go_simp; try with_reducible rfl)
  try simp only [Act.put, List.setIfInBounds_toArray, List.set_cons_zero, List.set_cons_succ]
  refine wpAnyH_take (i := 3) (oi := { dst := some 17, op := _, type := _, pos := _, after := _, guard := _ }) (v := ?_) rfl (by kernel_rfl) (by kernel_rfl) (by kernel_rfl) (fun _ _ _ h => h) (Or.inl ⟨by kernel_rfl, ?_⟩) (by assumption) ?_
  rotate_left
  · (intro w hSw; have hc := Mk.lenB (Hid.out hSw); go_simp; try with_reducible rfl)
  try simp only [Act.put, List.setIfInBounds_toArray, List.set_cons_zero, List.set_cons_succ]
  refine wpAnyH_take (i := 4) (oi := { dst := some 18, op := _, type := _, pos := _, after := _, guard := _ }) (v := ?_) rfl (by kernel_rfl) (by kernel_rfl) (by kernel_rfl) (fun _ _ _ h => h) (Or.inl ⟨by kernel_rfl, ?_⟩) (by assumption) ?_
  rotate_left
  · (intro w hSw; go_simp; try with_reducible rfl)
  try simp only [Act.put, List.setIfInBounds_toArray, List.set_cons_zero, List.set_cons_succ]
  refine wpAnyH_take (i := 5) (oi := { dst := some 19, op := _, type := _, pos := _, after := _, guard := _ }) (v := ?_) rfl (by kernel_rfl) (by kernel_rfl) (by kernel_rfl) (fun _ _ _ h => h) (Or.inl ⟨by kernel_rfl, ?_⟩) (by assumption) ?_
  rotate_left
  · (intro w hSw; have hc := Mk.lenC (Hid.out hSw); go_simp; try with_reducible rfl)
  try simp only [Act.put, List.setIfInBounds_toArray, List.set_cons_zero, List.set_cons_succ]
  refine wpAnyH_take (i := 6) (oi := { dst := some 20, op := _, type := _, pos := _, after := _, guard := _ }) (v := ?_) rfl (by kernel_rfl) (by kernel_rfl) (by kernel_rfl) (fun _ _ _ h => h) (Or.inl ⟨by kernel_rfl, ?_⟩) (by assumption) ?_
  rotate_left
  · (intro w hSw; go_simp; try with_reducible rfl)
  try simp only [Act.put, List.setIfInBounds_toArray, List.set_cons_zero, List.set_cons_succ]
  refine wpAnyH_take (i := 7) (oi := { dst := some 21, op := _, type := _, pos := _, after := _, guard := _ }) (v := .agg (u8s B).toArray) rfl (by kernel_rfl) (by kernel_rfl) (by kernel_rfl) (fun _ _ _ h => h) (yieldsIf_load_mid (by rfl) _ _ rfl _ _ rfl _ _ (fun w' hSw => Mk.bitsB (Hid.out hSw)) Try.underlying23 rfl (u8s_info hB)) (by assumption) ?_
  try simp only [Act.put, List.setIfInBounds_toArray, List.set_cons_zero, List.set_cons_succ]
  refine wpAnyH_take (i := 8) (oi := { dst := some 22, op := _, type := _, pos := _, after := _, guard := _ }) (v := ?_) rfl (by kernel_rfl) (by kernel_rfl) (by kernel_rfl) (fun _ _ _ h => h) (Or.inl ⟨by kernel_rfl, ?_⟩) (by assumption) ?_
  rotate_left
  · (intro w hSw; go_simp; try with_reducible rfl)
  try simp only [Act.put, List.setIfInBounds_toArray, List.set_cons_zero, List.set_cons_succ]
  refine wpAnyH_take (i := 9) (oi := { dst := some 23, op := _, type := _, pos := _, after := _, guard := _ }) (v := .agg (u8s C).toArray) rfl (by kernel_rfl) (by kernel_rfl) (by kernel_rfl) (fun _ _ _ h => h) (yieldsIf_load_mid (by rfl) _ _ rfl _ _ rfl _ _ (fun w' hSw => Mk.bitsC (Hid.out hSw)) Try.underlying23 rfl (u8s_info hC)) (by assumption) ?_
  try simp only [Act.put, List.setIfInBounds_toArray, List.set_cons_zero, List.set_cons_succ]
  refine wpAnyH_ready (rs := [10]) (by kernel_rfl) (by simp) ?_
  refine AllReadyH.cons (o := { dst := some 24, op := _, type := _, pos := _, after := _, guard := _ }) rfl (fun K hK => ?_) AllReadyH.nil
  go_simp
  go_at_call 12; refine (CS.out _ KD).mono ?_; rintro e w4 ⟨rfl, KE⟩
  go_wp2_with fail
  refine hK.out _ _ ?_ (fun hHeld => ?_)
  · assumption
  clear hK K
  try simp only [Act.put, List.setIfInBounds_toArray, List.set_cons_zero, List.set_cons_succ]
  refine wpAnyH_take (i := 11) (oi := { dst := some 25, op := _, type := _, pos := _, after := _, guard := _ }) (v := ?_) rfl (by kernel_rfl) (by kernel_rfl) (by kernel_rfl) (fun _ _ _ h => h) (Or.inl ⟨by kernel_rfl, ?_⟩) (by assumption) ?_
  rotate_left
  · (intro w hSw; have hq := hmin w; go_simp; try with_reducible rfl)
  try simp only [Act.put, List.setIfInBounds_toArray, List.set_cons_zero, List.set_cons_succ]
  refine wpAnyH_ready (rs := [12]) (by kernel_rfl) (by simp) ?_
  refine AllReadyH.cons (o := { dst := some 26, op := _, type := _, pos := _, after := _, guard := _ }) rfl (fun K hK => ?_) AllReadyH.nil
  go_simp
  go_at_call 18; refine (CC.out _ KE).mono ?_; rintro e w5 ⟨rfl, KF⟩
  go_wp2_with fail
  refine hK.out _ _ ?_ (fun hHeld => ?_)
  · assumption
  clear hK K
  try simp only [Act.put, List.setIfInBounds_toArray, List.set_cons_zero, List.set_cons_succ]
  obtain ⟨cs, hcs, hsz⟩ := KF.out.b3
  have HC := hid hcs
  have HSZ : Hid (cs.size = (pc N (cut B N)).size) := hsz.trans HS33.out.symm
  have KG : Hid (Mk w l B m C (w5.setRow (w.heap.size + 1 + 1) (pc N (cut B N)))) := Mk.mk (KF.out.b1.rowFar (by omega) _) (KF.out.b2.rowFar (by omega) _) ⟨_, HC.out.row _, HS33.out⟩ (below_setRow KF.out.bl (by omega) _)
  have KR : Hid (Blk (w5.setRow (w.heap.size + 1 + 1) (pc N (cut B N))) (w.heap.size + 1 + 1) 30 (pc N (cut B N))) := HC.out.row _
  clear hcs hsz
  refine wpAnyH_ready (rs := [13]) (by kernel_rfl) (by simp) ?_
  refine AllReadyH.cons (o := { dst := none, op := _, type := _, pos := _, after := _, guard := _ }) rfl (fun K hK => ?_) AllReadyH.nil
  rw [if_pos (by rfl)]
  refine wp_store_row 30 (.tmp 4) (.tmp 26) rfl (w.heap.size + 1 + 1) (pc N (cut B N)) rfl rfl 30 cs HC.out HI.out HSZ.out (pc_one _ _) ?_
  refine hK.out _ _ KG (fun hHeld => ?_)
  clear hK K
  refine wpAnyH_done (by kernel_rfl) ?_ _
  try simp only [Act.put, List.setIfInBounds_toArray, List.set_cons_zero, List.set_cons_succ]
  generalize w5.setRow (w.heap.size + 1 + 1) (pc N (cut B N)) = w6 at KG KR hHeld ⊢
  go_wp2
  refine bodyPost_ret (results_cell_row Try.results24 _ _ (w.heap.size + 1 + 1) 30 (pc N (cut B N)) (0, 0) _ rfl KR.out Try.underlying30 rfl HI.out) rfl ?_
  exact ⟨rfl, KG.out.bl⟩
end Go.Proofs.Ytdaobhclcpgjbaa
