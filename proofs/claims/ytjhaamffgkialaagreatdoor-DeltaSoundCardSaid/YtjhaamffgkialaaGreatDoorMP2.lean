/-
  What is proved here: whether a beginning holds another one, as the code tells it; whether a beginning is one, and holds a key, as the document tells it.
-/
import Derived.Test.YtjhaamffgkialaaGreatDoorMP1
import Derived.StillTailTactics
set_option linter.unusedSimpArgs false
set_option linter.unusedVariables false
namespace Go.Proofs.YtjhaamffgkialaaGreatDoor
open Go.ChangeShapes Go.WideShapes Go.ChangeAt Go.RowKit
set_option linter.unusedVariables false
set_option maxRecDepth 20000

set_option maxHeartbeats 1000000 in
theorem pWithin_any (l m : Int) (B C : List Int) (hB : Ky B) (hC : Ky C) (w : World) :
    Calls Tryz.prog 101 #[.agg (pc l B), .agg (pc m C)] w fun e w' => e = .returned (.bool (wth l B m C)) ∧ Below w.heap.size w w' := by
  obtain ⟨hk1, hk2, hb0⟩ := one_blks w (pc l B) (pc m C) 47 47
  have cl := hk1.cell 0
  have cm := hk2.cell 0
  have K1 := hid hk1; have K2 := hid hk2; have B0 := hid hb0
  clear hk1 hk2 hb0 cl cm
  have CF := hid (fun w => pFormed_any m C hC w)
  have CH := hid (fun w => pHolds_any l B C hB hC w)
  unfold wth
  generalize frm m C = v1 at CF ⊢
  generalize hld l B C = v2 at CH ⊢
  cases v1
  · go_enter Tryz.func101, Tryz.ntmps101
    go_wp2_with (first
      | (refine load_at rfl 47 (.tmp 3) rfl (w.heap.size + 1) 0 rfl (.int .i64 m :: u8s C) _ (blk_pre K2.out) Tryz.underlying47 rfl (pcl_info m hC) (pc m C) rfl ?_)
      | (go_at_call 75; refine (CF.out _).mono ?_; rintro e w1 ⟨rfl, hb1⟩; have B1 := hid (B0.out.trans (hb1.mono B0.out.size)); clear hb1))
    go_ret
    exact ⟨rfl, B1.out⟩
  · by_cases hlm : l ≤ m
    · have hd : decide (l ≤ m) = true := decide_eq_true hlm
      go_enter Tryz.func101, Tryz.ntmps101
      go_wp2_with (first
        | (refine load_at rfl 47 (.tmp 3) rfl (w.heap.size + 1) 0 rfl (.int .i64 m :: u8s C) _ (blk_pre K2.out) Tryz.underlying47 rfl (pcl_info m hC) (pc m C) rfl ?_)
        | (go_at_call 75; refine (CF.out _).mono ?_; rintro e w1 ⟨rfl, hb1⟩; have L1 := hid (K1.out.below hb1); have L2 := hid (K2.out.below hb1); have B1 := hid (B0.out.trans (hb1.mono B0.out.size)); have cl : w1.cell? ⟨w.heap.size, 0, none⟩ = some (.int .i64 l) := L1.out.cell 0; have cm : w1.cell? ⟨w.heap.size + 1, 0, none⟩ = some (.int .i64 m) := L2.out.cell 0; clear hb1)
        | (refine load_at rfl 47 (.tmp 2) rfl w.heap.size 0 rfl (.int .i64 l :: u8s B) _ (blk_pre L1.out) Tryz.underlying47 rfl (pcl_info l hB) (pc l B) rfl ?_)
        | (refine load_at rfl 25 (.tmp 16) rfl (w.heap.size + 1) 1 rfl (u8s C) _ (pc_range L2.out) Tryz.underlying25 rfl (u8s_info hC) (kc C) rfl ?_)
        | (go_at_call 49; refine (CH.out _).mono ?_; rintro e w2 ⟨rfl, hb2⟩; have B2 := hid (B1.out.trans (hb2.mono B1.out.size)); clear hb2))
      go_ret
      refine ⟨?_, B2.out⟩
      rw [hd]
      exact congrArg (fun q : Bool => Ending.returned (.bool q)) (by simp)
    · have hd : decide (l ≤ m) = false := decide_eq_false hlm
      go_enter Tryz.func101, Tryz.ntmps101
      go_wp2_with (first
        | (refine load_at rfl 47 (.tmp 3) rfl (w.heap.size + 1) 0 rfl (.int .i64 m :: u8s C) _ (blk_pre K2.out) Tryz.underlying47 rfl (pcl_info m hC) (pc m C) rfl ?_)
        | (go_at_call 75; refine (CF.out _).mono ?_; rintro e w1 ⟨rfl, hb1⟩; have L1 := hid (K1.out.below hb1); have L2 := hid (K2.out.below hb1); have B1 := hid (B0.out.trans (hb1.mono B0.out.size)); have cl : w1.cell? ⟨w.heap.size, 0, none⟩ = some (.int .i64 l) := L1.out.cell 0; have cm : w1.cell? ⟨w.heap.size + 1, 0, none⟩ = some (.int .i64 m) := L2.out.cell 0; clear hb1))
      go_ret
      refine ⟨?_, B1.out⟩
      rw [hd]
      exact congrArg (fun q : Bool => Ending.returned (.bool q)) (by simp)

theorem frm_ref {l : Nat} {B : List Int} (hB : Ky B) (hl : l ≤ 256) (h : ∀ i, l ≤ i → i < 256 → bit B i = 0) : frm l B = true := by
  unfold frm
  refine decide_eq_true ⟨by omega, by omega, ?_⟩
  rw [show ((l : Int)).toNat = l by omega]
  refine (cut_is_iff hB).2 (fun i hi => ?_)
  by_cases hil : i < l
  · rw [if_pos hil]
  · rw [if_neg hil]; exact h i (by omega) hi
theorem frm_no {l : Nat} {B : List Int} (hB : Ky B) (i : Nat) (h1 : l ≤ i) (h2 : i < 256) (h : bit B i = 1) : frm l B = false := by
  unfold frm
  refine decide_eq_false ?_
  rintro ⟨_, _, h3⟩
  rw [show ((l : Int)).toNat = l by omega] at h3
  have := (cut_is_iff hB).1 h3 i h2
  rw [if_neg (by omega), h] at this
  omega
theorem frm_out {l : Int} {B : List Int} (h : l < 0 ∨ 256 < l) : frm l B = false := by
  unfold frm
  refine decide_eq_false ?_
  rintro ⟨_, _, _⟩
  omega
end Go.Proofs.YtjhaamffgkialaaGreatDoor
/-
  What is proved here: whether a beginning holds a key, or another beginning, as the document tells it.
-/
namespace Go.Proofs.YtjhaamffgkialaaGreatDoor
open Go.ChangeShapes Go.WideShapes Go.ChangeAt Go.RowKit
set_option linter.unusedVariables false
set_option maxRecDepth 20000

end Go.Proofs.YtjhaamffgkialaaGreatDoor
/-
  What is proved here: the longest beginning that holds two, as the code tells it.
-/
namespace Go.Proofs.YtjhaamffgkialaaGreatDoor
open Go.ChangeShapes Go.WideShapes Go.ChangeAt Go.RowKit
set_option linter.unusedVariables false
set_option maxRecDepth 20000

/-- the longest beginning that holds both -/
def mt (l m : Int) (S : Nat) : Nat := min (min l.toNat m.toNat) S
def meetV (l : Int) (B : List Int) (m : Int) (C : List Int) : Array Value := if (frm l B && frm m C) = true then pc (mt l m (shr B C)) (cut B (mt l m (shr B C))) else pc 0 zk
theorem frm_le {l : Int} {B : List Int} (h : frm l B = true) : 0 ≤ l ∧ l ≤ 256 := by
  have := of_decide_eq_true h
  exact ⟨this.1, this.2.1⟩
theorem built_none : Tryz.prog.built 47 [] = some (pc 0 zk) := by kernel_rfl
theorem build_0 {ops : Array Oper} {rest : List Oper} {o : Oper} {a : Act} {w : World} {Q : Exit → Act → World → Prop} (hg : o.guard = none) (ho : o.op = .build 47 #[])
    (h : wpList Tryz.prog ops Q rest (a.put o.dst (.agg (pc 0 zk))) w) : wpList Tryz.prog ops Q (o :: rest) a w := by
  have e : (Array.map (fun (i, x) => (i, a.eval x)) (#[] : Array (Nat × Operand))).toList = [] := by simp
  refine wpList_build hg 47 #[] ho (by rw [e, built_none]; rfl) ?_
  rw [e, built_none]
  exact h

set_option maxHeartbeats 2000000 in
theorem pMeet_no (l m : Int) (B C : List Int) (hB : Ky B) (hC : Ky C) (w : World) (h : (frm l B && frm m C) = false) :
    Calls Tryz.prog 52 #[.agg (pc l B), .agg (pc m C)] w fun e w' => e = .returned (.agg (pc 0 zk)) ∧ Below w.heap.size w w' := by
  obtain ⟨Z, HZ, hZ0, hZs⟩ := zero_pre
  obtain ⟨hk1, hk2, hk3, hb0⟩ := three_blks w (pc l B) (pc m C) Z 47 47 47
  have K1 := hid hk1; have K2 := hid hk2; have K3 := hid hk3; have B0 := hid hb0
  clear hk1 hk2 hk3 hb0
  have CF := hid (fun w => pFormed_any l B hB w)
  have CG := hid (fun w => pFormed_any m C hC w)
  have HI := hid (pc_info 0 zk_ky)
  have HZ33 : Hid (Z.size = (pc 0 zk).size) := by show _ = _; rw [HZ.out]
  generalize frm l B = v1 at CF h
  generalize frm m C = v2 at CG h
  have hcase : v1 = false ∨ v1 = true ∧ v2 = false := by cases v1 <;> cases v2 <;> simp_all
  clear h
  rcases hcase with rfl | ⟨rfl, rfl⟩
  · go_enter Tryz.func52, Tryz.ntmps52
    go_wp2_with (first
      | (refine load_at rfl 47 (.tmp 2) rfl w.heap.size 0 rfl (.int .i64 l :: u8s B) _ (blk_pre K1.out) Tryz.underlying47 rfl (pcl_info l hB) (pc l B) rfl ?_)
      | (go_at_call 75; refine (CF.out _).mono ?_; rintro e w1 ⟨rfl, hb1⟩; have L3 := hid (K3.out.below hb1); have B1 := hid (B0.out.trans (hb1.mono B0.out.size)); clear hb1)
      | (refine build_0 rfl rfl ?_)
      | (refine wpList_store_row rfl 47 (.tmp 4) (.tmp 13) rfl (w.heap.size + 1 + 1) (pc 0 zk) rfl rfl 47 Z L3.out HI.out HZ33.out (pc_one _ _) ?_))
    try go_frame
    refine bodyPost_ret (results_cell_row Tryz.results52 _ _ (w.heap.size + 1 + 1) 47 (pc 0 zk) (0, 0) _ rfl (L3.out.row _) Tryz.underlying47 rfl HI.out) rfl ?_
    exact ⟨rfl, below_setRow B1.out (by omega) _⟩
  · go_enter Tryz.func52, Tryz.ntmps52
    go_wp2_with (first
      | (refine load_at rfl 47 (.tmp 2) rfl w.heap.size 0 rfl (.int .i64 l :: u8s B) _ (blk_pre K1.out) Tryz.underlying47 rfl (pcl_info l hB) (pc l B) rfl ?_)
      | (go_at_call 75; with_reducible refine (CF.out _).mono ?_; rintro e w1 ⟨rfl, hb1⟩; have L2 := hid (K2.out.below hb1); have L3 := hid (K3.out.below hb1); have B1 := hid (B0.out.trans (hb1.mono B0.out.size)); clear hb1)
      | (refine load_at rfl 47 (.tmp 3) rfl (w.heap.size + 1) 0 rfl (.int .i64 m :: u8s C) _ (blk_pre L2.out) Tryz.underlying47 rfl (pcl_info m hC) (pc m C) rfl ?_)
      | (go_at_call 75; with_reducible refine (CG.out _).mono ?_; rintro e w2 ⟨rfl, hb2⟩; have M3 := hid (L3.out.below hb2); have B2 := hid (B1.out.trans (hb2.mono B1.out.size)); clear hb2)
      | (refine build_0 rfl rfl ?_)
      | (refine wpList_store_row rfl 47 (.tmp 4) (.tmp 13) rfl (w.heap.size + 1 + 1) (pc 0 zk) rfl rfl 47 Z M3.out HI.out HZ33.out (pc_one _ _) ?_))
    try go_frame
    refine bodyPost_ret (results_cell_row Tryz.results52 _ _ (w.heap.size + 1 + 1) 47 (pc 0 zk) (0, 0) _ rfl (M3.out.row _) Tryz.underlying47 rfl HI.out) rfl ?_
    exact ⟨rfl, below_setRow B2.out (by omega) _⟩
end Go.Proofs.YtjhaamffgkialaaGreatDoor
/-
  What is proved here: the longest beginning that holds two that are formed, as the code tells it.
-/
namespace Go.Proofs.YtjhaamffgkialaaGreatDoor
open Go.ChangeShapes Go.WideShapes Go.ChangeAt Go.RowKit
set_option linter.unusedVariables false

/-- both beginnings lie where they lay, and there is room for a third -/
structure Mk (w : World) (l : Int) (B : List Int) (m : Int) (C : List Int) (w' : World) : Prop where
  b1 : Blk w' w.heap.size 47 (pc l B)
  b2 : Blk w' (w.heap.size + 1) 47 (pc m C)
  b3 : ∃ cs, Blk w' (w.heap.size + 1 + 1) 47 cs ∧ cs.size = 33
  bl : Below w.heap.size w w'
section
variable {w : World} {l : Int} {B : List Int} {m : Int} {C : List Int} {w' : World}
theorem Mk.drew (h : Mk w l B m C w') : Mk w l B m C w'.drew := ⟨h.b1, h.b2, h.b3, h.bl.drew⟩
theorem Mk.below (h : Mk w l B m C w') {w2 : World} (hb : Below w'.heap.size w' w2) : Mk w l B m C w2 := ⟨h.b1.below hb, h.b2.below hb, by
  obtain ⟨cs, h1, h2⟩ := h.b3
  exact ⟨cs, h1.below hb, h2⟩, h.bl.trans (hb.mono h.bl.size)⟩
theorem Mk.lenB (h : Mk w l B m C w') : w'.cell? ⟨w.heap.size, 0, none⟩ = some (.int .i64 l) := h.b1.cell 0
theorem Mk.lenC (h : Mk w l B m C w') : w'.cell? ⟨w.heap.size + 1, 0, none⟩ = some (.int .i64 m) := h.b2.cell 0
theorem Mk.bitsB (h : Mk w l B m C w') : w'.rangeAt w.heap.size 1 (u8s B) := pc_range h.b1
theorem Mk.bitsC (h : Mk w l B m C w') : w'.rangeAt (w.heap.size + 1) 1 (u8s C) := pc_range h.b2
end

theorem min3_run (l m : Int) (S : Nat) (h0 : 0 ≤ l) (h1 : 0 ≤ m) (w : World) :
    Sem.run Tryz.prog (Builtin.min_ #[3, 3, 3] 3 #[.int .i64 l, .int .i64 m, .int .i64 S]) w = .ok (.int .i64 (mt l m S : Nat)) w := by
  have e : (mt l m S : Int) = if (S : Int) < (if m < l then m else l) then (S : Int) else (if m < l then m else l) := by
    unfold mt
    split <;> split at * <;> omega
  rw [e]
  simp [Builtin.min_, Builtin.min2, Sem.run_bind, Sem.run_pure, Result.andThen_ok]
set_option maxRecDepth 5000 in
set_option maxHeartbeats 4000000 in
theorem pMeet_yes (l m : Int) (B C : List Int) (hB : Ky B) (hC : Ky C) (w : World) (h1 : frm l B = true) (h2 : frm m C = true) :
    Calls Tryz.prog 52 #[.agg (pc l B), .agg (pc m C)] w fun e w' => e = .returned (.agg (pc (mt l m (shr B C)) (cut B (mt l m (shr B C))))) ∧ Below w.heap.size w w' := by
  obtain ⟨Z, HZ, hZ0, hZs⟩ := zero_pre
  obtain ⟨hk1, hk2, hk3, hb0⟩ := three_blks w (pc l B) (pc m C) Z 47 47 47
  have K1 := hid hk1; have K2 := hid hk2; have K3 := hid hk3; have B0 := hid hb0
  clear hk1 hk2 hk3 hb0
  have CF := hid (fun w => pFormed_any l B hB w)
  have CG := hid (fun w => pFormed_any m C hC w)
  rw [h1] at CF
  rw [h2] at CG
  have g1 := frm_le h1
  have g2 := frm_le h2
  have gs := (shr_is B C).le
  clear h1 h2
  have CS := hid (fun (w1 : World) (h : Hid (Mk w l B m C w1)) => (pShared_any B C hB hC w1).mono fun e w' (⟨he, hb⟩ : _ ∧ _) => (⟨he, h.out.below hb⟩ : e = Ending.returned (.int .i64 (shr B C)) ∧ Hid (Mk w l B m C w')))
  generalize shr B C = S at CS gs ⊢
  have hmin := fun w => min3_run l m S g1.1 g2.1 w
  have hN : lim (mt l m S) = mt l m S := by unfold lim mt; omega
  obtain ⟨N, hNN⟩ : ∃ N, N = mt l m S := ⟨_, rfl⟩
  rw [← hNN] at hN hmin ⊢
  have CC0 := fun w => pCut_any B hB N w
  rw [hN] at CC0
  have CC := hid (fun (w1 : World) (h : Hid (Mk w l B m C w1)) => (CC0 w1).mono fun e w' (⟨he, hb⟩ : _ ∧ _) => (⟨he, h.out.below hb⟩ : e = Ending.returned (.agg (pc N (cut B N))) ∧ Hid (Mk w l B m C w')))
  have HI := hid (pc_info N (cut_ky B N))
  have HS33 := hid (pc_size N (cut_ky B N))
  clear hNN hN CC0
  have GG : Hid (0 ≤ l ∧ l ≤ 256 ∧ 0 ≤ m ∧ m ≤ 256 ∧ S ≤ 256) := ⟨g1.1, g1.2, g2.1, g2.2, gs⟩
  have HZ33 : Hid (Z.size = 33) := by show _ = _; rw [HZ.out, pc_size 0 zk_ky]
  clear g1 g2 gs
  go_enter Tryz.func52, Tryz.ntmps52
  go_wp2_with (first
    | (refine load_at rfl 47 (.tmp 2) rfl w.heap.size 0 rfl (.int .i64 l :: u8s B) _ (blk_pre K1.out) Tryz.underlying47 rfl (pcl_info l hB) (pc l B) rfl ?_)
    | (go_at_call 75; with_reducible refine (CF.out _).mono ?_; rintro e w1 ⟨rfl, hb1⟩; have L1 := hid (K1.out.below hb1); have L2 := hid (K2.out.below hb1); have L3 := hid (K3.out.below hb1); have B1 := hid (B0.out.trans (hb1.mono B0.out.size)); clear hb1)
    | (refine load_at rfl 47 (.tmp 3) rfl (w.heap.size + 1) 0 rfl (.int .i64 m :: u8s C) _ (blk_pre L2.out) Tryz.underlying47 rfl (pcl_info m hC) (pc m C) rfl ?_)
    | (go_at_call 75; with_reducible refine (CG.out _).mono ?_; rintro e w2 ⟨rfl, hb2⟩; have MK := hid (Mk.mk (m := m) (C := C) (L1.out.below hb2) (L2.out.below hb2) ⟨Z, L3.out.below hb2, HZ33.out⟩ (B1.out.trans (hb2.mono B1.out.size))); clear hb2))
  refine wp_region_held (S := fun w' => Hid (Mk w l B m C w')) (by kernel_rfl) ?_
  change wpAnyH _ _ _ _ _ _ _ _ w2.drew
  have KD : Hid (Mk w l B m C w2.drew) := Mk.drew MK.out
  clear MK
  clear L1 L2 L3 B1 K1 K2 K3 B0
  generalize w2.drew = w3 at KD ⊢
  refine wpAnyH_take (i := 0) (oi := { dst := some 14, op := _, type := _, pos := _, after := _, guard := _ }) (v := ?_) rfl (by kernel_rfl) (by kernel_rfl) (by kernel_rfl) (fun _ _ _ h => h) (Or.inl ⟨by kernel_rfl, ?_⟩) (by assumption) ?_
  rotate_left
  · (intro w hSw; go_simp; try with_reducible rfl)
  try simp only [Act.put, List.setIfInBounds_toArray, List.set_cons_zero, List.set_cons_succ]
  refine wpAnyH_take (i := 1) (oi := { dst := some 15, op := _, type := _, pos := _, after := _, guard := _ }) (v := .agg (u8s B).toArray) rfl (by kernel_rfl) (by kernel_rfl) (by kernel_rfl) (fun _ _ _ h => h) (yieldsIf_load_mid (by rfl) _ _ rfl _ _ rfl _ _ (fun w' hSw => Mk.bitsB (Hid.out hSw)) Tryz.underlying25 rfl (u8s_info hB)) (by assumption) ?_
  try simp only [Act.put, List.setIfInBounds_toArray, List.set_cons_zero, List.set_cons_succ]
  refine wpAnyH_take (i := 2) (oi := { dst := some 16, op := _, type := _, pos := _, after := _, guard := _ }) (v := ?_) rfl (by kernel_rfl) (by kernel_rfl) (by kernel_rfl) (fun _ _ _ h => h) (Or.inl ⟨by kernel_rfl, ?_⟩) (by assumption) ?_
  rotate_left
  · (intro w hSw; go_simp; try with_reducible rfl)
  try simp only [Act.put, List.setIfInBounds_toArray, List.set_cons_zero, List.set_cons_succ]
  refine wpAnyH_take (i := 3) (oi := { dst := some 17, op := _, type := _, pos := _, after := _, guard := _ }) (v := ?_) rfl (by kernel_rfl) (by kernel_rfl) (by kernel_rfl) (fun _ _ _ h => h) (Or.inl ⟨by kernel_rfl, ?_⟩) (by assumption) ?_
  rotate_left
  · (intro w hSw; have hc := Mk.lenB (Hid.out hSw); go_simp; try with_reducible rfl)
  try simp only [Act.put, List.setIfInBounds_toArray, List.set_cons_zero, List.set_cons_succ]
  refine wpAnyH_take (i := 4) (oi := { dst := some 18, op := _, type := _, pos := _, after := _, guard := _ }) (v := ?_) rfl (by kernel_rfl) (by kernel_rfl) (by kernel_rfl) (fun _ _ _ h => h) (Or.inl ⟨by kernel_rfl, ?_⟩) (by assumption) ?_
  rotate_left
  · (intro w hSw; go_simp; try with_reducible rfl)
  try simp only [Act.put, List.setIfInBounds_toArray, List.set_cons_zero, List.set_cons_succ]
  refine wpAnyH_take (i := 5) (oi := { dst := some 19, op := _, type := _, pos := _, after := _, guard := _ }) (v := ?_) rfl (by kernel_rfl) (by kernel_rfl) (by kernel_rfl) (fun _ _ _ h => h) (Or.inl ⟨by kernel_rfl, ?_⟩) (by assumption) ?_
  rotate_left
  · (intro w hSw; have hc := Mk.lenC (Hid.out hSw); go_simp; try with_reducible rfl)
  try simp only [Act.put, List.setIfInBounds_toArray, List.set_cons_zero, List.set_cons_succ]
  refine wpAnyH_take (i := 6) (oi := { dst := some 20, op := _, type := _, pos := _, after := _, guard := _ }) (v := ?_) rfl (by kernel_rfl) (by kernel_rfl) (by kernel_rfl) (fun _ _ _ h => h) (Or.inl ⟨by kernel_rfl, ?_⟩) (by assumption) ?_
  rotate_left
  · (intro w hSw; go_simp; try with_reducible rfl)
  try simp only [Act.put, List.setIfInBounds_toArray, List.set_cons_zero, List.set_cons_succ]
  refine wpAnyH_take (i := 7) (oi := { dst := some 21, op := _, type := _, pos := _, after := _, guard := _ }) (v := .agg (u8s B).toArray) rfl (by kernel_rfl) (by kernel_rfl) (by kernel_rfl) (fun _ _ _ h => h) (yieldsIf_load_mid (by rfl) _ _ rfl _ _ rfl _ _ (fun w' hSw => Mk.bitsB (Hid.out hSw)) Tryz.underlying25 rfl (u8s_info hB)) (by assumption) ?_
  try simp only [Act.put, List.setIfInBounds_toArray, List.set_cons_zero, List.set_cons_succ]
  refine wpAnyH_take (i := 8) (oi := { dst := some 22, op := _, type := _, pos := _, after := _, guard := _ }) (v := ?_) rfl (by kernel_rfl) (by kernel_rfl) (by kernel_rfl) (fun _ _ _ h => h) (Or.inl ⟨by kernel_rfl, ?_⟩) (by assumption) ?_
  rotate_left
  · (intro w hSw; go_simp; try with_reducible rfl)
  try simp only [Act.put, List.setIfInBounds_toArray, List.set_cons_zero, List.set_cons_succ]
  refine wpAnyH_take (i := 9) (oi := { dst := some 23, op := _, type := _, pos := _, after := _, guard := _ }) (v := .agg (u8s C).toArray) rfl (by kernel_rfl) (by kernel_rfl) (by kernel_rfl) (fun _ _ _ h => h) (yieldsIf_load_mid (by rfl) _ _ rfl _ _ rfl _ _ (fun w' hSw => Mk.bitsC (Hid.out hSw)) Tryz.underlying25 rfl (u8s_info hC)) (by assumption) ?_
  try simp only [Act.put, List.setIfInBounds_toArray, List.set_cons_zero, List.set_cons_succ]
  refine wpAnyH_ready (rs := [10]) (by kernel_rfl) (by simp) ?_
  refine AllReadyH.cons (o := { dst := some 24, op := _, type := _, pos := _, after := _, guard := _ }) rfl (fun K hK => ?_) AllReadyH.nil
  go_simp
  go_at_call 76; refine (CS.out _ KD).mono ?_; rintro e w4 ⟨rfl, KE⟩
  go_wp2_with fail
  refine hK.out _ _ ?_ (fun hHeld => ?_)
  · assumption
  clear hK K
  try simp only [Act.put, List.setIfInBounds_toArray, List.set_cons_zero, List.set_cons_succ]
  refine wpAnyH_take (i := 11) (oi := { dst := some 25, op := _, type := _, pos := _, after := _, guard := _ }) (v := ?_) rfl (by kernel_rfl) (by kernel_rfl) (by kernel_rfl) (fun _ _ _ h => h) (Or.inl ⟨by kernel_rfl, ?_⟩) (by assumption) ?_
  rotate_left
  · (intro w hSw; have hq := hmin w; go_simp; try with_reducible rfl)
  try simp only [Act.put, List.setIfInBounds_toArray, List.set_cons_zero, List.set_cons_succ]
  refine wpAnyH_ready (rs := [12]) (by kernel_rfl) (by simp) ?_
  refine AllReadyH.cons (o := { dst := some 26, op := _, type := _, pos := _, after := _, guard := _ }) rfl (fun K hK => ?_) AllReadyH.nil
  go_simp
  go_at_call 54; refine (CC.out _ KE).mono ?_; rintro e w5 ⟨rfl, KF⟩
  go_wp2_with fail
  refine hK.out _ _ ?_ (fun hHeld => ?_)
  · assumption
  clear hK K
  try simp only [Act.put, List.setIfInBounds_toArray, List.set_cons_zero, List.set_cons_succ]
  obtain ⟨cs, hcs, hsz⟩ := KF.out.b3
  have HC := hid hcs
  have HSZ : Hid (cs.size = (pc N (cut B N)).size) := hsz.trans HS33.out.symm
  have KG : Hid (Mk w l B m C (w5.setRow (w.heap.size + 1 + 1) (pc N (cut B N)))) := Mk.mk (KF.out.b1.rowFar (by omega) _) (KF.out.b2.rowFar (by omega) _) ⟨_, HC.out.row _, HS33.out⟩ (below_setRow KF.out.bl (by omega) _)
  have KR : Hid (Blk (w5.setRow (w.heap.size + 1 + 1) (pc N (cut B N))) (w.heap.size + 1 + 1) 47 (pc N (cut B N))) := HC.out.row _
  clear hcs hsz
  refine wpAnyH_ready (rs := [13]) (by kernel_rfl) (by simp) ?_
  refine AllReadyH.cons (o := { dst := none, op := _, type := _, pos := _, after := _, guard := _ }) rfl (fun K hK => ?_) AllReadyH.nil
  rw [if_pos (by rfl)]
  refine wp_store_row 47 (.tmp 4) (.tmp 26) rfl (w.heap.size + 1 + 1) (pc N (cut B N)) rfl rfl 47 cs HC.out HI.out HSZ.out (pc_one _ _) ?_
  refine hK.out _ _ KG (fun hHeld => ?_)
  clear hK K
  refine wpAnyH_done (by kernel_rfl) ?_ _
  try simp only [Act.put, List.setIfInBounds_toArray, List.set_cons_zero, List.set_cons_succ]
  generalize w5.setRow (w.heap.size + 1 + 1) (pc N (cut B N)) = w6 at KG KR hHeld ⊢
  go_wp2
  refine bodyPost_ret (results_cell_row Tryz.results52 _ _ (w.heap.size + 1 + 1) 47 (pc N (cut B N)) (0, 0) _ rfl KR.out Tryz.underlying47 rfl HI.out) rfl ?_
  exact ⟨rfl, KG.out.bl⟩
end Go.Proofs.YtjhaamffgkialaaGreatDoor
/-
  What is proved here: the longest beginning that holds two, as the document tells it.
-/
namespace Go.Proofs.YtjhaamffgkialaaGreatDoor
open Go.ChangeShapes Go.WideShapes Go.ChangeAt Go.RowKit
set_option linter.unusedVariables false
set_option maxRecDepth 20000

theorem pMeet_any (l m : Int) (B C : List Int) (hB : Ky B) (hC : Ky C) (w : World) :
    Calls Tryz.prog 52 #[.agg (pc l B), .agg (pc m C)] w fun e w' => e = .returned (.agg (meetV l B m C)) ∧ Below w.heap.size w w' := by
  unfold meetV
  cases h : (frm l B && frm m C)
  · rw [if_neg (by decide)]; exact pMeet_no l m B C hB hC w h
  · rw [if_pos rfl]
    rw [Bool.and_eq_true] at h
    exact pMeet_yes l m B C hB hC w h.1 h.2
end Go.Proofs.YtjhaamffgkialaaGreatDoor
/-
  What is proved here: a beginning with a bit more, as the code tells it.
-/
namespace Go.Proofs.YtjhaamffgkialaaGreatDoor
open Go.ChangeShapes Go.WideShapes Go.ChangeAt Go.RowKit
set_option linter.unusedVariables false
set_option maxRecDepth 20000

/-- whether there is a beginning with a bit more -/
def chB (l : Int) (B : List Int) (b : Int) : Bool := frm l B && decide (l ≠ 256) && (decide (b = 0) || decide (b = 1))
/-- its bits -/
def chK (l : Int) (B : List Int) (b : Int) : List Int := if b = 1 then setb B l.toNat else B
def chV (l : Int) (B : List Int) (b : Int) : Value := if chB l B b = true then .tuple #[.agg (pc (l + 1) (chK l B b)), .bool true] else .tuple #[.agg (pc 0 zk), .bool false]
theorem results_child {P : Program} {fn : Func} {p q : Tmp} {ty : TypeId} (h : fn.results = #[.cell p ty, .tmp q]) (tmps : Array Value) (w : World) (g : Nat) (t : TypeId) (cs : Array Value) (fr : Nat × Nat) (d : TypeDesc)
    (hp : tmps.getD p undef = .pointer (some ⟨g, 0, none⟩)) (hg : w.heap[g]? = some (.cells cs t fr))
    (hu : P.underlying ty = some d) (hd : (match d with | .struct _ | .array _ _ => true | _ => false) = true) (hi : (P.info? ty).map (·.size) = some cs.size) :
    (results fn tmps).run P w = .ok (.tuple #[.agg cs, tmps.getD q undef]) w := by
  have hp' : tmps[p]?.getD undef = .pointer (some ⟨g, 0, none⟩) := by simpa using hp
  simp [results, h, hp', asAddr, run_loadVar_row w g t ty cs fr d hg hu hd hi]
theorem or_rot_f : ∀ t : Fin 8, ∀ x : Fin 256, bits .or .u8 (x.val : Int) (rot 0 (7 - t.val)) = x.val ∧ (bt (x.val : Int) t.val = 0 → bits .or .u8 (x.val : Int) (rot 1 (7 - t.val)) = (x.val : Int) + 2 ^ (7 - t.val)) := by decide +kernel
theorem or_rot (x : Int) (hx : 0 ≤ x ∧ x < 256) (t : Nat) (ht : t < 8) : bits .or .u8 x (rot 0 (7 - t)) = x ∧ (bt x t = 0 → bits .or .u8 x (rot 1 (7 - t)) = x + 2 ^ (7 - t)) := by
  obtain ⟨n, rfl⟩ : ∃ n : Nat, x = n := ⟨x.toNat, by omega⟩
  exact or_rot_f ⟨t, ht⟩ ⟨n, by omega⟩
theorem set_self {K : List Int} (hK : Ky K) (j : Nat) : K.set j (K[j]?.getD 0) = K := by
  apply List.ext_getElem?
  intro i
  rw [List.getElem?_set]
  by_cases e : j = i
  · subst e
    rw [if_pos rfl]
    by_cases h : j < K.length
    · rw [if_pos h]; simp [h]
    · rw [if_neg h, List.getElem?_eq_none (by omega)]
  · rw [if_neg e]
theorem frm_bit {l : Nat} {B : List Int} (hB : Ky B) (h : frm l B = true) (i : Nat) (h1 : l ≤ i) (h2 : i < 256) : bit B i = 0 := by
  have := (of_decide_eq_true h).2.2
  rw [show ((l : Int)).toNat = l by omega] at this
  have h3 := (cut_is_iff hB).1 this i h2
  rw [if_neg (by omega)] at h3
  exact h3

set_option maxHeartbeats 4000000 in
theorem pChild_no (l : Int) (B : List Int) (b : Int) (hB : Ky B) (w : World) (h : chB l B b = false) :
    Calls Tryz.prog 100 #[.agg (pc l B), .int .i64 b] w fun e w' => e = .returned (.tuple #[.agg (pc 0 zk), .bool false]) ∧ Below w.heap.size w w' := by
  obtain ⟨Z, HZ, hZ0, hZs⟩ := zero_pre
  obtain ⟨hk1, hk2, hb0⟩ := one_blks w (pc l B) Z 47 47
  have K1 := hid hk1; have K2 := hid hk2; have B0 := hid hb0
  clear hk1 hk2 hb0
  have CF := hid (fun w => pFormed_any l B hB w)
  have HI := hid (pc_info 0 zk_ky)
  have HZ33 : Hid (Z.size = (pc 0 zk).size) := by show _ = _; rw [HZ.out]
  unfold chB at h
  generalize frm l B = v at CF h
  have hcase : v = false ∨ v = true ∧ l = 256 ∨ v = true ∧ l ≠ 256 ∧ b ≠ 0 ∧ b ≠ 1 := by
    cases v
    · exact Or.inl rfl
    · by_cases h1 : l = 256
      · exact Or.inr (Or.inl ⟨rfl, h1⟩)
      · refine Or.inr (Or.inr ⟨rfl, h1, fun h2 => ?_, fun h2 => ?_⟩)
        · simp [h1, h2] at h
        · simp [h1, h2] at h
  clear h
  rcases hcase with rfl | ⟨rfl, rfl⟩ | ⟨rfl, hl, hb0, hb1⟩
  · go_enter Tryz.func100, Tryz.ntmps100
    go_wp2_with (first
      | (refine load_at rfl 47 (.tmp 2) rfl w.heap.size 0 rfl (.int .i64 l :: u8s B) _ (blk_pre K1.out) Tryz.underlying47 rfl (pcl_info l hB) (pc l B) rfl ?_)
      | (go_at_call 75; refine (CF.out _).mono ?_; rintro e w1 ⟨rfl, hb1⟩; have L1 := hid (K1.out.below hb1); have L2 := hid (K2.out.below hb1); have B1 := hid (B0.out.trans (hb1.mono B0.out.size)); have c1 : w1.cell? ⟨w.heap.size, 0, none⟩ = some (.int .i64 l) := L1.out.cell 0; clear hb1)
      | (refine build_0 rfl rfl ?_)
      | (refine wpList_store_row rfl 47 (.tmp 4) (.tmp 22) rfl (w.heap.size + 1) (pc 0 zk) rfl rfl 47 Z L2.out HI.out HZ33.out (pc_one _ _) ?_))
    try go_frame
    refine bodyPost_ret (results_child Tryz.results100 _ _ (w.heap.size + 1) 47 (pc 0 zk) (0, 0) _ rfl (L2.out.row _) Tryz.underlying47 rfl HI.out) rfl ?_
    exact ⟨rfl, below_setRow B1.out (by omega) _⟩
  · go_enter Tryz.func100, Tryz.ntmps100
    go_wp2_with (first
      | (refine load_at rfl 47 (.tmp 2) rfl w.heap.size 0 rfl (.int .i64 256 :: u8s B) _ (blk_pre K1.out) Tryz.underlying47 rfl (pcl_info 256 hB) (pc 256 B) rfl ?_)
      | (go_at_call 75; refine (CF.out _).mono ?_; rintro e w1 ⟨rfl, hb1⟩; have L1 := hid (K1.out.below hb1); have L2 := hid (K2.out.below hb1); have B1 := hid (B0.out.trans (hb1.mono B0.out.size)); have c1 : w1.cell? ⟨w.heap.size, 0, none⟩ = some (.int .i64 256) := L1.out.cell 0; clear hb1)
      | (refine build_0 rfl rfl ?_)
      | (refine wpList_store_row rfl 47 (.tmp 4) (.tmp 22) rfl (w.heap.size + 1) (pc 0 zk) rfl rfl 47 Z L2.out HI.out HZ33.out (pc_one _ _) ?_))
    try go_frame
    refine bodyPost_ret (results_child Tryz.results100 _ _ (w.heap.size + 1) 47 (pc 0 zk) (0, 0) _ rfl (L2.out.row _) Tryz.underlying47 rfl HI.out) rfl ?_
    exact ⟨rfl, below_setRow B1.out (by omega) _⟩
  · have e1 : (l == 256) = false := by simpa using hl
    have e2 : (b != 0) = true := by simpa using hb0
    have e3 : (b != 1) = true := by simpa using hb1
    go_enter Tryz.func100, Tryz.ntmps100
    go_wp2_with (first
      | (refine load_at rfl 47 (.tmp 2) rfl w.heap.size 0 rfl (.int .i64 l :: u8s B) _ (blk_pre K1.out) Tryz.underlying47 rfl (pcl_info l hB) (pc l B) rfl ?_)
      | (go_at_call 75; refine (CF.out _).mono ?_; rintro e w1 ⟨rfl, hb1⟩; have L1 := hid (K1.out.below hb1); have L2 := hid (K2.out.below hb1); have B1 := hid (B0.out.trans (hb1.mono B0.out.size)); have c1 : w1.cell? ⟨w.heap.size, 0, none⟩ = some (.int .i64 l) := L1.out.cell 0; clear hb1)
      | (refine build_0 rfl rfl ?_)
      | (refine wpList_store_row rfl 47 (.tmp 4) (.tmp 22) rfl (w.heap.size + 1) (pc 0 zk) rfl rfl 47 Z L2.out HI.out HZ33.out (pc_one _ _) ?_))
    try go_frame
    refine bodyPost_ret (results_child Tryz.results100 _ _ (w.heap.size + 1) 47 (pc 0 zk) (0, 0) _ rfl (L2.out.row _) Tryz.underlying47 rfl HI.out) rfl ?_
    exact ⟨rfl, below_setRow B1.out (by omega) _⟩
end Go.Proofs.YtjhaamffgkialaaGreatDoor
/-
  What is proved here: a beginning with a bit more, where there is one, as the code tells it.
-/
namespace Go.Proofs.YtjhaamffgkialaaGreatDoor
open Go.ChangeShapes Go.WideShapes Go.ChangeAt Go.RowKit
set_option linter.unusedVariables false

theorem pch_or {n : Nat} {B : List Int} (hB : Ky B) (hn : n < 256) (h : frm n B = true) (b : Int) (hb : b = 0 ∨ b = 1) :
    B.set (n / 8) (bits .or .u8 (B[n / 8]?.getD 0) (rot b (7 - n % 8))) = chK n B b := by
  have hx := hB.bs.at (n / 8)
  have ho := or_rot _ hx (n % 8) (by omega)
  unfold chK
  rcases hb with rfl | rfl
  · rw [ho.1, if_neg (by decide), set_self hB]
  · have h0 : bit B n = 0 := frm_bit hB h n (Nat.le_refl _) hn
    rw [ho.2 h0, if_pos rfl, show ((n : Int)).toNat = n by omega]
    exact set_add hB n hn h0
theorem chK_ky {l : Int} {B : List Int} (hB : Ky B) (b : Int) : Ky (chK l B b) := by
  unfold chK
  split
  · exact setb_ky _ _
  · exact hB
set_option maxRecDepth 5000 in
set_option maxHeartbeats 4000000 in
theorem pChild_yes (n : Nat) (B : List Int) (b : Int) (hB : Ky B) (w : World) (hn : n < 256) (hf : frm n B = true) (hb : b = 0 ∨ b = 1) :
    Calls Tryz.prog 100 #[.agg (pc n B), .int .i64 b] w fun e w' => e = .returned (.tuple #[.agg (pc (n + 1) (chK n B b)), .bool true]) ∧ Below w.heap.size w w' := by
  obtain ⟨Z, HZ, hZ0, hZs⟩ := zero_pre
  obtain ⟨hk1, hk2, hb0⟩ := one_blks w (pc n B) Z 47 47
  have K1 := hid hk1; have K2 := hid hk2; have B0 := hid hb0
  clear hk1 hk2 hb0
  have CF := hid (fun w => pFormed_any n B hB w)
  rw [hf] at CF
  have hch := pch_or hB hn hf b hb
  have hky := chK_ky (l := n) hB b
  have hcell := pc_at n hB (n / 8) (by omega)
  have hx := hB.bs.at (n / 8)
  obtain ⟨x, hxx⟩ : ∃ x, x = B[n / 8]?.getD 0 := ⟨_, rfl⟩
  rw [← hxx] at hch hcell hx
  have hb1 : 0 ≤ b := by omega
  have hb2 : b < 256 := by omega
  have CR := hid (fun w => rotb_any b hb1 hb2 (-((n : Int) % 8 + 1)) (7 - n % 8) (by omega) (by have := cnt_down ⟨n % 8, by omega⟩; simpa using this) w)
  generalize rot b (7 - n % 8) = r at CR hch
  generalize chK n B b = D at hch hky ⊢
  have HCH := hid hch; have HKY := hid hky; have HC := hid hcell
  have HI := hid (pc_info (n + 1) hky)
  have HZ33 : Hid (Z.size = (pc (n + 1) D).size) := by show _ = _; rw [HZ.out, pc_size 0 zk_ky, pc_size _ hky]
  have e1 : ((n : Int) == 256) = false := by simp; omega
  have i0 : (0 : Int) ≤ (n : Int) := by omega
  have i1 : (n : Int) < 256 := by omega
  have i2 : (0 : Int) ≤ (n : Int) / 8 := by omega
  have i3 : (n : Int) / 8 < 32 := by omega
  have i4 : ((n : Int) / 8).toNat = n / 8 := by omega
  have s1 : IntKind.i64.wrap ((n : Int) % 8 + 1) = (n : Int) % 8 + 1 := IntWalk.i64_in _ (by omega)
  have s2 : IntKind.i64.wrap (-((n : Int) % 8 + 1)) = -((n : Int) % 8 + 1) := IntWalk.i64_in _ (by omega)
  have s3 : IntKind.u8.wrap b = b := by simp [IntKind.wrap, IntKind.bits, IntKind.signed]; omega
  have s4 : (n : Int).tmod 8 = (n : Int) % 8 := Int.tmod_eq_emod_of_nonneg (by omega)
  have s5 : IntKind.i64.wrap ((n : Int) / 8) = (n : Int) / 8 := IntWalk.i64_in _ (by omega)
  have s6 : IntKind.i64.wrap ((n : Int) % 8) = (n : Int) % 8 := IntWalk.i64_in _ (by omega)
  clear hch hky hcell hxx hf hn
  rcases hb with rfl | rfl
  · go_enter Tryz.func100, Tryz.ntmps100
    go_wp2_with (first
      | (refine load_at rfl 47 (.tmp 2) rfl w.heap.size 0 rfl (.int .i64 n :: u8s B) _ (blk_pre K1.out) Tryz.underlying47 rfl (pcl_info n hB) (pc n B) rfl ?_)
      | (go_at_call 75; refine (CF.out _).mono ?_; rintro e w1 ⟨rfl, hb1⟩; have L1 := hid (K1.out.below hb1); have L2 := hid (K2.out.below hb1); have B1 := hid (B0.out.trans (hb1.mono B0.out.size)); have c1 : w1.cell? ⟨w.heap.size, 0, none⟩ = some (.int .i64 n) := L1.out.cell 0; clear hb1))
    have c2 : w1.cell? ⟨w.heap.size, 1 + n / 8, none⟩ = some (.int .u8 x) := by rw [L1.out.cell, Nat.add_comm]; exact HC.out
    have c3 : w1.frozen? ⟨w.heap.size, 1 + n / 8, none⟩ = false := L1.out.frozen _
    refine wp_region_still_tail 17 (by kernel_rfl) (by kernel_rfl) ?_
    simp only [List.take_succ_cons, List.take_zero, List.drop_succ_cons, List.drop_zero]
    repeat still_step
    refine wpStill_step (fun K hK => ?_)
    go_simp
    refine ⟨_, (CR.out _).mono fun e w'' ⟨he, hw⟩ => ⟨he, hw.symm⟩, hK _ ?_⟩
    clear hK K
    repeat still_step
    refine wpStill_nil ?_
    change wpList _ _ _ _ _ w1.drew
    have P1 : Hid (Blk w1.drew w.heap.size 47 (pc n B)) := L1.out
    have P2 : Hid (Blk w1.drew (w.heap.size + 1) 47 Z) := L2.out
    have PB : Hid (Below w.heap.size w w1.drew) := B1.out.drew
    have d2 : w1.drew.cell? ⟨w.heap.size, 1 + n / 8, none⟩ = some (.int .u8 x) := c2
    have d3 : w1.drew.frozen? ⟨w.heap.size, 1 + n / 8, none⟩ = false := c3
    clear L1 L2 B1 c1 c2 c3
    generalize w1.drew = w2 at P1 P2 PB d2 d3 ⊢
    have q1 : Blk (w2.setCell ⟨w.heap.size, 1 + n / 8, none⟩ (.int .u8 (bits BinOp.or IntKind.u8 x r))) w.heap.size 47 (pc n D) := by
      have := P1.out.setd (1 + n / 8) (.int .u8 (bits BinOp.or IntKind.u8 x r))
      rwa [pc_set, HCH.out] at this
    have e2 : (w2.setCell ⟨w.heap.size, 1 + n / 8, none⟩ (.int .u8 (bits BinOp.or IntKind.u8 x r))).cell? ⟨w.heap.size, 0, none⟩ = some (.int .i64 n) := q1.cell 0
    have e3 : (w2.setCell ⟨w.heap.size, 1 + n / 8, none⟩ (.int .u8 (bits BinOp.or IntKind.u8 x r))).frozen? ⟨w.heap.size, 0, none⟩ = false := q1.frozen 0
    have q2 : Blk (w2.setCell ⟨w.heap.size, 1 + n / 8, none⟩ (.int .u8 (bits BinOp.or IntKind.u8 x r))) (w.heap.size + 1) 47 Z := P2.out.far (by simp) _
    have qb : Below w.heap.size w (w2.setCell ⟨w.heap.size, 1 + n / 8, none⟩ (.int .u8 (bits BinOp.or IntKind.u8 x r))) := PB.out.setCell (by simp) _
    have R1 : Hid (Blk ((w2.setCell ⟨w.heap.size, 1 + n / 8, none⟩ (.int .u8 (bits BinOp.or IntKind.u8 x r))).setCell ⟨w.heap.size, 0, none⟩ (.int .i64 (n + 1))) w.heap.size 47 (pc (n + 1) D)) := q1.setd 0 _
    have R2 : Hid (Blk ((w2.setCell ⟨w.heap.size, 1 + n / 8, none⟩ (.int .u8 (bits BinOp.or IntKind.u8 x r))).setCell ⟨w.heap.size, 0, none⟩ (.int .i64 (n + 1))) (w.heap.size + 1) 47 Z) := q2.far (by simp) _
    have RB : Hid (Below w.heap.size w ((w2.setCell ⟨w.heap.size, 1 + n / 8, none⟩ (.int .u8 (bits BinOp.or IntKind.u8 x r))).setCell ⟨w.heap.size, 0, none⟩ (.int .i64 (n + 1)))) := qb.setCell (by simp) _
    clear q1 q2 qb P1 P2 PB
    go_wp2_with (first
      | (refine load_at rfl 47 (.tmp 2) rfl w.heap.size 0 rfl (.int .i64 (n + 1) :: u8s D) _ (blk_pre R1.out) Tryz.underlying47 rfl (pcl_info _ HKY.out) (pc (n + 1) D) rfl ?_)
      | (refine wpList_store_row rfl 47 (.tmp 4) (.tmp 44) rfl (w.heap.size + 1) (pc (n + 1) D) rfl rfl 47 Z R2.out HI.out HZ33.out (pc_one _ _) ?_))
    try go_frame
    refine bodyPost_ret (results_child Tryz.results100 _ _ (w.heap.size + 1) 47 (pc (n + 1) D) (0, 0) _ rfl (R2.out.row _) Tryz.underlying47 rfl HI.out) rfl ?_
    exact ⟨rfl, below_setRow RB.out (by omega) _⟩
  · go_enter Tryz.func100, Tryz.ntmps100
    go_wp2_with (first
      | (refine load_at rfl 47 (.tmp 2) rfl w.heap.size 0 rfl (.int .i64 n :: u8s B) _ (blk_pre K1.out) Tryz.underlying47 rfl (pcl_info n hB) (pc n B) rfl ?_)
      | (go_at_call 75; refine (CF.out _).mono ?_; rintro e w1 ⟨rfl, hb1⟩; have L1 := hid (K1.out.below hb1); have L2 := hid (K2.out.below hb1); have B1 := hid (B0.out.trans (hb1.mono B0.out.size)); have c1 : w1.cell? ⟨w.heap.size, 0, none⟩ = some (.int .i64 n) := L1.out.cell 0; clear hb1))
    have c2 : w1.cell? ⟨w.heap.size, 1 + n / 8, none⟩ = some (.int .u8 x) := by rw [L1.out.cell, Nat.add_comm]; exact HC.out
    have c3 : w1.frozen? ⟨w.heap.size, 1 + n / 8, none⟩ = false := L1.out.frozen _
    refine wp_region_still_tail 17 (by kernel_rfl) (by kernel_rfl) ?_
    simp only [List.take_succ_cons, List.take_zero, List.drop_succ_cons, List.drop_zero]
    repeat still_step
    refine wpStill_step (fun K hK => ?_)
    go_simp
    refine ⟨_, (CR.out _).mono fun e w'' ⟨he, hw⟩ => ⟨he, hw.symm⟩, hK _ ?_⟩
    clear hK K
    repeat still_step
    refine wpStill_nil ?_
    change wpList _ _ _ _ _ w1.drew
    have P1 : Hid (Blk w1.drew w.heap.size 47 (pc n B)) := L1.out
    have P2 : Hid (Blk w1.drew (w.heap.size + 1) 47 Z) := L2.out
    have PB : Hid (Below w.heap.size w w1.drew) := B1.out.drew
    have d2 : w1.drew.cell? ⟨w.heap.size, 1 + n / 8, none⟩ = some (.int .u8 x) := c2
    have d3 : w1.drew.frozen? ⟨w.heap.size, 1 + n / 8, none⟩ = false := c3
    clear L1 L2 B1 c1 c2 c3
    generalize w1.drew = w2 at P1 P2 PB d2 d3 ⊢
    have q1 : Blk (w2.setCell ⟨w.heap.size, 1 + n / 8, none⟩ (.int .u8 (bits BinOp.or IntKind.u8 x r))) w.heap.size 47 (pc n D) := by
      have := P1.out.setd (1 + n / 8) (.int .u8 (bits BinOp.or IntKind.u8 x r))
      rwa [pc_set, HCH.out] at this
    have e2 : (w2.setCell ⟨w.heap.size, 1 + n / 8, none⟩ (.int .u8 (bits BinOp.or IntKind.u8 x r))).cell? ⟨w.heap.size, 0, none⟩ = some (.int .i64 n) := q1.cell 0
    have e3 : (w2.setCell ⟨w.heap.size, 1 + n / 8, none⟩ (.int .u8 (bits BinOp.or IntKind.u8 x r))).frozen? ⟨w.heap.size, 0, none⟩ = false := q1.frozen 0
    have q2 : Blk (w2.setCell ⟨w.heap.size, 1 + n / 8, none⟩ (.int .u8 (bits BinOp.or IntKind.u8 x r))) (w.heap.size + 1) 47 Z := P2.out.far (by simp) _
    have qb : Below w.heap.size w (w2.setCell ⟨w.heap.size, 1 + n / 8, none⟩ (.int .u8 (bits BinOp.or IntKind.u8 x r))) := PB.out.setCell (by simp) _
    have R1 : Hid (Blk ((w2.setCell ⟨w.heap.size, 1 + n / 8, none⟩ (.int .u8 (bits BinOp.or IntKind.u8 x r))).setCell ⟨w.heap.size, 0, none⟩ (.int .i64 (n + 1))) w.heap.size 47 (pc (n + 1) D)) := q1.setd 0 _
    have R2 : Hid (Blk ((w2.setCell ⟨w.heap.size, 1 + n / 8, none⟩ (.int .u8 (bits BinOp.or IntKind.u8 x r))).setCell ⟨w.heap.size, 0, none⟩ (.int .i64 (n + 1))) (w.heap.size + 1) 47 Z) := q2.far (by simp) _
    have RB : Hid (Below w.heap.size w ((w2.setCell ⟨w.heap.size, 1 + n / 8, none⟩ (.int .u8 (bits BinOp.or IntKind.u8 x r))).setCell ⟨w.heap.size, 0, none⟩ (.int .i64 (n + 1)))) := qb.setCell (by simp) _
    clear q1 q2 qb P1 P2 PB
    go_wp2_with (first
      | (refine load_at rfl 47 (.tmp 2) rfl w.heap.size 0 rfl (.int .i64 (n + 1) :: u8s D) _ (blk_pre R1.out) Tryz.underlying47 rfl (pcl_info _ HKY.out) (pc (n + 1) D) rfl ?_)
      | (refine wpList_store_row rfl 47 (.tmp 4) (.tmp 44) rfl (w.heap.size + 1) (pc (n + 1) D) rfl rfl 47 Z R2.out HI.out HZ33.out (pc_one _ _) ?_))
    try go_frame
    refine bodyPost_ret (results_child Tryz.results100 _ _ (w.heap.size + 1) 47 (pc (n + 1) D) (0, 0) _ rfl (R2.out.row _) Tryz.underlying47 rfl HI.out) rfl ?_
    exact ⟨rfl, below_setRow RB.out (by omega) _⟩
theorem pChild_any (l : Int) (B : List Int) (b : Int) (hB : Ky B) (w : World) :
    Calls Tryz.prog 100 #[.agg (pc l B), .int .i64 b] w fun e w' => e = .returned (chV l B b) ∧ Below w.heap.size w w' := by
  unfold chV
  cases h : chB l B b
  · rw [if_neg (by decide)]; exact pChild_no l B b hB w h
  · rw [if_pos rfl]
    unfold chB at h
    simp only [Bool.and_eq_true, Bool.or_eq_true, decide_eq_true_eq] at h
    obtain ⟨⟨h1, h2⟩, h3⟩ := h
    have h4 := frm_le h1
    obtain ⟨n, rfl⟩ : ∃ n : Nat, l = n := ⟨l.toNat, by omega⟩
    exact pChild_yes n B b hB w (by omega) h1 h3
end Go.Proofs.YtjhaamffgkialaaGreatDoor
/-
  What is proved here: a beginning with a bit more, as the document tells it.
-/
namespace Go.Proofs.YtjhaamffgkialaaGreatDoor
open Go.ChangeShapes Go.WideShapes Go.ChangeAt Go.RowKit
set_option linter.unusedVariables false

end Go.Proofs.YtjhaamffgkialaaGreatDoor
