/-
  What is proved here: what is shown where there is no tree, and of the tree without keys.
-/
import Derived.Test.YtbhgchbacadgaaaDoorMY9
import Derived.Test.YtbhgchbacadgaaaDoorMX21
import Derived.Test.YtbhgchbacadgaaaDoorMX20
set_option linter.unusedSimpArgs false
set_option linter.unusedVariables false
namespace Go.Proofs.YtbhgchbacadgaaaDoor
open Go.ChangeShapes Go.WideShapes Go.ChangeAt Go.RowKit
set_option linter.unusedVariables false
set_option linter.unusedSimpArgs false
set_option maxRecDepth 20000

theorem proof_builtz : Tryd.prog.built 66 [] = some (prc nilV qZ).toArray := by kernel_rfl
set_option maxHeartbeats 4000000 in
theorem qShow_bad {w : World} {p : Option Addr} {K : List Int} {i : Int} (CI0 : ∀ w1, Below w.heap.size w w1 → Calls Tryd.prog 40 #[.pointer p, .int .i64 i] w1 fun e w' => e = .returned (.bool false) ∧ w1 = w') :
    Calls Tryd.prog 27 #[.pointer p, .int .i64 i, .agg (kc K)] w fun e w' => e = .returned (.tuple #[.agg (prc nilV qZ).toArray, .int .i64 1]) ∧ Below w.heap.size w w' := by
  obtain ⟨Z, HZ, hZ0, hZs⟩ := zero_qproof
  obtain ⟨Y, HY, hY0, hYs⟩ := zero_key
  obtain ⟨hk1, hk2, hb0⟩ := two_blks w (kc K) Z 24 66
  have K6 := hid hk2; have B0 := hid hb0
  have CR0 := fun w1 (hb : Below w.heap.size w w1) => xRoot_bad (w := w1) (fun w2 hb2 => CI0 w2 (hb.trans (hb2.mono hb.size)))
  unfold hV at CR0
  have CR := hid CR0
  have HPB := proof_builtz
  have HHI := hid (kc_info zk_ky)
  have HHZ : Hid (Y.size = (kc zk).size) := by show _ = _; rw [HY.out]
  have HI := hid (proof_info2 qZ_ok nilV)
  have HL := hid (proof_info qZ_ok nilV)
  have HZS : Hid (Z.size = (prc nilV qZ).toArray.size) := by show _ = _; rw [HZ.out]
  have HONE : Hid ((prc nilV qZ).toArray.all (·.oneCell') = true) := pr_one
  have SZ : Hid (((w.alloc (.cells (kc K) 24)).alloc (.cells Z 66)).heap.size = w.heap.size + 1 + 1) := by show _ = _; simp
  have HZ' := HZ
  obtain ⟨PZ, hPZ⟩ : ∃ PZ, PZ = prc nilV qZ := ⟨_, rfl⟩
  rw [← hPZ] at HPB HI HL HZS HONE HZ' ⊢
  clear CR0 hk1 hk2 hb0 hPZ
  go_enter Tryd.func27, Tryd.ntmps27
  go_wp2
  go_step3
  go_wp2_with (first
    | (go_at_call 13; refine (CR.out _ B0.out).mono ?_; rintro e w1 ⟨rfl, hb⟩; have K61 := hid (K6.out.below hb); have B1 := hid (B0.out.trans (hb.mono B0.out.size)); have S1 : Hid (w.heap.size + 1 < w1.heap.size) := (by have := hb.size; have := SZ.out; show _ < _; omega); clear hb)
    | (refine wpList_store_row rfl 24 (.tmp 8) (.tmp 20) rfl w1.heap.size (kc zk) rfl rfl 24 Y (Blk.new w1 24 Y) HHI.out HHZ.out (kc_one _) ?_)
    | (refine wpList_buildC rfl 66 _ rfl PZ.toArray ?hc ?_; case hc => (simp only [List.map_toArray, List.map_cons, List.map_nil, Act.eval]; exact HPB))
    | (refine wpList_store_row rfl 66 (.tmp 6) (.tmp 24) rfl (w.heap.size + 1) PZ.toArray rfl rfl 66 Z ((K61.out.alloc _).rowFar (Nat.ne_of_lt S1.out) _) HI.out HZS.out HONE.out ?_))
  try go_frame
  rw [Exit.noGoto_ret]
  refine bodyPost_ret (results_cell_slot Tryd.results27 _ _ (w.heap.size + 1) 66 PZ.toArray (0, 0) _ rfl (((K61.out.alloc _).rowFar (Nat.ne_of_lt S1.out) _).row _) Tryd.underlying66 rfl HI.out) rfl ?_
  exact ⟨rfl, below_setRow (below_setRow (B1.out.alloc B1.out.size _) B1.out.size _) (by omega) _⟩
set_option maxHeartbeats 4000000 in
theorem qShow_none {w : World} {p : Option Addr} {K : List Int} (ht : Tab w) (CI0 : ∀ w1, Below w.heap.size w w1 → Calls Tryd.prog 40 #[.pointer p, .int .i64 (-1)] w1 fun e w' => e = .returned (.bool true) ∧ w1 = w') :
    Calls Tryd.prog 27 #[.pointer p, .int .i64 (-1), .agg (kc K)] w fun e w' => e = .returned (.tuple #[.agg (prc nilV qZ).toArray, .int .i64 0]) ∧ Below w.heap.size w w' := by
  obtain ⟨Z, HZ, hZ0, hZs⟩ := zero_qproof
  obtain ⟨Y, HY, hY0, hYs⟩ := zero_key
  obtain ⟨hk1, hk2, hb0⟩ := two_blks w (kc K) Z 24 66
  have K6 := hid hk2; have B0 := hid hb0
  have CR0 := fun w1 (hb : Below w.heap.size w w1) => xRoot_none (w := w1) (ht.below hb) (fun w2 hb2 => CI0 w2 (hb.trans (hb2.mono hb.size)))
  unfold hV at CR0
  have CR := hid CR0
  have HPB := proof_builtz
  have HHI := hid (kc_info emptyH_ky)
  have HHZ : Hid (Y.size = (kc emptyH).size) := by show _ = _; rw [HY.out, kc_size zk_ky, kc_size emptyH_ky]
  have HI := hid (proof_info2 qZ_ok nilV)
  have HL := hid (proof_info qZ_ok nilV)
  have HZS : Hid (Z.size = (prc nilV qZ).toArray.size) := by show _ = _; rw [HZ.out]
  have HONE : Hid ((prc nilV qZ).toArray.all (·.oneCell') = true) := pr_one
  have SZ : Hid (((w.alloc (.cells (kc K) 24)).alloc (.cells Z 66)).heap.size = w.heap.size + 1 + 1) := by show _ = _; simp
  have HZ' := HZ
  obtain ⟨PZ, hPZ⟩ : ∃ PZ, PZ = prc nilV qZ := ⟨_, rfl⟩
  rw [← hPZ] at HPB HI HL HZS HONE HZ' ⊢
  clear CR0 hk1 hk2 hb0 hPZ
  go_enter Tryd.func27, Tryd.ntmps27
  go_wp2
  go_step3
  go_wp2_with (first
    | (go_at_call 13; refine (CR.out _ B0.out).mono ?_; rintro e w1 ⟨rfl, hb⟩; have K61 := hid (K6.out.below hb); have B1 := hid (B0.out.trans (hb.mono B0.out.size)); have S1 : Hid (w.heap.size + 1 < w1.heap.size) := (by have := hb.size; have := SZ.out; show _ < _; omega); clear hb)
    | (refine wpList_store_row rfl 24 (.tmp 8) (.tmp 20) rfl w1.heap.size (kc emptyH) rfl rfl 24 Y (Blk.new w1 24 Y) HHI.out HHZ.out (kc_one _) ?_))
  have BX : Hid (Below w1.heap.size w1 (((w1.alloc (.cells Y 24)).setRow w1.heap.size (kc emptyH)).alloc (.cells Z 66))) := (below_setRow ((Below.refl _ _).alloc (Nat.le_refl _) _) (Nat.le_refl _) _).alloc (by show w1.heap.size ≤ _; exact (below_setRow ((Below.refl w1.heap.size w1).alloc (Nat.le_refl _) (.cells Y 24)) (Nat.le_refl w1.heap.size) (kc emptyH)).size) _
  have hs10 : ((w1.alloc (.cells Y 24)).setRow w1.heap.size (kc emptyH)).heap.size = w1.heap.size + 1 := by simp [World.setRow, World.setCells]
  have N10 : Hid (Blk (((w1.alloc (.cells Y 24)).setRow w1.heap.size (kc emptyH)).alloc (.cells Z 66)) (w1.heap.size + 1) 66 PZ.toArray) := by
    have := Blk.new ((w1.alloc (.cells Y 24)).setRow w1.heap.size (kc emptyH)) 66 Z
    rw [hs10] at this
    have e : PZ.toArray = Z := HZ'.out.symm
    rw [e]
    exact this
  have K6B := hid (K61.out.below BX.out)
  have BB := hid (B1.out.trans (BX.out.mono B1.out.size))
  have HRG := hid (fun j v (hv : PZ[j]? = some v) => show World.cell? _ ⟨w1.heap.size + 1, 0 + j, none⟩ = some v from by rw [N10.out.cell, Nat.zero_add, List.getElem?_toArray]; exact hv)
  clear BX hs10 K61 S1 N10
  generalize ((w1.alloc (.cells Y 24)).setRow w1.heap.size (kc emptyH)).alloc (.cells Z 66) = wB at K6B BB HRG ⊢
  generalize w1.heap.size + 1 = g10 at HRG ⊢
  go_step3
  go_wp2
  go_loopw [11] (fun i wr => i = .int .i64 (-1) ∧ wr = wB) (fun _ _ => 0)
  case atStart => exact ⟨rfl, rfl⟩
  case round =>
    obtain ⟨rfl, rfl⟩ := hrel
    go_wp2_with (first
      | (refine load_at rfl 66 (.tmp 10) rfl g10 0 rfl PZ _ HRG.out Tryd.underlying66 rfl HL.out PZ.toArray rfl ?_)
      | (refine wpList_store_row rfl 66 (.tmp 6) (.tmp 87) rfl (w.heap.size + 1) PZ.toArray rfl rfl 66 Z K6B.out HI.out HZS.out HONE.out ?_))
    try go_frame
    rw [Exit.noGoto_ret]
    refine bodyPost_ret (results_cell_slot Tryd.results27 _ _ (w.heap.size + 1) 66 PZ.toArray (0, 0) _ rfl (K6B.out.row _) Tryd.underlying66 rfl HI.out) rfl ?_
    exact ⟨rfl, below_setRow BB.out (by omega) _⟩
end Go.Proofs.YtbhgchbacadgaaaDoor
