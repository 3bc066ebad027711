/-
  What is proved here: the longest beginning that holds two, as the code tells it.
-/
import Derived.Test.YtdaobhclcpgjbaaPHoldsR
namespace Go.Proofs.Ytdaobhclcpgjbaa
open Go.ChangeShapes Go.WideShapes Go.ChangeAt Go.RowKit
set_option linter.unusedVariables false

/-- the longest beginning that holds both -/
def mt (l m : Int) (S : Nat) : Nat := min (min l.toNat m.toNat) S
def meetV (l : Int) (B : List Int) (m : Int) (C : List Int) : Array Value := if (frm l B && frm m C) = true then pc (mt l m (shr B C)) (cut B (mt l m (shr B C))) else pc 0 zk
theorem frm_le {l : Int} {B : List Int} (h : frm l B = true) : 0 ≤ l ∧ l ≤ 256 := by
  have := of_decide_eq_true h
  exact ⟨this.1, this.2.1⟩
theorem built_none : Try.prog.built 30 [] = some (pc 0 zk) := by kernel_rfl
theorem build_0 {ops : Array Oper} {rest : List Oper} {o : Oper} {a : Act} {w : World} {Q : Exit → Act → World → Prop} (hg : o.guard = none) (ho : o.op = .build 30 #[])
    (h : wpList Try.prog ops Q rest (a.put o.dst (.agg (pc 0 zk))) w) : wpList Try.prog ops Q (o :: rest) a w := by
  have e : (Array.map (fun (i, x) => (i, a.eval x)) (#[] : Array (Nat × Operand))).toList = [] := by simp
  refine wpList_build hg 30 #[] ho (by rw [e, built_none]; rfl) ?_
  rw [e, built_none]
  exact h

set_option maxHeartbeats 2000000 in
theorem pMeet_no (l m : Int) (B C : List Int) (hB : Ky B) (hC : Ky C) (w : World) (h : (frm l B && frm m C) = false) :
    Calls Try.prog 24 #[.agg (pc l B), .agg (pc m C)] w fun e w' => e = .returned (.agg (pc 0 zk)) ∧ Below w.heap.size w w' := by
  obtain ⟨Z, HZ, hZ0, hZs⟩ := zero_pre
  obtain ⟨hk1, hk2, hk3, hb0⟩ := three_blks w (pc l B) (pc m C) Z 30 30 30
  have K1 := hid hk1; have K2 := hid hk2; have K3 := hid hk3; have B0 := hid hb0
  clear hk1 hk2 hk3 hb0
  have CF := hid (fun w => pFormed_any l B hB w)
  have CG := hid (fun w => pFormed_any m C hC w)
  have HI := hid (pc_info 0 zk_ky)
  have HZ33 : Hid (Z.size = (pc 0 zk).size) := by show _ = _; rw [HZ.out]
  generalize frm l B = v1 at CF h
  generalize frm m C = v2 at CG h
  have hcase : v1 = false ∨ v1 = true ∧ v2 = false := by cases v1 <;> cases v2 <;> simp_all
  clear h
  rcases hcase with rfl | ⟨rfl, rfl⟩
  · go_enter Try.func24, Try.ntmps24
    go_wp2_with (first
      | (refine load_at rfl 30 (.tmp 2) rfl w.heap.size 0 rfl (.int .i64 l :: u8s B) _ (blk_pre K1.out) Try.underlying30 rfl (pcl_info l hB) (pc l B) rfl ?_)
      | (go_at_call 20; refine (CF.out _).mono ?_; rintro e w1 ⟨rfl, hb1⟩; have L3 := hid (K3.out.below hb1); have B1 := hid (B0.out.trans (hb1.mono B0.out.size)); clear hb1)
      | (refine build_0 rfl rfl ?_)
      | (refine wpList_store_row rfl 30 (.tmp 4) (.tmp 13) rfl (w.heap.size + 1 + 1) (pc 0 zk) rfl rfl 30 Z L3.out HI.out HZ33.out (pc_one _ _) ?_))
    try go_frame
    refine bodyPost_ret (results_cell_row Try.results24 _ _ (w.heap.size + 1 + 1) 30 (pc 0 zk) (0, 0) _ rfl (L3.out.row _) Try.underlying30 rfl HI.out) rfl ?_
    exact ⟨rfl, below_setRow B1.out (by omega) _⟩
  · go_enter Try.func24, Try.ntmps24
    go_wp2_with (first
      | (refine load_at rfl 30 (.tmp 2) rfl w.heap.size 0 rfl (.int .i64 l :: u8s B) _ (blk_pre K1.out) Try.underlying30 rfl (pcl_info l hB) (pc l B) rfl ?_)
      | (go_at_call 20; with_reducible refine (CF.out _).mono ?_; rintro e w1 ⟨rfl, hb1⟩; have L2 := hid (K2.out.below hb1); have L3 := hid (K3.out.below hb1); have B1 := hid (B0.out.trans (hb1.mono B0.out.size)); clear hb1)
      | (refine load_at rfl 30 (.tmp 3) rfl (w.heap.size + 1) 0 rfl (.int .i64 m :: u8s C) _ (blk_pre L2.out) Try.underlying30 rfl (pcl_info m hC) (pc m C) rfl ?_)
      | (go_at_call 20; with_reducible refine (CG.out _).mono ?_; rintro e w2 ⟨rfl, hb2⟩; have M3 := hid (L3.out.below hb2); have B2 := hid (B1.out.trans (hb2.mono B1.out.size)); clear hb2)
      | (refine build_0 rfl rfl ?_)
      | (refine wpList_store_row rfl 30 (.tmp 4) (.tmp 13) rfl (w.heap.size + 1 + 1) (pc 0 zk) rfl rfl 30 Z M3.out HI.out HZ33.out (pc_one _ _) ?_))
    try go_frame
    refine bodyPost_ret (results_cell_row Try.results24 _ _ (w.heap.size + 1 + 1) 30 (pc 0 zk) (0, 0) _ rfl (M3.out.row _) Try.underlying30 rfl HI.out) rfl ?_
    exact ⟨rfl, below_setRow B2.out (by omega) _⟩
end Go.Proofs.Ytdaobhclcpgjbaa
