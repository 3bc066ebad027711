/-
  What this file is for: a part of a slice of bytes, an array out of a slice. No function of the program is walked here.
-/
import Derived.Test.YtobceieadjpaaaaDoorMLsr
set_option linter.unusedSimpArgs false
set_option linter.unusedVariables false
namespace Go.Proofs.YtobceieadjpaaaaDoor
open Go.ChangeShapes Go.WideShapes Go.ChangeAt Go.RowKit
set_option linter.unusedVariables false
set_option maxRecDepth 20000

theorem run_cut (b off n c lo hi : Nat) (h1 : lo ≤ hi) (h2 : hi ≤ c) (h3 : lo < c) (w : World) :
    (Instr.sliceAt 29 (.slice (some ⟨b, off, none⟩) n c) (some (.int .i64 (lo : Nat))) (some (.int .i64 (hi : Nat))) none).run Tryd.prog w = .ok (.slice (some ⟨b, off + lo, none⟩) (hi - lo) (c - lo)) w := by
  go_simp
  exact fun h => by omega
theorem cut_at {ops : Array Oper} {rest : List Oper} {o : Oper} {a : Act} {w : World} {Q : Exit → Act → World → Prop} (hw : Region.wanted o (yielded ops a.tmps) = true) (x l h : Operand) (ho : o.op = .slice 29 x (some l) (some h) none)
    (b off n c lo hi m : Nat) (L H : Int) (hx : a.eval x = .slice (some ⟨b, off, none⟩) n c) (hl : a.eval l = .int .i64 L) (hh : a.eval h = .int .i64 H) (hL : L = (lo : Nat)) (hH : H = (hi : Nat)) (hm : hi = lo + m) (h2 : hi ≤ c) (h3 : lo < c)
    (k : wpList Tryd.prog ops Q rest (a.put o.dst (.slice (some ⟨b, off + lo, none⟩) m (c - lo))) w) : wpList Tryd.prog ops Q (o :: rest) a w := by
  subst hL hH
  unfold wpList
  rw [if_pos hw]
  refine Or.inl ?_
  unfold Oper.wp execOp
  simp only [ho, Option.map_some, Option.map_none, hx, hl, hh, Sem.run_bind, run_cut b off n c lo hi (by omega) h2 h3 w, Result.andThen_ok]
  rw [show hi - lo = m by omega]
  exact k
theorem ksize_ge2 {k : Int} (hk : Kd k) : 36 ≤ ksize k := by rcases hk with rfl | rfl | rfl | rfl <;> decide
theorem rec_ky (id : List Int) (q : Int) (m s : List Int) : Ky (recK id q m s) := by
  unfold recK
  split
  · exact under_ky _ _ _ _
  · exact ⟨by unfold zeroK; simp, fun v hv => by unfold zeroK at hv; rw [(List.mem_replicate.1 hv).2]; omega⟩
theorem zero_ID : ∃ Z : Array Value, Z.size = 16 ∧ (¬ Z = #[]) ∧ ∀ w : World, Sem.run Tryd.prog (zeroValue 23) w = Result.ok (.agg Z) w := by
  refine ⟨(List.replicate 16 (Value.int .u8 0)).toArray, by simp, by simp [List.replicate], fun w => by kernel_rfl⟩
theorem arrayAt_hash (b off c9 : Nat) (w : World) : (Instr.arrayAt 26 (.slice (some ⟨b, off, none⟩) 32 c9)).run Tryd.prog w = .ok (.pointer (some ⟨b, off, none⟩)) w := by
  unfold Instr.arrayAt
  simp [Sem.run_bind, Sem.run_pure, Result.andThen]
theorem arrayAt_id (b off c9 : Nat) (w : World) : (Instr.arrayAt 23 (.slice (some ⟨b, off, none⟩) 16 c9)).run Tryd.prog w = .ok (.pointer (some ⟨b, off, none⟩)) w := by
  unfold Instr.arrayAt
  simp [Sem.run_bind, Sem.run_pure, Result.andThen]
end Go.Proofs.YtobceieadjpaaaaDoor
