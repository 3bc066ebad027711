/-
  What is proved here: a slice's first bytes, and a slice literal of none.
-/
import Derived.Test.YtobceieadjpaaaaDoorMLmRk
set_option linter.unusedSimpArgs false
set_option linter.unusedVariables false
namespace Go.Proofs.YtobceieadjpaaaaDoor
open Go.ChangeShapes Go.WideShapes Go.ChangeAt Go.RowKit
set_option linter.unusedVariables false
set_option maxRecDepth 20000

theorem run_cut0 (b off n c hi : Nat) (h2 : hi ≤ c) (w : World) :
    (Instr.sliceAt 29 (.slice (some ⟨b, off, none⟩) n c) none (some (.int .i64 (hi : Nat))) none).run Tryd.prog w = .ok (.slice (some ⟨b, off, none⟩) hi c) w := by
  go_simp
theorem cut0_at {ops : Array Oper} {rest : List Oper} {o : Oper} {a : Act} {w : World} {Q : Exit → Act → World → Prop} (hw : Region.wanted o (yielded ops a.tmps) = true) (x h : Operand) (ho : o.op = .slice 29 x none (some h) none)
    (b off n c hi : Nat) (H : Int) (hx : a.eval x = .slice (some ⟨b, off, none⟩) n c) (hh : a.eval h = .int .i64 H) (hH : H = (hi : Nat)) (h2 : hi ≤ c)
    (k : wpList Tryd.prog ops Q rest (a.put o.dst (.slice (some ⟨b, off, none⟩) hi c)) w) : wpList Tryd.prog ops Q (o :: rest) a w := by
  subst hH
  unfold wpList
  rw [if_pos hw]
  refine Or.inl ?_
  unfold Oper.wp execOp
  simp only [ho, Option.map_some, Option.map_none, hx, hh, Sem.run_bind, run_cut0 b off n c hi h2 w, Result.andThen_ok]
  exact k
/-- a slice literal of no bytes -/
theorem own_lit0 (w : World) : (w.alloc (.cells #[] 5)).ownsRow w.heap.size 5 1 (.slice (some ⟨w.heap.size, 0, none⟩) 0 0) ([] : List Int).length (u8s []) :=
  ⟨by simp [u8s], .inr ⟨w.heap.size, 0, #[], rfl, Nat.le_refl _, heap_alloc_new w _, by simp, by unfold maxLen; omega, by simp, by simp [u8s]⟩⟩
end Go.Proofs.YtobceieadjpaaaaDoor
