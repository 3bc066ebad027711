/-
  What is proved here: the document's own constants.
-/
import Derived.Test.YtpponjmhgfikiaaDoorSum
import Derived.Test.YtpponjmhgfikiaaDoorRWords
import Derived.Laws.Tables
namespace Go.Proofs.YtpponjmhgfikiaaDoor
open Go.ChangeShapes Go.WideShapes Go.ChangeAt Go.RowKit
set_option linter.unusedVariables false
attribute [local go_sem] u_xor u_and u_or u_add u_not' u_mod u_wrap

theorem u_notS (x : W32) : IntKind.u32.wrap (4294967295 - u x) = u (~~~x) := u_not x
theorem u_notS' (x : W32) : 4294967295 - u x = u (~~~x) := by
  unfold u
  have := x.isLt
  rw [BitVec.toNat_not]
  omega
attribute [local go_sem] u_notS u_notS'
theorem K_cells : (Tryd.prog.info? 52).map (·.size) = some (w32s K64).size := by kernel_rfl

theorem wpList_buildC {P : Program} {ops : Array Oper} {rest : List Oper} {o : Oper} {a : Act} {w : World} {Q : Exit → Act → World → Prop} (hg : o.guard = none) (t : TypeId) (parts : Array (Nat × Operand)) (ho : o.op = .build t parts) (cells : Array Value)
    (hc : P.built t (parts.map fun (i, x) => (i, a.eval x)).toList = some cells)
    (h : wpList P ops Q rest (a.put o.dst (.agg cells)) w) : wpList P ops Q (o :: rest) a w :=
  wpList_build hg t parts ho (by rw [hc]; rfl) (by rw [hc]; exact h)
theorem zk (Z : Array Value) (h : Z = w32s (List.replicate 64 0#32)) : Z.size = (w32s K64).size := by rw [h, w32s_size, w32s_size]; rfl

set_option maxRecDepth 100000 in
set_option maxHeartbeats 1000000 in
theorem RK_any (w : World) : Calls Tryd.prog 32 #[] w fun e w' => e = .returned (.agg (w32s K64)) ∧ Below w.heap.size w w' := by
  obtain ⟨Z, HZ, hZ0, hZs⟩ := zero_A64
  have HZK : Hid (Z.size = (w32s K64).size) := zk Z HZ.out
  have HK64 : Hid ((Tryd.prog.info? 52).map (·.size) = some (w32s K64).size) := K_cells
  go_enter Tryd.func32, Tryd.ntmps32
  go_wp2_with (first
    | (refine wpList_buildC rfl 52 _ rfl (w32s K64) ?hc ?_)
    | (refine wpList_store_row rfl 52 (.tmp 0) (.tmp 1) rfl w.heap.size (w32s K64) rfl rfl 52 Z (Blk.new w 52 Z) HK64.out HZK.out (w32s_one K64) ?_))
  case hc => kernel_rfl
  try go_frame
  refine bodyPost_ret (results_cell_row Tryd.results32 _ _ w.heap.size 52 (w32s K64) (0, 0) _ rfl ((Blk.new w 52 Z).row _) Tryd.underlying52 rfl HK64.out) rfl ?_
  exact ⟨rfl, below_setRow ((Below.refl _ _).alloc (Nat.le_refl _) _) (Nat.le_refl _) _⟩
end Go.Proofs.YtpponjmhgfikiaaDoor
