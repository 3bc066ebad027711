/-
  What is proved here: the statements' own small functions over a writer: a field that is put, and the fixed fact that each statement asks first.
-/
import Derived.Test.YtjdojnbpchommaaOut
namespace Go.Proofs.Ytjdojnbpchommaa
open Go.ChangeShapes Go.WideShapes Go.ChangeAt Go.RowKit
set_option linter.unusedVariables false
set_option maxRecDepth 20000

theorem new_writer {w : World} {b : Nat} {Z : Array Value} (hb : Blk w b 78 Z) (hz : Z.size = 259) (z0 : Z[0]? = some (.pointer none)) (z1 : ∀ i, i < 256 → Z[1 + i]? = some (.int .u8 0))
    (z2 : Z[257]? = some (.int .i64 0)) (z3 : Z[258]? = some (.bool false)) : WAt w b [] :=
  ⟨Z, none, hb, hz, z0, z2, z3, fun i hi => ⟨0, z1 i hi⟩, fun i hi => by simp at hi, rfl⟩

theorem Out_good (p : Option Addr) (bs : List Int) (w : World) (h : WRep w p (.good bs)) (hl : bs.length < 1000000000000) :
    Calls Try.prog 42 #[.pointer p] w fun e w' => e = .returned (.tuple #[.slice (some ⟨w.heap.size, 0, none⟩) bs.length bs.length, .int .i64 0]) ∧
      Blk w' w.heap.size 5 (u8s bs).toArray ∧ Below w.heap.size w w' := by
  obtain ⟨b, rfl, h⟩ := h
  exact Out_ok b bs w h hl
theorem Out_bad (p : Option Addr) (w : World) (h : WRep w p .bad) :
    Calls Try.prog 42 #[.pointer p] w fun e w' => e = .returned (.tuple #[.slice none 0 0, .int .i64 4]) ∧ w = w' := by
  obtain ⟨b, rfl, h⟩ := h
  exact Out_sp b w h


end Go.Proofs.Ytjdojnbpchommaa
