/-
  What this file is for: what each call answers, and what it makes of pages, writes, fuse and power; few calls. Nothing but Few is walked here.
-/
import Derived.Test.YthfkooancgkjaaaMDvL
set_option linter.unusedSimpArgs false
set_option linter.unusedVariables false
namespace Go.Proofs.Ythfkooancgkjaaa
open Go.ChangeShapes Go.WideShapes Go.ChangeAt Go.RowKit
set_option linter.unusedVariables false
set_option maxRecDepth 20000

/-- what lasts, what waits, the fuse, is it down -/
structure SS where
  L : List (List Int)
  Q : List Wr
  F : Int
  D : Bool
def SS.wr (s : SS) (i : Int) (b : List Int) : Int × SS :=
  if s.D = true then (6, s) else if i < 0 ∨ (s.L.length : Int) ≤ i then (4, s) else if b.length ≠ 128 then (1, s) else if s.F = 0 then (6, ⟨s.L, s.Q, 0, true⟩) else (0, ⟨s.L, s.Q ++ [(i.toNat, b)], bn s.F, false⟩)
def SS.fl (s : SS) : Int × SS := if s.D = true then (6, s) else if s.F = 0 then (6, ⟨s.L, s.Q, 0, true⟩) else (0, ⟨pg s.L s.Q, [], bn s.F, false⟩)
def SS.rd (s : SS) (i : Int) : Int × List Int := if s.D = true then (6, []) else if i < 0 ∨ (s.L.length : Int) ≤ i then (4, []) else (0, (pg s.L s.Q)[i.toNat]?.getD [])
def SS.rs (s : SS) (l : List Int) : SS := ⟨mixs (keep l) s.L s.Q s.Q.length, [], -1, false⟩
def SS.sf (s : SS) (n : Int) : SS := ⟨s.L, s.Q, max n (-1), s.D⟩
/-- of the calls, one by one -/
def SS.ok (n : Nat) (s : SS) : Prop := s.L.length = n ∧ PgOk s.L ∧ QOk n s.Q
theorem SS.wr_len (s : SS) (i : Int) (b : List Int) : (s.wr i b).2.L.length = s.L.length ∧ (s.wr i b).2.Q.length ≤ s.Q.length + 1 := by
  unfold SS.wr
  split
  · exact ⟨rfl, by simp⟩
  · split
    · exact ⟨rfl, by simp⟩
    · split
      · exact ⟨rfl, by simp⟩
      · split <;> exact ⟨rfl, by simp⟩
theorem SS.fl_len (s : SS) : s.fl.2.L.length = s.L.length ∧ s.fl.2.Q.length ≤ s.Q.length + 1 := by
  unfold SS.fl
  split
  · exact ⟨rfl, by simp⟩
  · split
    · exact ⟨rfl, by simp⟩
    · exact ⟨pg_length _ _, by simp⟩
end Go.Proofs.Ythfkooancgkjaaa
