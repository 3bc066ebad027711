/-
  What this file is for: small words on bytes and blocks. Nothing of the program is walked here.
-/
import Derived.Test.YteiflhgmgdibgaaNum2
import Derived.Test.YteiflhgmgdibgaaLmK
namespace Go.Proofs.Yteiflhgmgdibgaa
open Go.ChangeShapes Go.WideShapes Go.ChangeAt Go.RowKit
set_option linter.unusedVariables false

theorem be_bs (x : Int) (n : Nat) : Bs (be x n) := by
  induction n with
  | zero => intro v hv; simp [be] at hv
  | succ n ih =>
    intro v hv
    simp only [be, List.mem_cons] at hv
    rcases hv with rfl | hv
    · omega
    · exact ih v hv
theorem blk_rp {w : World} {g : Nat} {t : TypeId} {l : List Int} (h : Blk w g t (u8s l).toArray) : Rp w none (some ⟨g, 0, none⟩) l := fun _ =>
  ⟨_, rfl, (fun ⟨a, e, _⟩ => by cases e), fun j hj => by rw [Addr.add_lit, Nat.zero_add, h.cell, List.getElem?_toArray]; exact u8s_get l j hj⟩
theorem own_none (w : World) (B : Nat) : w.ownsRow B 5 1 (.slice none 0 0) ([] : List Int).length (u8s []) := ⟨by simp [u8s], .inl ⟨rfl, rfl⟩⟩
theorem bs_append {a b : List Int} (ha : Bs a) (hb : Bs b) : Bs (a ++ b) := fun v hv => by
  rcases List.mem_append.1 hv with h | h
  · exact ha v h
  · exact hb v h
end Go.Proofs.Yteiflhgmgdibgaa
