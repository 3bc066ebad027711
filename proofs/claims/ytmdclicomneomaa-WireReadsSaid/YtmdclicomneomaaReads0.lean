/-
  What is proved here: the document's own 'Take' of each kind in one word, and that a reader that failed takes nothing.
-/
import Derived.Test.YtmdclicomneomaaRTake
namespace Go.Proofs.Ytmdclicomneomaa
open Go.ChangeShapes Go.WideShapes Go.ChangeAt Go.RowKit
set_option linter.unusedVariables false

theorem num_failed (l : List Int) (n : Nat) (m : Int) : (RS.got true l).num n m = (0, .got true l) := rfl
theorem tk_failed (l : List Int) (k most : Int) (hk : 1 ≤ k ∧ k ≤ 8) (hm : 0 ≤ most) (hs : most ≤ 4611686018427387904 ∨ k = 4) : tk (.got true l) k most = (0, [], .got true l) := by
  have hw : k ≠ 4 → wrap64 most = most := fun h => wrap_small most hm (by omega)
  have hk' : k = 1 ∨ k = 2 ∨ k = 3 ∨ k = 4 ∨ k = 5 ∨ k = 6 ∨ k = 7 ∨ k = 8 := by omega
  rcases hk' with rfl | rfl | rfl | rfl | rfl | rfl | rfl | rfl
  · rfl
  · rfl
  · rfl
  · rfl
  · rfl
  · rfl
  · rfl
  · show ((RS.count _ (wrap64 most)).1, [], (RS.count _ (wrap64 most)).2) = _
    rw [hw (by decide)]
    have e : (RS.got true l).count most = (0, .got true l) := by unfold RS.count; rw [if_neg (by omega)]; rfl
    rw [e]

theorem rtake_any (A : Option Addr) (c : Nat) (b : List Int) (k most : Int) (w : World) (hr : Rp w none A b) (hb : Bs b) (hc : b.length ≤ c) (hl : b.length < 1000000) (hk : 1 ≤ k ∧ k ≤ 8) (hm : 0 ≤ most) (hs : most ≤ 4611686018427387904 ∨ k = 4) :
    Calls Try.prog 18 #[.slice A b.length c, .int .i64 k, .int .u64 most] w (RTakePost A c b k most w) := by
  have hk' : k = 1 ∨ k = 2 ∨ k = 3 ∨ k = 4 ∨ k = 5 ∨ k = 6 ∨ k = 7 ∨ k = 8 := by omega
  rcases hk' with rfl | rfl | rfl | rfl | rfl | rfl | rfl | rfl
  · exact rtake_1 A c b most w hr hb hc hl
  · exact rtake_2 A c b most w hr hb hc hl
  · exact rtake_3 A c b most w hr hb hc hl
  · exact rtake_4 A c b most w hr hb hc hl
  · exact rtake_5 A c b most w hr hb hc hl
  · obtain ⟨m, rfl⟩ : ∃ m : Nat, most = m := ⟨most.toNat, by omega⟩
    exact rtake_6 A c b m w hr hc hl (by omega)
  · exact rtake_7 A c b most w hr hb hc hl
  · exact rtake_8 A c b most w hr hb hc hl
end Go.Proofs.Ytmdclicomneomaa
