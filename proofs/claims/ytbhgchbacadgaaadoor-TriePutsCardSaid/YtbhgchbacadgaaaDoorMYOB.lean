/-
  What is proved here: what bytes, and a list of pairs, hold when they are read, and its room. Nothing of the program is walked here.
-/
import Derived.Test.YtbhgchbacadgaaaDoorMX21
set_option linter.unusedSimpArgs false
set_option linter.unusedVariables false
namespace Go.Proofs.YtbhgchbacadgaaaDoor
open Go.ChangeShapes Go.WideShapes Go.ChangeAt Go.RowKit
set_option linter.unusedVariables false
set_option maxRecDepth 20000
section
variable {H : Type} {enc : TypeId × Value → H} {w : World} {base : Nat} {spare : Nat → Bool} {held : Bool}
theorem open_bys {fuel : Nat} {cs : List Value} {x : DataW H × List MemPlace} (h : DataW.trod enc Tryd.prog w base spare held fuel 49 cs = some x) :
    ∃ A n c xs, cs = [.slice A n c] ∧ (xs.length = n ∧ Bs xs ∧ Rp w none A xs) ∧ n ≤ 9223372036854775807 := by
  rcases open_ints Tryd.underlying49 Tryd.underlying5 (by kernel_rfl) h with ⟨hcs, _⟩ | ⟨a, l, c, zs, hcs, _, hl, hm, hz, _, hcell, hwz⟩
  · exact ⟨none, 0, 0, [], hcs, ⟨rfl, fun v hv => by simp at hv, Rp.nil _ _ _⟩, by omega⟩
  · refine ⟨some a, l, c, zs.take l, hcs, ⟨?_, ?_, ?_⟩, ?_⟩
    · rw [List.length_take, hz]; split <;> omega
    · intro v hv
      have := bounds_u8 (hwz v (List.mem_of_mem_take hv))
      omega
    · intro hx
      refine ⟨a, rfl, (fun ⟨a, e, _⟩ => by cases e), fun j hj => ?_⟩
      have hj2 : j < l ∧ j < zs.length := by rw [List.length_take] at hj; omega
      rw [hcell j hj2.2, List.getElem?_take, if_pos hj2.1]
      simp
    · unfold maxLen at hm; omega
theorem open_pairs_cap {fuel : Nat} {cs : List Value} {x : DataW H × List MemPlace} (h : DataW.trod enc Tryd.prog w base spare held fuel 22 cs = some x) :
    ∃ A n c P, cs = [.slice A n c] ∧ InP w A n P ∧ n ≤ c := by
  obtain ⟨A, n, c, P, hcs, hin⟩ := open_pairs h
  rcases Deep.open_slice Tryd.underlying22 h with ⟨hcs2, _⟩ | ⟨a, len, cap, m, n2, D, Pl, hcs2, hb, hl, hm, hmm, _, hx⟩
  · rw [hcs] at hcs2
    injection hcs2 with h2; injection h2 with _ h3 h4
    exact ⟨A, n, c, P, hcs, hin, by omega⟩
  · rw [hcs] at hcs2
    injection hcs2 with h2; injection h2 with _ h3 h4
    exact ⟨A, n, c, P, hcs, hin, by omega⟩
end
end Go.Proofs.YtbhgchbacadgaaaDoor
