/-
  What is proved here: a range's root, whatever range it is, as the code tells it.
-/
import Derived.Test.YtoacjaecfabahaaDoorMFGr
set_option linter.unusedSimpArgs false
set_option linter.unusedVariables false
namespace Go.Proofs.YtoacjaecfabahaaDoor
open Go.ChangeShapes Go.WideShapes Go.ChangeAt Go.RowKit
set_option linter.unusedVariables false
set_option linter.unusedSimpArgs false
/-- whether a range has a root -/
def rtB (x y : Int) (n : Nat) : Bool := frm x y n && decide (x = 0)
def rtV (x y : Int) (L : List (List Int)) : List Int := if rtB x y L.length = true then foldR ndF emp L else z32
def rtQ (x y : Int) (n : Nat) : Int := if rtB x y n = true then 0 else 1
def RtA (w : World) (x y : Int) (L : List (List Int)) (e : Ending) (w' : World) : Prop := e = .returned (.tuple #[hV (rtV x y L), .int .i64 (rtQ x y L.length)]) ∧ Below w.heap.size w w'
theorem rtV_ok {x y : Int} {L : List (List Int)} (h : ∀ f ∈ L, H32 f) : H32 (rtV x y L) := by
  unfold rtV
  split
  · exact foldH_ok h
  · exact h0_ok
theorem fRoot_x {w : World} {x y : Int} {n c : Nat} {A : Option Addr} {L : List (List Int)} (hL : InH w A n L) (hn : n < 1000000) (hc : n ≤ c) (hTb : Tab w) (hTd : TabD w) :
    Calls Tryd.prog 15 #[.agg (rgc x y (.slice A n c))] w (RtA w x y L) := by
  have hl := hL.1
  unfold RtA rtV rtQ
  rw [hl]
  by_cases h : rtB x y n = true
  · simp only [if_pos h]
    unfold rtB at h
    rw [Bool.and_eq_true, decide_eq_true_eq] at h
    obtain ⟨h1, rfl⟩ := h
    obtain ⟨x', z, hx', rfl, hxz, hz, hnn⟩ := frm_yes h1
    obtain rfl : x' = 0 := by omega
    rcases Nat.eq_zero_or_pos n with h0 | h0
    · subst h0
      obtain rfl : L = [] := List.length_eq_zero_iff.1 hl
      exact fRoot_none hTb hTd h1
    · exact fRoot_more hL hz hnn hc h0 hTb hTd
  · simp only [if_neg h]
    refine fRoot_bad hn hTd fun hh => h ?_
    unfold rtB
    rw [hh.1, decide_eq_true hh.2]; rfl
end Go.Proofs.YtoacjaecfabahaaDoor
