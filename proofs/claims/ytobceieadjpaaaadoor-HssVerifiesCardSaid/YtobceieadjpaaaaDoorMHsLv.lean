/-
  What is proved here: of all bytes as key, message and signature it is told whether the signature of two storeys is right: the walk of the statement.
-/
import Derived.Test.YtobceieadjpaaaaDoorMHq1
import Derived.Test.YtobceieadjpaaaaDoorMHs3
import Derived.Test.YtobceieadjpaaaaDoorMHs8
set_option linter.unusedSimpArgs false
set_option linter.unusedVariables false
namespace Go.Proofs.YtobceieadjpaaaaDoor
open Go.ChangeShapes Go.WideShapes Go.ChangeAt Go.RowKit
set_option linter.unusedVariables false
set_option maxRecDepth 20000

set_option maxHeartbeats 8000000 in
theorem hverifies_walk (A0 : Option Addr) (n0 c0 : Nat) (P : List Int) (A1 : Option Addr) (n1 c1 : Nat) (M : List Int) (A2 : Option Addr) (n2 c2 : Nat) (S : List Int) (w : World) (hin0 : InB w A0 n0 c0 P) (hc0 : n0 ≤ c0) (hin1 : InB w A1 n1 c1 M) (hc1 : n1 ≤ c1) (hin2 : InB w A2 n2 c2 S) (hc2 : n2 ≤ c2) (ht : Tab w) :
    Calls Tryd.prog 8 #[.slice A0 n0 c0, .slice A1 n1 c1, .slice A2 n2 c2] w fun e w' => e = .returned (.bool true) ∧ Below w.heap.size w w' := by
  have CA := hid (fun w1 (hb : Below w.heap.size w w1) => zawake_any w1 (ht.below hb))
  have B0 : Hid (Below w.heap.size w w) := Below.refl _ _
  obtain ⟨hL0, _, hb0, hr0⟩ := hin0
  obtain ⟨hL1, _, hb1, hr1⟩ := hin1
  obtain ⟨hL2, _, hb2, hr2⟩ := hin2
  by_cases hbig : (200 : Int) < (n0 : Int) ∨ (300 : Int) < (n1 : Int) ∨ (9000 : Int) < (n2 : Int)
  · clear hL0 hb0 hr0 hL1 hb1 hr1 hL2 hb2 hr2 ht hc0 hc1 hc2
    by_cases h1 : (200 : Int) < (n0 : Int)
    · clear hbig
      go_enter Tryd.func8, Tryd.ntmps8
      go_wp2_with (first
        | (go_at_call 21; (with_reducible refine (CA.out _ B0.out).mono ?_); rintro e w1 ⟨rfl, hb1⟩; have B1 := hid hb1; clear hb1)
        | (go_at_call 21; refine (CA.out _ B1.out).mono ?_; rintro e w2 ⟨rfl, hb2⟩; have B2 := hid (B1.out.trans (hb2.mono B1.out.size)); clear hb2))
      go_ret
      exact ⟨rfl, B2.out⟩
    have d1 : decide ((200 : Int) < (n0 : Int)) = false := decide_eq_false h1
    by_cases h2 : (300 : Int) < (n1 : Int)
    · clear hbig
      go_enter Tryd.func8, Tryd.ntmps8
      go_wp2_with (first
        | (go_at_call 21; (with_reducible refine (CA.out _ B0.out).mono ?_); rintro e w1 ⟨rfl, hb1⟩; have B1 := hid hb1; clear hb1)
        | (go_at_call 21; refine (CA.out _ B1.out).mono ?_; rintro e w2 ⟨rfl, hb2⟩; have B2 := hid (B1.out.trans (hb2.mono B1.out.size)); clear hb2))
      go_ret
      exact ⟨rfl, B2.out⟩
    have d2 : decide ((300 : Int) < (n1 : Int)) = false := decide_eq_false h2
    have h3 : (9000 : Int) < (n2 : Int) := by omega
    clear hbig
    go_enter Tryd.func8, Tryd.ntmps8
    go_wp2_with (first
      | (go_at_call 21; (with_reducible refine (CA.out _ B0.out).mono ?_); rintro e w1 ⟨rfl, hb1⟩; have B1 := hid hb1; clear hb1)
      | (go_at_call 21; refine (CA.out _ B1.out).mono ?_; rintro e w2 ⟨rfl, hb2⟩; have B2 := hid (B1.out.trans (hb2.mono B1.out.size)); clear hb2))
    go_ret
    exact ⟨rfl, B2.out⟩
  have h1 : ¬ (200 : Int) < (n0 : Int) := by omega
  have h2 : ¬ (300 : Int) < (n1 : Int) := by omega
  have h3 : ¬ (9000 : Int) < (n2 : Int) := by omega
  have d1 : decide ((200 : Int) < (n0 : Int)) = false := decide_eq_false h1
  have d2 : decide ((300 : Int) < (n1 : Int)) = false := decide_eq_false h2
  have d3 : decide ((9000 : Int) < (n2 : Int)) = false := decide_eq_false h3
  have CC := hid (fun w1 (hb : Below w.heap.size w w1) => hVerify_any A0 A1 A2 n0 c0 n1 c1 n2 c2 P M S w1 hL0.symm (hr0.belowN hb) hb0 (by omega) hL1.symm (hr1.belowN hb) hb1 (by omega) hc1 hL2.symm (hr2.belowN hb) hb2 (by omega) (ht.below hb))
  have CR := hid (fun w1 (hb : Below w.heap.size w w1) => uVerify_any A0 A1 A2 n0 c0 n1 c1 n2 c2 P M S w1 hL0.symm (hr0.belowN hb) hb0 (by omega) hc0 hL1.symm (hr1.belowN hb) hb1 (by omega) hL2.symm (hr2.belowN hb) hb2 (by omega) hc2 hc1)
  generalize hver P M S = VV at CC CR
  clear hL0 hb0 hr0 hL1 hb1 hr1 hL2 hb2 hr2 ht hc0 hc1 hc2 hbig
  go_enter Tryd.func8, Tryd.ntmps8
  go_wp2_with (first
    | (go_at_call 21; refine (CA.out _ B0.out).mono ?_; rintro e w1 ⟨rfl, hb1⟩; have B1 := hid hb1; clear hb1)
    | (go_at_call 33; refine (CC.out _ B1.out).mono ?_; rintro e w2 ⟨rfl, hb2⟩; have B2 := hid (B1.out.trans (hb2.mono B1.out.size)); clear hb2)
    | (go_at_call 34; refine (CR.out _ B2.out).mono ?_; rintro e w3 ⟨rfl, hb3⟩; have B3 := hid (B2.out.trans (hb3.mono B2.out.size)); clear hb3))
  go_ret
  exact ⟨by simp, B3.out⟩
end Go.Proofs.YtobceieadjpaaaaDoor
