/-
  What is proved here: the fixed fact that each statement on keys for one signature asks first.
-/
import Derived.Test.YteiflhgmgdibgaaLmC3
namespace Go.Proofs.Yteiflhgmgdibgaa
open Go.ChangeShapes Go.WideShapes Go.ChangeAt Go.RowKit
set_option linter.unusedVariables false

set_option maxRecDepth 100000 in
theorem zero_H : ∃ Z : Array Value, Hid (Z = (u8s (List.replicate 32 0)).toArray) ∧ (¬ Z = #[]) ∧ ∀ w : World, Sem.run Try.prog (zeroValue 23) w = Result.ok (.agg Z) w := by
  refine ⟨(List.replicate 32 (.int .u8 0)).toArray, ?_, ?_, fun w => by kernel_rfl⟩
  · show _ = _
    unfold u8s
    rw [List.map_replicate]
  · intro h
    have := congrArg Array.size h
    simp at this
theorem ky_zero : Ky (List.replicate 32 0) := ⟨by simp, fun v hv => by have := List.eq_of_mem_replicate hv; omega⟩
set_option maxRecDepth 20000 in
set_option maxHeartbeats 1000000 in
theorem kawake_any (w : World) : Calls Try.prog 5 #[] w fun e w' => e = .returned (.bool true) ∧ Below w.heap.size w w' := by
  obtain ⟨Z, HZ, hZ0, hZs⟩ := zero_H
  have C1 : Hid (∀ w, Calls Try.prog 6 #[.int .i64 3] w fun e w' => e = .returned (.int .i64 67) ∧ Below w.heap.size w w') := lChains_any 3
  have C2 : Hid (∀ w, Calls Try.prog 8 #[.int .i64 3] w fun e w' => e = .returned (.int .i64 2180) ∧ Below w.heap.size w w') := lSize_any 3
  have C3 : Hid (∀ w, Calls Try.prog 11 #[.int .i64 2, .agg Z] w fun e w' => ∃ A c, e = .returned (.slice A 133 c) ∧ RpI w' A (digits 2 (List.replicate 32 0)) ∧ Below w.heap.size w w') := by
    rw [HZ.out]
    exact fun w => lDigits_any 2 _ w ky_zero
  go_enter Try.func5, Try.ntmps5
  go_wp2_with (first
    | (go_at_call 6; refine (C1.out _).mono ?_; rintro e w1 ⟨rfl, hb1⟩; have H1 := hid hb1; clear hb1)
    | (go_at_call 8; refine (C2.out _).mono ?_; rintro e w2 ⟨rfl, hb2⟩; have H2 := hid (H1.out.trans (hb2.mono H1.out.size)); clear hb2)
    | (go_at_call 11; refine (C3.out _).mono ?_; rintro e w3 ⟨A, c, rfl, _, hb3⟩; have H3 := hid (H2.out.trans (hb3.mono H2.out.size)); clear hb3))
  go_ret
  exact ⟨rfl, H3.out⟩
end Go.Proofs.Yteiflhgmgdibgaa
