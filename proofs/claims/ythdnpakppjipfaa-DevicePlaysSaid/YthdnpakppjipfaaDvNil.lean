/-
  What is proved here: the fixed fact that each statement on devices asks first; a nil device.
-/
import Derived.Test.YthdnpakppjipfaaDvR
namespace Go.Proofs.Ythdnpakppjipfaa
open Go.ChangeShapes Go.WideShapes Go.ChangeAt Go.RowKit
set_option linter.unusedVariables false
set_option maxRecDepth 20000

theorem dawake_any (w : World) : Calls Try.prog 8 #[] w fun e w' => e = .returned (.bool true) ∧ Below w.heap.size w w' := by
  have CN := hid (dNew_ok 2 w (by decide))
  have hnil : ∀ (w : World) (a : Addr), (binOp .neq 25 (.pointer (some a)) (.pointer none)).run Try.prog w = .ok (.bool true) w := fun w a => by simp [go_sem]
  go_enter Try.func8, Try.ntmps8
  go_wp2_with (first
    | (go_at_call 10; refine CN.out.mono ?_; rintro e w1 ⟨rfl, hd, hb, _⟩; have CP := hid (dPages_at hd); have CD := hid (dDown_at hd); have HB := hid hb; rw [List.length_replicate] at CP; clear hd hb)
    | (go_at_call 12; refine CP.out.mono ?_; rintro e wq ⟨rfl, rfl⟩)
    | (go_at_call 16; refine CD.out.mono ?_; rintro e wq ⟨rfl, rfl⟩))
  go_ret
  exact ⟨rfl, HB.out⟩
theorem dRestart_nil (A : Option Addr) (n c : Nat) (w : World) : Calls Try.prog 20 #[.pointer none, .slice A n c] w fun e w' => e = .returned (.tuple #[]) ∧ w = w' := by
  go_enter Try.func20, Try.ntmps20
  go_wp2
  refine bodyPost_ret (results_none rfl _ _ _) rfl ?_
  exact ⟨rfl, rfl⟩
theorem dnil_walk (n i : Int) (w : World) : Calls Try.prog 7 #[.int .i64 n, .int .i64 i] w fun e w' => e = .returned (.bool true) ∧ Below w.heap.size w w' := by
  have B0 : Hid (Below w.heap.size w (w.alloc (.cells #[.int .i64 i] 3))) := (Below.refl _ _).alloc (Nat.le_refl _) _
  by_cases h0 : 0 ≤ n ∧ n ≤ 4096
  · obtain ⟨h1, h2⟩ := h0
    go_enter Try.func7, Try.ntmps7
    go_wp2_with (first
      | (go_at_call 21; refine (dSetFuse_nil _ _).mono ?_; rintro e wq ⟨rfl, rfl⟩)
      | (go_at_call 20; refine (dRestart_nil _ _ _ _).mono ?_; rintro e wq ⟨rfl, rfl⟩)
      | (go_at_call 18; refine (dRead_nil _ _).mono ?_; rintro e wq ⟨rfl, rfl⟩)
      | (go_at_call 22; refine (dWrite_nil _ _ _ _ _).mono ?_; rintro e wq ⟨rfl, rfl⟩)
      | (go_at_call 23; refine (dFlush_nil _).mono ?_; rintro e wq ⟨rfl, rfl⟩)
      | (go_at_call 12; refine (dPages_nil _).mono ?_; rintro e wq ⟨rfl, rfl⟩)
      | (go_at_call 16; refine (dDown_nil _).mono ?_; rintro e wq ⟨rfl, rfl⟩)
      | (go_at_call 17; refine (dWaits_nil _).mono ?_; rintro e wq ⟨rfl, rfl⟩)
      | (go_at_call 8; refine (dawake_any _).mono ?_; rintro e w1 ⟨rfl, hb⟩; have HB := hid (B0.out.trans (hb.mono B0.out.size)); clear hb))
    go_ret
    exact ⟨rfl, HB.out⟩
  · have hn : n < 0 ∨ 4096 < n := by omega
    have hf : decide (0 ≤ n ∧ n ≤ 4096) = false := by simp; omega
    have CN := hid (fun w => dNew_no n w hn)
    rcases hn with hn | hn
    · have g1 : decide (0 ≤ n) = false := by simp; omega
      clear h0 hf
      go_enter Try.func7, Try.ntmps7
      go_wp2_with (first
        | (go_at_call 21; refine (dSetFuse_nil _ _).mono ?_; rintro e wq ⟨rfl, rfl⟩)
        | (go_at_call 20; refine (dRestart_nil _ _ _ _).mono ?_; rintro e wq ⟨rfl, rfl⟩)
        | (go_at_call 18; refine (dRead_nil _ _).mono ?_; rintro e wq ⟨rfl, rfl⟩)
        | (go_at_call 22; refine (dWrite_nil _ _ _ _ _).mono ?_; rintro e wq ⟨rfl, rfl⟩)
        | (go_at_call 23; refine (dFlush_nil _).mono ?_; rintro e wq ⟨rfl, rfl⟩)
        | (go_at_call 12; refine (dPages_nil _).mono ?_; rintro e wq ⟨rfl, rfl⟩)
        | (go_at_call 16; refine (dDown_nil _).mono ?_; rintro e wq ⟨rfl, rfl⟩)
        | (go_at_call 17; refine (dWaits_nil _).mono ?_; rintro e wq ⟨rfl, rfl⟩)
        | (go_at_call 10; refine (CN.out _).mono ?_; rintro e wq ⟨rfl, rfl⟩)
        | (go_at_call 8; refine (dawake_any _).mono ?_; rintro e w1 ⟨rfl, hb⟩; have HB := hid (B0.out.trans (hb.mono B0.out.size)); clear hb))
      go_ret
      exact ⟨rfl, HB.out⟩
    · have g1 : decide (0 ≤ n) = true := by simp; omega
      have g2 : decide (n ≤ 4096) = false := by simp; omega
      clear h0 hf
      go_enter Try.func7, Try.ntmps7
      go_wp2_with (first
        | (go_at_call 21; refine (dSetFuse_nil _ _).mono ?_; rintro e wq ⟨rfl, rfl⟩)
        | (go_at_call 20; refine (dRestart_nil _ _ _ _).mono ?_; rintro e wq ⟨rfl, rfl⟩)
        | (go_at_call 18; refine (dRead_nil _ _).mono ?_; rintro e wq ⟨rfl, rfl⟩)
        | (go_at_call 22; refine (dWrite_nil _ _ _ _ _).mono ?_; rintro e wq ⟨rfl, rfl⟩)
        | (go_at_call 23; refine (dFlush_nil _).mono ?_; rintro e wq ⟨rfl, rfl⟩)
        | (go_at_call 12; refine (dPages_nil _).mono ?_; rintro e wq ⟨rfl, rfl⟩)
        | (go_at_call 16; refine (dDown_nil _).mono ?_; rintro e wq ⟨rfl, rfl⟩)
        | (go_at_call 17; refine (dWaits_nil _).mono ?_; rintro e wq ⟨rfl, rfl⟩)
        | (go_at_call 10; refine (CN.out _).mono ?_; rintro e wq ⟨rfl, rfl⟩)
        | (go_at_call 8; refine (dawake_any _).mono ?_; rintro e w1 ⟨rfl, hb⟩; have HB := hid (B0.out.trans (hb.mono B0.out.size)); clear hb))
      go_ret
      exact ⟨rfl, HB.out⟩
end Go.Proofs.Ythdnpakppjipfaa
