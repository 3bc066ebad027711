/-
  What is proved here: what the code's own turning and shifting of a word answers.
-/
import Derived.Test.YtpponjmhgfikiaaDoorRows
import Derived.Test.YtpponjmhgfikiaaDoorSha
import Derived.WalkKit
import Derived.ProofKit
import Derived.OpenShut
import Derived.BigQuiet
import Derived.Deep.QuietTactic
import Derived.IntWalk
namespace Go.Proofs.YtpponjmhgfikiaaDoor
open Go.ChangeShapes Go.WideShapes Go.ChangeAt Go.RowKit
set_option linter.unusedVariables false

theorem hid {p : Prop} (h : p) : Hid p := h

theorem rot_count : ∀ n : Fin 32, 1 ≤ n.val → bits .and .u64 (IntKind.u64.wrap (-(n.val : Int))) 31 = 32 - (n.val : Int) := by decide +kernel

set_option maxHeartbeats 400000 in
theorem rotl_any (x : W32) (n : Nat) (h1 : 1 ≤ n) (h2 : n < 32) (w : World) :
    Calls Tryd.prog 38 #[.int .u32 (u x), .int .i64 (-(n : Int))] w fun e w' => e = .returned (.int .u32 (u (rr x n))) ∧ w = w' := by
  have hc := rot_count ⟨n, h2⟩ h1
  simp only at hc
  have l := u_lo x
  have g := u_hi x
  go_enter Tryd.func38, Tryd.ntmps38
  go_wp2
  go_ret
  refine ⟨?_, rfl⟩
  rw [← rr_or x n h2, or_comm32, ← u_or, ← u_shl', ← u_shr]
  have e : 32 - (32 - n) = n := by omega
  simp only [e]
  rfl

set_option maxHeartbeats 400000 in
theorem turned_any (x : W32) (n : Nat) (h1 : 1 ≤ n) (h2 : n < 32) (w : World) :
    Calls Tryd.prog 36 #[.int .u32 (u x), .int .i64 n] w fun e w' => e = .returned (.int .u32 (u (rr x n))) ∧ w = w' := by
  go_enter Tryd.func36, Tryd.ntmps36
  go_wp2_with (go_at_call 38; refine (rotl_any x n h1 h2 _).mono ?_; rintro e w1 ⟨rfl, rfl⟩)
  go_ret
  exact ⟨rfl, rfl⟩

set_option maxHeartbeats 400000 in
theorem tLow_any (x : W32) (w : World) : Calls Tryd.prog 29 #[.int .u32 (u x)] w fun e w' => e = .returned (.int .u32 (u (up1 x))) ∧ w = w' := by
  have l := u_lo x
  have g := u_hi x
  have tok1 : True := trivial
  have tok2 : True := trivial
  go_enter Tryd.func29, Tryd.ntmps29
  go_wp2_with (first
    | (go_at_call 36; have _t := tok1; refine (turned_any x 6 (by decide) (by decide) _).mono ?_; rintro e w1 ⟨rfl, rfl⟩; clear tok1)
    | (go_at_call 36; have _t := tok2; refine (turned_any x 11 (by decide) (by decide) _).mono ?_; rintro e w1 ⟨rfl, rfl⟩; clear tok2)
    | (go_at_call 36; refine (turned_any x 25 (by decide) (by decide) _).mono ?_; rintro e w1 ⟨rfl, rfl⟩))
  go_ret
  exact ⟨by rw [u_xor, u_xor]; rfl, rfl⟩

set_option maxHeartbeats 400000 in
theorem tHigh_any (x : W32) (w : World) : Calls Tryd.prog 30 #[.int .u32 (u x)] w fun e w' => e = .returned (.int .u32 (u (up0 x))) ∧ w = w' := by
  have l := u_lo x
  have g := u_hi x
  have tok1 : True := trivial
  have tok2 : True := trivial
  go_enter Tryd.func30, Tryd.ntmps30
  go_wp2_with (first
    | (go_at_call 36; have _t := tok1; refine (turned_any x 2 (by decide) (by decide) _).mono ?_; rintro e w1 ⟨rfl, rfl⟩; clear tok1)
    | (go_at_call 36; have _t := tok2; refine (turned_any x 13 (by decide) (by decide) _).mono ?_; rintro e w1 ⟨rfl, rfl⟩; clear tok2)
    | (go_at_call 36; refine (turned_any x 22 (by decide) (by decide) _).mono ?_; rintro e w1 ⟨rfl, rfl⟩))
  go_ret
  exact ⟨by rw [u_xor, u_xor]; rfl, rfl⟩

set_option maxHeartbeats 400000 in
theorem sLow_any (x : W32) (w : World) : Calls Tryd.prog 34 #[.int .u32 (u x)] w fun e w' => e = .returned (.int .u32 (u (lo0 x))) ∧ w = w' := by
  have l := u_lo x
  have g := u_hi x
  have tok1 : True := trivial
  go_enter Tryd.func34, Tryd.ntmps34
  go_wp2_with (first
    | (go_at_call 36; have _t := tok1; refine (turned_any x 7 (by decide) (by decide) _).mono ?_; rintro e w1 ⟨rfl, rfl⟩; clear tok1)
    | (go_at_call 36; refine (turned_any x 18 (by decide) (by decide) _).mono ?_; rintro e w1 ⟨rfl, rfl⟩))
  go_ret
  exact ⟨by rw [u_xor, show (8 : Int) = 2 ^ 3 from rfl, u_shr, u_xor]; rfl, rfl⟩

set_option maxHeartbeats 400000 in
theorem sHigh_any (x : W32) (w : World) : Calls Tryd.prog 35 #[.int .u32 (u x)] w fun e w' => e = .returned (.int .u32 (u (lo1 x))) ∧ w = w' := by
  have l := u_lo x
  have g := u_hi x
  have tok1 : True := trivial
  go_enter Tryd.func35, Tryd.ntmps35
  go_wp2_with (first
    | (go_at_call 36; have _t := tok1; refine (turned_any x 17 (by decide) (by decide) _).mono ?_; rintro e w1 ⟨rfl, rfl⟩; clear tok1)
    | (go_at_call 36; refine (turned_any x 19 (by decide) (by decide) _).mono ?_; rintro e w1 ⟨rfl, rfl⟩))
  go_ret
  exact ⟨by rw [u_xor, show (1024 : Int) = 2 ^ 10 from rfl, u_shr, u_xor]; rfl, rfl⟩

set_option maxHeartbeats 400000 in
theorem rturned_any (x : W32) (n : Nat) (h1 : 1 ≤ n) (h2 : n < 32) (w : World) : Calls Tryd.prog 33 #[.int .u32 (u x), .int .u32 n] w fun e w' => e = .returned (.int .u32 (u (rr x n))) ∧ w = w' := by
  have l := u_lo x
  have g := u_hi x
  go_enter Tryd.func33, Tryd.ntmps33
  go_wp2
  go_ret
  refine ⟨?_, rfl⟩
  rw [← rr_or x n h2, ← u_or, ← u_shl', ← u_shr]
  rfl
end Go.Proofs.YtpponjmhgfikiaaDoor
