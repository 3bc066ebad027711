/-
  What is proved here: the code's own numbers of a kind: its shape, the greatest digit, chains and size.
-/
import Derived.Test.YteiflhgmgdibgaaLmD
namespace Go.Proofs.Yteiflhgmgdibgaa
open Go.ChangeShapes Go.WideShapes Go.ChangeAt Go.RowKit
set_option linter.unusedVariables false

/-- a kind's shape as cells -/
def shp (k : Int) : Array Value := #[.int .i64 (kbits k : Nat), .int .i64 (kchains k : Nat), .int .i64 (kshift k : Nat)]
theorem shp_1 : shp 1 = #[.int .i64 1, .int .i64 265, .int .i64 7] := rfl
theorem shp_2 : shp 2 = #[.int .i64 2, .int .i64 133, .int .i64 6] := rfl
theorem shp_3 : shp 3 = #[.int .i64 4, .int .i64 67, .int .i64 4] := rfl
theorem shp_4 : shp 4 = #[.int .i64 8, .int .i64 34, .int .i64 0] := rfl
theorem kshift_no {k : Int} (h : k ≠ 1 ∧ k ≠ 2 ∧ k ≠ 3 ∧ k ≠ 4) : kshift k = 0 := by
  unfold kshift
  rw [if_neg h.1, if_neg h.2.1, if_neg h.2.2.1]
theorem shp_no {k : Int} (h : k ≠ 1 ∧ k ≠ 2 ∧ k ≠ 3 ∧ k ≠ 4) : shp k = #[.int .i64 0, .int .i64 0, .int .i64 0] := by
  unfold shp
  rw [kbits_no h, kchains_no h, kshift_no h]; rfl
theorem kd_shp {k : Int} (hk : Kd k) : 0 < kbits k ∧ 0 < kchains k := by rcases hk with rfl | rfl | rfl | rfl <;> decide
set_option maxRecDepth 20000 in
set_option maxHeartbeats 1000000 in
theorem shapeOf_any (k : Int) (w : World) : Calls Try.prog 13 #[.int .i64 k] w fun e w' => e = .returned (.agg (shp k)) ∧ Below w.heap.size w w' := by
  rcases kd_cases k with rfl | rfl | rfl | rfl | h
  · rw [shp_1]
    go_enter Try.func13, Try.ntmps13; go_wp2
    refine bodyPost_ret (v := .agg #[.int .i64 1, .int .i64 265, .int .i64 7]) (by simp [results, Try.results13, go_sem]) rfl ⟨rfl, ?_⟩
    all_goals repeat (first | exact Below.refl _ _ | (refine Below.setCell ?_ (by simp) _) | (refine Below.alloc ?_ (by simp) _))
  · rw [shp_2]
    go_enter Try.func13, Try.ntmps13; go_wp2
    refine bodyPost_ret (v := .agg #[.int .i64 2, .int .i64 133, .int .i64 6]) (by simp [results, Try.results13, go_sem]) rfl ⟨rfl, ?_⟩
    all_goals repeat (first | exact Below.refl _ _ | (refine Below.setCell ?_ (by simp) _) | (refine Below.alloc ?_ (by simp) _))
  · rw [shp_3]
    go_enter Try.func13, Try.ntmps13; go_wp2
    refine bodyPost_ret (v := .agg #[.int .i64 4, .int .i64 67, .int .i64 4]) (by simp [results, Try.results13, go_sem]) rfl ⟨rfl, ?_⟩
    all_goals repeat (first | exact Below.refl _ _ | (refine Below.setCell ?_ (by simp) _) | (refine Below.alloc ?_ (by simp) _))
  · rw [shp_4]
    go_enter Try.func13, Try.ntmps13; go_wp2
    refine bodyPost_ret (v := .agg #[.int .i64 8, .int .i64 34, .int .i64 0]) (by simp [results, Try.results13, go_sem]) rfl ⟨rfl, ?_⟩
    all_goals repeat (first | exact Below.refl _ _ | (refine Below.setCell ?_ (by simp) _) | (refine Below.alloc ?_ (by simp) _))
  · rw [shp_no h]
    have e1 : (k == 1) = false := by simpa using h.1
    have e2 : (k == 2) = false := by simpa using h.2.1
    have e3 : (k == 3) = false := by simpa using h.2.2.1
    have e4 : (k == 4) = false := by simpa using h.2.2.2
    clear h
    go_enter Try.func13, Try.ntmps13; go_wp2
    refine bodyPost_ret (v := .agg #[.int .i64 0, .int .i64 0, .int .i64 0]) (by simp [results, Try.results13, go_sem]) rfl ⟨rfl, ?_⟩
    all_goals repeat (first | exact Below.refl _ _ | (refine Below.setCell ?_ (by simp) _) | (refine Below.alloc ?_ (by simp) _))
set_option maxRecDepth 20000 in
set_option maxHeartbeats 1000000 in
theorem greatest_any (k : Int) (w : World) (hk : Kd k) : Calls Try.prog 20 #[.agg (shp k)] w fun e w' => e = .returned (.int .i64 (kmost k)) ∧ Below w.heap.size w w' := by
  rcases hk with rfl | rfl | rfl | rfl
  · rw [shp_1, show kmost 1 = 1 from rfl]
    go_enter Try.func20, Try.ntmps20; go_wp2
    go_ret
    exact ⟨rfl, (Below.refl _ _).alloc (Nat.le_refl _) _⟩
  · rw [shp_2, show kmost 2 = 3 from rfl]
    go_enter Try.func20, Try.ntmps20; go_wp2
    go_ret
    exact ⟨rfl, (Below.refl _ _).alloc (Nat.le_refl _) _⟩
  · rw [shp_3, show kmost 3 = 15 from rfl]
    go_enter Try.func20, Try.ntmps20; go_wp2
    go_ret
    exact ⟨rfl, (Below.refl _ _).alloc (Nat.le_refl _) _⟩
  · rw [shp_4, show kmost 4 = 255 from rfl]
    go_enter Try.func20, Try.ntmps20; go_wp2
    go_ret
    exact ⟨rfl, (Below.refl _ _).alloc (Nat.le_refl _) _⟩
theorem field_chains (a b c : Int) (w : World) : Sem.run Try.prog (Instr.field 32 (Value.agg #[Value.int .i64 a, Value.int .i64 b, Value.int .i64 c]) 1) w = .ok (.int .i64 b) w := by kernel_rfl
set_option maxRecDepth 20000 in
set_option maxHeartbeats 1000000 in
theorem lChains_any (k : Int) (w : World) : Calls Try.prog 6 #[.int .i64 k] w fun e w' => e = .returned (.int .i64 (kchains k : Nat)) ∧ Below w.heap.size w w' := by
  have CS := hid (shapeOf_any k)
  have HS : Hid (shp k = #[.int .i64 (kbits k : Nat), .int .i64 (kchains k : Nat), .int .i64 (kshift k : Nat)]) := rfl
  rw [HS.out] at CS
  generalize kbits k = a at CS
  generalize kchains k = b at CS ⊢
  generalize kshift k = c at CS
  clear HS
  have FC := field_chains a b c
  go_enter Try.func6, Try.ntmps6
  go_wp2_with (go_at_call 13; refine (CS.out _).mono ?_; rintro e w1 ⟨rfl, hb1⟩; have HB := hid hb1; clear hb1)
  go_ret
  exact ⟨rfl, HB.out⟩
set_option maxRecDepth 20000 in
set_option maxHeartbeats 1000000 in
theorem lSize_any (k : Int) (w : World) : Calls Try.prog 8 #[.int .i64 k] w fun e w' => e = .returned (.int .i64 (ksize k : Nat)) ∧ Below w.heap.size w w' := by
  have CC := hid (lChains_any k)
  rcases kd_cases k with hk | hk | hk | hk | h
  · have CD : Hid (∀ w, Calls Try.prog 6 #[.int .i64 k] w fun e w' => e = .returned (.int .i64 265) ∧ Below w.heap.size w w') := by rw [hk] at CC ⊢; exact CC.out
    have hs : ksize k = 8516 := by rw [hk]; rfl
    rw [hs]
    clear CC hk hs
    go_enter Try.func8, Try.ntmps8
    go_wp2_with (go_at_call 6; refine (CD.out _).mono ?_; rintro e w1 ⟨rfl, hb1⟩; have HB := hid hb1; clear hb1)
    go_ret
    exact ⟨rfl, HB.out⟩
  · have CD : Hid (∀ w, Calls Try.prog 6 #[.int .i64 k] w fun e w' => e = .returned (.int .i64 133) ∧ Below w.heap.size w w') := by rw [hk] at CC ⊢; exact CC.out
    have hs : ksize k = 4292 := by rw [hk]; rfl
    rw [hs]
    clear CC hk hs
    go_enter Try.func8, Try.ntmps8
    go_wp2_with (go_at_call 6; refine (CD.out _).mono ?_; rintro e w1 ⟨rfl, hb1⟩; have HB := hid hb1; clear hb1)
    go_ret
    exact ⟨rfl, HB.out⟩
  · have CD : Hid (∀ w, Calls Try.prog 6 #[.int .i64 k] w fun e w' => e = .returned (.int .i64 67) ∧ Below w.heap.size w w') := by rw [hk] at CC ⊢; exact CC.out
    have hs : ksize k = 2180 := by rw [hk]; rfl
    rw [hs]
    clear CC hk hs
    go_enter Try.func8, Try.ntmps8
    go_wp2_with (go_at_call 6; refine (CD.out _).mono ?_; rintro e w1 ⟨rfl, hb1⟩; have HB := hid hb1; clear hb1)
    go_ret
    exact ⟨rfl, HB.out⟩
  · have CD : Hid (∀ w, Calls Try.prog 6 #[.int .i64 k] w fun e w' => e = .returned (.int .i64 34) ∧ Below w.heap.size w w') := by rw [hk] at CC ⊢; exact CC.out
    have hs : ksize k = 1124 := by rw [hk]; rfl
    rw [hs]
    clear CC hk hs
    go_enter Try.func8, Try.ntmps8
    go_wp2_with (go_at_call 6; refine (CD.out _).mono ?_; rintro e w1 ⟨rfl, hb1⟩; have HB := hid hb1; clear hb1)
    go_ret
    exact ⟨rfl, HB.out⟩
  · have hc := kchains_no h
    have CD : Hid (∀ w, Calls Try.prog 6 #[.int .i64 k] w fun e w' => e = .returned (.int .i64 0) ∧ Below w.heap.size w w') := by rw [hc] at CC; exact CC.out
    have hs : ksize k = 0 := by unfold ksize; rw [if_pos (kbits_no h)]
    rw [hs]
    clear CC h hc hs
    go_enter Try.func8, Try.ntmps8
    go_wp2_with (go_at_call 6; refine (CD.out _).mono ?_; rintro e w1 ⟨rfl, hb1⟩; have HB := hid hb1; clear hb1)
    go_ret
    exact ⟨rfl, HB.out⟩
end Go.Proofs.Yteiflhgmgdibgaa
