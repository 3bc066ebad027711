/-
  What is proved here: no vault keeps nothing.
-/
import Derived.Test.YthfkooancgkjaaaMVtF
set_option linter.unusedSimpArgs false
set_option linter.unusedVariables false
namespace Go.Proofs.Ythfkooancgkjaaa
open Go.ChangeShapes Go.WideShapes Go.ChangeAt Go.RowKit
set_option linter.unusedVariables false
set_option maxRecDepth 20000

set_option maxHeartbeats 4000000 in
theorem vnone_walk (p : Int) (A : Option Addr) (n c : Nat) (L : List Int) (w : World) (hp : 0 ≤ p ∧ p ≤ 255) (hin : InB w A n c L) (hnc : n ≤ c) : Calls Try.prog 5 #[.int .u8 p, .slice A n c] w fun e w' => e = .returned (.bool true) ∧ Below w.heap.size w w' := by
  have hn := hin.2.1
  clear hin hnc
  by_cases h : 300 < n
  · have g : decide (300 < (n : Int)) = true := decide_eq_true (by omega)
    have g1 : 300 < (n : Int) := by omega
    clear hn
    go_enter Try.func5, Try.ntmps5
    go_wp2_with (first
      | (go_at_call 6; (with_reducible refine (vtawake_any w).mono ?_); rintro e w1 ⟨rfl, hb⟩; have B1 := hid hb; clear hb)
      | (go_at_call 6; refine (vtawake_any _).mono ?_; rintro e w2 ⟨rfl, hb⟩; have B2 := hid (B1.out.trans (hb.mono B1.out.size)); clear hb))
    go_ret
    exact ⟨rfl, B2.out⟩
  · have g : decide (300 < (n : Int)) = false := decide_eq_false (by omega)
    have g1 : ¬ 300 < (n : Int) := by omega
    clear hn
    obtain ⟨q, hq⟩ : ∃ q : Nat, p % 9 = q := ⟨(p % 9).toNat, by omega⟩
    have hq9 : q < 9 := by omega
    have e0 : p.tmod 9 = (q : Int) := by rw [Int.tmod_eq_emod_of_nonneg hp.1]; exact hq
    have CN : Hid (∀ y, Calls Try.prog 8 #[.int .i64 q] y fun e w' => ∃ b, e = .returned (.tuple #[.pointer (some ⟨b, 0, none⟩), .int .i64 0]) ∧ Dy y.heap.size w' b ⟨List.replicate q zpg, [], -1, false⟩ ∧ Below y.heap.size y w') := hid fun y => Dy.new q y (by omega)
    have CZ : Hid (∀ y, Calls Try.prog 9 #[.pointer none] y fun e w' => e = .returned (.tuple #[.pointer none, .slice none 0 0, .int .i64 1]) ∧ y = w') := hid fun y => vtOpen_few (n := 0) (by decide) (dPages_nil y)
    clear hp hq
    by_cases h4 : q < 4
    · have g4 : (q : Int) < 4 := by omega
      have g6 : decide ((4 : Int) ≤ (q : Int)) = false := decide_eq_false (by omega)
      have g7 : decide ((q : Int) < 4) = true := decide_eq_true g4
      have CO : Hid (∀ y b, Dy w.heap.size y b ⟨List.replicate q zpg, [], -1, false⟩ → Calls Try.prog 9 #[.pointer (some ⟨b, 0, none⟩)] y fun e w' => e = .returned (.tuple #[.pointer none, .slice none 0 0, .int .i64 1]) ∧ y = w') := hid fun y b hd => vtOpen_few h4 (by have := hd.pages; simp only [List.length_replicate] at this; exact this)
      go_enter Try.func5, Try.ntmps5
      go_wp2_with (first
        | (go_at_call 6; refine (vtawake_any _).mono ?_; rintro e w1 ⟨rfl, hb⟩; have B1 := hid hb; clear hb)
        | (go_at_call 8; refine (CN.out _).mono ?_; rintro e w2 ⟨b, rfl, hd, hb⟩; have CO2 := hid (CO.out w2 b (hd.mono2 B1.out.size)); have B2 := hid (B1.out.trans (hb.mono B1.out.size)); clear hd hb)
        | (go_at_call 9; (with_reducible refine CO2.out.mono ?_); rintro e wq ⟨rfl, rfl⟩)
        | (go_at_call 9; refine (CZ.out _).mono ?_; rintro e wq ⟨rfl, rfl⟩)
        | (go_at_call 11; refine (vtAppend_nil _ _ _ _).mono ?_; rintro e wq ⟨rfl, rfl⟩)
        | (go_at_call 12; refine (vtFlush_nil _).mono ?_; rintro e wq ⟨rfl, rfl⟩)
        | (go_at_call 14; refine (vtReplace_nil _ _ _ _).mono ?_; rintro e wq ⟨rfl, rfl⟩)
        | (go_at_call 19; refine (vtRoom_nil _).mono ?_; rintro e wq ⟨rfl, rfl⟩)
        | (go_at_call 20; refine (vtSpace_nil _).mono ?_; rintro e wq ⟨rfl, rfl⟩))
      go_ret
      exact ⟨rfl, B2.out⟩
    · have g4 : ¬ (q : Int) < 4 := by omega
      have g5 : (4 : Int) ≤ (q : Int) := by omega
      have g6 : decide ((4 : Int) ≤ (q : Int)) = true := decide_eq_true g5
      have g7 : decide ((q : Int) < 4) = false := decide_eq_false g4
      obtain ⟨S, hS⟩ : ∃ S, (q - 2) / 2 = S := ⟨_, rfl⟩
      have CO : Hid (∀ y b, Dy w.heap.size y b ⟨List.replicate q zpg, [], -1, false⟩ → Below w.heap.size w y → Calls Try.prog 9 #[.pointer (some ⟨b, 0, none⟩)] y fun e w' => ∃ vb A c, e = .returned (.tuple #[.pointer (some ⟨vb, 0, none⟩), .slice A 0 c, .int .i64 0]) ∧ Below w.heap.size y w') := hid fun y b hd hb => by
        obtain ⟨a1, a2, a3, _⟩ := vt_one (T := q) (S := S) (by omega) (by omega)
        have := vtOpen_any hd hb.size a2 a1 hS (by omega) (by omega) (by decide) (by decide)
        refine this.mono ?_
        rintro e w' (⟨_, vb, lb, V, q1, q2, q3, q4, q5, q6, q7, q8, q9⟩ | ⟨q0, _⟩)
        · obtain ⟨A, c, hV⟩ := q6.len
          rw [hV] at q1
          exact ⟨vb, A, c, q1, q9⟩
        · exact (q0 a3).elim
      clear hS
      go_enter Try.func5, Try.ntmps5
      go_wp2_with (first
        | (go_at_call 6; refine (vtawake_any _).mono ?_; rintro e w1 ⟨rfl, hb⟩; have B1 := hid hb; clear hb)
        | (go_at_call 8; refine (CN.out _).mono ?_; rintro e w2 ⟨b, rfl, hd, hb⟩; have hB2 := B1.out.trans (hb.mono B1.out.size); have CO2 := hid (CO.out w2 b (hd.mono2 B1.out.size) hB2); have B2 := hid hB2; clear hd hb hB2)
        | (go_at_call 9; (with_reducible refine CO2.out.mono ?_); rintro e w3 ⟨vb, VA, vc, rfl, hb⟩; have B3 := hid (B2.out.trans hb); clear hb)
        | (go_at_call 9; refine (CZ.out _).mono ?_; rintro e wq ⟨rfl, rfl⟩)
        | (go_at_call 11; refine (vtAppend_nil _ _ _ _).mono ?_; rintro e wq ⟨rfl, rfl⟩)
        | (go_at_call 12; refine (vtFlush_nil _).mono ?_; rintro e wq ⟨rfl, rfl⟩)
        | (go_at_call 14; refine (vtReplace_nil _ _ _ _).mono ?_; rintro e wq ⟨rfl, rfl⟩)
        | (go_at_call 19; refine (vtRoom_nil _).mono ?_; rintro e wq ⟨rfl, rfl⟩)
        | (go_at_call 20; refine (vtSpace_nil _).mono ?_; rintro e wq ⟨rfl, rfl⟩))
      go_ret
      exact ⟨rfl, B3.out⟩
end Go.Proofs.Ythfkooancgkjaaa
