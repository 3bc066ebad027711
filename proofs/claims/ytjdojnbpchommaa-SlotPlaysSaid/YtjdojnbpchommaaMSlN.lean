/-
  What is proved here: the fixed fact that each statement on slots asks first; no device.
-/
import Derived.Test.YtjdojnbpchommaaMSlC
import Derived.Test.YtjdojnbpchommaaMSlOpen
set_option linter.unusedSimpArgs false
set_option linter.unusedVariables false
namespace Go.Proofs.Ytjdojnbpchommaa
open Go.ChangeShapes Go.WideShapes Go.ChangeAt Go.RowKit
set_option linter.unusedVariables false
set_option maxRecDepth 20000

theorem hi_rp (w : World) : Rp (w.alloc (.cells #[.int .u8 104, .int .u8 105] 5 (2, 3))) none (some ⟨w.heap.size, 0, none⟩) [104, 105] := fun _ =>
  ⟨_, rfl, (fun ⟨a, e, _⟩ => by cases e), fun j hj => by
    rw [Addr.add_lit, Nat.zero_add, World.cell?_alloc_mark]
    match j, hj with
    | 0, _ => rfl
    | 1, _ => rfl⟩
set_option maxHeartbeats 1000000 in
theorem oawake_any (w : World) : Calls Try.prog 8 #[] w fun e w' => e = .returned (.bool true) ∧ Below w.heap.size w w' := by
  have kc := fun (w : World) (C : Array Value) (n c : Nat) => Lib.run_convert_bytes_const (P := Try.prog) w 31 5 C n c Try.underlying31 Try.underlying5
  have CN := hid (Dy.new 2 w (by decide))
  have hc := cln_new 2 0 (by decide)
  have hs := sv_cln (u := [104, 105]) hc (by decide) (by decide) (fun v hv => by simp at hv; omega)
  obtain ⟨s0, hs0⟩ : ∃ s0, s0 = (⟨List.replicate 2 zpg, [], -1, false⟩ : SS) := ⟨_, rfl⟩
  rw [← hs0] at hc hs CN
  obtain ⟨s1, hs1⟩ : ∃ s1, s1 = (⟨s0.L.set (0 + sd 0) (pgl (0 + 1) [104, 105]), [], -1, false⟩ : SS) := ⟨_, rfl⟩
  rw [← hs1] at hs
  have hl := ld_cln hs.2
  have hbs0 := hc.bs
  have hbs1 := hs.2.bs
  have hq : s0.Q.length < 1000000 := by rw [hs0]; decide
  have CS : Hid (∀ (w1 w2 : World) (b : Nat) (A : Option Addr), Dy w.heap.size w1 b s0 → Below w1.heap.size w1 w2 → Below w.heap.size w w1 → Rp w2 none A [104, 105] → Calls Try.prog 12 #[.pointer (some ⟨b, 0, none⟩), .int .i64 0, .slice A 2 2] w2 fun e w' => e = .returned (.tuple #[.int .u64 1, .int .i64 0]) ∧ Dy w.heap.size w' b s1 ∧ Below w.heap.size w w') := fun w1 w2 b A hd hb hb0 hr => by
    have := oSave_any (hd.below hb) (Nat.le_trans hb0.size hb.size) hbs0 0 (by decide) A 2 [104, 105] hr (by decide) hq
    have e : s0.sv 0 [104, 105] = (0, 1, s1) := hs.1
    rw [e] at this
    exact this.mono fun e w' ⟨h1, h2⟩ => ⟨h1, h2.1, (hb0.trans (hb.mono hb0.size)).trans h2.2.2⟩
  have CL : Hid (∀ (w1 : World) (b : Nat), Dy w.heap.size w1 b s1 → Calls Try.prog 21 #[.pointer (some ⟨b, 0, none⟩), .int .i64 0] w1 fun e w' => ∃ V c, e = .returned (.tuple #[.int .u64 1, .slice V 2 c, .int .i64 0]) ∧ Below w1.heap.size w1 w') := fun w1 b hd => by
    have := oLoad_any hd hbs1 0 (by decide)
    have e : s1.ld 0 = (0, 1, [104, 105]) := hl
    rw [e] at this
    exact this.mono fun e w' ⟨V, c, h1, h2, h3⟩ => ⟨V, c, h1, h3⟩
  clear hc hs hs0 hs1 hl hbs0 hbs1 hq
  go_enter Try.func8, Try.ntmps8
  go_wp2_with (go_at_call 10; refine CN.out.mono ?_; rintro e w1 ⟨b, rfl, hd, hb⟩; have HD := hid hd; have HB := hid hb; clear hd hb)
  refine (CS.out _ _ _ _ HD.out ((Below.refl _ _).alloc (Nat.le_refl _) _) HB.out (hi_rp w1)).mono ?_
  rintro e w2 ⟨rfl, hd2, hb2⟩
  have HB2 := hid hb2
  have C2 := hid (CL.out _ _ hd2)
  clear hd2 hb2
  go_wp2_with (go_at_call 21; refine C2.out.mono ?_; rintro e w3 ⟨V, c, rfl, hb3⟩; have HB3 := hid (HB2.out.trans (hb3.mono HB2.out.size)); clear hb3)
  go_ret
  exact ⟨rfl, HB3.out⟩
theorem oLoad_nil (t : Int) (w : World) : Calls Try.prog 21 #[.pointer none, .int .i64 t] w fun e w' => e = .returned (.tuple #[.int .u64 0, .slice none 0 0, .int .i64 1]) ∧ w = w' := by
  go_enter Try.func21, Try.ntmps21
  go_wp2
  go_ret3
  exact ⟨rfl, rfl⟩
theorem oSave_nil (t : Int) (A : Option Addr) (n c : Nat) (w : World) : Calls Try.prog 12 #[.pointer none, .int .i64 t, .slice A n c] w fun e w' => e = .returned (.tuple #[.int .u64 0, .int .i64 1]) ∧ w = w' := by
  go_enter Try.func12, Try.ntmps12
  go_wp2
  go_ret2
  exact ⟨rfl, rfl⟩
theorem snone_walk (t : Int) (A : Option Addr) (n c : Nat) (L : List Int) (w : World) (hin : InB w A n c L) (hnc : n ≤ c) : Calls Try.prog 7 #[.int .i64 t, .slice A n c] w fun e w' => e = .returned (.bool true) ∧ Below w.heap.size w w' := by
  have hn := hin.2.1
  clear hin hnc
  by_cases h : 300 < n
  · have g : decide (300 < (n : Int)) = true := decide_eq_true (by omega)
    have g1 : 300 < (n : Int) := by omega
    clear hn
    go_enter Try.func7, Try.ntmps7
    go_wp2_with (first
      | (go_at_call 8; (with_reducible refine (oawake_any w).mono ?_); rintro e w1 ⟨rfl, hb⟩; have B1 := hid hb; clear hb)
      | (go_at_call 8; refine (oawake_any _).mono ?_; rintro e w2 ⟨rfl, hb⟩; have B2 := hid (B1.out.trans (hb.mono B1.out.size)); clear hb))
    go_ret
    exact ⟨rfl, B2.out⟩
  · have g : decide (300 < (n : Int)) = false := decide_eq_false (by omega)
    have g1 : ¬ 300 < (n : Int) := by omega
    clear hn
    go_enter Try.func7, Try.ntmps7
    go_wp2_with (first
      | (go_at_call 8; refine (oawake_any _).mono ?_; rintro e w1 ⟨rfl, hb⟩; have B1 := hid hb; clear hb)
      | (go_at_call 21; refine (oLoad_nil _ _).mono ?_; rintro e wq ⟨rfl, rfl⟩)
      | (go_at_call 12; refine (oSave_nil _ _ _ _ _).mono ?_; rintro e wq ⟨rfl, rfl⟩))
    go_ret
    exact ⟨rfl, B1.out⟩
end Go.Proofs.Ytjdojnbpchommaa
