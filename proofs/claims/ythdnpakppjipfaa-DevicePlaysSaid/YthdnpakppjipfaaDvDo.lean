/-
  What is proved here: a call, as the statements do it on the code's device.
-/
import Derived.Test.YthdnpakppjipfaaDyL
namespace Go.Proofs.Ythdnpakppjipfaa
open Go.ChangeShapes Go.WideShapes Go.ChangeAt Go.RowKit
set_option linter.unusedVariables false
set_option maxRecDepth 20000

/-- a call's value -/
abbrev opV (k i : Int) (B : Option Addr) (n c : Nat) (A : Option Addr) (m d : Nat) : Array Value := #[.int .i64 k, .int .i64 i, .slice B n c, .slice A m d]
theorem do_1 {p : Nat} {i : Int} {B A : Option Addr} {n c m d : Nat} {w : World} {Post : World → Prop} {r : Int}
    (h : Calls Try.prog 22 #[.pointer (some ⟨p, 0, none⟩), .int .i64 i, .slice B n c] (w.alloc (.cells (opV 1 i B n c A m d) 37)) fun e w' => e = .returned (.int .i64 r) ∧ Post w') : Calls Try.prog 13 #[.pointer (some ⟨p, 0, none⟩), .agg (opV 1 i B n c A m d)] w fun e w' => e = .returned (.tuple #[.slice none 0 0, .int .i64 r]) ∧ Post w' := by
  have H := hid h
  clear h
  go_enter Try.func13, Try.ntmps13
  go_wp2_with (go_at_call 22; refine H.out.mono ?_; rintro e w1 ⟨rfl, hp⟩; have HP := hid hp; clear hp)
  go_ret2
  exact ⟨rfl, HP.out⟩
theorem do_2 {p : Nat} {i : Int} {B A : Option Addr} {n c m d : Nat} {w : World} {Post : World → Prop} {r : Int}
    (h : Calls Try.prog 23 #[.pointer (some ⟨p, 0, none⟩)] (w.alloc (.cells (opV 2 i B n c A m d) 37)) fun e w' => e = .returned (.int .i64 r) ∧ Post w') : Calls Try.prog 13 #[.pointer (some ⟨p, 0, none⟩), .agg (opV 2 i B n c A m d)] w fun e w' => e = .returned (.tuple #[.slice none 0 0, .int .i64 r]) ∧ Post w' := by
  have H := hid h
  clear h
  go_enter Try.func13, Try.ntmps13
  go_wp2_with (go_at_call 23; refine H.out.mono ?_; rintro e w1 ⟨rfl, hp⟩; have HP := hid hp; clear hp)
  go_ret2
  exact ⟨rfl, HP.out⟩
theorem do_3 {p : Nat} {i : Int} {B A : Option Addr} {n c m d : Nat} {w : World} {Post : World → Prop}
    (h : Calls Try.prog 21 #[.pointer (some ⟨p, 0, none⟩), .int .i64 i] (w.alloc (.cells (opV 3 i B n c A m d) 37)) fun e w' => e = .returned (.tuple #[]) ∧ Post w') : Calls Try.prog 13 #[.pointer (some ⟨p, 0, none⟩), .agg (opV 3 i B n c A m d)] w fun e w' => e = .returned (.tuple #[.slice none 0 0, .int .i64 0]) ∧ Post w' := by
  have H := hid h
  clear h
  go_enter Try.func13, Try.ntmps13
  go_wp2_with (go_at_call 21; refine H.out.mono ?_; rintro e w1 ⟨rfl, hp⟩; have HP := hid hp; clear hp)
  go_ret2
  exact ⟨rfl, HP.out⟩
theorem do_4 {p : Nat} {i : Int} {B A : Option Addr} {n c m d : Nat} {w : World} {Post : World → Prop}
    (h : Calls Try.prog 20 #[.pointer (some ⟨p, 0, none⟩), .slice A m d] (w.alloc (.cells (opV 4 i B n c A m d) 37)) fun e w' => e = .returned (.tuple #[]) ∧ Post w') : Calls Try.prog 13 #[.pointer (some ⟨p, 0, none⟩), .agg (opV 4 i B n c A m d)] w fun e w' => e = .returned (.tuple #[.slice none 0 0, .int .i64 0]) ∧ Post w' := by
  have H := hid h
  clear h
  go_enter Try.func13, Try.ntmps13
  go_wp2_with (go_at_call 20; refine H.out.mono ?_; rintro e w1 ⟨rfl, hp⟩; have HP := hid hp; clear hp)
  go_ret2
  exact ⟨rfl, HP.out⟩
theorem do_5 {p : Nat} {i : Int} {B A : Option Addr} {n c m d : Nat} {w : World} {r : Int} {Post : Option Addr → Nat → Nat → World → Prop}
    (h : Calls Try.prog 18 #[.pointer (some ⟨p, 0, none⟩), .int .i64 i] (w.alloc (.cells (opV 5 i B n c A m d) 37)) fun e w' => ∃ X q s, e = .returned (.tuple #[.slice X q s, .int .i64 r]) ∧ Post X q s w') :
    Calls Try.prog 13 #[.pointer (some ⟨p, 0, none⟩), .agg (opV 5 i B n c A m d)] w fun e w' => ∃ X q s, e = .returned (.tuple #[.slice X q s, .int .i64 r]) ∧ Post X q s w' := by
  have H := hid h
  clear h
  go_enter Try.func13, Try.ntmps13
  go_wp2_with (go_at_call 18; refine H.out.mono ?_; rintro e w1 ⟨X, q, s, rfl, hp⟩; have HP := hid hp; clear hp)
  go_ret2
  exact ⟨X, q, s, rfl, HP.out⟩
theorem do_else {p : Nat} {k i : Int} {B A : Option Addr} {n c m d : Nat} {w : World} (h1 : k ≠ 1) (h2 : k ≠ 2) (h3 : k ≠ 3) (h4 : k ≠ 4) (h5 : k ≠ 5) :
    Calls Try.prog 13 #[.pointer (some ⟨p, 0, none⟩), .agg (opV k i B n c A m d)] w fun e w' => e = .returned (.tuple #[.slice none 0 0, .int .i64 0]) ∧ w' = (w.alloc (.cells (opV k i B n c A m d) 37)) := by
  have e1 : (k == 1) = false := by simpa using h1
  have e2 : (k == 2) = false := by simpa using h2
  have e3 : (k == 3) = false := by simpa using h3
  have e4 : (k == 4) = false := by simpa using h4
  have e5 : (k == 5) = false := by simpa using h5
  clear h1 h2 h3 h4 h5
  go_enter Try.func13, Try.ntmps13
  go_wp2
  go_ret2
  exact ⟨rfl, rfl⟩
/-- what a call answers on the code's device -/
def DoAns (n0 b : Nat) (s : SS) (o : Oq) (w : World) (e : Ending) (w' : World) : Prop :=
  ∃ X q c, e = .returned (.tuple #[.slice X q c, .int .i64 (s.step o).1]) ∧ q = (s.step o).2.1.length ∧ Fresh w w' X (s.step o).2.1 ∧ Lf n0 b (s.step o).2.2 w w'
theorem dDo_any {n0 b : Nat} {s : SS} {w : World} (h : Dy n0 w b s) (hn : n0 ≤ w.heap.size) (o : Oq) (B A : Option Addr) (c d : Nat) (hi : -9223372036854775808 ≤ o.i ∧ o.i ≤ 9223372036854775807) (hr : Rp w none B o.b) (hB : 0 < o.b.length → ∀ a, B = some a → a.block < n0) (hX : o.b.length ≤ 300)
    (hl : Ip w A o.l) (hA : 0 < o.l.length → ∀ a, A = some a → a.block < n0) (hll : o.l.length ≤ 200) (hQ : s.Q.length < 1000000) :
    Calls Try.prog 13 #[.pointer (some ⟨b, 0, none⟩), .agg (opV o.k o.i B o.b.length c A o.l.length d)] w (DoAns n0 b s o w) := by
  obtain ⟨k, i, bb, l⟩ := o
  simp only at hi hr hB hX hl hA hll ⊢
  have hb1 : ∀ k, Below w.heap.size w (w.alloc (.cells (opV k i B bb.length c A l.length d) 37)) := fun k => (Below.refl _ _).alloc (Nat.le_refl _) _
  have hs1 : ∀ k, n0 ≤ (w.alloc (.cells (opV k i B bb.length c A l.length d) 37)).heap.size := fun k => Nat.le_trans hn (by simp)
  have fin : ∀ k s' w', Lf n0 b s' (w.alloc (.cells (opV k i B bb.length c A l.length d) 37)) w' → Lf n0 b s' w w' := fun k s' w' hb => hb.first (hb1 k) hn
  unfold DoAns SS.step
  by_cases h1 : k = 1
  · subst h1
    simp only [if_true]
    exact (do_1 (dw_any (h.below (hb1 1)) (hs1 1) i B c bb (hr.belowN (hb1 1)) hB hX hQ)).mono fun e w' ⟨he, k1⟩ => ⟨none, 0, 0, he, rfl, Fresh.nil _ _ _, fin _ _ _ k1⟩
  · rw [if_neg h1]
    by_cases h2 : k = 2
    · subst h2
      simp only [if_true]
      exact (do_2 (df_any (h.below (hb1 2)) (hs1 2))).mono fun e w' ⟨he, k1⟩ => ⟨none, 0, 0, he, rfl, Fresh.nil _ _ _, fin _ _ _ k1⟩
    · rw [if_neg h2]
      by_cases h3 : k = 3
      · subst h3
        simp only [if_true]
        exact (do_3 (ds_any (h.below (hb1 3)) (hs1 3) i hi)).mono fun e w' ⟨he, k1⟩ => ⟨none, 0, 0, he, rfl, Fresh.nil _ _ _, fin _ _ _ k1⟩
      · rw [if_neg h3]
        by_cases h4 : k = 4
        · subst h4
          simp only [if_true]
          exact (do_4 (dx_any (h.below (hb1 4)) (hs1 4) A d l (hl.below (hb1 4)) hA (by omega) hQ)).mono fun e w' ⟨he, k1⟩ => ⟨none, 0, 0, he, rfl, Fresh.nil _ _ _, fin _ _ _ k1⟩
        · rw [if_neg h4]
          by_cases h5 : k = 5
          · subst h5
            simp only [if_true]
            exact (do_5 (dr_any (h.below (hb1 5)) i)).mono fun e w' ⟨X, q, c', he, k1, k2, k3⟩ => ⟨X, q, c', he, k1, k2.more (by simp), fin _ _ _ ⟨(h.below (hb1 5)).below k3, Kt.below k3, k3.mono (hs1 5)⟩⟩
          · rw [if_neg h5]
            exact (do_else h1 h2 h3 h4 h5).mono fun e w' ⟨he, hw⟩ => by subst hw; exact ⟨none, 0, 0, he, rfl, Fresh.nil _ _ _, h.below (hb1 k), Kt.below (hb1 k), (hb1 k).mono hn⟩
end Go.Proofs.Ythdnpakppjipfaa
