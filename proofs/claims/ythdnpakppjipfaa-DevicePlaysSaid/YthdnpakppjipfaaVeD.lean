/-
  What is proved here: a call on the document's device.
-/
import Derived.Test.YthdnpakppjipfaaVeX
import Derived.Test.YthdnpakppjipfaaVeN
namespace Go.Proofs.Ythdnpakppjipfaa
open Go.ChangeShapes Go.WideShapes Go.ChangeAt Go.RowKit
set_option linter.unusedVariables false
set_option linter.unusedSimpArgs false
set_option maxRecDepth 20000

theorem vo_1 {p : Nat} {i : Int} {B A : Option Addr} {n c m d : Nat} {w : World} {Post : World → Prop} {r : Int}
    (h : Calls Try.prog 24 #[.pointer (some ⟨p, 0, none⟩), .int .i64 i, .slice B n c] (w.alloc (.cells (opV 1 i B n c A m d) 37)) fun e w' => e = .returned (.int .i64 r) ∧ Post w') : Calls Try.prog 14 #[.pointer (some ⟨p, 0, none⟩), .agg (opV 1 i B n c A m d)] w fun e w' => e = .returned (.tuple #[.slice none 0 0, .int .i64 r]) ∧ Post w' := by
  have H := hid h
  clear h
  go_enter Try.func14, Try.ntmps14
  go_wp2_with (go_at_call 24; refine H.out.mono ?_; rintro e w1 ⟨rfl, hp⟩; have HP := hid hp; clear hp)
  go_ret2
  exact ⟨rfl, HP.out⟩
theorem vo_2 {p : Nat} {i : Int} {B A : Option Addr} {n c m d : Nat} {w : World} {Post : World → Prop} {r : Int}
    (h : Calls Try.prog 25 #[.pointer (some ⟨p, 0, none⟩)] (w.alloc (.cells (opV 2 i B n c A m d) 37)) fun e w' => e = .returned (.int .i64 r) ∧ Post w') : Calls Try.prog 14 #[.pointer (some ⟨p, 0, none⟩), .agg (opV 2 i B n c A m d)] w fun e w' => e = .returned (.tuple #[.slice none 0 0, .int .i64 r]) ∧ Post w' := by
  have H := hid h
  clear h
  go_enter Try.func14, Try.ntmps14
  go_wp2_with (go_at_call 25; refine H.out.mono ?_; rintro e w1 ⟨rfl, hp⟩; have HP := hid hp; clear hp)
  go_ret2
  exact ⟨rfl, HP.out⟩
theorem vo_4 {p : Nat} {i : Int} {B A : Option Addr} {n c m d : Nat} {w : World} {Post : World → Prop}
    (h : Calls Try.prog 26 #[.pointer (some ⟨p, 0, none⟩), .slice A m d] (w.alloc (.cells (opV 4 i B n c A m d) 37)) fun e w' => e = .returned (.tuple #[]) ∧ Post w') : Calls Try.prog 14 #[.pointer (some ⟨p, 0, none⟩), .agg (opV 4 i B n c A m d)] w fun e w' => e = .returned (.tuple #[.slice none 0 0, .int .i64 0]) ∧ Post w' := by
  have H := hid h
  clear h
  go_enter Try.func14, Try.ntmps14
  go_wp2_with (go_at_call 26; refine H.out.mono ?_; rintro e w1 ⟨rfl, hp⟩; have HP := hid hp; clear hp)
  go_ret2
  exact ⟨rfl, HP.out⟩
theorem maxm_run (v : Int) (w : World) : Sem.run Try.prog (Builtin.max_ #[3, 3] 3 #[.int .i64 v, .int .i64 (-1)]) w = .ok (.int .i64 (max v (-1))) w := by
  have e : max v (-1) = if v < -1 then -1 else v := by split <;> omega
  rw [e]
  simp [Builtin.max_, Builtin.max2, Sem.run_bind, Sem.run_pure, Result.andThen_ok]
theorem vo_3 {p : Nat} {i : Int} {B A : Option Addr} {n c m d : Nat} {w : World} {F : Int} (hc : (w.alloc (.cells (opV 3 i B n c A m d) 37)).cell? ⟨p, 2, none⟩ = some (.int .i64 F)) (hf : (w.alloc (.cells (opV 3 i B n c A m d) 37)).frozen? ⟨p, 2, none⟩ = false) (hp : p < w.heap.size) :
    Calls Try.prog 14 #[.pointer (some ⟨p, 0, none⟩), .agg (opV 3 i B n c A m d)] w fun e w' => e = .returned (.tuple #[.slice none 0 0, .int .i64 0]) ∧ w' = (w.alloc (.cells (opV 3 i B n c A m d) 37)).setCell ⟨p, 2, none⟩ (.int .i64 (max i (-1))) := by
  have hm := maxm_run i
  generalize max i (-1) = M at hm ⊢
  go_enter Try.func14, Try.ntmps14
  go_wp2
  go_ret2
  exact ⟨rfl, (World.setCell_alloc_past _ p 2 _ hp).symm⟩
theorem vo_5 {p : Nat} {i : Int} {B A : Option Addr} {n c m d : Nat} {w : World} {r : Int} {Post : Option Addr → Nat → Nat → World → Prop}
    (h : Calls Try.prog 19 #[.pointer (some ⟨p, 0, none⟩), .int .i64 i] (w.alloc (.cells (opV 5 i B n c A m d) 37)) fun e w' => ∃ X q s, e = .returned (.tuple #[.slice X q s, .int .i64 r]) ∧ Post X q s w') :
    Calls Try.prog 14 #[.pointer (some ⟨p, 0, none⟩), .agg (opV 5 i B n c A m d)] w fun e w' => ∃ X q s, e = .returned (.tuple #[.slice X q s, .int .i64 r]) ∧ Post X q s w' := by
  have H := hid h
  clear h
  go_enter Try.func14, Try.ntmps14
  go_wp2_with (go_at_call 19; refine H.out.mono ?_; rintro e w1 ⟨X, q, s, rfl, hp⟩; have HP := hid hp; clear hp)
  go_ret2
  exact ⟨X, q, s, rfl, HP.out⟩
theorem vo_else {p : Nat} {k i : Int} {B A : Option Addr} {n c m d : Nat} {w : World} (h1 : k ≠ 1) (h2 : k ≠ 2) (h3 : k ≠ 3) (h4 : k ≠ 4) (h5 : k ≠ 5) :
    Calls Try.prog 14 #[.pointer (some ⟨p, 0, none⟩), .agg (opV k i B n c A m d)] w fun e w' => e = .returned (.tuple #[.slice none 0 0, .int .i64 0]) ∧ w' = (w.alloc (.cells (opV k i B n c A m d) 37)) := by
  have e1 : (k == 1) = false := by simpa using h1
  have e2 : (k == 2) = false := by simpa using h2
  have e3 : (k == 3) = false := by simpa using h3
  have e4 : (k == 4) = false := by simpa using h4
  have e5 : (k == 5) = false := by simpa using h5
  clear h1 h2 h3 h4 h5
  go_enter Try.func14, Try.ntmps14
  go_wp2
  go_ret2
  exact ⟨rfl, rfl⟩
/-- what a call answers on the document's device -/
def VoA (n0 b : Nat) (r : Int) (xs : List Int) (s' : SS) (w : World) (e : Ending) (w' : World) : Prop :=
  ∃ X q c, e = .returned (.tuple #[.slice X q c, .int .i64 r]) ∧ q = xs.length ∧ Rp w' none X xs ∧ Lv n0 b s' w w'
theorem Lv.first {n0 b : Nat} {s : SS} {w w1 w' : World} (hb : Below w.heap.size w w1) (hn : n0 ≤ w.heap.size) (h : Lv n0 b s w1 w') : Lv n0 b s w w' := ⟨h.1, (Vt.below hb).trans h.2.1, (hb.mono hn).trans h.2.2⟩
theorem vDo_any {n0 b : Nat} {s : SS} {w : World} (h : VAt n0 w b s) (hn : n0 ≤ w.heap.size) (o : Oq) (B A : Option Addr) (c d : Nat) (hi : -9223372036854775808 ≤ o.i ∧ o.i ≤ 9223372036854775807) (hr : Rp w none B o.b) (hB : 0 < o.b.length → ∀ a, B = some a → a.block < n0) (hX : o.b.length ≤ 300)
    (hl : Ip w A o.l) (hA : 0 < o.l.length → ∀ a, A = some a → a.block < n0) (hll : o.l.length ≤ 200) (hbd : ∀ k : Nat, -9223372036854775808 ≤ o.l[k]?.getD 0 ∧ o.l[k]?.getD 0 ≤ 9223372036854775807) (hQ : s.Q.length < 1000) :
    Calls Try.prog 14 #[.pointer (some ⟨b, 0, none⟩), .agg (opV o.k o.i B o.b.length c A o.l.length d)] w (VoA n0 b (s.step o).1 (s.step o).2.1 (s.step o).2.2 w) := by
  obtain ⟨k, i, bb, l⟩ := o
  simp only at hi hr hB hX hl hA hll hbd ⊢
  have hb1 : ∀ k, Below w.heap.size w (w.alloc (.cells (opV k i B bb.length c A l.length d) 37)) := fun k => (Below.refl _ _).alloc (Nat.le_refl _) _
  have hs1 : ∀ k, n0 ≤ (w.alloc (.cells (opV k i B bb.length c A l.length d) 37)).heap.size := fun k => Nat.le_trans hn (by simp)
  have fin : ∀ k s' w', Lv n0 b s' (w.alloc (.cells (opV k i B bb.length c A l.length d) 37)) w' → Lv n0 b s' w w' := fun k s' w' hb => hb.first (hb1 k) hn
  unfold VoA SS.step
  by_cases h1 : k = 1
  · subst h1
    simp only [if_true]
    exact (vo_1 (vw_any (h.below (hb1 1)) (hs1 1) i B c bb (hr.belowN (hb1 1)) hB hX hQ)).mono fun e w' ⟨he, k1⟩ => ⟨none, 0, 0, he, rfl, Rp.nil _ _ _, fin _ _ _ k1⟩
  · rw [if_neg h1]
    by_cases h2 : k = 2
    · subst h2
      simp only [if_true]
      exact (vo_2 (vf_any (h.below (hb1 2)) (hs1 2) hQ)).mono fun e w' ⟨he, k1⟩ => ⟨none, 0, 0, he, rfl, Rp.nil _ _ _, fin _ _ _ k1⟩
    · rw [if_neg h2]
      by_cases h3 : k = 3
      · subst h3
        simp only [if_true]
        have h' := h.below (hb1 3)
        have hlt := h.lt
        obtain ⟨A3, c5, A4, c6, rows3, qr3, k1, k2, k3, k4, k5, k6, k7, k8, k9, k10⟩ := h'
        exact (vo_3 (k1.cell 2) (k1.frozen 2) hlt).mono fun e w' ⟨he, hw⟩ => by
          subst hw
          exact ⟨none, 0, 0, he, rfl, Rp.nil _ _ _, fin _ _ _ (Lv.cell (s := s) (s' := s.sf i) k1 rfl rfl rfl rfl k2 k3 k4 k5 k6 (by show -1 ≤ max i (-1) ∧ max i (-1) ≤ 9223372036854775807; omega) ⟨k8, k9, k10⟩ rfl)⟩
      · rw [if_neg h3]
        by_cases h4 : k = 4
        · subst h4
          simp only [if_true]
          exact (vo_4 (vx_any (h.below (hb1 4)) (hs1 4) A l.length d l rfl (hl.below (hb1 4)) hA hbd hll hQ)).mono fun e w' ⟨he, k1⟩ => ⟨none, 0, 0, he, rfl, Rp.nil _ _ _, fin _ _ _ k1⟩
        · rw [if_neg h4]
          by_cases h5 : k = 5
          · subst h5
            simp only [if_true]
            exact (vo_5 (vr_any (h.below (hb1 5)) hQ i)).mono fun e w' ⟨X, q, c', he, k1, k2, k3⟩ => by
              subst k3
              exact ⟨X, q, c', he, k1, k2, fin _ _ _ (Lv.refl (h.below (hb1 5)))⟩
          · rw [if_neg h5]
            exact (vo_else h1 h2 h3 h4 h5).mono fun e w' ⟨he, hw⟩ => by subst hw; exact ⟨none, 0, 0, he, rfl, Rp.nil _ _ _, fin _ _ _ (Lv.refl (h.below (hb1 k)))⟩
end Go.Proofs.Ythdnpakppjipfaa
