/-
  What is proved here: what Load and Save of the code answer, and what they make of a device.
-/
import Derived.Test.YthfkooancgkjaaaMSlT
set_option linter.unusedSimpArgs false
set_option linter.unusedVariables false
namespace Go.Proofs.Ythfkooancgkjaaa
open Go.ChangeShapes Go.WideShapes Go.ChangeAt Go.RowKit
set_option linter.unusedVariables false
set_option maxRecDepth 20000

/-- what Load answers -/
def LdAns (w : World) (y : Int × Int × List Int) (e : Ending) (w' : World) : Prop := ∃ V c, e = .returned (.tuple #[.int .u64 y.2.1, .slice V y.2.2.length c, .int .i64 y.1]) ∧ Fresh w w' V y.2.2 ∧ Below w.heap.size w w'
theorem ld_0 {s : SS} {at_ : Int} (h : (s.rd at_).1 ≠ 0) : s.ld at_ = ((s.rd at_).1, 0, []) := by unfold SS.ld; rw [if_pos h]
theorem ld_1 {s : SS} {at_ : Int} (h0 : (s.rd at_).1 = 0) (h : (s.rd (at_ + 1)).1 ≠ 0) : s.ld at_ = ((s.rd (at_ + 1)).1, 0, []) := by unfold SS.ld; rw [if_neg (by simpa using h0), if_pos h]
theorem ld_ok {s : SS} {at_ : Int} (h0 : (s.rd at_).1 = 0) (h : (s.rd (at_ + 1)).1 = 0) : s.ld at_ = (0, slv (s.rd at_).2 (s.rd (at_ + 1)).2) := by unfold SS.ld; rw [if_neg (by simpa using h0), if_neg (by simpa using h)]
set_option maxHeartbeats 2000000 in
theorem oLoad_any {n0 : Nat} {w : World} {b : Nat} {s : SS} (h : Dy n0 w b s) (hbs : s.bs) (t : Int) (ht : -1000 ≤ t ∧ t ≤ 1000) :
    Calls Try.prog 35 #[.pointer (some ⟨b, 0, none⟩), .int .i64 t] w (LdAns w (s.ld t)) := by
  have hnil : ∀ (w : World) (a : Addr), (binOp .eql 26 (.pointer (some a)) (.pointer none)).run Try.prog w = .ok (.bool false) w := fun w a => by simp [go_sem]
  obtain ⟨t0, t1⟩ := ht
  have hok := h.ok
  obtain ⟨r, hr⟩ : ∃ r, r = (s.rd t).1 := ⟨_, rfl⟩
  obtain ⟨xs, hxs⟩ : ∃ xs, xs = (s.rd t).2 := ⟨_, rfl⟩
  have hd := dr_any h t
  rw [← hr, ← hxs] at hd
  have CR := hid hd
  unfold LdAns
  by_cases hr0 : r ≠ 0
  · have hle := ld_0 (s := s) (at_ := t) (by rw [← hr]; exact hr0)
    rw [hle, ← hr]
    have g1 : (r != 0) = true := by simpa using hr0
    clear hd hr hxs hle hok
    go_enter Try.func35, Try.ntmps35
    go_wp2_with (go_at_call 51; refine CR.out.mono ?_; rintro e w1 ⟨X, q, c, rfl, hq, hf, hb⟩; have B1 := hid hb; clear hq hf hb)
    first | go_ret3 | go_ret2 | skip
    exact ⟨none, 0, rfl, Fresh.nil _ _ _, B1.out⟩
  · have hr0 : r = 0 := by omega
    have g1 : (r != 0) = false := by simpa using hr0
    have hx1 : xs.length = 128 := by rw [hxs]; exact SS.rd_len hok.1 hok.2.1 t (by rw [← hr]; exact hr0)
    have hx2 : Bs xs := by rw [hxs]; exact s.rd_bs hbs t
    obtain ⟨r2, hr2⟩ : ∃ r2, r2 = (s.rd (t + 1)).1 := ⟨_, rfl⟩
    obtain ⟨ys, hys⟩ : ∃ ys, ys = (s.rd (t + 1)).2 := ⟨_, rfl⟩
    have CR2 : Hid (∀ w1, Below w.heap.size w w1 → Calls Try.prog 51 #[.pointer (some ⟨b, 0, none⟩), .int .i64 (t + 1)] w1 (RdAns ys r2 w1)) := fun w1 hb => by
      have := dr_any (h.below hb) (t + 1)
      rw [← hr2, ← hys] at this
      exact this
    by_cases hr20 : r2 ≠ 0
    · have hle := ld_1 (s := s) (at_ := t) (by rw [← hr]; exact hr0) (by rw [← hr2]; exact hr20)
      rw [hle, ← hr2]
      have g2 : (r2 != 0) = true := by simpa using hr20
      clear hd hr hxs hle hok hr2 hys
      subst hr0
      go_enter Try.func35, Try.ntmps35
      go_wp2_with (first
        | (go_at_call 51; (with_reducible refine CR.out.mono ?_); rintro e w1 ⟨X, q, c, rfl, hq, hf, hb⟩; have B1 := hid hb; have C2 := hid (CR2.out w1 hb); clear hq hf hb)
        | (go_at_call 51; refine C2.out.mono ?_; rintro e w2 ⟨X2, q2, c2, rfl, hq2, hf2, hb2⟩; have B2 := hid (B1.out.trans (hb2.mono B1.out.size)); clear hq2 hf2 hb2))
      first | go_ret3 | go_ret2 | skip
      exact ⟨none, 0, rfl, Fresh.nil _ _ _, B2.out⟩
    · have hr20 : r2 = 0 := by omega
      have g2 : (r2 != 0) = false := by simpa using hr20
      have hy1 : ys.length = 128 := by rw [hys]; exact SS.rd_len hok.1 hok.2.1 _ (by rw [← hr2]; exact hr20)
      have hy2 : Bs ys := by rw [hys]; exact s.rd_bs hbs _
      have hle := ld_ok (s := s) (at_ := t) (by rw [← hr]; exact hr0) (by rw [← hr2]; exact hr20)
      rw [hle, ← hxs, ← hys]
      obtain ⟨x, U, hxU⟩ : ∃ x U, tk xs 0 = (x, U) := ⟨_, _, rfl⟩
      obtain ⟨y, V, hyV⟩ : ∃ y V, tk ys 1 = (y, V) := ⟨_, _, rfl⟩
      have hs : slv xs ys = if x < y then (y, V) else (x, U) := by unfold slv; rw [hxU, hyV]
      have CT1 : Hid (∀ w1 A c, Rp w1 none A xs → Calls Try.prog 52 #[.slice A 128 c, .int .i64 0] w1 (TkAns w1 (x, U))) := fun w1 A c hr => by
        have := otake_any A c xs 0 w1 hr hx1 hx2 (.inl rfl)
        rw [hxU] at this
        exact this
      have CT2 : Hid (∀ w1 A c, Rp w1 none A ys → Calls Try.prog 52 #[.slice A 128 c, .int .i64 1] w1 (TkAns w1 (y, V))) := fun w1 A c hr => by
        have := otake_any A c ys 1 w1 hr hy1 hy2 (.inr rfl)
        rw [hyV] at this
        exact this
      have HX1 := hid hx1; have HY1 := hid hy1
      rw [hs]
      clear hd hr hxs hle hok hr2 hys hx1 hx2 hy1 hy2 hxU hyV hs
      subst hr0 hr20
      by_cases hxy : x < y
      · rw [if_pos hxy]
        have g3 : decide (x < y) = true := decide_eq_true hxy
        simp only
        go_enter Try.func35, Try.ntmps35
        go_wp2_with (first
          | (go_at_call 51; (with_reducible refine CR.out.mono ?_); rintro e w1 ⟨X, q, c, rfl, rfl, hf, hb⟩; rw [HX1.out]; have B1 := hid hb; have C2 := hid (CR2.out w1 hb); have R1 := hid hf.rp0; clear hf hb)
          | (go_at_call 51; refine C2.out.mono ?_; rintro e w2 ⟨X2, q2, c2, rfl, rfl, hf2, hb2⟩; rw [HY1.out]; have B2 := hid (B1.out.trans (hb2.mono B1.out.size)); have R2 := hid (R1.out.belowN hb2); have C3 := hid (CT1.out w2 X c R2.out); have R2' := hid hf2.rp0; clear hf2 hb2)
          | (go_at_call 52; (with_reducible refine C3.out.mono ?_); rintro e w3 ⟨V1, c3, rfl, hf3, hb3⟩; have F3 := hid hf3; have B3 := hid (B2.out.trans (hb3.mono B2.out.size)); have C4 := hid (CT2.out w3 X2 c2 (R2'.out.belowN hb3)); clear hf3 hb3)
          | (go_at_call 52; refine C4.out.mono ?_; rintro e w4 ⟨V2, c4, rfl, hf4, hb4⟩; have F4 := hid (hf4.more B3.out.size); have F3' := hid ((F3.out.below hb4).more B2.out.size); have B4 := hid (B3.out.trans (hb4.mono B3.out.size)); clear hf4 hb4))
        first | go_ret3 | go_ret2 | skip
        exact ⟨V2, c4, rfl, F4.out, B4.out⟩
      · rw [if_neg hxy]
        have g3 : decide (x < y) = false := decide_eq_false hxy
        simp only
        go_enter Try.func35, Try.ntmps35
        go_wp2_with (first
          | (go_at_call 51; (with_reducible refine CR.out.mono ?_); rintro e w1 ⟨X, q, c, rfl, rfl, hf, hb⟩; rw [HX1.out]; have B1 := hid hb; have C2 := hid (CR2.out w1 hb); have R1 := hid hf.rp0; clear hf hb)
          | (go_at_call 51; refine C2.out.mono ?_; rintro e w2 ⟨X2, q2, c2, rfl, rfl, hf2, hb2⟩; rw [HY1.out]; have B2 := hid (B1.out.trans (hb2.mono B1.out.size)); have R2 := hid (R1.out.belowN hb2); have C3 := hid (CT1.out w2 X c R2.out); have R2' := hid hf2.rp0; clear hf2 hb2)
          | (go_at_call 52; (with_reducible refine C3.out.mono ?_); rintro e w3 ⟨V1, c3, rfl, hf3, hb3⟩; have F3 := hid hf3; have B3 := hid (B2.out.trans (hb3.mono B2.out.size)); have C4 := hid (CT2.out w3 X2 c2 (R2'.out.belowN hb3)); clear hf3 hb3)
          | (go_at_call 52; refine C4.out.mono ?_; rintro e w4 ⟨V2, c4, rfl, hf4, hb4⟩; have F4 := hid (hf4.more B3.out.size); have F3' := hid ((F3.out.below hb4).more B2.out.size); have B4 := hid (B3.out.trans (hb4.mono B3.out.size)); clear hf4 hb4))
        first | go_ret3 | go_ret2 | skip
        exact ⟨V1, c3, rfl, F3'.out, B4.out⟩
end Go.Proofs.Ythfkooancgkjaaa
