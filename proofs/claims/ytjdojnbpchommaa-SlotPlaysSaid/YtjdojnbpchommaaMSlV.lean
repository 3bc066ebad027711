/-
  What is proved here: what the document's Load and Save answer, and what they make of the document's device.
-/
import Derived.Test.YtjdojnbpchommaaMSlQ
import Derived.Test.YtjdojnbpchommaaMSlA
import Derived.Test.YtjdojnbpchommaaMVeX
import Derived.Test.YtjdojnbpchommaaMVeN
set_option linter.unusedSimpArgs false
set_option linter.unusedVariables false
namespace Go.Proofs.Ytjdojnbpchommaa
open Go.ChangeShapes Go.WideShapes Go.ChangeAt Go.RowKit
set_option linter.unusedVariables false
set_option linter.unusedSimpArgs false
set_option maxRecDepth 20000

/-- what the document's Load answers -/
def LqAns (w : World) (y : Int × Int × List Int) (e : Ending) (w' : World) : Prop := ∃ V c, e = .returned (.tuple #[.int .u64 y.2.1, .slice V y.2.2.length c, .int .i64 y.1]) ∧ Rp w' none V y.2.2 ∧ Below w.heap.size w w'
theorem rd_few {s : SS} (h1 : PgOk s.L) (h2 : QOk s.L.length s.Q) (i : Int) : (s.rd i).2.length ≤ 128 := by
  by_cases h : (s.rd i).1 = 0
  · exact Nat.le_of_eq (s.rd_len h1 h2 i h)
  · unfold SS.rd at h ⊢
    split
    · simp
    · rename_i h3
      rw [if_neg h3] at h
      split
      · simp
      · rename_i h4; rw [if_neg h4] at h; exact (h rfl).elim
theorem rg_slv (X Y : List Int) (h1 : 0 ≤ (rg X 0).1) (h2 : 0 ≤ (rg Y 1).1) : slv X Y = if (rg X 0).1 = 0 ∧ (rg Y 1).1 = 0 then (0, []) else if (rg Y 1).1 < (rg X 0).1 then rg X 0 else rg Y 1 := by
  have e1 := rg_1 X 0
  have e2 := rg_1 Y 1
  unfold slv
  by_cases hlt : (tk X 0).1 < (tk Y 1).1
  · rw [if_pos hlt, if_neg (by omega), if_neg (by omega), tk_rg, if_neg (by omega)]
  · rw [if_neg hlt]
    by_cases h0 : (rg X 0).1 = 0
    · rw [if_pos (by omega), tk_rg, if_pos h0]
    · have hne : (tk X 0).1 ≠ (tk Y 1).1 := fun e => by
        have p1 := tk_side X 0 (by omega)
        have p2 := tk_side Y 1 (by omega)
        omega
      rw [if_neg (by omega), if_pos (by omega), tk_rg, if_neg h0]
set_option maxHeartbeats 4000000 in
theorem qLoad_any {n0 : Nat} {w : World} {b : Nat} {s : SS} (h : VAt n0 w b s) (hbs : s.bs) (hQ : s.Q.length < 1000) (t : Int) (ht : -1000 ≤ t ∧ t ≤ 1000) :
    Calls Try.prog 22 #[.pointer (some ⟨b, 0, none⟩), .int .i64 t] w (LqAns w (s.ld t)) := by
  obtain ⟨t0, t1⟩ := ht
  have hok : PgOk s.L ∧ QOk s.L.length s.Q := by
    obtain ⟨A, c, A', c', rows, qr, h1, h2, h3, h4, h5, h6, h7, h8, h9, h10⟩ := h
    exact ⟨h8, h9⟩
  obtain ⟨r, hr⟩ : ∃ r, r = (s.rd t).1 := ⟨_, rfl⟩
  obtain ⟨xs, hxs⟩ : ∃ xs, xs = (s.rd t).2 := ⟨_, rfl⟩
  have hd := vr_cap h hQ t
  rw [← hr, ← hxs] at hd
  have CR := hid hd
  unfold LqAns
  by_cases hr0 : r ≠ 0
  · have hle := ld_0 (s := s) (at_ := t) (by rw [← hr]; exact hr0)
    rw [hle, ← hr]
    have g1 : (r != 0) = true := by simpa using hr0
    clear hd hr hxs hle hok
    go_enter Try.func22, Try.ntmps22
    go_wp2_with (go_at_call 36; refine CR.out.mono ?_; rintro e w1 ⟨X, q, c, rfl, hq, hf, hb, hc⟩; have B1 := hid hb; clear hq hf hb hc)
    obtain rfl := B1.out
    go_ret3
    exact ⟨none, 0, rfl, Rp.nil _ _ _, Below.refl _ _⟩
  · have hr0 : r = 0 := by omega
    have g1 : (r != 0) = false := by simpa using hr0
    have hx1 : xs.length = 128 := by rw [hxs]; exact SS.rd_len hok.1 hok.2 t (by rw [← hr]; exact hr0)
    have hx2 : Bs xs := by rw [hxs]; exact s.rd_bs hbs t
    obtain ⟨r2, hr2⟩ : ∃ r2, r2 = (s.rd (t + 1)).1 := ⟨_, rfl⟩
    obtain ⟨ys, hys⟩ : ∃ ys, ys = (s.rd (t + 1)).2 := ⟨_, rfl⟩
    have hd2 := vr_cap h hQ (t + 1)
    rw [← hr2, ← hys] at hd2
    have CR2 := hid hd2
    by_cases hr20 : r2 ≠ 0
    · have hle := ld_1 (s := s) (at_ := t) (by rw [← hr]; exact hr0) (by rw [← hr2]; exact hr20)
      rw [hle, ← hr2]
      have g2 : (r2 != 0) = true := by simpa using hr20
      clear hd hd2 hr hxs hle hok hr2 hys
      subst hr0
      go_enter Try.func22, Try.ntmps22
      go_wp2_with (first
        | (go_at_call 36; (with_reducible refine CR.out.mono ?_); rintro e w1 ⟨X, q, c, rfl, hq, hf, rfl, hc⟩; clear hq hf hc)
        | (go_at_call 36; refine CR2.out.mono ?_; rintro e w2 ⟨X2, q2, c2, rfl, hq2, hf2, rfl, hc2⟩; clear hq2 hf2 hc2))
      go_ret3
      exact ⟨none, 0, rfl, Rp.nil _ _ _, Below.refl _ _⟩
    · have hr20 : r2 = 0 := by omega
      have g2 : (r2 != 0) = false := by simpa using hr20
      have hy1 : ys.length = 128 := by rw [hys]; exact SS.rd_len hok.1 hok.2 _ (by rw [← hr2]; exact hr20)
      have hy2 : Bs ys := by rw [hys]; exact s.rd_bs hbs _
      have hle := ld_ok (s := s) (at_ := t) (by rw [← hr]; exact hr0) (by rw [← hr2]; exact hr20)
      have k1 := tk_bound xs 0 hx1 hx2
      have k2 := tk_bound ys 1 hy1 hy2
      rw [rg_1] at k1 k2
      rw [hle, ← hxs, ← hys, rg_slv xs ys k1.1 k2.1]
      have CT1 : Hid (∀ w1 A c, Rp w1 none A xs → 128 ≤ c → Calls Try.prog 26 #[.slice A 128 c, .int .i64 0] w1 (RgAns w1 (rg xs 0))) := fun w1 A c hr hc => qRight_any A c xs 0 w1 hr hx1 hx2 (.inl rfl) hc
      have CT2 : Hid (∀ w1 A c, Rp w1 none A ys → 128 ≤ c → Calls Try.prog 26 #[.slice A 128 c, .int .i64 1] w1 (RgAns w1 (rg ys 1))) := fun w1 A c hr hc => qRight_any A c ys 1 w1 hr hy1 hy2 (.inr rfl) hc
      have HX1 := hid hx1; have HY1 := hid hy1
      obtain ⟨x, U, hxU⟩ : ∃ x U, rg xs 0 = (x, U) := ⟨_, _, rfl⟩
      obtain ⟨y, V, hyV⟩ : ∃ y V, rg ys 1 = (y, V) := ⟨_, _, rfl⟩
      rw [hxU] at CT1 k1 ⊢
      rw [hyV] at CT2 k2 ⊢
      unfold RgAns at CT1 CT2
      simp only at CT1 CT2 k1 k2 ⊢
      obtain ⟨x0, x1⟩ := k1
      obtain ⟨y0, y1⟩ := k2
      clear hd hd2 hr hxs hle hok hr2 hys hx1 hx2 hy1 hy2 hxU hyV
      subst hr0 hr20
      by_cases c0 : x = 0 ∧ y = 0
      · rw [if_pos c0]
        obtain ⟨rfl, rfl⟩ := c0
        go_enter Try.func22, Try.ntmps22
        go_wp2_with (first
          | (go_at_call 36; (with_reducible refine CR.out.mono ?_); rintro e w1 ⟨X, q, c, rfl, rfl, hf, rfl, hc⟩; rw [HX1.out] at hc ⊢; have C1 := hid (CT1.out w X c hf hc); clear hf hc)
          | (go_at_call 36; refine CR2.out.mono ?_; rintro e w2 ⟨X2, q2, c2, rfl, rfl, hf2, rfl, hc2⟩; rw [HY1.out] at hc2 ⊢; have C2 : Hid (∀ w', Below w.heap.size w w' → _) := (fun w' hb => CT2.out w' X2 c2 (hf2.belowN hb) hc2); clear hf2 hc2)
          | (go_at_call 26; (with_reducible refine C1.out.mono ?_); rintro e w3 ⟨V1, d1, rfl, hr3, hb3⟩; have B1 := hid hb3; have R0 := hid hr3; have C4 := hid (C2.out w3 hb3); clear hr3 hb3)
          | (go_at_call 26; refine C4.out.mono ?_; rintro e w4 ⟨V2, d2, rfl, hr4, hb4⟩; have R1 := hid (R0.out.belowN hb4); have R2 := hid hr4; have B2 := hid (B1.out.trans (hb4.mono B1.out.size)); clear hr4 hb4))
        go_ret3
        exact ⟨none, 0, rfl, Rp.nil _ _ _, B2.out⟩
      · rw [if_neg c0]
        by_cases hxy : y < x
        · rw [if_pos hxy]
          have g3 : decide (y < x) = true := decide_eq_true hxy
          have g4 : (x == 0) = false := by simp; omega
          have g4' : ¬ x = 0 := by omega
          go_enter Try.func22, Try.ntmps22
          go_wp2_with (first
            | (go_at_call 36; (with_reducible refine CR.out.mono ?_); rintro e w1 ⟨X, q, c, rfl, rfl, hf, rfl, hc⟩; rw [HX1.out] at hc ⊢; have C1 := hid (CT1.out w X c hf hc); clear hf hc)
            | (go_at_call 36; refine CR2.out.mono ?_; rintro e w2 ⟨X2, q2, c2, rfl, rfl, hf2, rfl, hc2⟩; rw [HY1.out] at hc2 ⊢; have C2 : Hid (∀ w', Below w.heap.size w w' → _) := (fun w' hb => CT2.out w' X2 c2 (hf2.belowN hb) hc2); clear hf2 hc2)
            | (go_at_call 26; (with_reducible refine C1.out.mono ?_); rintro e w3 ⟨V1, d1, rfl, hr3, hb3⟩; have B1 := hid hb3; have R0 := hid hr3; have C4 := hid (C2.out w3 hb3); clear hr3 hb3)
            | (go_at_call 26; refine C4.out.mono ?_; rintro e w4 ⟨V2, d2, rfl, hr4, hb4⟩; have R1 := hid (R0.out.belowN hb4); have R2 := hid hr4; have B2 := hid (B1.out.trans (hb4.mono B1.out.size)); clear hr4 hb4))
          go_ret3
          exact ⟨V1, d1, rfl, R1.out, B2.out⟩
        · rw [if_neg hxy]
          have g3 : decide (y < x) = false := decide_eq_false hxy
          by_cases hx0 : x = 0
          · subst hx0
            have g4 : (y == 0) = false := by simp; omega
            have g4' : ¬ y = 0 := by omega
            go_enter Try.func22, Try.ntmps22
            go_wp2_with (first
              | (go_at_call 36; (with_reducible refine CR.out.mono ?_); rintro e w1 ⟨X, q, c, rfl, rfl, hf, rfl, hc⟩; rw [HX1.out] at hc ⊢; have C1 := hid (CT1.out w X c hf hc); clear hf hc)
              | (go_at_call 36; refine CR2.out.mono ?_; rintro e w2 ⟨X2, q2, c2, rfl, rfl, hf2, rfl, hc2⟩; rw [HY1.out] at hc2 ⊢; have C2 : Hid (∀ w', Below w.heap.size w w' → _) := (fun w' hb => CT2.out w' X2 c2 (hf2.belowN hb) hc2); clear hf2 hc2)
              | (go_at_call 26; (with_reducible refine C1.out.mono ?_); rintro e w3 ⟨V1, d1, rfl, hr3, hb3⟩; have B1 := hid hb3; have R0 := hid hr3; have C4 := hid (C2.out w3 hb3); clear hr3 hb3)
              | (go_at_call 26; refine C4.out.mono ?_; rintro e w4 ⟨V2, d2, rfl, hr4, hb4⟩; have R1 := hid (R0.out.belowN hb4); have R2 := hid hr4; have B2 := hid (B1.out.trans (hb4.mono B1.out.size)); clear hr4 hb4))
            go_ret3
            exact ⟨V2, d2, rfl, R2.out, B2.out⟩
          · have g4 : (x == 0) = false := by simp; omega
            have g4' : ¬ x = 0 := by omega
            go_enter Try.func22, Try.ntmps22
            go_wp2_with (first
              | (go_at_call 36; (with_reducible refine CR.out.mono ?_); rintro e w1 ⟨X, q, c, rfl, rfl, hf, rfl, hc⟩; rw [HX1.out] at hc ⊢; have C1 := hid (CT1.out w X c hf hc); clear hf hc)
              | (go_at_call 36; refine CR2.out.mono ?_; rintro e w2 ⟨X2, q2, c2, rfl, rfl, hf2, rfl, hc2⟩; rw [HY1.out] at hc2 ⊢; have C2 : Hid (∀ w', Below w.heap.size w w' → _) := (fun w' hb => CT2.out w' X2 c2 (hf2.belowN hb) hc2); clear hf2 hc2)
              | (go_at_call 26; (with_reducible refine C1.out.mono ?_); rintro e w3 ⟨V1, d1, rfl, hr3, hb3⟩; have B1 := hid hb3; have R0 := hid hr3; have C4 := hid (C2.out w3 hb3); clear hr3 hb3)
              | (go_at_call 26; refine C4.out.mono ?_; rintro e w4 ⟨V2, d2, rfl, hr4, hb4⟩; have R1 := hid (R0.out.belowN hb4); have R2 := hid hr4; have B2 := hid (B1.out.trans (hb4.mono B1.out.size)); clear hr4 hb4))
            go_ret3
            exact ⟨V2, d2, rfl, R2.out, B2.out⟩
end Go.Proofs.Ytjdojnbpchommaa
