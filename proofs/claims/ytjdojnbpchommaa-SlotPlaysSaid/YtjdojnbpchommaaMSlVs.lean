/-
  What is proved here: what the document's Save answers, and what it makes of the document's device.
-/
import Derived.Test.YtjdojnbpchommaaMSlV
set_option linter.unusedSimpArgs false
set_option linter.unusedVariables false
namespace Go.Proofs.Ytjdojnbpchommaa
open Go.ChangeShapes Go.WideShapes Go.ChangeAt Go.RowKit
set_option linter.unusedVariables false
set_option linter.unusedSimpArgs false
set_option maxRecDepth 20000

theorem Lv.trans {n0 b : Nat} {s s' : SS} {w w1 w' : World} (h : Lv n0 b s w w1) (k : Lv n0 b s' w1 w') : Lv n0 b s' w w' := ⟨k.1, h.2.1.trans k.2.1, h.2.2.trans k.2.2⟩
theorem Lv.first' {n0 b : Nat} {s : SS} {w w1 w' : World} (hb : Below w.heap.size w w1) (hn : n0 ≤ w.heap.size) (h : Lv n0 b s w1 w') : Lv n0 b s w w' := ⟨h.1, (Vt.below hb).trans h.2.1, (hb.mono hn).trans h.2.2⟩
/-- what the document's Save answers -/
def VsAns (n0 b : Nat) (y : Int × Int × SS) (w : World) (e : Ending) (w' : World) : Prop := e = .returned (.tuple #[.int .u64 y.2.1, .int .i64 y.1]) ∧ Lv n0 b y.2.2 w w'
set_option maxHeartbeats 8000000 in
theorem qSave_any {n0 : Nat} {w : World} {b : Nat} {s : SS} (h : VAt n0 w b s) (hn : n0 ≤ w.heap.size) (hbs : s.bs) (t : Int) (ht : -1000 ≤ t ∧ t ≤ 1000) (A : Option Addr) (c : Nat) (v : List Int) (hr : Rp w none A v) (hv : v.length ≤ 1000) (hQ : s.Q.length < 900) :
    Calls Try.prog 13 #[.pointer (some ⟨b, 0, none⟩), .int .i64 t, .slice A v.length c] w (VsAns n0 b (s.sv t v) w) := by
  have hok : PgOk s.L ∧ QOk s.L.length s.Q := by
    obtain ⟨A, c, A', c', rows, qr, h1, h2, h3, h4, h5, h6, h7, h8, h9, h10⟩ := h
    exact ⟨h8, h9⟩
  have CL := hid (qLoad_any h hbs (by omega) t ht)
  obtain ⟨t0, t1⟩ := ht
  unfold VsAns
  have HD := hid h; have HNN := hid hn; have HR := hid hr; have HQ := hid hQ
  obtain ⟨m, hm⟩ : ∃ m, m = v.length := ⟨_, rfl⟩
  rw [← hm]
  by_cases h110 : 110 < m
  · rw [sv_long (by omega)]
    have g0 : decide (110 < (m : Int)) = true := decide_eq_true (by omega)
    have gi : 110 < (m : Int) := by omega
    simp only
    clear hm hv hok hr hbs hn h hQ CL
    go_enter Try.func13, Try.ntmps13
    go_wp2
    go_ret2
    exact ⟨rfl, Lv.refl HD.out⟩
  · have g0 : decide (110 < (m : Int)) = false := decide_eq_false (by omega)
    have gi : ¬ 110 < (m : Int) := by omega
    have hvl : v.length ≤ 110 := by omega
    have hld := ld_bound (t := t) hbs hok.1 hok.2
    obtain ⟨er, x, u, hy⟩ : ∃ er x u, s.ld t = (er, x, u) := ⟨_, _, _, rfl⟩
    rw [hy] at CL hld
    unfold LqAns at CL
    simp only at CL hld
    by_cases he : er ≠ 0
    · rw [sv_ld hvl (by rw [hy]; exact he), hy]
      have g1 : (er != 0) = true := by simpa using he
      simp only
      clear hm hv hok hr hbs hn h hQ hvl hld hy h110
      go_enter Try.func13, Try.ntmps13
      go_wp2_with (go_at_call 22; refine CL.out.mono ?_; rintro e w1 ⟨V, c1, rfl, hf, hb⟩; have HB := hid hb; clear hf hb)
      go_ret2
      exact ⟨rfl, Lv.first' HB.out HNN.out (Lv.refl (HD.out.below HB.out))⟩
    · have he0 : er = 0 := by omega
      subst he0
      have e1 : (s.ld t).1 = 0 := by rw [hy]
      have e2 : x = (s.ld t).2.1 := by rw [hy]
      by_cases hx : x = 18446744073709551615
      · rw [sv_full hvl e1 (by rw [← e2]; exact hx)]
        simp only
        subst hx
        clear hm hv hok hr hbs hn h hQ hvl hld hy h110 e1 e2 he
        go_enter Try.func13, Try.ntmps13
        go_wp2_with (go_at_call 22; refine CL.out.mono ?_; rintro e w1 ⟨V, c1, rfl, hf, hb⟩; have HB := hid hb; clear hf hb)
        go_ret2
        exact ⟨rfl, Lv.first' HB.out HNN.out (Lv.refl (HD.out.below HB.out))⟩
      · have gx : (x == 18446744073709551615) = false := by simpa using hx
        have hx1 : 0 ≤ x + 1 ∧ x + 1 < 18446744073709551616 := by omega
        have hwrap : IntKind.u64.wrap (x + 1) = x + 1 := u64_keep _ hx1.1 hx1.2
        obtain ⟨z, hz⟩ : ∃ z, z = x + 1 := ⟨_, rfl⟩
        have hz2 : z % 2 = 0 ∨ z % 2 = 1 := by omega
        obtain ⟨sd, hsd⟩ : ∃ sd, sd = z % 2 := ⟨_, rfl⟩
        have hzt : z.tmod 2 = sd := by rw [Int.tmod_eq_emod_of_nonneg (by omega)]; exact hsd.symm
        have hs0 : 0 ≤ sd := by omega
        have hs1 : sd ≤ 1 := by omega
        have hsw : IntKind.i64.wrap sd = sd := by
          have : sd = 0 ∨ sd = 1 := by omega
          rcases this with rfl | rfl <;> rfl
        have CPg : Hid (∀ w1, Below w.heap.size w w1 → Calls Try.prog 29 #[.int .u64 z, .slice A m c] w1 fun e w' => ∃ B d, e = .returned (.slice B 128 d) ∧ Fresh w1 w' B (pgl z v) ∧ Below w1.heap.size w1 w') := fun w1 hb => by
          rw [hm, hz]; exact qPage_any (x + 1) A c v w1 hx1 (hr.belowN hb) hvl
        obtain ⟨er2, s2, hw⟩ : ∃ er2 s2, s.wr (t + sd) (pgl z v) = (er2, s2) := ⟨_, _, rfl⟩
        have hpl : (pgl z v).length = 128 := pgl_len z v hvl
        have hwl := s.wr_len (t + sd) (pgl z v)
        rw [hw] at hwl
        simp only at hwl
        have CW : Hid (∀ w1 w2 B d, Below w.heap.size w w1 → Fresh w1 w2 B (pgl z v) → Below w1.heap.size w1 w2 → Calls Try.prog 15 #[.pointer (some ⟨b, 0, none⟩), .int .i64 (t + sd), .slice B 128 d] w2 fun e w' => e = .returned (.int .i64 er2) ∧ Lv n0 b s2 w w') := fun w1 w2 B d hb1 hf hb2 => by
          have hb : Below w.heap.size w w2 := hb1.trans (hb2.mono hb1.size)
          have := vw_src (h.below hb) (Nat.le_trans hn hb.size) (t + sd) B d (pgl z v) hf.rp0 (fun hx a ha => by
            obtain ⟨g, cur, e, _, hbk, _⟩ := hf hx
            rw [e] at ha
            injection ha with ha
            subst ha
            exact .inr ⟨cur, hbk⟩) (by omega) (by omega)
          rw [hw, hpl] at this
          exact this.mono fun e w' ⟨h1, h2⟩ => ⟨h1, h2.first' hb hn⟩
        rw [← hz] at hwrap
        have hxz : x + 1 = z := hz.symm
        have hwq : s.wr (t + (x + 1) % 2) (pgl (x + 1) v) = (er2, s2) := by rw [hxz, ← hsd]; exact hw
        by_cases hw0 : er2 ≠ 0
        · rw [sv_wr hvl e1 e2 hx (by rw [hwq]; exact hw0), hwq]
          have g2 : (er2 != 0) = true := by simpa using hw0
          have g2' : (er2 == 0) = false := by simpa using hw0
          simp only
          clear hm hv hok hr hbs hn h hQ hvl hld hy h110 e1 e2 he hx1 hz hz2 hsd hw hpl hwq hwl
          go_enter Try.func13, Try.ntmps13
          go_wp2_with (first
            | (go_at_call 22; refine CL.out.mono ?_; rintro e w1 ⟨V, c1, rfl, hf, hb⟩; have HB := hid hb; clear hf hb)
            | (go_at_call 29; refine (CPg.out _ HB.out).mono ?_; rintro e w2 ⟨B, d, rfl, hf, hb2⟩; have CW2 := hid (CW.out _ _ _ d HB.out hf hb2); clear hf hb2)
            | (go_at_call 15; refine CW2.out.mono ?_; rintro e w3 ⟨rfl, hlf⟩; have LF := hid hlf; clear hlf))
          go_ret2
          exact ⟨rfl, LF.out⟩
        · have hw0' : er2 = 0 := by omega
          subst hw0'
          obtain ⟨er3, s3, hfl⟩ : ∃ er3 s3, s2.fl = (er3, s3) := ⟨_, _, rfl⟩
          have hs2q : s2.Q.length < 1000 := by omega
          have CF : Hid (∀ w3, Lv n0 b s2 w w3 → Calls Try.prog 20 #[.pointer (some ⟨b, 0, none⟩)] w3 fun e w' => e = .returned (.int .i64 er3) ∧ Lv n0 b s3 w w') := fun w3 hl => by
            have := vf_any hl.1 (Nat.le_trans hn hl.2.1.sz) hs2q
            rw [hfl] at this
            exact this.mono fun e w' ⟨h1, h2⟩ => ⟨h1, hl.trans h2⟩
          by_cases hf0 : er3 ≠ 0
          · rw [sv_fl hvl e1 e2 hx (by rw [hwq]) (by rw [hwq]; simp only; rw [hfl]; exact hf0), hwq]
            simp only
            rw [hfl]
            have g2 : (er3 != 0) = true := by simpa using hf0
            simp only
            clear hm hv hok hr hbs hn h hQ hvl hld hy h110 e1 e2 he hx1 hz hz2 hsd hw hpl hwq hwl hfl hs2q
            go_enter Try.func13, Try.ntmps13
            go_wp2_with (first
              | (go_at_call 22; refine CL.out.mono ?_; rintro e w1 ⟨V, c1, rfl, hf, hb⟩; have HB := hid hb; clear hf hb)
              | (go_at_call 29; refine (CPg.out _ HB.out).mono ?_; rintro e w2 ⟨B, d, rfl, hf, hb2⟩; have CW2 := hid (CW.out _ _ _ d HB.out hf hb2); clear hf hb2)
              | (go_at_call 15; refine CW2.out.mono ?_; rintro e w3 ⟨rfl, hlf⟩; have CF2 := hid (CF.out _ hlf); clear hlf)
              | (go_at_call 20; refine CF2.out.mono ?_; rintro e w4 ⟨rfl, hlf⟩; have LF := hid hlf; clear hlf))
            go_ret2
            exact ⟨rfl, LF.out⟩
          · have hf0' : er3 = 0 := by omega
            subst hf0'
            rw [sv_ok hvl e1 e2 hx (by rw [hwq]) (by rw [hwq]; simp only; rw [hfl]), hwq]
            simp only
            rw [hfl, hxz]
            clear hm hv hok hr hbs hn h hQ hvl hld hy h110 e1 e2 he hx1 hz hz2 hsd hw hpl hwq hwl hfl hs2q
            go_enter Try.func13, Try.ntmps13
            go_wp2_with (first
              | (go_at_call 22; refine CL.out.mono ?_; rintro e w1 ⟨V, c1, rfl, hf, hb⟩; have HB := hid hb; clear hf hb)
              | (go_at_call 29; refine (CPg.out _ HB.out).mono ?_; rintro e w2 ⟨B, d, rfl, hf, hb2⟩; have CW2 := hid (CW.out _ _ _ d HB.out hf hb2); clear hf hb2)
              | (go_at_call 15; refine CW2.out.mono ?_; rintro e w3 ⟨rfl, hlf⟩; have CF2 := hid (CF.out _ hlf); clear hlf)
              | (go_at_call 20; refine CF2.out.mono ?_; rintro e w4 ⟨rfl, hlf⟩; have LF := hid hlf; clear hlf))
            go_ret2
            exact ⟨rfl, LF.out⟩
end Go.Proofs.Ytjdojnbpchommaa
