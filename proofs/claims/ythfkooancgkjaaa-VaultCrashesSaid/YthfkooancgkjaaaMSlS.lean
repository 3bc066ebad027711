/-
  What is proved here: what Save of the code answers, and what it makes of a device.
-/
import Derived.Test.YthfkooancgkjaaaMSlL
set_option linter.unusedSimpArgs false
set_option linter.unusedVariables false
namespace Go.Proofs.Ythfkooancgkjaaa
open Go.ChangeShapes Go.WideShapes Go.ChangeAt Go.RowKit
set_option linter.unusedVariables false
set_option maxRecDepth 20000

theorem sv_long {s : SS} {t : Int} {v : List Int} (h : 110 < v.length) : s.sv t v = (3, 0, s) := by unfold SS.sv; rw [if_pos h]
theorem sv_ld {s : SS} {t : Int} {v : List Int} (h : v.length ≤ 110) (h1 : (s.ld t).1 ≠ 0) : s.sv t v = ((s.ld t).1, 0, s) := by unfold SS.sv; rw [if_neg (by omega), if_pos h1]
theorem sv_full {s : SS} {t : Int} {v : List Int} (h : v.length ≤ 110) (h1 : (s.ld t).1 = 0) (h2 : (s.ld t).2.1 = 18446744073709551615) : s.sv t v = (5, 0, s) := by unfold SS.sv; rw [if_neg (by omega), if_neg (by simpa using h1), if_pos h2]
theorem sv_wr {s : SS} {t x : Int} {v : List Int} (h : v.length ≤ 110) (h1 : (s.ld t).1 = 0) (hx : x = (s.ld t).2.1) (h2 : x ≠ 18446744073709551615) (h3 : (s.wr (t + (x + 1) % 2) (pgl (x + 1) v)).1 ≠ 0) :
    s.sv t v = ((s.wr (t + (x + 1) % 2) (pgl (x + 1) v)).1, 0, (s.wr (t + (x + 1) % 2) (pgl (x + 1) v)).2) := by subst hx; unfold SS.sv; rw [if_neg (by omega), if_neg (by simpa using h1), if_neg h2, if_pos h3]
theorem sv_fl {s : SS} {t x : Int} {v : List Int} (h : v.length ≤ 110) (h1 : (s.ld t).1 = 0) (hx : x = (s.ld t).2.1) (h2 : x ≠ 18446744073709551615) (h3 : (s.wr (t + (x + 1) % 2) (pgl (x + 1) v)).1 = 0) (h4 : (s.wr (t + (x + 1) % 2) (pgl (x + 1) v)).2.fl.1 ≠ 0) :
    s.sv t v = ((s.wr (t + (x + 1) % 2) (pgl (x + 1) v)).2.fl.1, 0, (s.wr (t + (x + 1) % 2) (pgl (x + 1) v)).2.fl.2) := by subst hx; unfold SS.sv; rw [if_neg (by omega), if_neg (by simpa using h1), if_neg h2, if_neg (by simpa using h3), if_pos h4]
theorem sv_ok {s : SS} {t x : Int} {v : List Int} (h : v.length ≤ 110) (h1 : (s.ld t).1 = 0) (hx : x = (s.ld t).2.1) (h2 : x ≠ 18446744073709551615) (h3 : (s.wr (t + (x + 1) % 2) (pgl (x + 1) v)).1 = 0) (h4 : (s.wr (t + (x + 1) % 2) (pgl (x + 1) v)).2.fl.1 = 0) :
    s.sv t v = (0, x + 1, (s.wr (t + (x + 1) % 2) (pgl (x + 1) v)).2.fl.2) := by subst hx; unfold SS.sv; rw [if_neg (by omega), if_neg (by simpa using h1), if_neg h2, if_neg (by simpa using h3), if_neg (by simpa using h4)]
theorem ld_bound {s : SS} {t : Int} (hbs : s.bs) (h1 : PgOk s.L) (h2 : QOk s.L.length s.Q) : 0 ≤ (s.ld t).2.1 ∧ (s.ld t).2.1 < 18446744073709551616 := by
  unfold SS.ld
  split
  · exact ⟨Int.le_refl _, (show (0 : Int) < 18446744073709551616 by decide)⟩
  · rename_i ha
    split
    · exact ⟨Int.le_refl _, (show (0 : Int) < 18446744073709551616 by decide)⟩
    · rename_i hb
      exact slv_bound (SS.rd_len h1 h2 _ (by simpa using ha)) (SS.rd_len h1 h2 _ (by simpa using hb)) (s.rd_bs hbs _) (s.rd_bs hbs _)
theorem Lf.trans {n0 b : Nat} {s s' : SS} {w w1 w' : World} (h : Lf n0 b s w w1) (k : Lf n0 b s' w1 w') : Lf n0 b s' w w' := ⟨k.1, h.2.1.trans k.2.1, h.2.2.trans k.2.2⟩
/-- what Save answers -/
def SvAns (n0 b : Nat) (y : Int × Int × SS) (w : World) (e : Ending) (w' : World) : Prop := e = .returned (.tuple #[.int .u64 y.2.1, .int .i64 y.1]) ∧ Lf n0 b y.2.2 w w'
set_option maxHeartbeats 4000000 in
theorem oSave_any {n0 : Nat} {w : World} {b : Nat} {s : SS} (h : Dy n0 w b s) (hn : n0 ≤ w.heap.size) (hbs : s.bs) (t : Int) (ht : -1000 ≤ t ∧ t ≤ 1000) (A : Option Addr) (c : Nat) (v : List Int) (hr : Rp w none A v) (hv : v.length ≤ 1000) (hQ : s.Q.length < 1000000) :
    Calls Try.prog 43 #[.pointer (some ⟨b, 0, none⟩), .int .i64 t, .slice A v.length c] w (SvAns n0 b (s.sv t v) w) := by
  have hnil : ∀ (w : World) (a : Addr), (binOp .eql 26 (.pointer (some a)) (.pointer none)).run Try.prog w = .ok (.bool false) w := fun w a => by simp [go_sem]
  have hok := h.ok
  have CL := hid (oLoad_any h hbs t ht)
  obtain ⟨t0, t1⟩ := ht
  unfold SvAns
  have HD := hid h; have HNN := hid hn; have HR := hid hr; have HQ := hid hQ
  obtain ⟨m, hm⟩ : ∃ m, m = v.length := ⟨_, rfl⟩
  rw [← hm]
  by_cases h110 : 110 < m
  · rw [sv_long (by omega)]
    have g0 : decide (110 < (m : Int)) = true := decide_eq_true (by omega)
    have gi : 110 < (m : Int) := by omega
    simp only
    clear hm hv hok hr hbs hn h hQ CL
    go_enter Try.func43, Try.ntmps43
    go_wp2
    go_ret2
    exact ⟨rfl, Lf.refl HD.out⟩
  · have g0 : decide (110 < (m : Int)) = false := decide_eq_false (by omega)
    have gi : ¬ 110 < (m : Int) := by omega
    have hvl : v.length ≤ 110 := by omega
    have hld := ld_bound (t := t) hbs hok.1 hok.2.1
    obtain ⟨er, x, u, hy⟩ : ∃ er x u, s.ld t = (er, x, u) := ⟨_, _, _, rfl⟩
    rw [hy] at CL hld
    unfold LdAns at CL
    simp only at CL hld
    by_cases he : er ≠ 0
    · rw [sv_ld hvl (by rw [hy]; exact he), hy]
      have g1 : (er != 0) = true := by simpa using he
      simp only
      clear hm hv hok hr hbs hn h hQ hvl hld hy h110
      go_enter Try.func43, Try.ntmps43
      go_wp2_with (go_at_call 35; refine CL.out.mono ?_; rintro e w1 ⟨V, c1, rfl, hf, hb⟩; have HB := hid hb; clear hf hb)
      go_ret2
      exact ⟨rfl, HD.out.below HB.out, Kt.below HB.out, HB.out.mono HNN.out⟩
    · have he0 : er = 0 := by omega
      subst he0
      have e1 : (s.ld t).1 = 0 := by rw [hy]
      have e2 : x = (s.ld t).2.1 := by rw [hy]
      by_cases hx : x = 18446744073709551615
      · rw [sv_full hvl e1 (by rw [← e2]; exact hx)]
        simp only
        subst hx
        clear hm hv hok hr hbs hn h hQ hvl hld hy h110 e1 e2 he
        go_enter Try.func43, Try.ntmps43
        go_wp2_with (go_at_call 35; refine CL.out.mono ?_; rintro e w1 ⟨V, c1, rfl, hf, hb⟩; have HB := hid hb; clear hf hb)
        go_ret2
        exact ⟨rfl, HD.out.below HB.out, Kt.below HB.out, HB.out.mono HNN.out⟩
      · have gx : (x == 18446744073709551615) = false := by simpa using hx
        have hx1 : 0 ≤ x + 1 ∧ x + 1 < 18446744073709551616 := by omega
        have CSd := hid (fun w => oside_any (x + 1) w hx1)
        have hwrap : IntKind.u64.wrap (x + 1) = x + 1 := u64_keep _ hx1.1 hx1.2
        obtain ⟨z, hz⟩ : ∃ z, z = x + 1 := ⟨_, rfl⟩
        have hz2 : z % 2 = 0 ∨ z % 2 = 1 := by omega
        obtain ⟨sd, hsd⟩ : ∃ sd, sd = z % 2 := ⟨_, rfl⟩
        have hs0 : 0 ≤ sd := by omega
        have hs1 : sd ≤ 1 := by omega
        have CPg : Hid (∀ w1, Below w.heap.size w w1 → Calls Try.prog 59 #[.int .u64 z, .slice A m c] w1 fun e w' => ∃ B, e = .returned (.slice B 128 128) ∧ NewB w1 (pgl z v) B w') := fun w1 hb => by
          rw [hm, hz]; exact opage_any (x + 1) A c v w1 hx1 (hr.belowN hb) hvl
        obtain ⟨er2, s2, hw⟩ : ∃ er2 s2, s.wr (t + sd) (pgl z v) = (er2, s2) := ⟨_, _, rfl⟩
        have hpl : (pgl z v).length = 128 := pgl_len z v hvl
        have CW : Hid (∀ w1 w2 B, Below w.heap.size w w1 → NewB w1 (pgl z v) B w2 → Calls Try.prog 45 #[.pointer (some ⟨b, 0, none⟩), .int .i64 (t + sd), .slice B 128 128] w2 fun e w' => e = .returned (.int .i64 er2) ∧ Lf n0 b s2 w w') := fun w1 w2 B hb1 hnb => by
          obtain ⟨g, rfl, hg, hblk, hb2⟩ := hnb
          have hb : Below w.heap.size w w2 := hb1.trans (hb2.mono hb1.size)
          have := dw_src (h.below hb) (Nat.le_trans hn hb.size) (t + sd) (some ⟨g, 0, none⟩) 128 (pgl z v) hblk.rp (fun _ a ha => by injection ha with ha; subst ha; exact .inr ⟨_, hblk⟩) (by omega) hQ
          rw [hw, hpl] at this
          exact this.mono fun e w' ⟨h1, h2⟩ => ⟨h1, h2.first hb hn⟩
        rw [← hz] at hwrap CSd
        have CSd' : Hid (∀ w, Calls Try.prog 58 #[.int .u64 z] w fun e w' => e = .returned (.int .i64 sd) ∧ w = w') := by
          show ∀ w, _
          rw [hsd]; exact CSd.out
        have hxz : x + 1 = z := hz.symm
        have hwq : s.wr (t + (x + 1) % 2) (pgl (x + 1) v) = (er2, s2) := by rw [hxz, ← hsd]; exact hw
        clear CSd
        by_cases hw0 : er2 ≠ 0
        · rw [sv_wr hvl e1 e2 hx (by rw [hwq]; exact hw0), hwq]
          have g2 : (er2 != 0) = true := by simpa using hw0
          simp only
          clear hm hv hok hr hbs hn h hQ hvl hld hy h110 e1 e2 he hx1 hz hz2 hsd hw hpl hwq
          go_enter Try.func43, Try.ntmps43
          go_wp2_with (first
            | (go_at_call 35; refine CL.out.mono ?_; rintro e w1 ⟨V, c1, rfl, hf, hb⟩; have HB := hid hb; clear hf hb)
            | (go_at_call 58; refine (CSd'.out _).mono ?_; rintro e wq ⟨rfl, rfl⟩)
            | (go_at_call 59; refine (CPg.out _ HB.out).mono ?_; rintro e w2 ⟨B, rfl, hnb⟩; have CW2 := hid (CW.out _ _ _ HB.out hnb); clear hnb)
            | (go_at_call 45; refine CW2.out.mono ?_; rintro e w3 ⟨rfl, hlf⟩; have LF := hid hlf; clear hlf))
          go_ret2
          exact ⟨rfl, LF.out⟩
        · have hw0' : er2 = 0 := by omega
          subst hw0'
          obtain ⟨er3, s3, hfl⟩ : ∃ er3 s3, s2.fl = (er3, s3) := ⟨_, _, rfl⟩
          have CF : Hid (∀ w3, Lf n0 b s2 w w3 → Calls Try.prog 49 #[.pointer (some ⟨b, 0, none⟩)] w3 fun e w' => e = .returned (.int .i64 er3) ∧ Lf n0 b s3 w w') := fun w3 hl => by
            have := df_any hl.1 (Nat.le_trans hn hl.2.1.sz)
            rw [hfl] at this
            exact this.mono fun e w' ⟨h1, h2⟩ => ⟨h1, hl.trans h2⟩
          by_cases hf0 : er3 ≠ 0
          · rw [sv_fl hvl e1 e2 hx (by rw [hwq]) (by rw [hwq]; simp only; rw [hfl]; exact hf0), hwq]
            simp only
            rw [hfl]
            have g2 : (er3 != 0) = true := by simpa using hf0
            simp only
            clear hm hv hok hr hbs hn h hQ hvl hld hy h110 e1 e2 he hx1 hz hz2 hsd hw hpl hwq hfl hw0
            go_enter Try.func43, Try.ntmps43
            go_wp2_with (first
              | (go_at_call 35; refine CL.out.mono ?_; rintro e w1 ⟨V, c1, rfl, hf, hb⟩; have HB := hid hb; clear hf hb)
              | (go_at_call 58; refine (CSd'.out _).mono ?_; rintro e wq ⟨rfl, rfl⟩)
              | (go_at_call 59; refine (CPg.out _ HB.out).mono ?_; rintro e w2 ⟨B, rfl, hnb⟩; have CW2 := hid (CW.out _ _ _ HB.out hnb); clear hnb)
              | (go_at_call 45; refine CW2.out.mono ?_; rintro e w3 ⟨rfl, hlf⟩; have CF2 := hid (CF.out _ hlf); clear hlf)
              | (go_at_call 49; refine CF2.out.mono ?_; rintro e w4 ⟨rfl, hlf⟩; have LF := hid hlf; clear hlf))
            go_ret2
            exact ⟨rfl, LF.out⟩
          · have hf0' : er3 = 0 := by omega
            subst hf0'
            rw [sv_ok hvl e1 e2 hx (by rw [hwq]) (by rw [hwq]; simp only; rw [hfl]), hwq]
            simp only
            rw [hfl, hxz]
            clear hm hv hok hr hbs hn h hQ hvl hld hy h110 e1 e2 he hx1 hz hz2 hsd hw hpl hwq hfl hw0 hf0
            go_enter Try.func43, Try.ntmps43
            go_wp2_with (first
              | (go_at_call 35; refine CL.out.mono ?_; rintro e w1 ⟨V, c1, rfl, hf, hb⟩; have HB := hid hb; clear hf hb)
              | (go_at_call 58; refine (CSd'.out _).mono ?_; rintro e wq ⟨rfl, rfl⟩)
              | (go_at_call 59; refine (CPg.out _ HB.out).mono ?_; rintro e w2 ⟨B, rfl, hnb⟩; have CW2 := hid (CW.out _ _ _ HB.out hnb); clear hnb)
              | (go_at_call 45; refine CW2.out.mono ?_; rintro e w3 ⟨rfl, hlf⟩; have CF2 := hid (CF.out _ hlf); clear hlf)
              | (go_at_call 49; refine CF2.out.mono ?_; rintro e w4 ⟨rfl, hlf⟩; have LF := hid hlf; clear hlf))
            go_ret2
            exact ⟨rfl, LF.out⟩
end Go.Proofs.Ythfkooancgkjaaa
