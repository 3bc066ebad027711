/-
  What is proved here: what the code takes from a slot's page: its serial and value, if it is right where it stands.
-/
import Derived.Test.YthfkooancgkjaaaMSlP
import Derived.Test.YthfkooancgkjaaaMC1
set_option linter.unusedSimpArgs false
set_option linter.unusedVariables false
namespace Go.Proofs.Ythfkooancgkjaaa
open Go.ChangeShapes Go.WideShapes Go.ChangeAt Go.RowKit
set_option linter.unusedVariables false
set_option maxRecDepth 20000

theorem ru64_as {p : Option Addr} {st st1 : RS} {w : World} {a : Int} (h : RRep w p st) (e : st.num 8 18446744073709551615 = (a, st1)) :
    Calls Try.prog 69 #[.pointer p] w fun e w' => e = .returned (.int .u64 a) ∧ RRep w' p st1 ∧ OnlyS (Of p) w w' := by
  have := RU64_any p st w h; rw [e] at this; exact this
theorem rstr_as {p : Option Addr} {st st1 : RS} {w : World} {v : List Int} {n : Nat} (h : RRep w p st) (e : st.str 110 = (v, st1)) (hn : n = v.length) :
    Calls Try.prog 70 #[.pointer p, .int .i64 110] w fun e w' => ∃ A' c', e = .returned (.slice A' n c') ∧ n ≤ c' ∧ Fresh w w' A' v ∧ RRep w' p st1 ∧ OnlyS (Of p) w w' := by
  have := RString_any p st 110 w h; rw [e] at this; rw [hn]; exact this
theorem rpl_as {p : Option Addr} {st st1 : RS} {w : World} {v : List Int} {k : Nat} (h : RRep w p st) (e : st.plain (k : Int) = (v, st1)) :
    Calls Try.prog 71 #[.pointer p, .int .i64 (k : Int)] w fun e w' => ∃ A' n' c', e = .returned (.slice A' n' c') ∧ RRep w' p st1 ∧ OnlyS (Of p) w w' := by
  have := RPlain_any p st k w h; rw [e] at this
  exact this.mono fun e w' ⟨A', c', h1, _, _, h2, h3⟩ => ⟨A', _, c', h1, h2, h3⟩
theorem rdn_as {p : Option Addr} {st : RS} {w : World} {d : Bool} (h : RRep w p st) (e : st.done = d) :
    Calls Try.prog 39 #[.pointer p] w fun e w' => e = .returned (.bool d) ∧ w = w' := by
  have := Done_any p st w h; rw [e] at this; exact this
theorem num_ok (l : List Int) (n : Nat) (most : Int) (h1 : n ≤ l.length) (h2 : val (l.take n) ≤ most) : (RS.got false l).num n most = (val (l.take n), .got false (l.drop n)) := by
  unfold RS.num
  simp only
  rw [if_neg (by omega), if_neg (by omega)]
theorem num_fail (l : List Int) (n : Nat) (most : Int) : (RS.got true l).num n most = (0, .got true l) := rfl
/-- what the fields of a page are, one behind the other -/
theorem take_math (X : List Int) (i : Int) (hX : X.length = 128) (hb : Bs X) : ∃ a st1 v st2 pv st3 z st4 dn,
    (RS.got false X).num 8 18446744073709551615 = (a, st1) ∧ st1.str 110 = (v, st2) ∧ v.length ≤ 110 ∧ st2.plain ((110 - v.length : Nat) : Int) = (pv, st3) ∧ st3.num 8 18446744073709551615 = (z, st4) ∧ st4.done = dn ∧
    (0 ≤ a ∧ a < 18446744073709551616) ∧ (0 ≤ z ∧ z < 18446744073709551616) ∧ tk X i = if dn = false ∨ a = 0 ∨ a ≠ z ∨ a % 2 ≠ i then (0, []) else (a, v) := by
  have e8 : (256 : Int) ^ 8 = 18446744073709551616 := by decide
  have v1 := val_bound (X.take 8) (hb.take 8)
  rw [List.length_take, hX, show min 8 128 = 8 by decide, e8] at v1
  have v2 := val_bound ((X.drop 8).take 2) ((hb.drop 8).take 2)
  rw [List.length_take, List.length_drop, hX, show (256 : Int) ^ (min 2 (128 - 8)) = 65536 by decide] at v2
  have v3 := val_bound (X.drop 120) (hb.drop 120)
  rw [List.length_drop, hX, show 128 - 120 = 8 by decide, e8] at v3
  have h1 := num_ok X 8 18446744073709551615 (by omega) (by omega)
  have h2 := num_ok (X.drop 8) 2 65535 (by rw [List.length_drop]; omega) (by omega)
  rw [List.drop_drop] at h2
  obtain ⟨n, hn⟩ : ∃ n : Nat, val ((X.drop 8).take 2) = n := ⟨(val ((X.drop 8).take 2)).toNat, by omega⟩
  by_cases hle : n ≤ 110
  · have h3 : (RS.got false (X.drop 8)).str 110 = ((X.drop 10).take n, .got false (X.drop (10 + n))) := by
      have hp : (RS.got false (X.drop (8 + 2))).plain n = ((X.drop 10).take n, .got false (X.drop (10 + n))) := by
        unfold RS.plain
        simp only
        rw [if_neg (by rw [List.length_drop]; omega), Int.toNat_natCast, List.drop_drop]
      unfold RS.str
      simp only [h2, hn, hp]
      rw [if_neg]
      rintro (h | h)
      · simp [RS.fails] at h
      · omega
    have hl : ((X.drop 10).take n).length = n := by rw [List.length_take, List.length_drop]; omega
    have h4 : (RS.got false (X.drop (10 + n))).plain ((110 - n : Nat) : Int) = ((X.drop (10 + n)).take (110 - n), .got false (X.drop 120)) := by
      unfold RS.plain
      simp only
      rw [if_neg (by rw [List.length_drop]; omega), Int.toNat_natCast, List.drop_drop]
      congr 3
      omega
    have ht : (X.drop 120).take 8 = X.drop 120 := List.take_of_length_le (by rw [List.length_drop]; omega)
    have h5 := num_ok (X.drop 120) 8 18446744073709551615 (by rw [List.length_drop]; omega) (by rw [ht]; omega)
    rw [ht] at h5
    refine ⟨_, _, _, _, _, _, _, _, true, h1, h3, by rw [hl]; exact hle, by rw [hl]; exact h4, h5, ?_, v1, v3, ?_⟩
    · unfold RS.done
      simp [RS.fails, RS.left, List.length_drop, hX]
    · unfold tk
      rw [hn, Int.toNat_natCast]
      by_cases hc : val (X.take 8) = val (X.drop 120) ∧ val (X.take 8) ≠ 0 ∧ (n : Int) ≤ 110 ∧ val (X.take 8) % 2 = i
      · rw [if_pos hc, if_neg]
        rintro (h | h | h | h)
        · cases h
        · exact hc.2.1 h
        · exact h hc.1
        · exact h hc.2.2.2
      · rw [if_neg hc, if_pos]
        by_cases h0 : val (X.take 8) = 0
        · exact .inr (.inl h0)
        · by_cases h9 : val (X.take 8) = val (X.drop 120)
          · exact .inr (.inr (.inr (fun h => hc ⟨h9, h0, by omega, h⟩)))
          · exact .inr (.inr (.inl h9))
  · have h3 : (RS.got false (X.drop 8)).str 110 = ([], .got true (X.drop 8)) := by
      unfold RS.str
      simp only [h2, hn]
      rw [if_pos]
      right
      omega
    refine ⟨_, _, _, _, _, _, _, _, false, h1, h3, by simp, rfl, rfl, ?_, v1, by decide, ?_⟩
    · rfl
    · rw [if_pos (.inl rfl)]
      unfold tk
      rw [if_neg]
      rintro ⟨_, _, h, _⟩
      omega
/-- a serial and a value that is new -/
def TkAns (w : World) (y : Int × List Int) (e : Ending) (w' : World) : Prop := ∃ V c, e = .returned (.tuple #[.int .u64 y.1, .slice V y.2.length c]) ∧ Fresh w w' V y.2 ∧ Below w.heap.size w w'
set_option maxHeartbeats 2000000 in
theorem otake_any (A : Option Addr) (c : Nat) (X : List Int) (i : Int) (w : World) (hr : Rp w none A X) (hX : X.length = 128) (hb : Bs X) (hi : i = 0 ∨ i = 1) :
    Calls Try.prog 52 #[.slice A 128 c, .int .i64 i] w (TkAns w (tk X i)) := by
  obtain ⟨a, st1, v, st2, pv, st3, z, st4, dn, h1, h2, hv, h3, h4, h5, ha, hz, hres⟩ := take_math X i hX hb
  have hcn := New_any A c X w hr (by omega) hb
  rw [hX] at hcn
  have CN := hid hcn
  obtain ⟨m, hm⟩ : ∃ m, m = v.length := ⟨_, rfl⟩
  obtain ⟨k, hk⟩ : ∃ k, k = 110 - v.length := ⟨_, rfl⟩
  rw [← hk] at h3
  have hkm : (110 : Int) - (m : Int) = (k : Int) := by omega
  have hm110 : m ≤ 110 := by omega
  have CS := hid (fun w => oside_any a w ha)
  have H1 := hid h1; have H2 := hid h2; have H3 := hid h3; have H4 := hid h4; have H5 := hid h5; have HM := hid hm
  unfold TkAns
  rw [hres]
  clear h1 h2 h3 h4 h5 hm hk hres hr hX hb hcn hv hz
  obtain ⟨ha0, ha1⟩ := ha
  have ARM : True := trivial
  by_cases hc : dn = false ∨ a = 0 ∨ a ≠ z ∨ a % 2 ≠ i
  · rw [if_pos hc]
    simp only
    by_cases c1 : dn = false
    · subst c1
      clear hc
      go_enter Try.func52, Try.ntmps52
      go_wp2_with (first
        | (go_at_call 36; refine CN.out.mono ?_; rintro e w1 ⟨g, rfl, hg, hrep, hb1⟩; have HG := hid hg; have B1 := hid hb1; have GL := hid (hrep.lt ⟨_, rfl, rfl⟩); have C1 := hid (ru64_as hrep H1.out); clear hg hrep hb1)
        | (go_at_call 69; (with_reducible refine C1.out.mono ?_); rintro e w2 ⟨rfl, hrep, ho⟩; have B2 := hid (B1.out.trans (ho.below B1.out.size (of_lt HG.out))); have BL := hid (show OnlyS (Of (some ⟨g, 0, none⟩)) w1 w2 from ho); have C2 := hid (rstr_as hrep H2.out HM.out); clear hrep ho)
        | (go_at_call 70; refine C2.out.mono ?_; rintro e w3 ⟨V, cv, rfl, hcv, hf, hrep, ho⟩; have HF := hid hf; have B3 := hid (B2.out.trans (ho.below B2.out.size (of_lt HG.out))); have C3 := hid (rpl_as hrep H3.out); clear hrep ho hcv hf)
        | (go_at_call 71; refine C3.out.mono ?_; rintro e w4 ⟨V4, n4, c4, rfl, hrep, ho⟩; have F4 := hid (HF.out.keep ho (fun k hk1 hk2 hk3 => by have := HG.out; have := B2.out.size; obtain ⟨a, e1, e2⟩ := hk3; injection e1 with e1; subst e1; have h9 := GL.out; have h8 := BL.out.size; simp only at e2; omega)); have B4 := hid (B3.out.trans (ho.below B3.out.size (of_lt HG.out))); have C4 := hid (ru64_as hrep H4.out); clear hrep ho)
        | (go_at_call 69; refine C4.out.mono ?_; rintro e w5 ⟨rfl, hrep, ho⟩; have KF := hid ((F4.out.keep ho (fun k hk1 hk2 hk3 => by obtain ⟨a, e1, e2⟩ := hk3; injection e1 with e1; subst e1; have h9 := GL.out; have h8 := BL.out.size; simp only at e2; omega)).more B2.out.size); have B5 := hid (B4.out.trans (ho.below B4.out.size (of_lt HG.out))); have C5 := hid (rdn_as hrep H5.out); clear hrep ho)
        | (go_at_call 39; refine C5.out.mono ?_; rintro e wq ⟨rfl, rfl⟩)
        | (go_at_call 58; refine (CS.out _).mono ?_; rintro e wq ⟨rfl, rfl⟩))
      go_ret2
      exact ⟨none, 0, rfl, Fresh.nil _ _ _, B5.out⟩
    · have c1' : dn = true := by simpa using c1
      subst c1'
      by_cases c2 : a = 0
      · subst c2
        clear hc c1
        go_enter Try.func52, Try.ntmps52
        go_wp2_with (first
          | (go_at_call 36; refine CN.out.mono ?_; rintro e w1 ⟨g, rfl, hg, hrep, hb1⟩; have HG := hid hg; have B1 := hid hb1; have GL := hid (hrep.lt ⟨_, rfl, rfl⟩); have C1 := hid (ru64_as hrep H1.out); clear hg hrep hb1)
          | (go_at_call 69; (with_reducible refine C1.out.mono ?_); rintro e w2 ⟨rfl, hrep, ho⟩; have B2 := hid (B1.out.trans (ho.below B1.out.size (of_lt HG.out))); have BL := hid (show OnlyS (Of (some ⟨g, 0, none⟩)) w1 w2 from ho); have C2 := hid (rstr_as hrep H2.out HM.out); clear hrep ho)
          | (go_at_call 70; refine C2.out.mono ?_; rintro e w3 ⟨V, cv, rfl, hcv, hf, hrep, ho⟩; have HF := hid hf; have B3 := hid (B2.out.trans (ho.below B2.out.size (of_lt HG.out))); have C3 := hid (rpl_as hrep H3.out); clear hrep ho hcv hf)
          | (go_at_call 71; refine C3.out.mono ?_; rintro e w4 ⟨V4, n4, c4, rfl, hrep, ho⟩; have F4 := hid (HF.out.keep ho (fun k hk1 hk2 hk3 => by have := HG.out; have := B2.out.size; obtain ⟨a, e1, e2⟩ := hk3; injection e1 with e1; subst e1; have h9 := GL.out; have h8 := BL.out.size; simp only at e2; omega)); have B4 := hid (B3.out.trans (ho.below B3.out.size (of_lt HG.out))); have C4 := hid (ru64_as hrep H4.out); clear hrep ho)
          | (go_at_call 69; refine C4.out.mono ?_; rintro e w5 ⟨rfl, hrep, ho⟩; have KF := hid ((F4.out.keep ho (fun k hk1 hk2 hk3 => by obtain ⟨a, e1, e2⟩ := hk3; injection e1 with e1; subst e1; have h9 := GL.out; have h8 := BL.out.size; simp only at e2; omega)).more B2.out.size); have B5 := hid (B4.out.trans (ho.below B4.out.size (of_lt HG.out))); have C5 := hid (rdn_as hrep H5.out); clear hrep ho)
          | (go_at_call 39; refine C5.out.mono ?_; rintro e wq ⟨rfl, rfl⟩)
          | (go_at_call 58; refine (CS.out _).mono ?_; rintro e wq ⟨rfl, rfl⟩))
        go_ret2
        exact ⟨none, 0, rfl, Fresh.nil _ _ _, B5.out⟩

      · have g2 : (a == 0) = false := by simpa using c2
        by_cases c3 : a = z
        · subst c3
          have g3 : (a != a) = false := by simp
          have c4 : a % 2 ≠ i := by
            rcases hc with h | h | h | h
            · cases h
            · exact (c2 h).elim
            · exact (h rfl).elim
            · exact h
          have g4 : ((a % 2) != i) = true := by simpa using c4
          clear hc c1
          go_enter Try.func52, Try.ntmps52
          go_wp2_with (first
            | (go_at_call 36; refine CN.out.mono ?_; rintro e w1 ⟨g, rfl, hg, hrep, hb1⟩; have HG := hid hg; have B1 := hid hb1; have GL := hid (hrep.lt ⟨_, rfl, rfl⟩); have C1 := hid (ru64_as hrep H1.out); clear hg hrep hb1)
            | (go_at_call 69; (with_reducible refine C1.out.mono ?_); rintro e w2 ⟨rfl, hrep, ho⟩; have B2 := hid (B1.out.trans (ho.below B1.out.size (of_lt HG.out))); have BL := hid (show OnlyS (Of (some ⟨g, 0, none⟩)) w1 w2 from ho); have C2 := hid (rstr_as hrep H2.out HM.out); clear hrep ho)
            | (go_at_call 70; refine C2.out.mono ?_; rintro e w3 ⟨V, cv, rfl, hcv, hf, hrep, ho⟩; have HF := hid hf; have B3 := hid (B2.out.trans (ho.below B2.out.size (of_lt HG.out))); have C3 := hid (rpl_as hrep H3.out); clear hrep ho hcv hf)
            | (go_at_call 71; refine C3.out.mono ?_; rintro e w4 ⟨V4, n4, c4, rfl, hrep, ho⟩; have F4 := hid (HF.out.keep ho (fun k hk1 hk2 hk3 => by have := HG.out; have := B2.out.size; obtain ⟨a, e1, e2⟩ := hk3; injection e1 with e1; subst e1; have h9 := GL.out; have h8 := BL.out.size; simp only at e2; omega)); have B4 := hid (B3.out.trans (ho.below B3.out.size (of_lt HG.out))); have C4 := hid (ru64_as hrep H4.out); clear hrep ho)
            | (go_at_call 69; refine C4.out.mono ?_; rintro e w5 ⟨rfl, hrep, ho⟩; have KF := hid ((F4.out.keep ho (fun k hk1 hk2 hk3 => by obtain ⟨a, e1, e2⟩ := hk3; injection e1 with e1; subst e1; have h9 := GL.out; have h8 := BL.out.size; simp only at e2; omega)).more B2.out.size); have B5 := hid (B4.out.trans (ho.below B4.out.size (of_lt HG.out))); have C5 := hid (rdn_as hrep H5.out); clear hrep ho)
            | (go_at_call 39; refine C5.out.mono ?_; rintro e wq ⟨rfl, rfl⟩)
            | (go_at_call 58; refine (CS.out _).mono ?_; rintro e wq ⟨rfl, rfl⟩))
          go_ret2
          exact ⟨none, 0, rfl, Fresh.nil _ _ _, B5.out⟩

        · have g3 : (a != z) = true := by simpa using c3
          clear hc c1
          go_enter Try.func52, Try.ntmps52
          go_wp2_with (first
            | (go_at_call 36; refine CN.out.mono ?_; rintro e w1 ⟨g, rfl, hg, hrep, hb1⟩; have HG := hid hg; have B1 := hid hb1; have GL := hid (hrep.lt ⟨_, rfl, rfl⟩); have C1 := hid (ru64_as hrep H1.out); clear hg hrep hb1)
            | (go_at_call 69; (with_reducible refine C1.out.mono ?_); rintro e w2 ⟨rfl, hrep, ho⟩; have B2 := hid (B1.out.trans (ho.below B1.out.size (of_lt HG.out))); have BL := hid (show OnlyS (Of (some ⟨g, 0, none⟩)) w1 w2 from ho); have C2 := hid (rstr_as hrep H2.out HM.out); clear hrep ho)
            | (go_at_call 70; refine C2.out.mono ?_; rintro e w3 ⟨V, cv, rfl, hcv, hf, hrep, ho⟩; have HF := hid hf; have B3 := hid (B2.out.trans (ho.below B2.out.size (of_lt HG.out))); have C3 := hid (rpl_as hrep H3.out); clear hrep ho hcv hf)
            | (go_at_call 71; refine C3.out.mono ?_; rintro e w4 ⟨V4, n4, c4, rfl, hrep, ho⟩; have F4 := hid (HF.out.keep ho (fun k hk1 hk2 hk3 => by have := HG.out; have := B2.out.size; obtain ⟨a, e1, e2⟩ := hk3; injection e1 with e1; subst e1; have h9 := GL.out; have h8 := BL.out.size; simp only at e2; omega)); have B4 := hid (B3.out.trans (ho.below B3.out.size (of_lt HG.out))); have C4 := hid (ru64_as hrep H4.out); clear hrep ho)
            | (go_at_call 69; refine C4.out.mono ?_; rintro e w5 ⟨rfl, hrep, ho⟩; have KF := hid ((F4.out.keep ho (fun k hk1 hk2 hk3 => by obtain ⟨a, e1, e2⟩ := hk3; injection e1 with e1; subst e1; have h9 := GL.out; have h8 := BL.out.size; simp only at e2; omega)).more B2.out.size); have B5 := hid (B4.out.trans (ho.below B4.out.size (of_lt HG.out))); have C5 := hid (rdn_as hrep H5.out); clear hrep ho)
            | (go_at_call 39; refine C5.out.mono ?_; rintro e wq ⟨rfl, rfl⟩)
            | (go_at_call 58; refine (CS.out _).mono ?_; rintro e wq ⟨rfl, rfl⟩))
          go_ret2
          exact ⟨none, 0, rfl, Fresh.nil _ _ _, B5.out⟩

  · rw [if_neg hc]
    have c1 : dn = true := by
      cases dn with
      | true => rfl
      | false => exact (hc (.inl rfl)).elim
    have c2 : a ≠ 0 := fun h => hc (.inr (.inl h))
    have c3 : a = z := Decidable.byContradiction fun h => hc (.inr (.inr (.inl h)))
    have c4 : a % 2 = i := Decidable.byContradiction fun h => hc (.inr (.inr (.inr h)))
    subst c1 c3
    have g2 : (a == 0) = false := by simpa using c2
    have g3 : (a != a) = false := by simp
    have g4 : ((a % 2) != i) = false := by simpa using c4
    clear hc
    simp only
    rw [← HM.out]
    go_enter Try.func52, Try.ntmps52
    go_wp2_with (first
      | (go_at_call 36; refine CN.out.mono ?_; rintro e w1 ⟨g, rfl, hg, hrep, hb1⟩; have HG := hid hg; have B1 := hid hb1; have GL := hid (hrep.lt ⟨_, rfl, rfl⟩); have C1 := hid (ru64_as hrep H1.out); clear hg hrep hb1)
      | (go_at_call 69; (with_reducible refine C1.out.mono ?_); rintro e w2 ⟨rfl, hrep, ho⟩; have B2 := hid (B1.out.trans (ho.below B1.out.size (of_lt HG.out))); have BL := hid (show OnlyS (Of (some ⟨g, 0, none⟩)) w1 w2 from ho); have C2 := hid (rstr_as hrep H2.out HM.out); clear hrep ho)
      | (go_at_call 70; refine C2.out.mono ?_; rintro e w3 ⟨V, cv, rfl, hcv, hf, hrep, ho⟩; have HF := hid hf; have B3 := hid (B2.out.trans (ho.below B2.out.size (of_lt HG.out))); have C3 := hid (rpl_as hrep H3.out); clear hrep ho hcv hf)
      | (go_at_call 71; refine C3.out.mono ?_; rintro e w4 ⟨V4, n4, c4, rfl, hrep, ho⟩; have F4 := hid (HF.out.keep ho (fun k hk1 hk2 hk3 => by have := HG.out; have := B2.out.size; obtain ⟨a, e1, e2⟩ := hk3; injection e1 with e1; subst e1; have h9 := GL.out; have h8 := BL.out.size; simp only at e2; omega)); have B4 := hid (B3.out.trans (ho.below B3.out.size (of_lt HG.out))); have C4 := hid (ru64_as hrep H4.out); clear hrep ho)
      | (go_at_call 69; refine C4.out.mono ?_; rintro e w5 ⟨rfl, hrep, ho⟩; have KF := hid ((F4.out.keep ho (fun k hk1 hk2 hk3 => by obtain ⟨a, e1, e2⟩ := hk3; injection e1 with e1; subst e1; have h9 := GL.out; have h8 := BL.out.size; simp only at e2; omega)).more B2.out.size); have B5 := hid (B4.out.trans (ho.below B4.out.size (of_lt HG.out))); have C5 := hid (rdn_as hrep H5.out); clear hrep ho)
      | (go_at_call 39; refine C5.out.mono ?_; rintro e wq ⟨rfl, rfl⟩)
      | (go_at_call 58; refine (CS.out _).mono ?_; rintro e wq ⟨rfl, rfl⟩))
    go_ret2
    refine ⟨V, cv, rfl, ?_, B5.out⟩
    exact KF.out
end Go.Proofs.Ythfkooancgkjaaa
