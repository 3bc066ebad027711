/-
  What is proved here: whatever stands on both pages, what is told is the right one's with the greater serial; and it goes on from there.
-/
import Derived.Test.YtjdojnbpchommaaMSlK
import Derived.Test.YtjdojnbpchommaaMSlR
set_option linter.unusedSimpArgs false
set_option linter.unusedVariables false
namespace Go.Proofs.Ytjdojnbpchommaa
open Go.ChangeShapes Go.WideShapes Go.ChangeAt Go.RowKit
set_option linter.unusedVariables false
set_option linter.unusedSimpArgs false
set_option maxRecDepth 20000

/-- Save with the power on -/
theorem sv_on {s : SS} {t : Nat} {n : Int} {v u : List Int} (hf : s.F = -1) (hd : s.D = false) (ht : t + 1 < s.L.length) (hl : s.ld t = (0, n, v)) (h0 : 0 ≤ n) (hn : n + 1 < 18446744073709551616) (hu : u.length ≤ 110) :
    s.sv t u = (0, n + 1, ⟨(pg s.L s.Q).set (t + sd n) (pgl (n + 1) u), [], -1, false⟩) := by
  have hsd : ((t : Int) + (n + 1) % 2) = ((t + sd n : Nat) : Int) := by unfold sd; omega
  have hsl : t + sd n < s.L.length := by unfold sd; omega
  have hw : s.wr ((t : Int) + (n + 1) % 2) (pgl (n + 1) u) = (0, ⟨s.L, s.Q ++ [(t + sd n, pgl (n + 1) u)], -1, false⟩) := by
    unfold SS.wr
    rw [if_neg (by rw [hd]; simp), hsd, if_neg (by omega), if_neg (by rw [pgl_len _ _ hu]; simp), if_neg (by rw [hf]; decide), hf, Int.toNat_natCast]
    rfl
  have hfl : (⟨s.L, s.Q ++ [(t + sd n, pgl (n + 1) u)], -1, false⟩ : SS).fl = (0, ⟨(pg s.L s.Q).set (t + sd n) (pgl (n + 1) u), [], -1, false⟩) := by
    unfold SS.fl
    rw [if_neg (by simp), if_neg (by simp), pg_snoc]
    rfl
  rw [sv_ok (x := n) hu (by rw [hl]) (by rw [hl]) (by omega) (by rw [hw]) (by rw [hw]; simp only; rw [hfl]), hw]
  simp only
  rw [hfl]
/-- the device with both pages written -/
def two (a b : List Int) : SS := ⟨List.replicate 2 zpg, [(0, a), (1, b)], -1, false⟩
theorem two_ld {a b : List Int} : (two a b).ld 0 = (0, slv a b) := by
  have h0 : (two a b).rd 0 = (0, a) := rfl
  have h1 : (two a b).rd (0 + 1) = (0, b) := rfl
  rw [ld_ok (by rw [h0]) (by rw [h1]), h0, h1]
theorem two_bs {a b : List Int} (ha : Bs a) (hb : Bs b) : (two a b).bs := ⟨fun p hp => by
  rw [List.eq_of_mem_replicate hp]
  intro y hy
  unfold zpg at hy
  rw [List.eq_of_mem_replicate hy]; decide, fun q hq => by
  unfold two at hq
  simp only [List.mem_cons, List.not_mem_nil, or_false] at hq
  rcases hq with rfl | rfl
  · exact ha
  · exact hb⟩
theorem any_math {a b : List Int} (ha : a.length = 128) (hb : b.length = 128) (ba : Bs a) (bb : Bs b) : ∃ s x t y n v, rg a 0 = (s, x) ∧ rg b 1 = (t, y) ∧ slv a b = (n, v) ∧ 0 ≤ s ∧ 0 ≤ t ∧ (0 ≤ n ∧ n < 18446744073709551616) ∧ x.length ≤ 110 ∧ y.length ≤ 110 ∧ v.length ≤ 110 ∧
    (s ≤ t → n = t ∧ (0 < t → v = y)) ∧ (¬ s ≤ t → n = s ∧ (0 < s → v = x)) := by
  have h1 := tk_bound a 0 ha ba
  have h2 := tk_bound b 1 hb bb
  have h3 := slv_bound ha hb ba bb
  have hx := rg_len a 0
  have hy := rg_len b 1
  have hv := slv_len a b
  have e1 := rg_1 a 0
  have e2 := rg_1 b 1
  refine ⟨(rg a 0).1, (rg a 0).2, (rg b 1).1, (rg b 1).2, (slv a b).1, (slv a b).2, rfl, rfl, rfl, by omega, by omega, h3, hx, hy, hv, fun h => ?_, fun h => ?_⟩
  · by_cases hlt : (tk a 0).1 < (tk b 1).1
    · unfold slv
      rw [if_pos hlt]
      refine ⟨e2, fun h0 => ?_⟩
      rw [tk_rg, if_neg (by omega)]
    · unfold slv
      rw [if_neg hlt]
      have heq : (tk a 0).1 = (tk b 1).1 := by omega
      have hz : (tk b 1).1 = 0 := Decidable.byContradiction fun hne => by
        have p1 := tk_side a 0 (by omega)
        have p2 := tk_side b 1 hne
        omega
      exact ⟨by omega, fun h0 => by omega⟩
  · unfold slv
    rw [if_neg (by omega)]
    refine ⟨e1, fun h0 => ?_⟩
    rw [tk_rg, if_neg (by omega)]
set_option maxHeartbeats 8000000 in
theorem sany_128 (A1 : Option Addr) (c1 : Nat) (a : List Int) (A2 : Option Addr) (c2 : Nat) (b : List Int) (A3 : Option Addr) (n3 c3 : Nat) (u : List Int) (w : World) (h1 : InB w A1 128 c1 a) (k1 : 128 ≤ c1) (h2 : InB w A2 128 c2 b) (k2 : 128 ≤ c2) (h3 : InB w A3 n3 c3 u) (h110 : n3 ≤ 110) :
    Calls Try.prog 6 #[.slice A1 128 c1, .slice A2 128 c2, .slice A3 n3 c3] w fun e w' => e = .returned (.bool true) ∧ Below w.heap.size w w' := by
  obtain ⟨la, _, ba, ra⟩ := h1
  obtain ⟨lb, _, bb, rb⟩ := h2
  obtain ⟨lu, _, bu, ru⟩ := h3
  obtain ⟨s, x, t, y, n, v, e1, e2, e3, hs, ht, hn, hx, hy, hv, m1, m2⟩ := any_math la lb ba bb
  obtain ⟨n0, hn0⟩ : ∃ n0, n0 = w.heap.size := ⟨_, rfl⟩
  have HN0 := hid hn0
  have LA := hid la; have LB := hid lb; have LU := hid lu; have RA := hid ra; have RB := hid rb; have RU := hid ru; have BA := hid ba; have BB := hid bb; have BU := hid bu
  have RLA := hid (rp_lt ra); have RLB := hid (rp_lt rb)
  have CW1 : Hid (∀ w' d, Dy n0 w' d ⟨List.replicate 2 zpg, [], -1, false⟩ → Below n0 w w' → Calls Try.prog 14 #[.pointer (some ⟨d, 0, none⟩), .int .i64 0, .slice A1 128 c1] w' fun e w2 => e = .returned (.int .i64 0) ∧ Lf n0 d ⟨List.replicate 2 zpg, [(0, a)], -1, false⟩ w' w2) := fun w' d hd hb => by
    have := dw_any hd (Nat.le_trans (Nat.le_of_eq hn0) hb.size) 0 A1 c1 a (ra.belowN (bel_of hb hn0)) (fun hx a' ha' => by rw [hn0]; exact rp_lt ra hx a' ha') (by omega) (by decide)
    rw [la] at this
    have e : (⟨List.replicate 2 zpg, [], -1, false⟩ : SS).wr 0 a = (0, ⟨List.replicate 2 zpg, [(0, a)], -1, false⟩) := by
      unfold SS.wr
      rw [if_neg (by simp), if_neg (by decide), if_neg (by simp [la]), if_neg (by decide)]; rfl
    rw [e] at this
    exact this
  have CW2 : Hid (∀ w' d, Dy n0 w' d ⟨List.replicate 2 zpg, [(0, a)], -1, false⟩ → Below n0 w w' → Calls Try.prog 14 #[.pointer (some ⟨d, 0, none⟩), .int .i64 1, .slice A2 128 c2] w' fun e w2 => e = .returned (.int .i64 0) ∧ Lf n0 d (two a b) w' w2) := fun w' d hd hb => by
    have := dw_any hd (Nat.le_trans (Nat.le_of_eq hn0) hb.size) 1 A2 c2 b (rb.belowN (bel_of hb hn0)) (fun hx a' ha' => by rw [hn0]; exact rp_lt rb hx a' ha') (by omega) (by simp)
    rw [lb] at this
    have e : (⟨List.replicate 2 zpg, [(0, a)], -1, false⟩ : SS).wr 1 b = (0, two a b) := by
      unfold SS.wr
      rw [if_neg (by simp), if_neg (by simp), if_neg (by simp [lb]), if_neg (by simp)]; rfl
    rw [e] at this
    exact this
  have CR1 : Hid (∀ w', Below n0 w w' → Calls Try.prog 26 #[.slice A1 128 c1, .int .i64 0] w' (RgAns w' (s, x))) := fun w' hb => by
    have := qRight_any A1 c1 a 0 w' (ra.belowN (bel_of hb hn0)) la ba (.inl rfl) k1
    rwa [e1] at this
  have CR2 : Hid (∀ w', Below n0 w w' → Calls Try.prog 26 #[.slice A2 128 c2, .int .i64 1] w' (RgAns w' (t, y))) := fun w' hb => by
    have := qRight_any A2 c2 b 1 w' (rb.belowN (bel_of hb hn0)) lb bb (.inr rfl) k2
    rwa [e2] at this
  have CL : Hid (∀ w' d, Dy n0 w' d (two a b) → Calls Try.prog 21 #[.pointer (some ⟨d, 0, none⟩), .int .i64 0] w' (LdAns w' (0, n, v))) := fun w' d hd => by
    have := oLoad_any hd (two_bs ba bb) 0 (by decide)
    rw [two_ld, e3] at this
    exact this
  obtain ⟨er, m, s9, hsv⟩ : ∃ er m s9, (two a b).sv 0 u = (er, m, s9) := ⟨_, _, _, rfl⟩
  have CS : Hid (∀ w' d, Dy n0 w' d (two a b) → Below n0 w w' → Calls Try.prog 12 #[.pointer (some ⟨d, 0, none⟩), .int .i64 0, .slice A3 n3 c3] w' fun e w2 => e = .returned (.tuple #[.int .u64 m, .int .i64 er]) ∧ Below n0 w' w2) := fun w' d hd hb => by
    have := oSave_any hd (Nat.le_trans (Nat.le_of_eq hn0) hb.size) (two_bs ba bb) 0 (by decide) A3 c3 u (ru.belowN (bel_of hb hn0)) (by omega) (show 2 < 1000000 by decide)
    rw [hsv, lu] at this
    exact this.mono fun e w2 ⟨q1, q2⟩ => ⟨q1, q2.2.2⟩
  have hfull : n = 18446744073709551615 → er = 5 ∧ m = 0 := fun h => by
    have := sv_full (s := two a b) (t := 0) (v := u) (by omega) (by rw [two_ld]) (by rw [two_ld, e3]; exact h)
    rw [hsv] at this
    exact ⟨congrArg Prod.fst this, congrArg (fun z => z.2.1) this⟩
  have hgood : n ≠ 18446744073709551615 → er = 0 ∧ m = n + 1 := fun h => by
    have := sv_on (s := two a b) (t := 0) (n := n) (v := v) (u := u) rfl rfl (show 0 + 1 < 2 by decide) (by rw [← e3]; exact two_ld) hn.1 (by omega) (by omega)
    have h8 : (two a b).sv 0 u = _ := this
    rw [hsv] at h8
    exact ⟨congrArg Prod.fst h8, congrArg (fun z => z.2.1) h8⟩
  obtain ⟨hn1, hn2⟩ := hn
  have lx := hid hx; have ly := hid hy; have lv := hid hv
  rw [← hn0]
  obtain ⟨nx, hnx⟩ : ∃ k, k = x.length := ⟨_, rfl⟩
  obtain ⟨ny, hny⟩ : ∃ k, k = y.length := ⟨_, rfl⟩
  obtain ⟨nv, hnv⟩ : ∃ k, k = v.length := ⟨_, rfl⟩
  have NX := hid hnx; have NY := hid hny; have NV := hid hnv
  unfold RgAns at CR1 CR2
  unfold LdAns at CL
  simp only at CR1 CR2 CL
  rw [← hnx] at CR1
  rw [← hny] at CR2
  rw [← hnv] at CL
  have hn110 : (n3 : Int) ≤ 110 := by omega
  have g110 : decide (110 < (n3 : Int)) = false := decide_eq_false (by omega)
  have g110' : ¬ 110 < (n3 : Int) := by omega
  by_cases hst : s ≤ t
  · obtain ⟨q1, q2⟩ := m1 hst
    subst q1
    have g1 : decide (s ≤ n) = true := decide_eq_true hst
    by_cases ht0 : 0 < n
    · obtain rfl := q2 ht0
      have gn : decide (0 < n) = true := decide_eq_true ht0
      obtain rfl : nv = ny := by rw [hnv, hny]
      by_cases hfu : n = 18446744073709551615
      · obtain ⟨rfl, rfl⟩ := hfull hfu
        subst hfu
        clear la lb lu ra rb ru ba bb bu e1 e2 e3 hsv hn0 hnx hny hnv hx hy hv h110 k1 k2 m1 m2 hfull hgood
        go_enter Try.func6, Try.ntmps6
        go_wp2_with (first
          | (go_at_call 8; refine (oawake_any _).mono ?_; rintro e w1 ⟨rfl, hb⟩; have B1 := hid (hb.mono (Nat.le_of_eq HN0.out)); have S1 : Hid (n0 ≤ w1.heap.size) := Nat.le_trans (Nat.le_of_eq HN0.out) hb.size; clear hb)
          | (go_at_call 10; refine (Dy.new 2 _ (by decide)).mono ?_; rintro e w2 ⟨db, rfl, hd, hb⟩; have HY2 := hid (hd.mono S1.out); have B2 := hid (B1.out.trans (hb.mono S1.out)); clear hb hd)
          | (go_at_call 14; (with_reducible refine (CW1.out _ _ HY2.out B2.out).mono ?_); rintro e w3 ⟨rfl, hlf⟩; have HY3 := hid hlf.1; have B3 := hid (B2.out.trans hlf.2.2); clear hlf)
          | (go_at_call 14; refine (CW2.out _ _ HY3.out B3.out).mono ?_; rintro e w4 ⟨rfl, hlf⟩; have HY4 := hid hlf.1; have B4 := hid (B3.out.trans hlf.2.2); have S4 : Hid (n0 ≤ w4.heap.size) := Nat.le_trans (Nat.le_of_eq HN0.out) B4.out.size; have C5 := hid (CR1.out w4 B4.out); clear hlf)
          | (go_at_call 26; (with_reducible refine C5.out.mono ?_); rintro e w5 ⟨X, cx, rfl, hr, hb⟩; have HY5 := hid (HY4.out.below hb); have B5 := hid (B4.out.trans (hb.mono S4.out)); have RX5 := hid hr; have S5 : Hid (n0 ≤ w5.heap.size) := Nat.le_trans S4.out hb.size; have C6 := hid (CR2.out w5 B5.out); clear hb hr)
          | (go_at_call 26; refine C6.out.mono ?_; rintro e w6 ⟨Y, cy, rfl, hr, hb⟩; have HY6 := hid (HY5.out.below hb); have B6 := hid (B5.out.trans (hb.mono S5.out)); have RX6 := hid (RX5.out.belowN hb); have RY6 := hid hr; have S6 : Hid (n0 ≤ w6.heap.size) := Nat.le_trans S5.out hb.size; clear hb hr)
          | (go_at_call 21; refine (CL.out _ _ HY6.out).mono ?_; rintro e w7 ⟨V, cv, rfl, hf, hb⟩; have HY7 := hid (HY6.out.below hb); have B7 := hid (B6.out.trans (hb.mono S6.out)); have RX7 := hid (RX6.out.belowN hb); have RY7 := hid (RY6.out.belowN hb); have RV7 := hid hf.rp0; have S7 : Hid (n0 ≤ w7.heap.size) := Nat.le_trans S6.out hb.size; clear hf hb)
          | (go_at_call 23; refine (same_as RV7.out RY7.out (by have := ly.out; omega) NY.out).mono ?_; rintro e w8 ⟨rfl, hb⟩; have HY8 := hid (HY7.out.below hb); have B8 := hid (B7.out.trans (hb.mono S7.out)); clear hb)
          | (go_at_call 12; refine (CS.out _ _ HY8.out B8.out).mono ?_; rintro e w9 ⟨rfl, hb⟩; have B9 := hid (B8.out.trans hb); clear hb))
        go_ret
        exact ⟨by simp, B9.out⟩
      · obtain ⟨rfl, rfl⟩ := hgood hfu
        have gf : (n == 18446744073709551615) = false := by simpa using hfu
        clear la lb lu ra rb ru ba bb bu e1 e2 e3 hsv hn0 hnx hny hnv hx hy hv h110 k1 k2 m1 m2 hfull hgood
        go_enter Try.func6, Try.ntmps6
        go_wp2_with (first
          | (go_at_call 8; refine (oawake_any _).mono ?_; rintro e w1 ⟨rfl, hb⟩; have B1 := hid (hb.mono (Nat.le_of_eq HN0.out)); have S1 : Hid (n0 ≤ w1.heap.size) := Nat.le_trans (Nat.le_of_eq HN0.out) hb.size; clear hb)
          | (go_at_call 10; refine (Dy.new 2 _ (by decide)).mono ?_; rintro e w2 ⟨db, rfl, hd, hb⟩; have HY2 := hid (hd.mono S1.out); have B2 := hid (B1.out.trans (hb.mono S1.out)); clear hb hd)
          | (go_at_call 14; (with_reducible refine (CW1.out _ _ HY2.out B2.out).mono ?_); rintro e w3 ⟨rfl, hlf⟩; have HY3 := hid hlf.1; have B3 := hid (B2.out.trans hlf.2.2); clear hlf)
          | (go_at_call 14; refine (CW2.out _ _ HY3.out B3.out).mono ?_; rintro e w4 ⟨rfl, hlf⟩; have HY4 := hid hlf.1; have B4 := hid (B3.out.trans hlf.2.2); have S4 : Hid (n0 ≤ w4.heap.size) := Nat.le_trans (Nat.le_of_eq HN0.out) B4.out.size; have C5 := hid (CR1.out w4 B4.out); clear hlf)
          | (go_at_call 26; (with_reducible refine C5.out.mono ?_); rintro e w5 ⟨X, cx, rfl, hr, hb⟩; have HY5 := hid (HY4.out.below hb); have B5 := hid (B4.out.trans (hb.mono S4.out)); have RX5 := hid hr; have S5 : Hid (n0 ≤ w5.heap.size) := Nat.le_trans S4.out hb.size; have C6 := hid (CR2.out w5 B5.out); clear hb hr)
          | (go_at_call 26; refine C6.out.mono ?_; rintro e w6 ⟨Y, cy, rfl, hr, hb⟩; have HY6 := hid (HY5.out.below hb); have B6 := hid (B5.out.trans (hb.mono S5.out)); have RX6 := hid (RX5.out.belowN hb); have RY6 := hid hr; have S6 : Hid (n0 ≤ w6.heap.size) := Nat.le_trans S5.out hb.size; clear hb hr)
          | (go_at_call 21; refine (CL.out _ _ HY6.out).mono ?_; rintro e w7 ⟨V, cv, rfl, hf, hb⟩; have HY7 := hid (HY6.out.below hb); have B7 := hid (B6.out.trans (hb.mono S6.out)); have RX7 := hid (RX6.out.belowN hb); have RY7 := hid (RY6.out.belowN hb); have RV7 := hid hf.rp0; have S7 : Hid (n0 ≤ w7.heap.size) := Nat.le_trans S6.out hb.size; clear hf hb)
          | (go_at_call 23; refine (same_as RV7.out RY7.out (by have := ly.out; omega) NY.out).mono ?_; rintro e w8 ⟨rfl, hb⟩; have HY8 := hid (HY7.out.below hb); have B8 := hid (B7.out.trans (hb.mono S7.out)); clear hb)
          | (go_at_call 12; refine (CS.out _ _ HY8.out B8.out).mono ?_; rintro e w9 ⟨rfl, hb⟩; have B9 := hid (B8.out.trans hb); clear hb))
        go_ret
        exact ⟨by simp, B9.out⟩
    · obtain rfl : n = 0 := by omega
      obtain ⟨rfl, rfl⟩ := hgood (by decide)
      clear la lb lu ra rb ru ba bb bu e1 e2 e3 hsv hn0 hnx hny hnv hx hy hv h110 k1 k2 m1 m2 hfull hgood
      go_enter Try.func6, Try.ntmps6
      go_wp2_with (first
        | (go_at_call 8; refine (oawake_any _).mono ?_; rintro e w1 ⟨rfl, hb⟩; have B1 := hid (hb.mono (Nat.le_of_eq HN0.out)); have S1 : Hid (n0 ≤ w1.heap.size) := Nat.le_trans (Nat.le_of_eq HN0.out) hb.size; clear hb)
        | (go_at_call 10; refine (Dy.new 2 _ (by decide)).mono ?_; rintro e w2 ⟨db, rfl, hd, hb⟩; have HY2 := hid (hd.mono S1.out); have B2 := hid (B1.out.trans (hb.mono S1.out)); clear hb hd)
        | (go_at_call 14; (with_reducible refine (CW1.out _ _ HY2.out B2.out).mono ?_); rintro e w3 ⟨rfl, hlf⟩; have HY3 := hid hlf.1; have B3 := hid (B2.out.trans hlf.2.2); clear hlf)
        | (go_at_call 14; refine (CW2.out _ _ HY3.out B3.out).mono ?_; rintro e w4 ⟨rfl, hlf⟩; have HY4 := hid hlf.1; have B4 := hid (B3.out.trans hlf.2.2); have S4 : Hid (n0 ≤ w4.heap.size) := Nat.le_trans (Nat.le_of_eq HN0.out) B4.out.size; have C5 := hid (CR1.out w4 B4.out); clear hlf)
        | (go_at_call 26; (with_reducible refine C5.out.mono ?_); rintro e w5 ⟨X, cx, rfl, hr, hb⟩; have HY5 := hid (HY4.out.below hb); have B5 := hid (B4.out.trans (hb.mono S4.out)); have RX5 := hid hr; have S5 : Hid (n0 ≤ w5.heap.size) := Nat.le_trans S4.out hb.size; have C6 := hid (CR2.out w5 B5.out); clear hb hr)
        | (go_at_call 26; refine C6.out.mono ?_; rintro e w6 ⟨Y, cy, rfl, hr, hb⟩; have HY6 := hid (HY5.out.below hb); have B6 := hid (B5.out.trans (hb.mono S5.out)); have RX6 := hid (RX5.out.belowN hb); have RY6 := hid hr; have S6 : Hid (n0 ≤ w6.heap.size) := Nat.le_trans S5.out hb.size; clear hb hr)
        | (go_at_call 21; refine (CL.out _ _ HY6.out).mono ?_; rintro e w7 ⟨V, cv, rfl, hf, hb⟩; have HY7 := hid (HY6.out.below hb); have B7 := hid (B6.out.trans (hb.mono S6.out)); have RX7 := hid (RX6.out.belowN hb); have RY7 := hid (RY6.out.belowN hb); have RV7 := hid hf.rp0; have S7 : Hid (n0 ≤ w7.heap.size) := Nat.le_trans S6.out hb.size; clear hf hb)
        | (go_at_call 12; refine (CS.out _ _ HY7.out B7.out).mono ?_; rintro e w9 ⟨rfl, hb⟩; have B9 := hid (B7.out.trans hb); clear hb))
      go_ret
      exact ⟨by simp, B9.out⟩
  · obtain ⟨q1, q2⟩ := m2 hst
    subst q1
    have g1 : decide (n ≤ t) = false := decide_eq_false hst
    have ht0 : 0 < n := by omega
    obtain rfl := q2 ht0
    have gn : decide (0 < n) = true := decide_eq_true ht0
    obtain rfl : nv = nx := by rw [hnv, hnx]
    by_cases hfu : n = 18446744073709551615
    · obtain ⟨rfl, rfl⟩ := hfull hfu
      subst hfu
      clear la lb lu ra rb ru ba bb bu e1 e2 e3 hsv hn0 hnx hny hnv hx hy hv h110 k1 k2 m1 m2 hfull hgood
      go_enter Try.func6, Try.ntmps6
      go_wp2_with (first
        | (go_at_call 8; refine (oawake_any _).mono ?_; rintro e w1 ⟨rfl, hb⟩; have B1 := hid (hb.mono (Nat.le_of_eq HN0.out)); have S1 : Hid (n0 ≤ w1.heap.size) := Nat.le_trans (Nat.le_of_eq HN0.out) hb.size; clear hb)
        | (go_at_call 10; refine (Dy.new 2 _ (by decide)).mono ?_; rintro e w2 ⟨db, rfl, hd, hb⟩; have HY2 := hid (hd.mono S1.out); have B2 := hid (B1.out.trans (hb.mono S1.out)); clear hb hd)
        | (go_at_call 14; (with_reducible refine (CW1.out _ _ HY2.out B2.out).mono ?_); rintro e w3 ⟨rfl, hlf⟩; have HY3 := hid hlf.1; have B3 := hid (B2.out.trans hlf.2.2); clear hlf)
        | (go_at_call 14; refine (CW2.out _ _ HY3.out B3.out).mono ?_; rintro e w4 ⟨rfl, hlf⟩; have HY4 := hid hlf.1; have B4 := hid (B3.out.trans hlf.2.2); have S4 : Hid (n0 ≤ w4.heap.size) := Nat.le_trans (Nat.le_of_eq HN0.out) B4.out.size; have C5 := hid (CR1.out w4 B4.out); clear hlf)
        | (go_at_call 26; (with_reducible refine C5.out.mono ?_); rintro e w5 ⟨X, cx, rfl, hr, hb⟩; have HY5 := hid (HY4.out.below hb); have B5 := hid (B4.out.trans (hb.mono S4.out)); have RX5 := hid hr; have S5 : Hid (n0 ≤ w5.heap.size) := Nat.le_trans S4.out hb.size; have C6 := hid (CR2.out w5 B5.out); clear hb hr)
        | (go_at_call 26; refine C6.out.mono ?_; rintro e w6 ⟨Y, cy, rfl, hr, hb⟩; have HY6 := hid (HY5.out.below hb); have B6 := hid (B5.out.trans (hb.mono S5.out)); have RX6 := hid (RX5.out.belowN hb); have RY6 := hid hr; have S6 : Hid (n0 ≤ w6.heap.size) := Nat.le_trans S5.out hb.size; clear hb hr)
        | (go_at_call 21; refine (CL.out _ _ HY6.out).mono ?_; rintro e w7 ⟨V, cv, rfl, hf, hb⟩; have HY7 := hid (HY6.out.below hb); have B7 := hid (B6.out.trans (hb.mono S6.out)); have RX7 := hid (RX6.out.belowN hb); have RY7 := hid (RY6.out.belowN hb); have RV7 := hid hf.rp0; have S7 : Hid (n0 ≤ w7.heap.size) := Nat.le_trans S6.out hb.size; clear hf hb)
        | (go_at_call 23; refine (same_as RV7.out RX7.out (by have := lx.out; omega) NX.out).mono ?_; rintro e w8 ⟨rfl, hb⟩; have HY8 := hid (HY7.out.below hb); have B8 := hid (B7.out.trans (hb.mono S7.out)); clear hb)
        | (go_at_call 12; refine (CS.out _ _ HY8.out B8.out).mono ?_; rintro e w9 ⟨rfl, hb⟩; have B9 := hid (B8.out.trans hb); clear hb))
      go_ret
      exact ⟨by simp, B9.out⟩
    · obtain ⟨rfl, rfl⟩ := hgood hfu
      have gf : (n == 18446744073709551615) = false := by simpa using hfu
      clear la lb lu ra rb ru ba bb bu e1 e2 e3 hsv hn0 hnx hny hnv hx hy hv h110 k1 k2 m1 m2 hfull hgood
      go_enter Try.func6, Try.ntmps6
      go_wp2_with (first
        | (go_at_call 8; refine (oawake_any _).mono ?_; rintro e w1 ⟨rfl, hb⟩; have B1 := hid (hb.mono (Nat.le_of_eq HN0.out)); have S1 : Hid (n0 ≤ w1.heap.size) := Nat.le_trans (Nat.le_of_eq HN0.out) hb.size; clear hb)
        | (go_at_call 10; refine (Dy.new 2 _ (by decide)).mono ?_; rintro e w2 ⟨db, rfl, hd, hb⟩; have HY2 := hid (hd.mono S1.out); have B2 := hid (B1.out.trans (hb.mono S1.out)); clear hb hd)
        | (go_at_call 14; (with_reducible refine (CW1.out _ _ HY2.out B2.out).mono ?_); rintro e w3 ⟨rfl, hlf⟩; have HY3 := hid hlf.1; have B3 := hid (B2.out.trans hlf.2.2); clear hlf)
        | (go_at_call 14; refine (CW2.out _ _ HY3.out B3.out).mono ?_; rintro e w4 ⟨rfl, hlf⟩; have HY4 := hid hlf.1; have B4 := hid (B3.out.trans hlf.2.2); have S4 : Hid (n0 ≤ w4.heap.size) := Nat.le_trans (Nat.le_of_eq HN0.out) B4.out.size; have C5 := hid (CR1.out w4 B4.out); clear hlf)
        | (go_at_call 26; (with_reducible refine C5.out.mono ?_); rintro e w5 ⟨X, cx, rfl, hr, hb⟩; have HY5 := hid (HY4.out.below hb); have B5 := hid (B4.out.trans (hb.mono S4.out)); have RX5 := hid hr; have S5 : Hid (n0 ≤ w5.heap.size) := Nat.le_trans S4.out hb.size; have C6 := hid (CR2.out w5 B5.out); clear hb hr)
        | (go_at_call 26; refine C6.out.mono ?_; rintro e w6 ⟨Y, cy, rfl, hr, hb⟩; have HY6 := hid (HY5.out.below hb); have B6 := hid (B5.out.trans (hb.mono S5.out)); have RX6 := hid (RX5.out.belowN hb); have RY6 := hid hr; have S6 : Hid (n0 ≤ w6.heap.size) := Nat.le_trans S5.out hb.size; clear hb hr)
        | (go_at_call 21; refine (CL.out _ _ HY6.out).mono ?_; rintro e w7 ⟨V, cv, rfl, hf, hb⟩; have HY7 := hid (HY6.out.below hb); have B7 := hid (B6.out.trans (hb.mono S6.out)); have RX7 := hid (RX6.out.belowN hb); have RY7 := hid (RY6.out.belowN hb); have RV7 := hid hf.rp0; have S7 : Hid (n0 ≤ w7.heap.size) := Nat.le_trans S6.out hb.size; clear hf hb)
        | (go_at_call 23; refine (same_as RV7.out RX7.out (by have := lx.out; omega) NX.out).mono ?_; rintro e w8 ⟨rfl, hb⟩; have HY8 := hid (HY7.out.below hb); have B8 := hid (B7.out.trans (hb.mono S7.out)); clear hb)
        | (go_at_call 12; refine (CS.out _ _ HY8.out B8.out).mono ?_; rintro e w9 ⟨rfl, hb⟩; have B9 := hid (B8.out.trans hb); clear hb))
      go_ret
      exact ⟨by simp, B9.out⟩
theorem sany_walk (A1 : Option Addr) (n1 c1 : Nat) (a : List Int) (A2 : Option Addr) (n2 c2 : Nat) (b : List Int) (A3 : Option Addr) (n3 c3 : Nat) (u : List Int) (w : World) (h1 : InB w A1 n1 c1 a) (k1 : n1 ≤ c1) (h2 : InB w A2 n2 c2 b) (k2 : n2 ≤ c2) (h3 : InB w A3 n3 c3 u) (k3 : n3 ≤ c3) :
    Calls Try.prog 6 #[.slice A1 n1 c1, .slice A2 n2 c2, .slice A3 n3 c3] w fun e w' => e = .returned (.bool true) ∧ Below w.heap.size w w' := by
  by_cases d1 : n1 = 128
  · subst d1
    by_cases d2 : n2 = 128
    · subst d2
      by_cases d3 : n3 ≤ 110
      · exact sany_128 A1 c1 a A2 c2 b A3 n3 c3 u w h1 k1 h2 k2 h3 d3
      · have hm := h3.2.1
        have g1 : decide (110 < (n3 : Int)) = true := decide_eq_true (by omega)
        have g2 : 110 < (n3 : Int) := by omega
        clear h1 h2 h3 k1 k2 k3
        go_enter Try.func6, Try.ntmps6
        go_wp2_with (first
          | (go_at_call 8; (with_reducible refine (oawake_any w).mono ?_); rintro e w1 ⟨rfl, hb⟩; have B1 := hid hb; clear hb)
          | (go_at_call 8; refine (oawake_any _).mono ?_; rintro e w2 ⟨rfl, hb⟩; have B2 := hid (B1.out.trans (hb.mono B1.out.size)); clear hb))
        go_ret
        exact ⟨rfl, B2.out⟩
    · have g1 : ((n2 : Int) != 128) = true := by simp; omega
      have g2 : ¬ (n2 : Int) = 128 := by omega
      have hm := h2.2.1
      have hm3 := h3.2.1
      clear h1 h2 h3 k1 k2 k3
      go_enter Try.func6, Try.ntmps6
      go_wp2_with (first
        | (go_at_call 8; (with_reducible refine (oawake_any w).mono ?_); rintro e w1 ⟨rfl, hb⟩; have B1 := hid hb; clear hb)
        | (go_at_call 8; refine (oawake_any _).mono ?_; rintro e w2 ⟨rfl, hb⟩; have B2 := hid (B1.out.trans (hb.mono B1.out.size)); clear hb))
      go_ret
      exact ⟨rfl, B2.out⟩
  · have g1 : ((n1 : Int) != 128) = true := by simp; omega
    have g2 : ¬ (n1 : Int) = 128 := by omega
    have hm := h1.2.1
    have hm2 := h2.2.1
    have hm3 := h3.2.1
    clear h1 h2 h3 k1 k2 k3
    go_enter Try.func6, Try.ntmps6
    go_wp2_with (first
      | (go_at_call 8; (with_reducible refine (oawake_any w).mono ?_); rintro e w1 ⟨rfl, hb⟩; have B1 := hid hb; clear hb)
      | (go_at_call 8; refine (oawake_any _).mono ?_; rintro e w2 ⟨rfl, hb⟩; have B2 := hid (B1.out.trans (hb.mono B1.out.size)); clear hb))
    go_ret
    exact ⟨rfl, B2.out⟩
end Go.Proofs.Ytjdojnbpchommaa
