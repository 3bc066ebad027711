/-
  What is proved here: whether the code tells that a signature of two storeys is right.
-/
import Derived.Test.YtobceieadjpaaaaDoorMHq1
import Derived.Test.YtobceieadjpaaaaDoorMLsy
set_option linter.unusedSimpArgs false
set_option linter.unusedVariables false
namespace Go.Proofs.YtobceieadjpaaaaDoor
open Go.ChangeShapes Go.WideShapes Go.ChangeAt Go.RowKit
set_option linter.unusedVariables false
set_option maxRecDepth 20000

theorem plain_short {l : List Int} {k : Nat} (h : l.length < k) : (RS.got false l).plain (k : Nat) = ([], .got true l) := by
  unfold RS.plain
  simp only
  rw [if_pos (by omega)]
theorem plain_got (f : Bool) (l : List Int) (n : Int) : ∃ r f' l', (RS.got f l).plain n = (r, .got f' l') ∧ (Bs l → Bs r ∧ Bs l') ∧ r.length ≤ l.length ∧ l'.length ≤ l.length := by
  cases f with
  | true => exact ⟨[], true, l, rfl, fun h => ⟨(fun v hv => by cases hv), h⟩, Nat.zero_le _, Nat.le_refl _⟩
  | false =>
    unfold RS.plain
    simp only
    split
    · exact ⟨[], true, l, rfl, fun h => ⟨(fun v hv => by cases hv), h⟩, Nat.zero_le _, Nat.le_refl _⟩
    · exact ⟨_, _, _, rfl, fun h => ⟨h.take _, h.drop _⟩, by rw [List.length_take]; omega, by rw [List.length_drop]; omega⟩
/-- what the code asks is what the chapter says -/
theorem hver_eq {P M S : List Int} (hP : P.length = 60) (h2 : val (P.take 4) = 2) (h4 : 4 ≤ S.length) (h1 : val (S.take 4) = 1) {h b d : List Int} {f1 f2 f3 : Bool} {l1 l2 l3 : List Int}
    (e1 : (RS.got false (S.drop 4)).plain (hvn P : Nat) = (h, .got f1 l1)) (e2 : (RS.got f1 l1).plain 56 = (b, .got f2 l2)) (e3 : (RS.got f2 l2).plain (l2.length : Nat) = (d, .got f3 l3)) : (ver (P.drop 4) b h && ver b M d) = hver P M S := by
  by_cases hA : 60 + hvn P ≤ S.length
  · rw [plain_long (by rw [List.length_drop]; omega)] at e1
    injection e1 with ea eb
    injection eb with eb ec
    subst ea eb ec
    have e2' : (RS.got false ((S.drop 4).drop (hvn P))).plain ((56 : Nat) : Int) = (b, .got f2 l2) := e2
    rw [plain_long (by rw [List.length_drop, List.length_drop]; omega)] at e2'
    injection e2' with ea eb
    injection eb with eb ec
    subst ea eb ec
    rw [plain_long (Nat.le_refl _)] at e3
    injection e3 with ea eb
    rw [List.take_of_length_le (Nat.le_refl _)] at ea
    subst ea
    have hk : ((S.drop 4).drop (hvn P)).take 56 = hvk P S := by unfold hvk; rw [List.drop_drop]
    have hd : ((S.drop 4).drop (hvn P)).drop 56 = S.drop (60 + hvn P) := by rw [List.drop_drop, List.drop_drop]; congr 1; omega
    rw [hk, hd]
    apply Bool.eq_iff_iff.2
    rw [Bool.and_eq_true]
    unfold hver
    rw [decide_eq_true_iff]
    exact ⟨fun h => ⟨hP, h2, h1, hA, h.1, h.2⟩, fun h => ⟨h.2.2.2.2.1, h.2.2.2.2.2⟩⟩
  · have hno : hver P M S = false := hver_no fun hv => hA hv.2.2.2.1
    have hb : b = [] := by
      by_cases hB : 4 + hvn P ≤ S.length
      · rw [plain_long (by rw [List.length_drop]; omega)] at e1
        injection e1 with ea eb
        injection eb with eb ec
        subst ea eb ec
        have e2' : (RS.got false ((S.drop 4).drop (hvn P))).plain ((56 : Nat) : Int) = (b, .got f2 l2) := e2
        rw [plain_short (by rw [List.length_drop, List.length_drop]; omega)] at e2'
        injection e2' with ea eb
        exact ea.symm
      · rw [plain_short (by rw [List.length_drop]; omega)] at e1
        injection e1 with ea eb
        injection eb with eb ec
        subst ea eb ec
        injection e2 with ea eb
        exact ea.symm
    rw [hno, hb, ver_wide (p := []) (by decide), Bool.and_false]

/-- a reader stays when another one reads -/
theorem RRep.other {w w' : World} {p b : Nat} {f f' : Bool} {l l' : List Int} (h : RRep w (some ⟨p, 0, none⟩) (.got f l)) (hb : RRep w (some ⟨b, 0, none⟩) (.got f' l')) (hne : p ≠ b) (ho : OnlyS (Of (some ⟨b, 0, none⟩)) w w') : RRep w' (some ⟨p, 0, none⟩) (.got f l) := by
  obtain ⟨p', A, c, e, h1, h2, h3, h4, h5⟩ := h
  injection e with e; injection e with e; subst e
  obtain ⟨b', B, d, e, k1, k2, k3, k4, k5⟩ := hb
  injection e with e; injection e with e; subst e
  refine ⟨p, A, c, rfl, h1.same (ho.block _ h1.lt (not_of hne)), h2, h3, h4, fun hx => ?_⟩
  obtain ⟨ad, rfl, hn, hc⟩ := h5 hx
  refine ⟨ad, rfl, hn, fun j hj => ?_⟩
  have hlt := block_lt_of_cell (hc 0 hx)
  rw [add_block] at hlt
  refine (World.cell?_of_block (w := w) ?_).trans (hc j hj)
  rw [add_block]
  refine ho.block _ hlt (not_of fun he => ?_)
  obtain ⟨b0, off, e, _, hr⟩ := rp_plain (w := w) (A := some ad) (xs := l) (fun _ => ⟨ad, rfl, (fun ⟨a, e, _⟩ => by cases e), hc⟩) hx
  injection e with e
  subst e
  have e0 := hr 0 _ (u8s_get _ _ hx)
  simp only at he
  subst he
  rw [Nat.add_zero, k1.cell] at e0
  match off, e0 with
  | 0, e0 => cases e0
  | 1, e0 => cases e0
  | n + 2, e0 => simp at e0

theorem hhigh_any (A0 : Option Addr) (c0 : Nat) (P : List Int) (w : World) (hP56 : P.length = 56) (hpr : Rp w none A0 P) (hpb : Bs P) :
    Calls Tryd.prog 70 #[.slice A0 56 c0] w fun e w' => e = .returned (.int .i64 (tsize (vh P) (vk P) : Nat)) ∧ Below w.heap.size w w' := by
  obtain ⟨x, hx⟩ : ∃ x, x = vh P := ⟨_, rfl⟩
  obtain ⟨y, hy⟩ : ∃ y, y = vk P := ⟨_, rfl⟩
  have e1 : (RS.got false P).num 4 4294967295 = (x, .got false (P.drop 4)) := by rw [num4_long (by omega) hpb, hx]; rfl
  have e2 : (RS.got false (P.drop 4)).num 4 4294967295 = (y, .got false (P.drop 8)) := by rw [num4_long (by rw [List.length_drop]; omega) (hpb.drop 4), hy, List.drop_drop]; rfl
  have hxr : 0 ≤ x ∧ x < 4294967296 := by
    have := val_bound (P.take 4) (hpb.take 4)
    rw [List.length_take, Nat.min_eq_left (by omega)] at this
    rw [hx]; exact ⟨this.1, this.2⟩
  have hyr : 0 ≤ y ∧ y < 4294967296 := by
    have := val_bound ((P.drop 4).take 4) ((hpb.drop 4).take 4)
    rw [List.length_take, List.length_drop, Nat.min_eq_left (by omega)] at this
    rw [hy]; exact ⟨this.1, this.2⟩
  rw [← hx, ← hy]
  have CN1 : Hid (∀ w1, Below w.heap.size w w1 → Calls Tryd.prog 46 #[.slice A0 56 c0] w1 fun e w' => ∃ g, e = .returned (.pointer (some ⟨g, 0, none⟩)) ∧ w1.heap.size ≤ g ∧ RRep w' (some ⟨g, 0, none⟩) (.got false P) ∧ Below w1.heap.size w1 w') := fun w1 hb => by
    have := New_any A0 c0 P w1 (hpr.belowN hb) (by omega) hpb
    rw [hP56] at this
    exact this
  have CU1 : Hid (∀ p w1, RRep w1 (some ⟨p, 0, none⟩) (.got false P) → Calls Tryd.prog 47 #[.pointer (some ⟨p, 0, none⟩)] w1 fun e w' => e = .returned (.int .u32 x) ∧ RRep w' (some ⟨p, 0, none⟩) (.got false (P.drop 4)) ∧ OnlyS (Of (some ⟨p, 0, none⟩)) w1 w') := fun p w1 h => by
    have := RU32_any _ _ w1 h
    rw [e1] at this
    exact this
  have CU2 : Hid (∀ p w1, RRep w1 (some ⟨p, 0, none⟩) (.got false (P.drop 4)) → Calls Tryd.prog 47 #[.pointer (some ⟨p, 0, none⟩)] w1 fun e w' => e = .returned (.int .u32 y) ∧ RRep w' (some ⟨p, 0, none⟩) (.got false (P.drop 8)) ∧ OnlyS (Of (some ⟨p, 0, none⟩)) w1 w') := fun p w1 h => by
    have := RU32_any _ _ w1 h
    rw [e2] at this
    exact this
  have hwx : IntKind.i64.wrap x = x := IntWalk.i64_in _ (by omega)
  have hwy : IntKind.i64.wrap y = y := IntWalk.i64_in _ (by omega)
  have CSZ := hid (sSize_any x y)
  have RD1 : ∀ (p : Nat) (w0 w1 w2 : World), w.heap.size ≤ p → Below w.heap.size w w1 → OnlyS (Of (some ⟨p, 0, none⟩)) w1 w2 → Below w.heap.size w w2 := fun p w0 w1 w2 hp hb ho => hb.trans (ho.below hb.size (fun k hk => by obtain ⟨a, e, rfl⟩ := hk; injection e with e; subst e; exact hp))
  have HRD := hid RD1
  obtain ⟨xa, xb⟩ := hxr
  obtain ⟨ya, yb⟩ := hyr
  clear RD1 e1 e2 hpr hpb hP56 hx hy
  go_enter Tryd.func70, Tryd.ntmps70
  go_wp2_with (first
    | (go_at_call 46; refine (CN1.out _ (Below.refl _ _)).mono ?_; rintro e w1 ⟨pr, rfl, hg1, hr1, hb1⟩; have RR1 := hid hr1; have B1 := hid hb1; have LP := hid hg1; clear hg1 hr1 hb1)
    | (go_at_call 47; (with_reducible refine (CU1.out pr _ RR1.out).mono ?_); rintro e w2 ⟨rfl, hr2, ho2⟩; have RR2 := hid hr2; have B2 := hid (HRD.out pr w w1 w2 LP.out B1.out ho2); clear hr2 ho2)
    | (go_at_call 47; refine (CU2.out pr _ RR2.out).mono ?_; rintro e w3 ⟨rfl, hr3, ho3⟩; have RR3 := hid hr3; have B3 := hid (HRD.out pr w w2 w3 LP.out B2.out ho3); clear hr3 ho3)
    | (go_at_call 52; refine (CSZ.out _).mono ?_; rintro e w5 ⟨rfl, hb5⟩; have B5 := hid (B3.out.trans (hb5.mono B3.out.size)); clear hb5))
  go_ret
  exact ⟨rfl, B5.out⟩

set_option maxHeartbeats 16000000 in
theorem hVerify_any (A0 A1 A2 : Option Addr) (n0 c0 n1 c1 n2 c2 : Nat) (P M S : List Int) (w : World) (hp : n0 = P.length) (hpr : Rp w none A0 P) (hpb : Bs P) (hpl : P.length < 100000)
    (hm : n1 = M.length) (hmr : Rp w none A1 M) (hmb : Bs M) (hml : M.length < 100000) (hmc : n1 ≤ c1) (hs : n2 = S.length) (hsr : Rp w none A2 S) (hsb : Bs S) (hsl : S.length < 100000) (ht : Tab w) :
    Calls Tryd.prog 33 #[.slice A0 n0 c0, .slice A1 n1 c1, .slice A2 n2 c2] w fun e w' => e = .returned (.bool (hver P M S)) ∧ Below w.heap.size w w' := by
  have CNp : Hid (∀ w1, Below w.heap.size w w1 → Calls Tryd.prog 46 #[.slice A0 n0 c0] w1 fun e w' => ∃ g, e = .returned (.pointer (some ⟨g, 0, none⟩)) ∧ w1.heap.size ≤ g ∧ RRep w' (some ⟨g, 0, none⟩) (.got false P) ∧ Below w1.heap.size w1 w') := fun w1 hb => by
    have := New_any A0 c0 P w1 (hpr.belowN hb) (by omega) hpb
    rw [← hp] at this
    exact this
  have CNs : Hid (∀ w1, Below w.heap.size w w1 → Calls Tryd.prog 46 #[.slice A2 n2 c2] w1 fun e w' => ∃ g, e = .returned (.pointer (some ⟨g, 0, none⟩)) ∧ w1.heap.size ≤ g ∧ RRep w' (some ⟨g, 0, none⟩) (.got false S) ∧ Below w1.heap.size w1 w') := fun w1 hb => by
    have := New_any A2 c2 S w1 (hsr.belowN hb) (by omega) hsb
    rw [← hs] at this
    exact this
  have RD1 : ∀ (p : Nat) (w1 w2 : World), w.heap.size ≤ p → Below w.heap.size w w1 → OnlyS (Of (some ⟨p, 0, none⟩)) w1 w2 → Below w.heap.size w w2 := fun p w1 w2 hp hb ho => hb.trans (ho.below hb.size (fun k hk => by obtain ⟨a, e, rfl⟩ := hk; injection e with e; subst e; exact hp))
  have HRD := hid RD1
  clear RD1
  by_cases h60 : ¬ n0 = 60
  · have hn : ¬ ((n0 : Nat) : Int) = 60 := by omega
    have hb : (((n0 : Nat) : Int) != 60) = true := by rw [bne_iff_ne]; omega
    have HNO : Hid (hver P M S = false) := hver_wide (by omega)
    rw [HNO.out]
    clear HNO hp hpr hpb hpl hm hmr hmb hml hmc hs hsr hsb hsl ht h60
    go_enter Tryd.func33, Tryd.ntmps33
    go_wp2_with (first
      | (go_at_call 46; (with_reducible refine (CNp.out _ (Below.refl _ _)).mono ?_); rintro e w1 ⟨pr, rfl, hg1, hr1, hb1⟩; have B1 := hid hb1; clear hg1 hr1 hb1)
      | (go_at_call 46; refine (CNs.out _ B1.out).mono ?_; rintro e w2 ⟨sr, rfl, hg2, hr2, hb2⟩; have B2 := hid (B1.out.trans (hb2.mono B1.out.size)); clear hg2 hr2 hb2))
    go_ret
    exact ⟨rfl, B2.out⟩
  have h60' : n0 = 60 := Decidable.not_not.1 h60
  subst h60'
  have hP : P.length = 60 := hp.symm
  clear h60 hp
  obtain ⟨x, hx⟩ : ∃ x, x = val (P.take 4) := ⟨_, rfl⟩
  have e1 : (RS.got false P).num 4 4294967295 = (x, .got false (P.drop 4)) := by rw [num4_long (by omega) hpb, hx]
  have CU1 : Hid (∀ p w1, RRep w1 (some ⟨p, 0, none⟩) (.got false P) → Calls Tryd.prog 47 #[.pointer (some ⟨p, 0, none⟩)] w1 fun e w' => e = .returned (.int .u32 x) ∧ RRep w' (some ⟨p, 0, none⟩) (.got false (P.drop 4)) ∧ OnlyS (Of (some ⟨p, 0, none⟩)) w1 w') := fun p w1 h => by
    have := RU32_any _ _ w1 h
    rw [e1] at this
    exact this
  clear e1
  by_cases hx2 : ¬ x = 2
  · have hb : (x != 2) = true := by rw [bne_iff_ne]; exact hx2
    have HNO : Hid (hver P M S = false) := hver_no fun hv => hx2 (by rw [hx]; exact hv.2.1)
    rw [HNO.out]
    clear HNO hpr hpb hpl hm hmr hmb hml hmc hs hsr hsb hsl ht hx hP
    go_enter Tryd.func33, Tryd.ntmps33
    go_wp2_with (first
      | (go_at_call 46; (with_reducible refine (CNp.out _ (Below.refl _ _)).mono ?_); rintro e w1 ⟨pr, rfl, hg1, hr1, hb1⟩; have B1 := hid hb1; have LP := hid hg1; have RP1 := hid hr1; clear hg1 hr1 hb1)
      | (go_at_call 46; refine (CNs.out _ B1.out).mono ?_; rintro e w2 ⟨sr, rfl, hg2, hr2, hb2⟩; have RP2 := hid (RP1.out.below hb2); have B2 := hid (B1.out.trans (hb2.mono B1.out.size)); clear hg2 hr2 hb2)
      | (go_at_call 47; refine (CU1.out pr _ RP2.out).mono ?_; rintro e w3 ⟨rfl, hr3, ho3⟩; have B3 := hid (HRD.out pr w2 w3 LP.out B2.out ho3); clear hr3 ho3))
    go_ret
    exact ⟨rfl, B3.out⟩
  have hx2' : x = 2 := Decidable.not_not.1 hx2
  subst hx2'
  clear hx2
  obtain ⟨Y, hY⟩ : ∃ Y, Y = (RS.got false S).num 4 4294967295 := ⟨_, rfl⟩
  obtain ⟨y, st⟩ := Y
  have CU2 : Hid (∀ p w1, RRep w1 (some ⟨p, 0, none⟩) (.got false S) → Calls Tryd.prog 47 #[.pointer (some ⟨p, 0, none⟩)] w1 fun e w' => e = .returned (.int .u32 y) ∧ RRep w' (some ⟨p, 0, none⟩) st ∧ OnlyS (Of (some ⟨p, 0, none⟩)) w1 w') := fun p w1 h => by
    have := RU32_any _ _ w1 h
    rw [← hY] at this
    exact this
  have NE1 : Hid (∀ (pr sr : Nat) (w1 : World), RRep w1 (some ⟨pr, 0, none⟩) (.got false P) → w1.heap.size ≤ sr → pr ≠ sr) := fun pr sr w1 h hs => by
    have := h.lt (k := pr) ⟨_, rfl, rfl⟩
    omega
  by_cases hy1 : ¬ y = 1
  · have hb : (y != 1) = true := by rw [bne_iff_ne]; exact hy1
    have HNO : Hid (hver P M S = false) := hver_no fun hv => hy1 (by
      have h4 := hv.2.2.2.1
      rw [num4_long (by omega) hsb] at hY
      injection hY with ha _
      rw [ha]; exact hv.2.2.1)
    rw [HNO.out]
    clear HNO hpr hpb hpl hm hmr hmb hml hmc hs hsr hsb hsl ht hx hP hY
    go_enter Tryd.func33, Tryd.ntmps33
    go_wp2_with (first
      | (go_at_call 46; (with_reducible refine (CNp.out _ (Below.refl _ _)).mono ?_); rintro e w1 ⟨pr, rfl, hg1, hr1, hb1⟩; have B1 := hid hb1; have LP := hid hg1; have RP1 := hid hr1; clear hg1 hr1 hb1)
      | (go_at_call 46; refine (CNs.out _ B1.out).mono ?_; rintro e w2 ⟨sr, rfl, hg2, hr2, hb2⟩; have NPS := hid (NE1.out pr sr _ RP1.out hg2); have LS := hid (Nat.le_trans B1.out.size hg2); have RS2 := hid hr2; have RP2 := hid (RP1.out.below hb2); have B2 := hid (B1.out.trans (hb2.mono B1.out.size)); clear hg2 hr2 hb2)
      | (go_at_call 47; (with_reducible refine (CU1.out pr _ RP2.out).mono ?_); rintro e w3 ⟨rfl, hr3, ho3⟩; have RS3 := hid (RS2.out.other RP2.out NPS.out.symm ho3); have B3 := hid (HRD.out pr w2 w3 LP.out B2.out ho3); clear hr3 ho3)
      | (go_at_call 47; refine (CU2.out sr _ RS3.out).mono ?_; rintro e w4 ⟨rfl, hr4, ho4⟩; have B4 := hid (HRD.out sr w3 w4 LS.out B3.out ho4); clear hr4 ho4))
    go_ret
    exact ⟨rfl, B4.out⟩
  have hy1' : y = 1 := Decidable.not_not.1 hy1
  subst hy1'
  clear hy1
  have hS4 : 4 ≤ S.length := by
    rcases Nat.lt_or_ge S.length 4 with h | h
    · exfalso
      unfold RS.num at hY
      simp only at hY
      rw [if_pos h] at hY
      injection hY with ha _
      exact absurd ha (by decide)
    · exact h
  rw [num4_long hS4 hsb] at hY
  injection hY with hY1 hst
  subst hst
  obtain ⟨N, hN⟩ : ∃ N, N = hvn P := ⟨_, rfl⟩
  have hTl : (P.drop 4).length = 56 := by rw [List.length_drop, hP]
  have hTt : (P.drop 4).take 56 = P.drop 4 := List.take_of_length_le (by omega)
  obtain ⟨h, f1, l1, E1, q1, q2, q3⟩ := plain_got false (S.drop 4) (N : Nat)
  obtain ⟨b, f2, l2, E2, q4, q5, q6⟩ := plain_got f1 l1 56
  obtain ⟨d, f3, l3, E3, q7, q8, q9⟩ := plain_got f2 l2 (l2.length : Nat)
  have HEQ := hid (hver_eq (M := M) hP hx.symm hS4 hY1.symm (by rw [← hN]; exact E1) E2 E3)
  rw [← HEQ.out]
  have hd4 : (S.drop 4).length ≤ S.length := by rw [List.length_drop]; omega
  obtain ⟨T, hT⟩ : ∃ T, T = P.drop 4 := ⟨_, rfl⟩
  have hNT : N = tsize (vh T) (vk T) := by rw [hN, hT]; rfl
  have hTb : Bs T := by rw [hT]; exact hpb.drop 4
  rw [← hT] at hTl hTt CU1 ⊢
  have CPT : Hid (∀ p w1, RRep w1 (some ⟨p, 0, none⟩) (.got false T) → Calls Tryd.prog 48 #[.pointer (some ⟨p, 0, none⟩), .int .i64 56] w1 fun e w' => ∃ A' c', e = .returned (.slice A' 56 c') ∧ 56 ≤ c' ∧ Fresh w1 w' A' T ∧ OnlyS (Of (some ⟨p, 0, none⟩)) w1 w') := fun p w1 h => by
    refine (RPlain_any _ _ ((56 : Nat) : Int) w1 h).mono fun e w' he => ?_
    rw [plain_long (by omega), hTt, hTl] at he
    obtain ⟨A', c', he, h1, h2, _, h3⟩ := he
    exact ⟨A', c', he, h1, h2, h3⟩
  have CHI : Hid (∀ A c w1, Rp w1 none A T → Calls Tryd.prog 70 #[.slice A 56 c] w1 fun e w' => e = .returned (.int .i64 (N : Nat)) ∧ Below w1.heap.size w1 w') := fun A c w1 hr => by
    rw [hNT]; exact hhigh_any A c T w1 hTl hr hTb
  have CP1 : Hid (∀ p w1, RRep w1 (some ⟨p, 0, none⟩) (.got false (S.drop 4)) → Calls Tryd.prog 48 #[.pointer (some ⟨p, 0, none⟩), .int .i64 (N : Nat)] w1 fun e w' => ∃ A' c', e = .returned (.slice A' h.length c') ∧ h.length ≤ c' ∧ Fresh w1 w' A' h ∧ RRep w' (some ⟨p, 0, none⟩) (.got f1 l1) ∧ OnlyS (Of (some ⟨p, 0, none⟩)) w1 w') := fun p w1 hr => by
    have := RPlain_any _ _ (N : Nat) w1 hr
    rw [E1] at this; exact this
  have CP2 : Hid (∀ p w1, RRep w1 (some ⟨p, 0, none⟩) (.got f1 l1) → Calls Tryd.prog 48 #[.pointer (some ⟨p, 0, none⟩), .int .i64 56] w1 fun e w' => ∃ A' c', e = .returned (.slice A' b.length c') ∧ b.length ≤ c' ∧ Fresh w1 w' A' b ∧ RRep w' (some ⟨p, 0, none⟩) (.got f2 l2) ∧ OnlyS (Of (some ⟨p, 0, none⟩)) w1 w') := fun p w1 hr => by
    have := RPlain_any _ _ 56 w1 hr
    rw [E2] at this; exact this
  have CLF : Hid (∀ p w1, RRep w1 (some ⟨p, 0, none⟩) (.got f2 l2) → Calls Tryd.prog 71 #[.pointer (some ⟨p, 0, none⟩)] w1 fun e w' => e = .returned (.int .i64 (l2.length : Nat)) ∧ w1 = w') := fun p w1 hr => Left_any _ _ w1 hr
  have CP3 : Hid (∀ p w1, RRep w1 (some ⟨p, 0, none⟩) (.got f2 l2) → Calls Tryd.prog 48 #[.pointer (some ⟨p, 0, none⟩), .int .i64 (l2.length : Nat)] w1 fun e w' => ∃ A' c', e = .returned (.slice A' d.length c') ∧ d.length ≤ c' ∧ Fresh w1 w' A' d ∧ OnlyS (Of (some ⟨p, 0, none⟩)) w1 w') := fun p w1 hr => by
    have := RPlain_any _ _ (l2.length : Nat) w1 hr
    rw [E3] at this
    exact this.mono fun e w' ⟨A', c', he, h1, h2, _, h3⟩ => ⟨A', c', he, h1, h2, h3⟩
  obtain ⟨bh, bl1⟩ := q1 (hsb.drop 4)
  obtain ⟨bb, bl2⟩ := q4 bl1
  obtain ⟨bd, _⟩ := q7 bl2
  have CV1 : Hid (∀ A c B e D g w1, Rp w1 none A T → Rp w1 none B b → Rp w1 none D h → b.length ≤ e → Below w.heap.size w w1 → Calls Tryd.prog 16 #[.slice A 56 c, .slice B b.length e, .slice D h.length g] w1 fun r w' => r = .returned (.bool (ver T b h)) ∧ Below w1.heap.size w1 w') := fun A c B e D g w1 h1 h2 h3 h4 hb =>
    sVerify_any A B D 56 c b.length e h.length g T b h w1 hTl.symm h1 hTb (by omega) rfl h2 bb (by omega) h4 rfl h3 bh (by omega) (ht.below hb)
  have CV2 : Hid (∀ A c D g w1, Rp w1 none A b → Rp w1 none D d → Below w.heap.size w w1 → Calls Tryd.prog 16 #[.slice A b.length c, .slice A1 n1 c1, .slice D d.length g] w1 fun r w' => r = .returned (.bool (ver b M d)) ∧ Below w1.heap.size w1 w') := fun A c D g w1 h1 h3 hb =>
    sVerify_any A A1 D b.length c n1 c1 d.length g b M d w1 rfl h1 bb (by omega) hm (hmr.belowN hb) hmb hml hmc rfl h3 bd (by omega) (ht.below hb)
  have KP : Hid (∀ (sr : Nat) (w1 w2 w3 : World) (A : Option Addr) (xs : List Int), Fresh w1 w2 A xs → OnlyS (Of (some ⟨sr, 0, none⟩)) w2 w3 → sr < w1.heap.size → Fresh w1 w3 A xs) := fun sr w1 w2 w3 A xs hf ho hl => hf.keep ho (fun k hk _ hs => by obtain ⟨a, e, rfl⟩ := hs; injection e with e; subst e; exact absurd hk (by show ¬ _ ≤ sr; omega))
  have KB : Hid (∀ (w1 w2 w3 : World) (A : Option Addr) (xs : List Int), Fresh w1 w2 A xs → Below w2.heap.size w2 w3 → Fresh w1 w3 A xs) := fun w1 w2 w3 A xs hf hb => hf.below hb
  have LTR : Hid (∀ (sr : Nat) (w1 : World) f l, RRep w1 (some ⟨sr, 0, none⟩) (.got f l) → sr < w1.heap.size) := fun sr w1 f l h => h.lt (k := sr) ⟨_, rfl, rfl⟩
  generalize hv1 : ver T b h = v1 at CV1 ⊢
  generalize ver b M d = v2 at CV2 ⊢
  clear hpr hpb hpl hm hmr hmb hml hmc hs hsr hsb hsl ht hx hP hY1 hS4 hN hTl hTt E1 E2 E3 q1 q2 q3 q4 q5 q6 q7 q8 q9 hd4 hT hNT hTb bh bl1 bb bl2 bd HEQ hv1
  rcases v1 with _ | _
  all_goals
    go_enter Tryd.func33, Tryd.ntmps33
    go_wp2_with (first
      | (go_at_call 46; (with_reducible refine (CNp.out _ (Below.refl _ _)).mono ?_); rintro e w1 ⟨pr, rfl, hg1, hr1, hb1⟩; have B1 := hid hb1; have LP := hid hg1; have RP1 := hid hr1; clear hg1 hr1 hb1)
      | (go_at_call 46; refine (CNs.out _ B1.out).mono ?_; rintro e w2 ⟨sr, rfl, hg2, hr2, hb2⟩; have NPS := hid (NE1.out pr sr _ RP1.out hg2); have LS := hid (Nat.le_trans B1.out.size hg2); have RS2 := hid hr2; have RP2 := hid (RP1.out.below hb2); have B2 := hid (B1.out.trans (hb2.mono B1.out.size)); clear hg2 hr2 hb2)
      | (go_at_call 47; (with_reducible refine (CU1.out pr _ RP2.out).mono ?_); rintro e w3 ⟨rfl, hr3, ho3⟩; have RS3 := hid (RS2.out.other RP2.out NPS.out.symm ho3); have RP3 := hid hr3; have B3 := hid (HRD.out pr w2 w3 LP.out B2.out ho3); clear hr3 ho3)
      | (go_at_call 47; (with_reducible refine (CU2.out sr _ RS3.out).mono ?_); rintro e w4 ⟨rfl, hr4, ho4⟩; have RP4 := hid (RP3.out.other RS3.out NPS.out ho4); have RS4 := hid hr4; have B4 := hid (HRD.out sr w3 w4 LS.out B3.out ho4); clear hr4 ho4)
      | (go_at_call 48; (with_reducible refine (CPT.out pr _ RP4.out).mono ?_); rintro e w5 ⟨A5, c5, rfl, hc5, hf5, ho5⟩; have F5 := hid hf5; have L4 := hid (LTR.out sr _ _ _ RS4.out); have RS5 := hid (RS4.out.other RP4.out NPS.out.symm ho5); have B5 := hid (HRD.out pr w4 w5 LP.out B4.out ho5); clear hf5 ho5 hc5)
      | (go_at_call 70; refine (CHI.out _ _ _ F5.out.rp0).mono ?_; rintro e w6 ⟨rfl, hb6⟩; have F6 := hid (KB.out _ _ _ _ _ F5.out hb6); have RS6 := hid (RS5.out.below hb6); have B6 := hid (B5.out.trans (hb6.mono B5.out.size)); clear hb6)
      | (go_at_call 48; (with_reducible refine (CP1.out sr _ RS6.out).mono ?_); rintro e w7 ⟨A7, c7, rfl, hc7, hf7, hr7, ho7⟩; have L6 := hid (LTR.out sr _ _ _ RS6.out); have FT7 := hid (KP.out sr _ _ _ _ _ F6.out ho7 L4.out); have FH7 := hid hf7; have RS7 := hid hr7; have B7 := hid (HRD.out sr w6 w7 LS.out B6.out ho7); clear hc7 hf7 hr7 ho7)
      | (go_at_call 48; (with_reducible refine (CP2.out sr _ RS7.out).mono ?_); rintro e w8 ⟨A8, c8, rfl, hc8, hf8, hr8, ho8⟩; have HC8 := hid hc8; have L7 := hid (LTR.out sr _ _ _ RS7.out); have FT8 := hid (KP.out sr _ _ _ _ _ FT7.out ho8 L4.out); have FH8 := hid (KP.out sr _ _ _ _ _ FH7.out ho8 L6.out); have FB8 := hid hf8; have RS8 := hid hr8; have B8 := hid (HRD.out sr w7 w8 LS.out B7.out ho8); clear hc8 hf8 hr8 ho8)
      | (go_at_call 71; refine (CLF.out sr _ RS8.out).mono ?_; rintro e wq ⟨rfl, rfl⟩)
      | (go_at_call 48; refine (CP3.out sr _ RS8.out).mono ?_; rintro e w9 ⟨A9, c9, rfl, hc9, hf9, ho9⟩; have FT9 := hid (KP.out sr _ _ _ _ _ FT8.out ho9 L4.out); have FH9 := hid (KP.out sr _ _ _ _ _ FH8.out ho9 L6.out); have FB9 := hid (KP.out sr _ _ _ _ _ FB8.out ho9 L7.out); have FD9 := hid hf9; have B9 := hid (HRD.out sr w8 w9 LS.out B8.out ho9); clear hc9 hf9 ho9)
      | (go_at_call 16; (with_reducible refine (CV1.out _ _ _ _ _ _ _ FT9.out.rp0 FB9.out.rp0 FH9.out.rp0 HC8.out B9.out).mono ?_); rintro e wa ⟨rfl, hba⟩; have FBA := hid (KB.out _ _ _ _ _ FB9.out hba); have FDA := hid (KB.out _ _ _ _ _ FD9.out hba); have BA := hid (B9.out.trans (hba.mono B9.out.size)); clear hba)
      | (go_at_call 16; refine (CV2.out _ _ _ _ _ FBA.out.rp0 FDA.out.rp0 BA.out).mono ?_; rintro e wb ⟨rfl, hbb⟩; have BB := hid (BA.out.trans (hbb.mono BA.out.size)); clear hbb))
    go_ret
    first
      | exact ⟨rfl, BB.out⟩
      | exact ⟨rfl, BA.out⟩
end Go.Proofs.YtobceieadjpaaaaDoor
