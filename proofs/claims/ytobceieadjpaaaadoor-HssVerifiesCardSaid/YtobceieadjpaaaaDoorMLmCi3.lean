/-
  What is proved here: the code's own iterator over the digits of some bytes, a kind at a time.
-/
import Derived.Test.YtobceieadjpaaaaDoorMLmCw
set_option linter.unusedSimpArgs false
set_option linter.unusedVariables false
namespace Go.Proofs.YtobceieadjpaaaaDoor
open Go.ChangeShapes Go.WideShapes Go.ChangeAt Go.RowKit Go.Shelf
set_option linter.unusedVariables false
attribute [local go_sem] Oper.semAt_some
set_option maxRecDepth 20000 in
set_option maxHeartbeats 4000000 in
theorem cutf_3_32 (l bs sb : Nat) (A : Option Addr) (c : Nat) (xs : List Int) (hb : Bs xs) (hn : xs.length = 32) (J Jx : List Dg → World → Prop) (W : World)
    (hJ : AbidesFrom W.heap.size J)
    (hY : ∀ pre x W1, J pre W1 → pre.length < 64 → YieldAt Fence.wide 0 Tryd.prog l (encD x) W1 fun e W' =>
      (e = .returned (.bool true) ∧ J (pre ++ [x]) W' ∧ KpS (CbS bs sb A) W1 W') ∨ (e = .returned (.bool false) ∧ Jx (pre ++ [x]) W'))
    (hc : Cb 3 bs sb A 32 c xs W) (h0 : J [] W) :
    CallsIn Fence.wide 1 Tryd.prog 97 #[.func (.yield l) #[] #[], .pointer (some ⟨bs, 0, none⟩), .pointer (some ⟨sb, 0, none⟩)] W fun e W' => (∃ v, e = .returned v) ∧
      ((∃ ys, ys = upto (dgs 4 2 xs) 64 ∧ J ys W') ∨ (∃ pre, (∃ k, k ≤ 64 ∧ pre = upto (dgs 4 2 xs) k) ∧ Jx pre W')) := by
  have HC := hid hc; have HN := hid hn; have HY := hid hY; have HJ := hid hJ; have HB := hid hb
  have H0 := hid h0
  have hmx : Tryd.prog.follows .mixedOrders = true := by kernel_rfl
  clear hn hY hJ h0 hb
  refine callsIn_of_wp Tryd.func97 rfl trivial ?_ rfl
  simp only [Tryd.ntmps97, List.size_toArray, List.length_cons, List.length_nil, Nat.reduceAdd, Nat.reduceSub, Array.replicate_succ, Array.replicate_zero, List.push_toArray, List.append_toArray, List.nil_append, List.cons_append]
  have s0 := hc.b0.cell 0; have s1 := hc.b0.cell 1; have t0 := hc.b1.cell 0
  rw [shp_3] at s0 s1
  simp at s0 s1 t0
  clear hc
  gi_wp2
  gi_region
  gi_wp2
  clear s0 s1 t0
  gi_loopw [16] (fun i wr => ∃ j : Nat, j ≤ 64 ∧ i = .int .i64 j ∧ Hid (Cb 3 bs sb A 32 c xs wr) ∧ Hid (J (upto (dgs 4 2 xs) j) wr)) (fun i _ => 64 - (intOf i).toNat)
  case atStart => exact ⟨0, Nat.zero_le _, rfl, HC.out.below ((Below.refl _ _).drew), HJ.out _ _ _ none H0.out (below_grown ((Below.refl _ _).drew)) (fun r e => by cases e)⟩
  case round =>
    obtain ⟨j, hj, rfl, HCR, HJR⟩ := hrel
    by_cases hlt : j < 64
    · have hji : (j : Int) < 64 := by omega
      obtain ⟨ad, rfl, hcell⟩ := HCR.out.r.get (by rw [HN.out]; decide)
      have hbj := HB.out.at (j * 4 / 8)
      have hcj := hcell (j * 4 / 8) (by rw [HN.out]; omega)
      clear hcell
      obtain ⟨x, hx⟩ : ∃ x, x = xs[j * 4 / 8]?.getD 0 := ⟨_, rfl⟩
      rw [← hx] at hbj hcj
      have HX := hid hx
      obtain ⟨x0, x1⟩ := hbj
      clear hx
      have s0 := HCR.out.b0.cell 0; have s1 := HCR.out.b0.cell 1; have s2 := HCR.out.b0.cell 2; have t0 := HCR.out.b1.cell 0
      rw [shp_3] at s0 s1 s2
      simp at s0 s1 s2 t0
      have q0 : 0 ≤ (j : Int) * 4 / 8 := by omega
      have q1 : (j : Int) * 4 / 8 < 32 := by omega
      have q2 : ((j : Int) * 4 / 8).toNat = j * 4 / 8 := by omega
      have td : Int.tdiv ((j : Int) * 4) 8 = (j : Int) * 4 / 8 := Int.tdiv_eq_ediv_of_nonneg (by omega)
      have wd : IntKind.i64.wrap ((j : Int) * 4 / 8) = (j : Int) * 4 / 8 := IntWalk.i64_in _ (by omega)
      have r0 : 0 ≤ 4 - (j : Int) * 4 % 8 := by omega
      gi_wp2
      have wx : IntKind.i64.wrap x = x := IntWalk.i64_in _ (by omega)
      obtain ⟨d, hd⟩ : ∃ d, d = dig xs j 4 2 := ⟨_, rfl⟩
      have hbits : bits .and .i64 (x / 2 ^ (4 - (j : Int) * 4 % 8).toNat) 15 = d := by
        rw [fin_of (P := fun y => bits .and .i64 y 15 = y % 16) and_15 _ (shr_lo x _ x0 x1).1 (shr_lo x _ x0 x1).2, hd, HX.out]
        unfold dig
        rw [show (4 - (j : Int) * 4 % 8).toNat = 4 * (2 - 1 - j % 2) by omega, show j * 4 / 8 = j / 2 by omega]
        rfl
      have HYJ := hid (fun (w1 : World) (hb : Below wr.drew.heap.size wr.drew w1) => Ro.of (HY.out _ (dgs 4 2 xs j) w1 (HJ.out _ wr w1 none HJR.out (below_grown (((Below.refl _ _).drew).trans hb)) (fun r e => by cases e)) (by rw [upto_length]; exact hlt)))
      rw [enc_dgs (by omega) (by decide), ← hd] at HYJ
      have CG : Hid (∀ w, Calls Tryd.prog 49 #[.agg #[.int .i64 4, .int .i64 67, .int .i64 4]] w fun e w' => e = .returned (.int .i64 15) ∧ Below w.heap.size w w') := fun w => greatest_any 3 w (by unfold Kd; omega)
      clear hd hlt
      gi_region_with_o (first
        | (refine ⟨trivial, ?_⟩; gi_at_call 49; refine (callsIn_wide.2 (CG.out _)).mono ?_; rintro e w1 ⟨rfl, hb1⟩; have hs0 := (cell_bel hb1 s0); have hs1 := (cell_bel hb1 s1); have hs2 := (cell_bel hb1 s2); have ht0 := (cell_bel hb1 t0); have hcj2 := (cell_bel hb1 hcj); have HB1 := hid hb1; obtain ⟨fn, tmps, assign, body, hy, hR⟩ := HYJ.out w1 hb1; have HR := hid hR; clear hb1 hR)
        | (refine HR.out.mono ?_; rintro e W3 ⟨bb, rfl, h3⟩; have H3 := hid h3; clear h3))
      all_goals clear hs0 hs1 hs2 ht0 hcj2 s0 s1 s2 t0 hcj HY HYJ hy
      all_goals rcases H3.out with ⟨rfl, hj3, hk3⟩ | ⟨rfl, hj3⟩
      all_goals
        first
        | (have HJ3 := hid hj3; have HK3 := hid hk3; clear hj3 hk3 H3
           gi_wp2
           go_roundw
           case rel => exact ⟨j + 1, by omega, by go_num, ((HCR.out.below ((Below.refl _ _).drew)).below HB1.out).kp HK3.out, by rw [upto_succ]; exact HJ3.out⟩
           case measure => simp [intOf]; omega)
        | (have HJ3 := hid hj3; clear hj3 H3
           gi_wp2
           refine bodyPost_ret (results_none rfl _ _ _) rfl ?_
           exact ⟨⟨_, rfl⟩, .inr ⟨_, ⟨j + 1, by omega, (upto_succ _ _).symm⟩, HJ3.out⟩⟩)
    · obtain rfl : j = 64 := by omega
      gi_wp2
      go_end0
      exact ⟨⟨_, rfl⟩, .inl ⟨_, rfl, HJR.out⟩⟩
set_option maxRecDepth 20000 in
set_option maxHeartbeats 4000000 in
theorem cutf_3_34 (l bs sb : Nat) (A : Option Addr) (c : Nat) (xs : List Int) (hb : Bs xs) (hn : xs.length = 34) (J Jx : List Dg → World → Prop) (W : World)
    (hJ : AbidesFrom W.heap.size J)
    (hY : ∀ pre x W1, J pre W1 → pre.length < 67 → YieldAt Fence.wide 0 Tryd.prog l (encD x) W1 fun e W' =>
      (e = .returned (.bool true) ∧ J (pre ++ [x]) W' ∧ KpS (CbS bs sb A) W1 W') ∨ (e = .returned (.bool false) ∧ Jx (pre ++ [x]) W'))
    (hc : Cb 3 bs sb A 34 c xs W) (h0 : J [] W) :
    CallsIn Fence.wide 1 Tryd.prog 97 #[.func (.yield l) #[] #[], .pointer (some ⟨bs, 0, none⟩), .pointer (some ⟨sb, 0, none⟩)] W fun e W' => (∃ v, e = .returned v) ∧
      ((∃ ys, ys = upto (dgs 4 2 xs) 67 ∧ J ys W') ∨ (∃ pre, (∃ k, k ≤ 67 ∧ pre = upto (dgs 4 2 xs) k) ∧ Jx pre W')) := by
  have HC := hid hc; have HN := hid hn; have HY := hid hY; have HJ := hid hJ; have HB := hid hb
  have H0 := hid h0
  have hmx : Tryd.prog.follows .mixedOrders = true := by kernel_rfl
  clear hn hY hJ h0 hb
  refine callsIn_of_wp Tryd.func97 rfl trivial ?_ rfl
  simp only [Tryd.ntmps97, List.size_toArray, List.length_cons, List.length_nil, Nat.reduceAdd, Nat.reduceSub, Array.replicate_succ, Array.replicate_zero, List.push_toArray, List.append_toArray, List.nil_append, List.cons_append]
  have s0 := hc.b0.cell 0; have s1 := hc.b0.cell 1; have t0 := hc.b1.cell 0
  rw [shp_3] at s0 s1
  simp at s0 s1 t0
  clear hc
  gi_wp2
  gi_region
  gi_wp2
  clear s0 s1 t0
  gi_loopw [16] (fun i wr => ∃ j : Nat, j ≤ 67 ∧ i = .int .i64 j ∧ Hid (Cb 3 bs sb A 34 c xs wr) ∧ Hid (J (upto (dgs 4 2 xs) j) wr)) (fun i _ => 67 - (intOf i).toNat)
  case atStart => exact ⟨0, Nat.zero_le _, rfl, HC.out.below ((Below.refl _ _).drew), HJ.out _ _ _ none H0.out (below_grown ((Below.refl _ _).drew)) (fun r e => by cases e)⟩
  case round =>
    obtain ⟨j, hj, rfl, HCR, HJR⟩ := hrel
    by_cases hlt : j < 67
    · have hji : (j : Int) < 67 := by omega
      obtain ⟨ad, rfl, hcell⟩ := HCR.out.r.get (by rw [HN.out]; decide)
      have hbj := HB.out.at (j * 4 / 8)
      have hcj := hcell (j * 4 / 8) (by rw [HN.out]; omega)
      clear hcell
      obtain ⟨x, hx⟩ : ∃ x, x = xs[j * 4 / 8]?.getD 0 := ⟨_, rfl⟩
      rw [← hx] at hbj hcj
      have HX := hid hx
      obtain ⟨x0, x1⟩ := hbj
      clear hx
      have s0 := HCR.out.b0.cell 0; have s1 := HCR.out.b0.cell 1; have s2 := HCR.out.b0.cell 2; have t0 := HCR.out.b1.cell 0
      rw [shp_3] at s0 s1 s2
      simp at s0 s1 s2 t0
      have q0 : 0 ≤ (j : Int) * 4 / 8 := by omega
      have q1 : (j : Int) * 4 / 8 < 34 := by omega
      have q2 : ((j : Int) * 4 / 8).toNat = j * 4 / 8 := by omega
      have td : Int.tdiv ((j : Int) * 4) 8 = (j : Int) * 4 / 8 := Int.tdiv_eq_ediv_of_nonneg (by omega)
      have wd : IntKind.i64.wrap ((j : Int) * 4 / 8) = (j : Int) * 4 / 8 := IntWalk.i64_in _ (by omega)
      have r0 : 0 ≤ 4 - (j : Int) * 4 % 8 := by omega
      gi_wp2
      have wx : IntKind.i64.wrap x = x := IntWalk.i64_in _ (by omega)
      obtain ⟨d, hd⟩ : ∃ d, d = dig xs j 4 2 := ⟨_, rfl⟩
      have hbits : bits .and .i64 (x / 2 ^ (4 - (j : Int) * 4 % 8).toNat) 15 = d := by
        rw [fin_of (P := fun y => bits .and .i64 y 15 = y % 16) and_15 _ (shr_lo x _ x0 x1).1 (shr_lo x _ x0 x1).2, hd, HX.out]
        unfold dig
        rw [show (4 - (j : Int) * 4 % 8).toNat = 4 * (2 - 1 - j % 2) by omega, show j * 4 / 8 = j / 2 by omega]
        rfl
      have HYJ := hid (fun (w1 : World) (hb : Below wr.drew.heap.size wr.drew w1) => Ro.of (HY.out _ (dgs 4 2 xs j) w1 (HJ.out _ wr w1 none HJR.out (below_grown (((Below.refl _ _).drew).trans hb)) (fun r e => by cases e)) (by rw [upto_length]; exact hlt)))
      rw [enc_dgs (by omega) (by decide), ← hd] at HYJ
      have CG : Hid (∀ w, Calls Tryd.prog 49 #[.agg #[.int .i64 4, .int .i64 67, .int .i64 4]] w fun e w' => e = .returned (.int .i64 15) ∧ Below w.heap.size w w') := fun w => greatest_any 3 w (by unfold Kd; omega)
      clear hd hlt
      gi_region_with_o (first
        | (refine ⟨trivial, ?_⟩; gi_at_call 49; refine (callsIn_wide.2 (CG.out _)).mono ?_; rintro e w1 ⟨rfl, hb1⟩; have hs0 := (cell_bel hb1 s0); have hs1 := (cell_bel hb1 s1); have hs2 := (cell_bel hb1 s2); have ht0 := (cell_bel hb1 t0); have hcj2 := (cell_bel hb1 hcj); have HB1 := hid hb1; obtain ⟨fn, tmps, assign, body, hy, hR⟩ := HYJ.out w1 hb1; have HR := hid hR; clear hb1 hR)
        | (refine HR.out.mono ?_; rintro e W3 ⟨bb, rfl, h3⟩; have H3 := hid h3; clear h3))
      all_goals clear hs0 hs1 hs2 ht0 hcj2 s0 s1 s2 t0 hcj HY HYJ hy
      all_goals rcases H3.out with ⟨rfl, hj3, hk3⟩ | ⟨rfl, hj3⟩
      all_goals
        first
        | (have HJ3 := hid hj3; have HK3 := hid hk3; clear hj3 hk3 H3
           gi_wp2
           go_roundw
           case rel => exact ⟨j + 1, by omega, by go_num, ((HCR.out.below ((Below.refl _ _).drew)).below HB1.out).kp HK3.out, by rw [upto_succ]; exact HJ3.out⟩
           case measure => simp [intOf]; omega)
        | (have HJ3 := hid hj3; clear hj3 H3
           gi_wp2
           refine bodyPost_ret (results_none rfl _ _ _) rfl ?_
           exact ⟨⟨_, rfl⟩, .inr ⟨_, ⟨j + 1, by omega, (upto_succ _ _).symm⟩, HJ3.out⟩⟩)
    · obtain rfl : j = 67 := by omega
      gi_wp2
      go_end0
      exact ⟨⟨_, rfl⟩, .inl ⟨_, rfl, HJR.out⟩⟩
end Go.Proofs.YtobceieadjpaaaaDoor
