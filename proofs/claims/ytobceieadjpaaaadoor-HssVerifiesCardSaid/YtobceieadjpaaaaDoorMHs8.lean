/-
  What is proved here: whether the document says that a signature of two storeys is right.
-/
import Derived.Test.YtobceieadjpaaaaDoorMHq1
import Derived.Test.YtobceieadjpaaaaDoorMLsQ
set_option linter.unusedSimpArgs false
set_option linter.unusedVariables false
namespace Go.Proofs.YtobceieadjpaaaaDoor
open Go.ChangeShapes Go.WideShapes Go.ChangeAt Go.RowKit
set_option linter.unusedVariables false
set_option maxRecDepth 20000

theorem hver_def {P M S : List Int} (hP : P.length = 60) (h2 : val (P.take 4) = 2) (h1 : val (S.take 4) = 1) (hA : 60 + hvn P ≤ S.length) : hver P M S = (ver (P.drop 4) (hvk P S) ((S.drop 4).take (hvn P)) && ver (hvk P S) M (S.drop (60 + hvn P))) := by
  apply Bool.eq_iff_iff.2
  rw [Bool.and_eq_true]
  unfold hver
  rw [decide_eq_true_iff]
  exact ⟨fun h => ⟨h.2.2.2.2.1, h.2.2.2.2.2⟩, fun h => ⟨hP, h2, h1, hA, h.1, h.2⟩⟩
theorem capf {c b : Nat} (h : b < c) : ¬ c < b ∧ b ≤ c ∧ ((b : Int) ≤ (c : Int)) ∧ ¬ c = b := by omega
/-- nothing that stood has turned -/
structure Bq (q : Nat) (w w' : World) : Prop where
  bl : Below w.heap.size w w'
section
variable {q : Nat} {w w' w2 : World}
theorem Bq.below (h : Bq q w w') (hb : Below w'.heap.size w' w2) : Bq q w w2 := ⟨h.bl.trans (hb.mono h.bl.size)⟩
theorem Bq.drew (h : Bq q w w') : Bq q w w'.drew := h.below ((Below.refl _ _).drew)
theorem Bq.alloc (h : Bq q w w') (o : Obj) : Bq q w (w'.alloc o) := h.below ((Below.refl _ _).alloc (Nat.le_refl _) _)
theorem Bq.row (h : Bq q w w') {g : Nat}  (hg : w.heap.size ≤ g) (cs : Array Value) : Bq q w (w'.setRow g cs) := ⟨below_setRow h.bl hg cs⟩
end
attribute [local go_sem] Oper.semAt_some
set_option maxHeartbeats 16000000 in
theorem uVerify_any (A0 A1 A2 : Option Addr) (n0 c0 n1 c1 n2 c2 : Nat) (P M S : List Int) (w : World) (hp : n0 = P.length) (hpr : Rp w none A0 P) (hpb : Bs P) (hpl : P.length < 100000) (hpc : n0 ≤ c0)
    (hm : n1 = M.length) (hmr : Rp w none A1 M) (hmb : Bs M) (hml : M.length < 100000) (hs : n2 = S.length) (hsr : Rp w none A2 S) (hsb : Bs S) (hsl : S.length < 50000) (hsc : n2 ≤ c2) (hm1 : n1 ≤ c1) :
    Calls Tryd.prog 34 #[.slice A0 n0 c0, .slice A1 n1 c1, .slice A2 n2 c2] w fun e w' => e = .returned (.bool (hver P M S)) ∧ Below w.heap.size w w' := by
  by_cases h60 : ¬ n0 = 60
  · have hn : ¬ ((n0 : Nat) : Int) = 60 := by omega
    have hb : (((n0 : Nat) : Int) != 60) = true := by rw [bne_iff_ne]; omega
    have HNO : Hid (hver P M S = false) := hver_wide (by omega)
    rw [HNO.out]
    clear HNO hp hpr hpb hpl hpc hm hmr hmb hml hs hsr hsb hsl hsc h60 hm1
    go_enter Tryd.func34, Tryd.ntmps34
    go_wp2_with fail
    go_ret
    exact ⟨rfl, Below.refl _ _⟩
  have h60' : n0 = 60 := Decidable.not_not.1 h60
  subst h60'
  have hP : P.length = 60 := hp.symm
  clear h60
  by_cases h4 : n2 < 4
  · have hn : ((n2 : Nat) : Int) < 4 := by omega
    have hb : decide (((n2 : Nat) : Int) < 4) = true := decide_eq_true hn
    have HNO : Hid (hver P M S = false) := hver_no fun hv => by have := hv.2.2.2.1; omega
    rw [HNO.out]
    clear HNO hp hpr hpb hpl hpc hm hmr hmb hml hs hsr hsb hsl hsc h4 hm1
    go_enter Tryd.func34, Tryd.ntmps34
    go_wp2_with fail
    go_ret
    exact ⟨rfl, Below.refl _ _⟩
  have hn4 : ¬ ((n2 : Nat) : Int) < 4 := by omega
  have hd4 : decide (((n2 : Nat) : Int) < 4) = false := decide_eq_false hn4
  obtain ⟨pb, po, rfl, hpb2, hprng⟩ := rp_plain hpr (by omega)
  obtain ⟨sb, so, rfl, hsb2, hsrng⟩ := rp_plain hsr (by omega)
  obtain ⟨v2, hv2⟩ : ∃ v2, v2 = val (P.take 4) := ⟨_, rfl⟩
  obtain ⟨v1, hv1⟩ : ∃ v1, v1 = val (S.take 4) := ⟨_, rfl⟩
  have CV2 : Hid (∀ c9 w1, Below w.heap.size w w1 → Calls Tryd.prog 54 #[.slice (some ⟨pb, po, none⟩) 4 c9] w1 fun e w' => e = .returned (.int .u64 v2) ∧ w1 = w') := fun c9 w1 hb => by
    have := Value_any (some ⟨pb, po, none⟩) c9 (P.take 4) w1 ((hpr.belowN hb).take 4) (hpb.take 4) (by rw [List.length_take]; omega)
    rw [List.length_take, Nat.min_eq_left (by omega)] at this
    rw [hv2]; exact this
  have CV1 : Hid (∀ c9 w1, Below w.heap.size w w1 → Calls Tryd.prog 54 #[.slice (some ⟨sb, so, none⟩) 4 c9] w1 fun e w' => e = .returned (.int .u64 v1) ∧ w1 = w') := fun c9 w1 hb => by
    have := Value_any (some ⟨sb, so, none⟩) c9 (S.take 4) w1 ((hsr.belowN hb).take 4) (hsb.take 4) (by rw [List.length_take]; omega)
    rw [List.length_take, Nat.min_eq_left (by omega)] at this
    rw [hv1]; exact this
  obtain ⟨x, hx⟩ : ∃ x, x = vh (P.drop 4) := ⟨_, rfl⟩
  obtain ⟨y, hy⟩ : ∃ y, y = vk (P.drop 4) := ⟨_, rfl⟩
  have hxr : 0 ≤ x ∧ x < 4294967296 := by
    have := val_bound ((P.drop 4).take 4) ((hpb.drop 4).take 4)
    rw [List.length_take, List.length_drop, Nat.min_eq_left (by omega)] at this
    rw [hx]; exact ⟨this.1, this.2⟩
  have hyr : 0 ≤ y ∧ y < 4294967296 := by
    have := val_bound (((P.drop 4).drop 4).take 4) (((hpb.drop 4).drop 4).take 4)
    rw [List.length_take, List.length_drop, List.length_drop, Nat.min_eq_left (by omega)] at this
    rw [hy]; exact ⟨this.1, this.2⟩
  have CVx : Hid (∀ c9 w1, Below w.heap.size w w1 → Calls Tryd.prog 54 #[.slice (some ⟨pb, po + 4, none⟩) 4 c9] w1 fun e w' => e = .returned (.int .u64 x) ∧ w1 = w') := fun c9 w1 hb => by
    have := Value_any (some ⟨pb, po + 4, none⟩) c9 ((P.drop 4).take 4) w1 (rp_rng (rng_part (rng_below hprng hpb2 hb) 4 4)) ((hpb.drop 4).take 4) (by rw [List.length_take]; omega)
    rw [List.length_take, List.length_drop, Nat.min_eq_left (by omega)] at this
    rw [hx]; exact this
  have CVy : Hid (∀ c9 w1, Below w.heap.size w w1 → Calls Tryd.prog 54 #[.slice (some ⟨pb, po + 8, none⟩) 4 c9] w1 fun e w' => e = .returned (.int .u64 y) ∧ w1 = w') := fun c9 w1 hb => by
    have := Value_any (some ⟨pb, po + 8, none⟩) c9 ((P.drop 8).take 4) w1 (rp_rng (rng_part (rng_below hprng hpb2 hb) 8 4)) ((hpb.drop 8).take 4) (by rw [List.length_take]; omega)
    rw [List.length_take, List.length_drop, Nat.min_eq_left (by omega)] at this
    rw [hy]; unfold vk; rw [List.drop_drop]; exact this
  have k04 := capf (c := c0) (b := 4) (by omega)
  have k08 := capf (c := c0) (b := 8) (by omega)
  have k012 := capf (c := c0) (b := 12) (by omega)
  obtain ⟨k04a, k04b, k04c, k04d⟩ := k04
  obtain ⟨k08a, k08b, k08c, k08d⟩ := k08
  obtain ⟨k012a, k012b, k012c, k012d⟩ := k012
  have k24a : ¬ c2 < 4 := by omega
  have k24b : 4 ≤ c2 := by omega
  have k24c : (4 : Int) ≤ (c2 : Int) := by omega
  have HP := hid hP; have HPC := hid hpc; have HSC := hid hsc; have HS := hid hs; have HPR := hid hprng; have HSR := hid hsrng; have HPB := hid hpb; have HSB := hid hsb; have HMB := hid hmb; have HM := hid hm; have HMR := hid hmr; have HM1 := hid hm1
  have HV1 := hid hv1; have HV2 := hid hv2; have HX := hid hx; have HY := hid hy
  have HML := hid hml; have HSL := hid hsl
  obtain ⟨xa, xb⟩ := hxr
  obtain ⟨ya, yb⟩ := hyr
  have GT : Hid (Bq 0 w w) := ⟨Below.refl _ _⟩
  clear hp hpr hpb hpl hpc hm hmr hmb hml hs hsr hsb hsl hsc hm1 hprng hsrng hP hv1 hv2 hx hy h4
  by_cases h2 : ¬ v2 = 2
  · have hb : (v2 != 2) = true := by rw [bne_iff_ne]; exact h2
    have HNO : Hid (hver P M S = false) := hver_no fun hv => h2 (by rw [HV2.out]; exact hv.2.1)
    rw [HNO.out]
    clear HNO
    go_enter Tryd.func34, Tryd.ntmps34
    go_wp2_with (first
      | (go_at_call 54; (with_reducible refine (CV2.out _ _ GT.out.bl).mono ?_); rintro e wq ⟨rfl, rfl⟩))
    go_ret
    exact ⟨rfl, Below.refl _ _⟩
  have h2' : v2 = 2 := Decidable.not_not.1 h2
  subst h2'
  clear h2
  by_cases h1 : ¬ v1 = 1
  · have hb : (v1 != 1) = true := by rw [bne_iff_ne]; exact h1
    have HNO : Hid (hver P M S = false) := hver_no fun hv => h1 (by rw [HV1.out]; exact hv.2.2.1)
    rw [HNO.out]
    clear HNO
    go_enter Tryd.func34, Tryd.ntmps34
    go_wp2_with (first
      | (go_at_call 54; (with_reducible refine (CV2.out _ _ GT.out.bl).mono ?_); rintro e wq ⟨rfl, rfl⟩)
      | (go_at_call 54; refine (CV1.out _ _ GT.out.bl).mono ?_; rintro e wq ⟨rfl, rfl⟩))
    go_ret
    exact ⟨rfl, Below.refl _ _⟩
  have h1' : v1 = 1 := Decidable.not_not.1 h1
  subst h1'
  clear h1
  go_enter Tryd.func34, Tryd.ntmps34
  go_wp2_with (first
    | (go_at_call 54; (with_reducible refine (CV2.out _ _ GT.out.bl).mono ?_); rintro e wq ⟨rfl, rfl⟩)
    | (go_at_call 54; refine (CV1.out _ _ GT.out.bl).mono ?_; rintro e wq ⟨rfl, rfl⟩))
  refine wp_region_held (S := fun w' => Hid (Bq 0 w w')) (by kernel_rfl) ?_
  change wpAnyH _ _ _ _ _ _ _ _ w.drew
  have Gx0 : Hid (Bq 0 w w.drew) := GT.out.drew
  have HBx0 : Below w.heap.size w w.drew := (Below.refl _ _).drew
  clear HBx0
  generalize w.drew = x0 at Gx0  ⊢
  refine wpAnyH_take (i := 0) (oi := { dst := some 31, op := _, type := _, pos := _, after := _, guard := _ }) (v := ?_) rfl (by kernel_rfl) (by kernel_rfl) (by kernel_rfl) (fun _ _ _ h => h) (Or.inl ⟨by kernel_rfl, ?_⟩) (by assumption) ?_
  rotate_left
  · (intro w hSw; go_simp; try with_reducible rfl)
  try simp only [Act.put, List.setIfInBounds_toArray, List.set_cons_zero, List.set_cons_succ]
  refine wpAnyH_take (i := 1) (oi := { dst := some 32, op := _, type := _, pos := _, after := _, guard := _ }) (v := .slice (some ⟨pb, po + 4, none⟩) 4 (c0 - 4)) rfl (by kernel_rfl) (by kernel_rfl) (by kernel_rfl) (fun _ _ _ h => h) (Or.inl ⟨by kernel_rfl, ?_⟩) (by assumption) ?_
  · (intro w hSw; have kn8 : ¬ ((c0 : Int) < 8) := (Int.not_lt.2 k08c); have kn12 : ¬ ((c0 : Int) < 12) := (Int.not_lt.2 k012c); go_simp; try with_reducible rfl)
  try simp only [Act.put, List.setIfInBounds_toArray, List.set_cons_zero, List.set_cons_succ]
  refine wpAnyH_take (i := 3) (oi := { dst := some 34, op := _, type := _, pos := _, after := _, guard := _ }) (v := ?_) rfl (by kernel_rfl) (by kernel_rfl) (by kernel_rfl) (fun _ _ _ h => h) (Or.inl ⟨by kernel_rfl, ?_⟩) (by assumption) ?_
  rotate_left
  · (intro w hSw; go_simp; try with_reducible rfl)
  try simp only [Act.put, List.setIfInBounds_toArray, List.set_cons_zero, List.set_cons_succ]
  refine wpAnyH_take (i := 4) (oi := { dst := some 35, op := _, type := _, pos := _, after := _, guard := _ }) (v := .slice (some ⟨pb, po + 8, none⟩) 4 (c0 - 8)) rfl (by kernel_rfl) (by kernel_rfl) (by kernel_rfl) (fun _ _ _ h => h) (Or.inl ⟨by kernel_rfl, ?_⟩) (by assumption) ?_
  · (intro w hSw; have kn8 : ¬ ((c0 : Int) < 8) := (Int.not_lt.2 k08c); have kn12 : ¬ ((c0 : Int) < 12) := (Int.not_lt.2 k012c); go_simp; try with_reducible rfl)
  try simp only [Act.put, List.setIfInBounds_toArray, List.set_cons_zero, List.set_cons_succ]
  refine wpAnyH_ready (rs := [2]) (by kernel_rfl) (by simp) ?_
  refine (AllReadyH.cons (o := { dst := some 33, op := _, type := _, pos := _, after := _, guard := _ }) rfl (fun Qc hQc => ?_) AllReadyH.nil)
  go_simp
  go_at_call 54; (with_reducible refine (CVx.out _ _ Gx0.out.bl).mono ?_); rintro e wq ⟨rfl, rfl⟩
  go_wp2_with fail
  refine hQc.out _ _ Gx0 (fun hHeld => ?_)
  clear hQc Qc
  try simp only [Act.put, List.setIfInBounds_toArray, List.set_cons_zero, List.set_cons_succ]
  refine wpAnyH_ready (rs := [5]) (by kernel_rfl) (by simp) ?_
  refine (AllReadyH.cons (o := { dst := some 36, op := _, type := _, pos := _, after := _, guard := _ }) rfl (fun Qc hQc => ?_) AllReadyH.nil)
  go_simp
  go_at_call 54; refine (CVy.out _ _ Gx0.out.bl).mono ?_; rintro e wq ⟨rfl, rfl⟩
  go_wp2_with fail
  refine hQc.out _ _ Gx0 (fun hHeld => ?_)
  clear hQc Qc
  try simp only [Act.put, List.setIfInBounds_toArray, List.set_cons_zero, List.set_cons_succ]
  refine wpAnyH_take (i := 6) (oi := { dst := some 7, op := _, type := _, pos := _, after := _, guard := _ }) (v := ?_) rfl (by kernel_rfl) (by kernel_rfl) (by kernel_rfl) (fun _ _ _ h => h) (Or.inl ⟨by kernel_rfl, ?_⟩) (by assumption) ?_
  rotate_left
  · (intro w hSw; go_simp; try with_reducible rfl)
  try simp only [Act.put, List.setIfInBounds_toArray, List.set_cons_zero, List.set_cons_succ]
  refine wpAnyH_take (i := 7) (oi := { dst := some 8, op := _, type := _, pos := _, after := _, guard := _ }) (v := ?_) rfl (by kernel_rfl) (by kernel_rfl) (by kernel_rfl) (fun _ _ _ h => h) (Or.inl ⟨by kernel_rfl, ?_⟩) (by assumption) ?_
  rotate_left
  · (intro w hSw; go_simp; try with_reducible rfl)
  try simp only [Act.put, List.setIfInBounds_toArray, List.set_cons_zero, List.set_cons_succ]
  refine wpAnyH_done (by kernel_rfl) ?_ _
  try simp only [Act.put, List.setIfInBounds_toArray, List.set_cons_zero, List.set_cons_succ]
  have G1 := hid Gx0.out
  generalize x0 = w1 at G1 ⊢
  clear Gx0 GT CVx CVy CV1 CV2
  by_cases hx4 : 4 < x
  · have hd1 : decide (4 < x) = true := decide_eq_true hx4
    have HNO : Hid (hver P M S = false) := hver_no fun hv => by have h1 := (tkeys_kd (ver_key hv.2.2.2.2.1)).1; rw [← HX.out] at h1; omega
    go_wp2_with fail
    go_ret
    exact ⟨congrArg (fun b => Ending.returned (Value.bool b)) HNO.out.symm, G1.out.bl⟩
  have hd1 : decide (4 < x) = false := decide_eq_false hx4
  by_cases hy4 : 4 < y
  · have hd2 : decide (4 < y) = true := decide_eq_true hy4
    have HNO : Hid (hver P M S = false) := hver_no fun hv => by have h1 := (tkeys_kd (ver_key hv.2.2.2.2.1)).2; rw [← HY.out] at h1; unfold Kd at h1; omega
    go_wp2_with fail
    go_ret
    exact ⟨congrArg (fun b => Ending.returned (Value.bool b)) HNO.out.symm, G1.out.bl⟩
  have hd2 : decide (4 < y) = false := decide_eq_false hy4
  have hwx : IntKind.i64.wrap x = x := IntWalk.i64_in _ (by omega)
  have hwy : IntKind.i64.wrap y = y := IntWalk.i64_in _ (by omega)
  have CSZ := hid (tSize_any x y)
  have HN : Hid (hvn P = tsize x y) := by show _ = _; unfold hvn; rw [← HX.out, ← HY.out]
  have HKZ : Hid (tsize x y = 0 → tkeys x y = 0) := fun h => by
    by_cases hz : tkeys x y = 0
    · exact hz
    · obtain ⟨a, b⟩ := tkeys_kd hz
      rw [tsize_ok a b] at h; omega
  have HNL := hid (tsize_lim (h := x) (k := y))
  generalize tsize x y = N at CSZ HN HKZ HNL
  by_cases hN0 : N = 0
  · have hz : tkeys x y = 0 := HKZ.out hN0
    have HNO : Hid (hver P M S = false) := hver_no fun hv => by have h1 := ver_key hv.2.2.2.2.1; rw [← HX.out, ← HY.out] at h1; exact h1 hz
    subst hN0
    go_wp2_with (go_at_call 56; refine (CSZ.out _).mono ?_; rintro e wq ⟨rfl, rfl⟩)
    go_ret
    exact ⟨congrArg (fun b => Ending.returned (Value.bool b)) HNO.out.symm, G1.out.bl⟩
  have hNz : ¬ ((N : Nat) : Int) = 0 := by omega
  have hNb : (((N : Nat) : Int) == 0) = false := by rw [beq_eq_false_iff_ne]; exact hNz
  have hNl := HNL.out
  have hw60 : IntKind.i64.wrap (60 + (N : Int)) = 60 + (N : Int) := IntWalk.i64_in _ (by omega)
  have hw4 : IntKind.i64.wrap (4 + (N : Int)) = 4 + (N : Int) := IntWalk.i64_in _ (by omega)
  by_cases hsz : ((n2 : Nat) : Int) < 60 + (N : Int)
  · have hd5 : decide (((n2 : Nat) : Int) < 60 + (N : Int)) = true := decide_eq_true hsz
    have HNO : Hid (hver P M S = false) := hver_no fun hv => by have h1 := hv.2.2.2.1; rw [HN.out, ← HS.out] at h1; omega
    go_wp2_with (go_at_call 56; refine (CSZ.out _).mono ?_; rintro e wq ⟨rfl, rfl⟩)
    go_ret
    exact ⟨congrArg (fun b => Ending.returned (Value.bool b)) HNO.out.symm, G1.out.bl⟩
  have hd5 : decide (((n2 : Nat) : Int) < 60 + (N : Int)) = false := decide_eq_false hsz
  have HSN : Hid (60 + N ≤ n2) := by show _ ≤ _; omega
  have HFIN := hid (hver_def (M := M) HP.out HV2.out.symm HV1.out.symm (by rw [HN.out, ← HS.out]; exact HSN.out))
  obtain ⟨T, hT⟩ : ∃ T, T = P.drop 4 := ⟨_, rfl⟩
  obtain ⟨KY, hKY⟩ : ∃ KY, KY = hvk P S := ⟨_, rfl⟩
  have hKYe : KY = (S.drop (4 + N)).take 56 := by rw [hKY]; unfold hvk; rw [HN.out]
  rw [HN.out, ← hT, ← hKY] at HFIN
  have hTl : T.length = 56 := by rw [hT, List.length_drop, HP.out]
  have hKl : KY.length = 56 := by rw [hKYe, List.length_take, List.length_drop, ← HS.out]; have := HSN.out; omega
  have hHl : ((S.drop 4).take N).length = N := by rw [List.length_take, List.length_drop, ← HS.out]; have := HSN.out; omega
  have hLl : (S.drop (60 + N)).length = n2 - (60 + N) := by rw [List.length_drop, ← HS.out]
  have RT : Hid (∀ w2, Below w.heap.size w w2 → Rp w2 none (some ⟨pb, po + 4, none⟩) T) := fun w2 hb => by
    have := rp_rng (rng_part (rng_below HPR.out hpb2 hb) 4 56)
    rw [List.take_of_length_le (by rw [List.length_drop, HP.out]; omega), ← hT] at this
    exact this
  have RK : Hid (∀ w2, Below w.heap.size w w2 → Rp w2 none (some ⟨sb, so + (4 + N), none⟩) KY) := fun w2 hb => by
    have := rp_rng (rng_part (rng_below HSR.out hsb2 hb) (4 + N) 56)
    rw [← hKYe] at this
    exact this
  have RH : Hid (∀ w2, Below w.heap.size w w2 → Rp w2 none (some ⟨sb, so + 4, none⟩) ((S.drop 4).take N)) := fun w2 hb => rp_rng (rng_part (rng_below HSR.out hsb2 hb) 4 N)
  have RL : Hid (∀ w2, Below w.heap.size w w2 → Rp w2 none (if c2 = 60 + N then some ⟨sb, so, none⟩ else some ⟨sb, so + (60 + N), none⟩) (S.drop (60 + N))) := fun w2 hb => by
    have := Rp.cut (rp_rng (rng_below HSR.out hsb2 hb)) (k := 60 + N) (c := c2) (by rw [← HS.out]; exact HSC.out)
    simp only [Option.map_some, Addr.add_mid] at this
    exact this
  have hTb : Bs T := by rw [hT]; exact HPB.out.drop 4
  have hKb : Bs KY := by rw [hKYe]; exact (HSB.out.drop _).take _
  have CA := hid (fun (g : Nat) w2 (hb : Below w.heap.size w w2) (hN : N ≤ g) => tVerify_any (some ⟨pb, po + 4, none⟩) (some ⟨sb, so + (4 + N), none⟩) (some ⟨sb, so + 4, none⟩) 56 (c0 - 4) 56 (c2 - (4 + N)) N g T KY ((S.drop 4).take N) w2 hTl.symm (RT.out _ hb) hTb (by omega) (by have := HPC.out; omega) hKl.symm (RK.out _ hb) hKb (by omega) hHl.symm (RH.out _ hb) ((HSB.out.drop _).take _) (by omega) hN)
  have CB := hid (fun w2 (hb : Below w.heap.size w w2) => tVerify_any (some ⟨sb, so + (4 + N), none⟩) A1 (if c2 = 60 + N then some ⟨sb, so, none⟩ else some ⟨sb, so + (60 + N), none⟩) 56 (c2 - (4 + N)) n1 c1 (n2 - (60 + N)) (c2 - (60 + N)) KY M (S.drop (60 + N)) w2 hKl.symm (RK.out _ hb) hKb (by omega) (by have := HSN.out; have := HSC.out; omega) HM.out (HMR.out.belowN hb) HMB.out HML.out hLl.symm (RL.out _ hb) (HSB.out.drop _) (by have := HSL.out; rw [List.length_drop]; omega) (by have := HSC.out; omega))
  generalize hq1 : ver T KY ((S.drop 4).take N) = q1 at CA HFIN
  generalize ver KY M (S.drop (60 + N)) = q2 at CB HFIN
  obtain ⟨A9, hA9⟩ : ∃ A9, A9 = (if c2 = 60 + N then (some ⟨sb, so, none⟩ : Option Addr) else some ⟨sb, so + (60 + N), none⟩) := ⟨_, rfl⟩
  rw [← hA9] at CB
  have HA9 := hid hA9
  clear hq1 hA9 hT hKY hKYe hTl hKl hHl hLl RT RK RH RL hTb hKb HKZ
  go_upto_region 10 with (first
    | (go_at_call 56; refine (CSZ.out _).mono ?_; rintro e wq ⟨rfl, rfl⟩)
    | (refine cut_at rfl (.tmp 57) (.tmp 59) (.tmp 61) rfl sb so n2 c2 (4 + N) (60 + N) 56 (4 + (N : Int)) (60 + (N : Int)) rfl rfl rfl (by omega) (by omega) (by omega) (by have := HSN.out; have := HSC.out; omega) (by have := HSN.out; have := HSC.out; omega) ?_))
  have c56 : 60 ≤ c0 := HPC.out
  have HNC : Hid (60 + N ≤ c2) := Nat.le_trans HSN.out HSC.out
  cases q1 with
  | false =>
    refine wp_region_held (S := fun w' => Hid (Bq 0 w w')) (by kernel_rfl) ?_
    change wpAnyH _ _ _ _ _ _ _ _ w1.drew
    have Gx0 : Hid (Bq 0 w w1.drew) := G1.out.drew
    have HBx0 : Below w1.heap.size w1 w1.drew := (Below.refl _ _).drew
    clear HBx0
    generalize w1.drew = x0 at Gx0  ⊢
    refine wpAnyH_take (i := 0) (oi := { dst := some 63, op := _, type := _, pos := _, after := _, guard := _ }) (v := ?_) rfl (by kernel_rfl) (by kernel_rfl) (by kernel_rfl) (fun _ _ _ h => h) (Or.inl ⟨by kernel_rfl, ?_⟩) (by assumption) ?_
    rotate_left
    · (intro w hSw; go_simp; try with_reducible rfl)
    try simp only [Act.put, List.setIfInBounds_toArray, List.set_cons_zero, List.set_cons_succ]
    refine wpAnyH_take (i := 1) (oi := { dst := some 64, op := _, type := _, pos := _, after := _, guard := _ }) (v := .slice (some ⟨pb, po + 4, none⟩) 56 (c0 - 4)) rfl (by kernel_rfl) (by kernel_rfl) (by kernel_rfl) (fun _ _ _ h => h) (Or.inl ⟨by kernel_rfl, ?_⟩) (by assumption) ?_
    · (intro w hSw; have c60 : (60 : Int) ≤ (c0 : Int) := (Int.ofNat_le.2 c56); have c60b : ¬ c0 < 60 := (Nat.not_lt.2 c56); go_simp; try with_reducible rfl)
    try simp only [Act.put, List.setIfInBounds_toArray, List.set_cons_zero, List.set_cons_succ]
    refine wpAnyH_take (i := 2) (oi := { dst := some 65, op := _, type := _, pos := _, after := _, guard := _ }) (v := ?_) rfl (by kernel_rfl) (by kernel_rfl) (by kernel_rfl) (fun _ _ _ h => h) (Or.inl ⟨by kernel_rfl, ?_⟩) (by assumption) ?_
    rotate_left
    · (intro w hSw; go_simp; try with_reducible rfl)
    try simp only [Act.put, List.setIfInBounds_toArray, List.set_cons_zero, List.set_cons_succ]
    refine wpAnyH_take (i := 3) (oi := { dst := some 66, op := _, type := _, pos := _, after := _, guard := _ }) (v := ?_) rfl (by kernel_rfl) (by kernel_rfl) (by kernel_rfl) (fun _ _ _ h => h) (Or.inl ⟨by kernel_rfl, ?_⟩) (by assumption) ?_
    rotate_left
    · (intro w hSw; go_simp; try with_reducible rfl)
    try simp only [Act.put, List.setIfInBounds_toArray, List.set_cons_zero, List.set_cons_succ]
    refine wpAnyH_take (i := 4) (oi := { dst := some 67, op := _, type := _, pos := _, after := _, guard := _ }) (v := ?_) rfl (by kernel_rfl) (by kernel_rfl) (by kernel_rfl) (fun _ _ _ h => h) (Or.inl ⟨by kernel_rfl, ?_⟩) (by assumption) ?_
    rotate_left
    · (intro w hSw; go_simp; try with_reducible rfl)
    try simp only [Act.put, List.setIfInBounds_toArray, List.set_cons_zero, List.set_cons_succ]
    refine wpAnyH_take (i := 5) (oi := { dst := some 68, op := _, type := _, pos := _, after := _, guard := _ }) (v := ?_) rfl (by kernel_rfl) (by kernel_rfl) (by kernel_rfl) (fun _ _ _ h => h) (Or.inl ⟨by kernel_rfl, ?_⟩) (by assumption) ?_
    rotate_left
    · (intro w hSw; go_simp; try with_reducible rfl)
    try simp only [Act.put, List.setIfInBounds_toArray, List.set_cons_zero, List.set_cons_succ]
    refine wpAnyH_take (i := 6) (oi := { dst := some 69, op := _, type := _, pos := _, after := _, guard := _ }) (v := .slice (some ⟨sb, so + 4, none⟩) N (c2 - 4)) rfl (by kernel_rfl) (by kernel_rfl) (by kernel_rfl) (fun _ _ _ h => h) (Or.inl ⟨by kernel_rfl, ?_⟩) (by assumption) ?_
    · (intro w hSw; have hcks : 4 + N ≤ c2 := (by have := HNC.out; omega); have hc24 : ¬ c2 = 4 := (by have := HNC.out; omega); go_simp; rw [if_pos ⟨by omega, by omega⟩, if_pos (by omega), show (4 + (N : Int)).toNat - 4 = N by omega])
    try simp only [Act.put, List.setIfInBounds_toArray, List.set_cons_zero, List.set_cons_succ]
    refine wpAnyH_ready (rs := [7]) (by kernel_rfl) (by simp) ?_
    refine (AllReadyH.cons (o := { dst := some 70, op := _, type := _, pos := _, after := _, guard := _ }) rfl (fun Qc hQc => ?_) AllReadyH.nil)
    go_simp
    go_at_call 17; (with_reducible refine (CA.out (c2 - 4) _ Gx0.out.bl (by have := HNC.out; omega)).mono ?_); rintro e x1 ⟨rfl, hbx1⟩
    have Gx1 := hid (Gx0.out.below hbx1)
    clear hbx1
    go_wp2_with fail
    refine hQc.out _ _ Gx1 (fun hHeld => ?_)
    clear hQc Qc Gx0
    try simp only [Act.put, List.setIfInBounds_toArray, List.set_cons_zero, List.set_cons_succ]
    refine wpAnyH_take (i := 8) (oi := { dst := some 71, op := _, type := _, pos := _, after := _, guard := _ }) (v := ?_) rfl (by kernel_rfl) (by kernel_rfl) (by kernel_rfl) (fun _ _ _ h => h) (Or.inl ⟨by kernel_rfl, ?_⟩) (by assumption) ?_
    rotate_left
    · (intro w hSw; go_simp; try with_reducible rfl)
    try simp only [Act.put, List.setIfInBounds_toArray, List.set_cons_zero, List.set_cons_succ]
    refine wpAnyH_take (i := 9) (oi := { dst := some 72, op := _, type := _, pos := _, after := _, guard := _ }) (v := undef) rfl (by kernel_rfl) (by kernel_rfl) (by kernel_rfl) (fun _ _ _ h => h) (Or.inr ⟨by rfl, rfl⟩) (by assumption) ?_
    try simp only [Act.put, List.setIfInBounds_toArray, List.set_cons_zero, List.set_cons_succ]
    refine wpAnyH_take (i := 10) (oi := { dst := some 73, op := _, type := _, pos := _, after := _, guard := _ }) (v := undef) rfl (by kernel_rfl) (by kernel_rfl) (by kernel_rfl) (fun _ _ _ h => h) (Or.inr ⟨by rfl, rfl⟩) (by assumption) ?_
    try simp only [Act.put, List.setIfInBounds_toArray, List.set_cons_zero, List.set_cons_succ]
    refine wpAnyH_take (i := 11) (oi := { dst := some 74, op := _, type := _, pos := _, after := _, guard := _ }) (v := undef) rfl (by kernel_rfl) (by kernel_rfl) (by kernel_rfl) (fun _ _ _ h => h) (Or.inr ⟨by rfl, rfl⟩) (by assumption) ?_
    try simp only [Act.put, List.setIfInBounds_toArray, List.set_cons_zero, List.set_cons_succ]
    refine wpAnyH_take (i := 12) (oi := { dst := some 75, op := _, type := _, pos := _, after := _, guard := _ }) (v := undef) rfl (by kernel_rfl) (by kernel_rfl) (by kernel_rfl) (fun _ _ _ h => h) (Or.inr ⟨by rfl, rfl⟩) (by assumption) ?_
    try simp only [Act.put, List.setIfInBounds_toArray, List.set_cons_zero, List.set_cons_succ]
    refine wpAnyH_take (i := 13) (oi := { dst := some 76, op := _, type := _, pos := _, after := _, guard := _ }) (v := undef) rfl (by kernel_rfl) (by kernel_rfl) (by kernel_rfl) (fun _ _ _ h => h) (Or.inr ⟨by rfl, rfl⟩) (by assumption) ?_
    try simp only [Act.put, List.setIfInBounds_toArray, List.set_cons_zero, List.set_cons_succ]
    refine wpAnyH_take (i := 14) (oi := { dst := some 77, op := _, type := _, pos := _, after := _, guard := _ }) (v := undef) rfl (by kernel_rfl) (by kernel_rfl) (by kernel_rfl) (fun _ _ _ h => h) (Or.inr ⟨by rfl, rfl⟩) (by assumption) ?_
    try simp only [Act.put, List.setIfInBounds_toArray, List.set_cons_zero, List.set_cons_succ]
    refine wpAnyH_take (i := 15) (oi := { dst := some 78, op := _, type := _, pos := _, after := _, guard := _ }) (v := undef) rfl (by kernel_rfl) (by kernel_rfl) (by kernel_rfl) (fun _ _ _ h => h) (Or.inr ⟨by rfl, rfl⟩) (by assumption) ?_
    try simp only [Act.put, List.setIfInBounds_toArray, List.set_cons_zero, List.set_cons_succ]
    refine wpAnyH_take (i := 16) (oi := { dst := some 79, op := _, type := _, pos := _, after := _, guard := _ }) (v := ?_) rfl (by kernel_rfl) (by kernel_rfl) (by kernel_rfl) (fun _ _ _ h => h) (Or.inl ⟨by kernel_rfl, ?_⟩) (by assumption) ?_
    rotate_left
    · (intro w hSw; go_simp; try with_reducible rfl)
    try simp only [Act.put, List.setIfInBounds_toArray, List.set_cons_zero, List.set_cons_succ]
    refine wpAnyH_take (i := 17) (oi := { dst := some 6, op := _, type := _, pos := _, after := _, guard := _ }) (v := ?_) rfl (by kernel_rfl) (by kernel_rfl) (by kernel_rfl) (fun _ _ _ h => h) (Or.inl ⟨by kernel_rfl, ?_⟩) (by assumption) ?_
    rotate_left
    · (intro w hSw; go_simp; try with_reducible rfl)
    try simp only [Act.put, List.setIfInBounds_toArray, List.set_cons_zero, List.set_cons_succ]
    refine wpAnyH_done (by kernel_rfl) ?_ _
    try simp only [Act.put, List.setIfInBounds_toArray, List.set_cons_zero, List.set_cons_succ]
    have GE := hid Gx1.out.bl
    go_wp2_with fail
    go_ret
    exact ⟨congrArg (fun b => Ending.returned (Value.bool b)) HFIN.out.symm, GE.out⟩
  
  | true =>
    refine wp_region_held (S := fun w' => Hid (Bq 0 w w')) (by kernel_rfl) ?_
    change wpAnyH _ _ _ _ _ _ _ _ w1.drew
    have Gx0 : Hid (Bq 0 w w1.drew) := G1.out.drew
    have HBx0 : Below w1.heap.size w1 w1.drew := (Below.refl _ _).drew
    clear HBx0
    generalize w1.drew = x0 at Gx0  ⊢
    refine wpAnyH_take (i := 0) (oi := { dst := some 63, op := _, type := _, pos := _, after := _, guard := _ }) (v := ?_) rfl (by kernel_rfl) (by kernel_rfl) (by kernel_rfl) (fun _ _ _ h => h) (Or.inl ⟨by kernel_rfl, ?_⟩) (by assumption) ?_
    rotate_left
    · (intro w hSw; go_simp; try with_reducible rfl)
    try simp only [Act.put, List.setIfInBounds_toArray, List.set_cons_zero, List.set_cons_succ]
    refine wpAnyH_take (i := 1) (oi := { dst := some 64, op := _, type := _, pos := _, after := _, guard := _ }) (v := .slice (some ⟨pb, po + 4, none⟩) 56 (c0 - 4)) rfl (by kernel_rfl) (by kernel_rfl) (by kernel_rfl) (fun _ _ _ h => h) (Or.inl ⟨by kernel_rfl, ?_⟩) (by assumption) ?_
    · (intro w hSw; have c60 : (60 : Int) ≤ (c0 : Int) := (Int.ofNat_le.2 c56); have c60b : ¬ c0 < 60 := (Nat.not_lt.2 c56); go_simp; try with_reducible rfl)
    try simp only [Act.put, List.setIfInBounds_toArray, List.set_cons_zero, List.set_cons_succ]
    refine wpAnyH_take (i := 2) (oi := { dst := some 65, op := _, type := _, pos := _, after := _, guard := _ }) (v := ?_) rfl (by kernel_rfl) (by kernel_rfl) (by kernel_rfl) (fun _ _ _ h => h) (Or.inl ⟨by kernel_rfl, ?_⟩) (by assumption) ?_
    rotate_left
    · (intro w hSw; go_simp; try with_reducible rfl)
    try simp only [Act.put, List.setIfInBounds_toArray, List.set_cons_zero, List.set_cons_succ]
    refine wpAnyH_take (i := 3) (oi := { dst := some 66, op := _, type := _, pos := _, after := _, guard := _ }) (v := ?_) rfl (by kernel_rfl) (by kernel_rfl) (by kernel_rfl) (fun _ _ _ h => h) (Or.inl ⟨by kernel_rfl, ?_⟩) (by assumption) ?_
    rotate_left
    · (intro w hSw; go_simp; try with_reducible rfl)
    try simp only [Act.put, List.setIfInBounds_toArray, List.set_cons_zero, List.set_cons_succ]
    refine wpAnyH_take (i := 4) (oi := { dst := some 67, op := _, type := _, pos := _, after := _, guard := _ }) (v := ?_) rfl (by kernel_rfl) (by kernel_rfl) (by kernel_rfl) (fun _ _ _ h => h) (Or.inl ⟨by kernel_rfl, ?_⟩) (by assumption) ?_
    rotate_left
    · (intro w hSw; go_simp; try with_reducible rfl)
    try simp only [Act.put, List.setIfInBounds_toArray, List.set_cons_zero, List.set_cons_succ]
    refine wpAnyH_take (i := 5) (oi := { dst := some 68, op := _, type := _, pos := _, after := _, guard := _ }) (v := ?_) rfl (by kernel_rfl) (by kernel_rfl) (by kernel_rfl) (fun _ _ _ h => h) (Or.inl ⟨by kernel_rfl, ?_⟩) (by assumption) ?_
    rotate_left
    · (intro w hSw; go_simp; try with_reducible rfl)
    try simp only [Act.put, List.setIfInBounds_toArray, List.set_cons_zero, List.set_cons_succ]
    refine wpAnyH_take (i := 6) (oi := { dst := some 69, op := _, type := _, pos := _, after := _, guard := _ }) (v := .slice (some ⟨sb, so + 4, none⟩) N (c2 - 4)) rfl (by kernel_rfl) (by kernel_rfl) (by kernel_rfl) (fun _ _ _ h => h) (Or.inl ⟨by kernel_rfl, ?_⟩) (by assumption) ?_
    · (intro w hSw; have hcks : 4 + N ≤ c2 := (by have := HNC.out; omega); have hc24 : ¬ c2 = 4 := (by have := HNC.out; omega); go_simp; rw [if_pos ⟨by omega, by omega⟩, if_pos (by omega), show (4 + (N : Int)).toNat - 4 = N by omega])
    try simp only [Act.put, List.setIfInBounds_toArray, List.set_cons_zero, List.set_cons_succ]
    refine wpAnyH_ready (rs := [7]) (by kernel_rfl) (by simp) ?_
    refine (AllReadyH.cons (o := { dst := some 70, op := _, type := _, pos := _, after := _, guard := _ }) rfl (fun Qc hQc => ?_) AllReadyH.nil)
    go_simp
    go_at_call 17; (with_reducible refine (CA.out (c2 - 4) _ Gx0.out.bl (by have := HNC.out; omega)).mono ?_); rintro e x1 ⟨rfl, hbx1⟩
    have Gx1 := hid (Gx0.out.below hbx1)
    clear hbx1
    go_wp2_with fail
    refine hQc.out _ _ Gx1 (fun hHeld => ?_)
    clear hQc Qc Gx0
    try simp only [Act.put, List.setIfInBounds_toArray, List.set_cons_zero, List.set_cons_succ]
    refine wpAnyH_take (i := 8) (oi := { dst := some 71, op := _, type := _, pos := _, after := _, guard := _ }) (v := ?_) rfl (by kernel_rfl) (by kernel_rfl) (by kernel_rfl) (fun _ _ _ h => h) (Or.inl ⟨by kernel_rfl, ?_⟩) (by assumption) ?_
    rotate_left
    · (intro w hSw; go_simp; try with_reducible rfl)
    try simp only [Act.put, List.setIfInBounds_toArray, List.set_cons_zero, List.set_cons_succ]
    refine wpAnyH_take (i := 9) (oi := { dst := some 72, op := _, type := _, pos := _, after := _, guard := _ }) (v := ?_) rfl (by kernel_rfl) (by kernel_rfl) (by kernel_rfl) (fun _ _ _ h => h) (Or.inl ⟨by kernel_rfl, ?_⟩) (by assumption) ?_
    rotate_left
    · (intro w hSw; go_simp; try with_reducible rfl)
    try simp only [Act.put, List.setIfInBounds_toArray, List.set_cons_zero, List.set_cons_succ]
    refine wpAnyH_take (i := 10) (oi := { dst := some 73, op := _, type := _, pos := _, after := _, guard := _ }) (v := ?_) rfl (by kernel_rfl) (by kernel_rfl) (by kernel_rfl) (fun _ _ _ h => h) (Or.inl ⟨by kernel_rfl, ?_⟩) (by assumption) ?_
    rotate_left
    · (intro w hSw; go_simp; try with_reducible rfl)
    try simp only [Act.put, List.setIfInBounds_toArray, List.set_cons_zero, List.set_cons_succ]
    refine wpAnyH_take (i := 11) (oi := { dst := some 74, op := _, type := _, pos := _, after := _, guard := _ }) (v := ?_) rfl (by kernel_rfl) (by kernel_rfl) (by kernel_rfl) (fun _ _ _ h => h) (Or.inl ⟨by kernel_rfl, ?_⟩) (by assumption) ?_
    rotate_left
    · (intro w hSw; go_simp; try with_reducible rfl)
    try simp only [Act.put, List.setIfInBounds_toArray, List.set_cons_zero, List.set_cons_succ]
    refine wpAnyH_take (i := 12) (oi := { dst := some 75, op := _, type := _, pos := _, after := _, guard := _ }) (v := ?_) rfl (by kernel_rfl) (by kernel_rfl) (by kernel_rfl) (fun _ _ _ h => h) (Or.inl ⟨by kernel_rfl, ?_⟩) (by assumption) ?_
    rotate_left
    · (intro w hSw; go_simp; try with_reducible rfl)
    try simp only [Act.put, List.setIfInBounds_toArray, List.set_cons_zero, List.set_cons_succ]
    refine wpAnyH_take (i := 13) (oi := { dst := some 76, op := _, type := _, pos := _, after := _, guard := _ }) (v := ?_) rfl (by kernel_rfl) (by kernel_rfl) (by kernel_rfl) (fun _ _ _ h => h) (Or.inl ⟨by kernel_rfl, ?_⟩) (by assumption) ?_
    rotate_left
    · (intro w hSw; go_simp; try with_reducible rfl)
    try simp only [Act.put, List.setIfInBounds_toArray, List.set_cons_zero, List.set_cons_succ]
    refine wpAnyH_take (i := 14) (oi := { dst := some 77, op := _, type := _, pos := _, after := _, guard := _ }) (v := .slice A9 (n2 - (60 + N)) (c2 - (60 + N))) rfl (by kernel_rfl) (by kernel_rfl) (by kernel_rfl) (fun _ _ _ h => h) (Or.inl ⟨by kernel_rfl, ?_⟩) (by assumption) ?_
    · (intro w hSw; have hcl : 60 + N ≤ n2 := HSN.out; have hcm : n2 ≤ c2 := HSC.out; go_simp; (rw [HA9.out]; have e60 : (60 + (N : Int)).toNat = 60 + N := (by omega); have p60 : (0 : Int) ≤ 60 + (N : Int) := (by omega); simp_all))
    try simp only [Act.put, List.setIfInBounds_toArray, List.set_cons_zero, List.set_cons_succ]
    refine wpAnyH_ready (rs := [15]) (by kernel_rfl) (by simp) ?_
    refine (AllReadyH.cons (o := { dst := some 78, op := _, type := _, pos := _, after := _, guard := _ }) rfl (fun Qc hQc => ?_) AllReadyH.nil)
    go_simp
    go_at_call 17; refine (CB.out _ Gx1.out.bl).mono ?_; rintro e x2 ⟨rfl, hbx2⟩
    have Gx2 := hid (Gx1.out.below hbx2)
    clear hbx2
    go_wp2_with fail
    refine hQc.out _ _ Gx2 (fun hHeld => ?_)
    clear hQc Qc Gx1
    try simp only [Act.put, List.setIfInBounds_toArray, List.set_cons_zero, List.set_cons_succ]
    refine wpAnyH_take (i := 16) (oi := { dst := some 79, op := _, type := _, pos := _, after := _, guard := _ }) (v := ?_) rfl (by kernel_rfl) (by kernel_rfl) (by kernel_rfl) (fun _ _ _ h => h) (Or.inl ⟨by kernel_rfl, ?_⟩) (by assumption) ?_
    rotate_left
    · (intro w hSw; go_simp; try with_reducible rfl)
    try simp only [Act.put, List.setIfInBounds_toArray, List.set_cons_zero, List.set_cons_succ]
    refine wpAnyH_take (i := 17) (oi := { dst := some 6, op := _, type := _, pos := _, after := _, guard := _ }) (v := ?_) rfl (by kernel_rfl) (by kernel_rfl) (by kernel_rfl) (fun _ _ _ h => h) (Or.inl ⟨by kernel_rfl, ?_⟩) (by assumption) ?_
    rotate_left
    · (intro w hSw; go_simp; try with_reducible rfl)
    try simp only [Act.put, List.setIfInBounds_toArray, List.set_cons_zero, List.set_cons_succ]
    refine wpAnyH_done (by kernel_rfl) ?_ _
    try simp only [Act.put, List.setIfInBounds_toArray, List.set_cons_zero, List.set_cons_succ]
    have GE := hid Gx2.out.bl
    go_wp2_with fail
    go_ret
    exact ⟨congrArg (fun b => Ending.returned (Value.bool b)) HFIN.out.symm, GE.out⟩
end Go.Proofs.YtobceieadjpaaaaDoor
