/-
  What is proved here: the code's own digits of a hash and its check sum.
-/
import Derived.RangeFuncBox
import Derived.Maps.AppendAt
import Derived.Test.YteiflhgmgdibgaaLmC2
namespace Go.Proofs.Yteiflhgmgdibgaa
open Go.ChangeShapes Go.WideShapes Go.ChangeAt Go.RowKit Go.Shelf
set_option linter.unusedVariables false
attribute [local go_sem] Oper.semAt_some

theorem make_ints (n : Nat) (hn : n < 1000000000000) (u : World) : (Instr.makeSlice 27 (.int .i64 0) (.int .i64 (n : Int))).run Try.prog u =
      .ok (.slice (some ⟨u.heap.size, 0, none⟩) 0 n) (u.alloc (.cells (Array.replicate n (Value.int .i64 0)) 3)) := by
  obtain ⟨i0, hi, hz0, hz1, hz2⟩ := info_parts info_int
  have h := run_make (P := Try.prog) u 27 3 i0 (.int .i64 0) Try.underlying27 hi hz0 .i64 .i64 0 (n : Int) (by omega) (by omega) (by rw [hz2]; omega) (by omega)
  have e : ((n : Int)).toNat = n := by omega
  rw [e] at h
  have e2 : madeCells (Value.int .i64 0).cells (n * i0.size) = Array.replicate n (Value.int .i64 0) := by
    rw [hz1, Nat.mul_one]
    unfold madeCells
    refine Array.ext (by simp) (fun j h1 h2 => ?_)
    simp [Value.cells, Nat.mod_one]
  rw [e2] at h
  exact h
theorem own_made_int (u : World) (n B : Nat) (hn : n ≤ maxLen) (hB : B ≤ u.heap.size) : (u.alloc (.cells (Array.replicate n (Value.int .i64 0)) 3)).ownsRow B 3 1 (.slice (some ⟨u.heap.size, 0, none⟩) 0 n) 0 (i64s []) :=
  ⟨by simp [i64s], .inr ⟨u.heap.size, n, _, rfl, hB, heap_alloc_new u _, by omega, hn, by simp, by simp [i64s]⟩⟩
theorem kall_length {k : Int} {h : List Int} (hh : Ky h) : (kall k h).length = 34 := by unfold kall; simp [hh.len]
theorem kall_bs {k : Int} {h : List Int} (hk : Kd k) (hh : Ky h) : Bs (kall k h) := by
  have hx := ksum_bound hk h
  unfold kall
  refine bs_append hh.bs (fun v hv => ?_)
  simp only [List.mem_cons, List.not_mem_nil, or_false] at hv
  rcases hv with rfl | rfl <;> omega
/-- the digits that have come -/
def dval (pre : List Dg) : List Int := pre.map fun x => (x.2.val : Int)
theorem dval_snoc (pre : List Dg) (x : Dg) : dval (pre ++ [x]) = dval pre ++ [(x.2.val : Int)] := by simp [dval]
theorem dval_length (pre : List Dg) : (dval pre).length = pre.length := by simp [dval]
theorem dval_upto (k : Int) (hk : Kd k) (h : List Int) : dval (upto (dgs (kbits k) (8 / kbits k) (kall k h)) (kchains k)) = digits k h := by
  unfold dval upto digits
  rw [List.map_map]
  refine List.map_congr_left (fun i _ => ?_)
  have l := dig_lo (kall k h) i (kbits k) (8 / kbits k)
  have g := dig_hi (kall k h) i (kbits k) (8 / kbits k)
  have p := pow_le8 (kbits k) (kbits_le k)
  simp only [Function.comp_apply, dgs]
  rw [Nat.mod_eq_of_lt (by omega), Int.toNat_of_nonneg l]
/-- between two rounds -/
structure DgI (LB n0 : Nat) (S : Nat → Prop) (w : World) (pre : List Dg) (W : World) : Prop where
  lb : ∃ v, Boxed W LB 27 v ∧ W.ownsRow n0 3 1 v pre.length (i64s (dval pre)) ∧ True
  ty : ∀ g, S g → NotInt W g
  bl : Below n0 w W
theorem DgI.own {LB n0 B : Nat} {S : Nat → Prop} {w : World} (hn : n0 ≤ w.heap.size) (hB : n0 ≤ B) : OwnFrom B (DgI LB n0 S w) := fun pre W W' row hs hg hr =>
  ⟨holdsRow_own n0 LB 27 3 1 (fun pre => pre.length) (fun pre => i64s (dval pre)) (fun _ _ => True) pre W W' row hs.lb hg (fun r e => (hr r e).2), fun g hS => by
    obtain ⟨cs, t, h1, h2⟩ := hs.ty g hS
    exact ⟨cs, t, Blk.own (cs := cs) h1 hg (fun r e => (hr r e).2), h2⟩, hs.bl.grown hg (Nat.le_trans hn hs.bl.size) (fun r e => Nat.le_trans hB (hr r e).1)⟩
theorem DgI.step {LB n0 : Nat} {S : Nat → Prop} {w : World} {pre : List Dg} {W w1 : World} {v v' : Value} {tmp : Obj} (hty : ∀ g, S g → NotInt W g) (hbl : Below n0 w W) (x : Dg) (hn : n0 ≤ W.heap.size) (hL : n0 ≤ LB) (hS : ∀ g, S g → g ≠ LB)
    (hv : Boxed W LB 27 v) (hrow : W.ownsRow n0 3 1 v pre.length (i64s (dval pre))) (hown : w1.ownsRow n0 3 1 v' (pre.length + 1) (i64s (dval pre) ++ [.int .i64 (x.2.val : Int)])) (hgrow : (W.alloc tmp).grownBy w1 v.ownBlock) :
    KeepsOthers W (w1.setCell ⟨LB, 0, none⟩ v') ∧ KpS S W (w1.setCell ⟨LB, 0, none⟩ v') ∧ DgI LB n0 S w (pre ++ [x]) (w1.setCell ⟨LB, 0, none⟩ v') := by
  obtain ⟨hv1, hv2, hr2, hk2, hb2⟩ := hv.appended (by decide) hrow hn hL hown hgrow
  have same : ∀ g, S g → (w1.setCell ⟨LB, 0, none⟩ v').heap[g]? = W.heap[g]? := fun g hg => by
    obtain ⟨cs, t, h1, h2⟩ := hty g hg
    have hlt : g < W.heap.size := Blk.lt (cs := cs) h1
    refine (Below.heap_setCell w1 _ _ g (by exact hS g hg)).trans ((hgrow.block g (by simp; omega) ?_).trans (Below.heap_alloc W tmp g hlt))
    intro e
    rcases hrow.2 with ⟨rfl, _⟩ | ⟨g', cap, cur, rfl, _, hgb, _⟩
    · simp [Value.ownBlock] at e
    · obtain rfl : g = g' := by simpa [Value.ownBlock] using e
      rw [h1] at hgb
      injection hgb with hgb
      injection hgb with _ e4
      exact h2 e4
  refine ⟨hk2, ⟨hb2.size, fun g hg _ => same g hg⟩, ⟨⟨v', hv2, ?_, trivial⟩, fun g hg => ?_, hbl.trans hb2⟩⟩
  · rw [dval_snoc, List.length_append]
    simpa [i64s] using hr2
  · obtain ⟨cs, t, h1, h2⟩ := hty g hg
    exact ⟨cs, t, (same g hg).trans h1, h2⟩
theorem lDigits_no (k : Int) (h : List Int) (w : World) (hk : k ≠ 1 ∧ k ≠ 2 ∧ k ≠ 3 ∧ k ≠ 4) :
    Calls Try.prog 11 #[.int .i64 k, .agg (u8s h).toArray] w fun e w' => e = .returned (.slice none 0 0) ∧ Below w.heap.size w w' := by
  have CS := hid (shapeOf_any k)
  rw [shp_no hk] at CS
  clear hk
  go_enter Try.func11, Try.ntmps11
  go_wp2_with (go_at_call 13; refine (CS.out _).mono ?_; rintro e w1 ⟨rfl, hb1⟩; have HB := hid (((Below.refl _ _).alloc (Nat.le_refl _) _).trans (hb1.mono (by simp))); clear hb1)
  go_ret
  exact ⟨rfl, HB.out.alloc HB.out.size _⟩
set_option maxRecDepth 20000 in
set_option maxHeartbeats 4000000 in
theorem lDigits_kd (k : Int) (h : List Int) (w : World) (hk : Kd k) (hh : Ky h) :
    Calls Try.prog 11 #[.int .i64 k, .agg (u8s h).toArray] w fun e w' => ∃ A c, e = .returned (.slice A (kchains k) c) ∧ RpI w' A (digits k h) ∧ Below w.heap.size w w' := by
  refine (callsIn_wide (n := 2)).1 ?_
  refine callsIn_of_wp_marks Try.func11 rfl trivial ?_ rfl
  simp only [Try.ntmps11, List.size_toArray, List.length_cons, List.length_nil, Nat.reduceAdd, Nat.reduceSub, Array.replicate_succ, Array.replicate_zero, List.push_toArray, List.append_toArray, List.nil_append, List.cons_append]
  refine (wpIn_wide (n := 2)).2 ?_
  have CS := hid (shapeOf_any k)
  have HSI := hid (shape_info k); have HHI := hid (hash_info hh.len)
  have HH := hid hh; have HK := hid hk
  have hkc := kchains_le k
  have hkz : ((kchains k : Nat) : Int) ≠ 0 := by rcases hk with rfl | rfl | rfl | rfl <;> decide
  have hkb : (((kchains k : Nat) : Int) == 0) = false := by simpa using hkz
  have hmk := make_ints (kchains k) (by omega)
  have HSP : Hid (shp k = #[.int .i64 (kbits k : Nat), .int .i64 (kchains k : Nat), .int .i64 (kshift k : Nat)]) := rfl
  have CD := hid (fun w => sdigits_any k h hk hh w)
  have K0 := hid (Blk.new w 23 (u8s h).toArray)
  have B0 : Hid (Below w.heap.size w (w.alloc (.cells (u8s h).toArray 23))) := (Below.refl _ _).alloc (Nat.le_refl _) _
  obtain ⟨kc, hkce⟩ : ∃ kc, kc = kchains k := ⟨_, rfl⟩
  have HKC := hid hkce
  rw [← hkce] at hkc hkz hkb hmk HSP ⊢
  rw [HSP.out] at CS
  generalize kbits k = kb at CS HSP
  generalize kshift k = ks at CS HSP
  clear hk hh hkce
  rw [HSP.out] at CD
  go_wp2_with (first
    | (go_at_call 13; refine (CS.out _).mono ?_; rintro e w1 ⟨rfl, hb1⟩; have HB := hid hb1; clear hb1)
    | (refine load_at rfl 23 (.tmp 3) rfl w.heap.size 0 rfl (u8s h) _ (blk_row ((((K0.out.below HB.out).alloc _).alloc _).alloc _)) Try.underlying23 rfl HHI.out (u8s h).toArray rfl ?_)
    | (go_at_call 15; refine (CD.out _).mono ?_; rintro e w5 ⟨bs, sb, A, c, rfl, hcb, hS, hni, hb5⟩; have HCB := hid hcb; have HS := hid hS; have HNI := hid hni; have HB5 := hid hb5; clear hcb hS hni hb5))
  have n1 : w.heap.size + 1 ≤ w1.heap.size := by have := HB.out.size; rwa [World.size_alloc] at this
  obtain ⟨W4, hW4⟩ : ∃ W4, W4 = ((w1.alloc (.cells #[.int .i64 kb, .int .i64 kc, .int .i64 ks] 32)).alloc (.cells (Array.replicate kc (.int .i64 0)) 3)).alloc (.cells #[.slice (some ⟨w1.heap.size + 1, 0, none⟩) 0 kc] 27) := ⟨_, rfl⟩
  rw [← hW4] at HB5 HS
  have S4 : Hid (W4.heap.size = w1.heap.size + 1 + 1 + 1) := by show _ = _; rw [hW4]; simp
  have BX4 : Hid (Boxed W4 (w1.heap.size + 1 + 1) 27 (.slice (some ⟨w1.heap.size + 1, 0, none⟩) 0 kc)) := by
    show Boxed _ _ _ _
    rw [hW4]
    have := Boxed.new ((w1.alloc (.cells #[.int .i64 kb, .int .i64 kc, .int .i64 ks] 32)).alloc (.cells (Array.replicate kc (.int .i64 0)) 3)) 27 (.slice (some ⟨w1.heap.size + 1, 0, none⟩) 0 kc)
    rwa [World.size_alloc, World.size_alloc] at this
  have OR4 : Hid (W4.ownsRow w.heap.size 3 1 (.slice (some ⟨w1.heap.size + 1, 0, none⟩) 0 kc) 0 (i64s [])) := by
    show World.ownsRow _ _ _ _ _ _ _
    rw [hW4]
    have := own_made_int (w1.alloc (.cells #[.int .i64 kb, .int .i64 kc, .int .i64 ks] 32)) kc w.heap.size (by unfold maxLen; omega) (by rw [World.size_alloc]; omega)
    rw [World.size_alloc] at this
    exact this.alloc _
  have B4 : Hid (Below w.heap.size w W4) := by
    show Below _ _ _
    rw [hW4]
    exact (((B0.out.trans (HB.out.mono (by rw [World.size_alloc]; omega))).alloc (by omega) _).alloc (by simp; omega) _).alloc (by simp; omega) _
  have I0 : DgI (w1.heap.size + 1 + 1) w.heap.size (CbS bs sb A) w [] w5 := ⟨⟨_, BX4.out.kept (below_grown HB5.out) (by simp), own_below OR4.out HB5.out, trivial⟩, HNI.out, B4.out.trans (HB5.out.mono B4.out.size)⟩
  have n5 : w1.heap.size + 1 + 1 + 1 ≤ w5.heap.size := by have := HB5.out.size; rw [S4.out] at this; exact this
  have hSl : ∀ g, CbS bs sb A g → g ≠ w1.heap.size + 1 + 1 := fun g hg => by have := HS.out g hg; rw [S4.out] at this; omega
  have HSL := hid hSl
  clear hW4 BX4 OR4 B4 K0 B0 hSl hmk
  refine (wpIn_wide (n := 2)).1 ?_
  refine wpIn_rangeFunc_ownF (n := 2) rfl (by omega) (gf := 21) (lb := #[.pointer (some ⟨bs, 0, none⟩), .pointer (some ⟨sb, 0, none⟩)]) rfl trivial (enters_of Try.func21 (by kernel_rfl) rfl)
    (cut_stops k HK.out 34 (.inr rfl) bs sb A c (kall k h) (kall_bs HK.out HH.out) (kall_length HH.out) w5 HCB.out) KpS.t (KpS.b (fun g hg => by
      obtain ⟨cs, t, h1, _⟩ := HNI.out g hg
      exact Blk.lt (cs := cs) h1)) (Below.refl _ _) (fun _ => rfl) (DgI (w1.heap.size + 1 + 1) w.heap.size (CbS bs sb A) w) (fun _ _ _ => False) (DgI.own (Nat.le_refl _) (by omega)) (fun _ _ _ _ _ hs _ _ => hs) I0
    (fun x => { tmps := #[.int .i64 k, .agg (u8s h).toArray, undef, .pointer (some ⟨w.heap.size, 0, none⟩), .slice none 0 0, .pointer (some ⟨w1.heap.size, 0, none⟩), .pointer (some ⟨w1.heap.size + 1 + 1, 0, none⟩), undef, .int .i64 (x.2.val : Int), .int .i64 k, .agg #[.int .i64 kb, .int .i64 kc, .int .i64 ks], .pointer (some ⟨w1.heap.size, 1, none⟩), .int .i64 kc, .bool false, .pointer (some ⟨w1.heap.size, 1, none⟩), .int .i64 kc, .slice (some ⟨w1.heap.size + 1, 0, none⟩) 0 kc, .agg #[.int .i64 kb, .int .i64 kc, .int .i64 ks], .agg (u8s h).toArray, .func (.func 21) #[] #[.pointer (some ⟨bs, 0, none⟩), .pointer (some ⟨sb, 0, none⟩)], .int .i64 (x.1.val : Int), .int .i64 (x.2.val : Int), undef, undef, undef, undef, undef], defers := [] }) ?assign ?body ?done ?stop
  case assign =>
    intro l x W K hK
    dsimp only [encD]
    gi_wp2
    exact hK
  case body =>
    rintro l pre x W ⟨⟨v, hv, hrow, -⟩, hty, hbl⟩ hlen
    have hlen2 : pre.length < 265 := Nat.lt_of_lt_of_le hlen (kchains_le k)
    obtain ⟨i0, hi, hz0, hz1, hz2⟩ := info_parts info_int
    have HV := hid hv; have HROW := hid hrow; have HTY := hid hty; have HBL := hid hbl
    have hc := hv.cell
    have hW : w.heap.size ≤ W.heap.size := hbl.size
    have HI := hid hi; have HZ0 := hid hz0; have HZ1 := hid hz1; have HZ2 := hid hz2; have HW := hid hW; have HLEN := hid hlen2
    have N1 := n1
    clear hv hrow hty hbl hi hz0 hz1 hz2 hW hlen hlen2
    gi_wp2_with (gi_at_builtin; refine wpListIn_append_own _ rfl _ _ 27 rfl w.heap.size 3 i0 (.int .i64 0) 1 8 Try.underlying27 HI.out HZ0.out HZ1.out HZ2.out rfl (by decide) _ _ _ rfl (HROW.out.alloc _) ⟨W.heap.size, 0, none⟩ 1 1 [.int .i64 (x.2.val : Int)] rfl rfl (cell_one_new _ _ _) (by simp [Value.oneCell']) (by have := HLEN.out; unfold maxLen; omega) (by have := HLEN.out; omega) (by have := HW.out; simp; omega) ?_; intro v' w9 hown' hgrow _; obtain ⟨g', cap', rfl⟩ := ownsRow_succ hown'; have hstep := DgI.step HTY.out HBL.out x HW.out (by omega) HSL.out HV.out HROW.out hown' hgrow; obtain ⟨hv1, -, -, -, -⟩ := HV.out.appended (by decide) HROW.out HW.out (by omega) hown' hgrow; have hc1 := hv1.cell; have hf1 := hv1.frozen; have HST := hid hstep; clear hown' hgrow hstep hv1)
    exact HST.out
  case done =>
    rintro D ys W hD rfl ⟨⟨v, hv, hrow, -⟩, hty, hbl⟩ hK
    have hc := hv.cell
    have hm : ndig k 34 = kchains k := rfl
    rw [hm, upto_length, dval_upto k HK.out, ← HKC.out] at hrow
    obtain ⟨A9, c9, rfl, _, hr9⟩ := ints_of_own hrow
    have HR9 := hid hr9; have HK9 := hid hK; have HBL := hid hbl
    clear hv hrow hty hbl hK hr9
    go_wp2
    refine ⟨by simp, .inl ⟨_, _, rfl, run_takeDeferred HK9.out, ?_⟩⟩
    refine ⟨_, results_tmp rfl _ _ _, A9, c9, rfl, ?_, HBL.out.trans (belowK_b (w := w) (Nat.le_refl _) W D _ _ (by omega) HK9.out rfl rfl)⟩
    exact HR9.out.same fun g cs hh => (grownBy_putObj' W D (.deferred none)).block g (Blk.lt (cs := cs) hh) (fun e => by
      injection e with e
      subst e
      rw [HK9.out] at hh
      cases hh)
  case stop =>
    rintro D c pre W _ _ h _
    exact h.elim
theorem lDigits_any (k : Int) (h : List Int) (w : World) (hh : Ky h) :
    Calls Try.prog 11 #[.int .i64 k, .agg (u8s h).toArray] w fun e w' => ∃ A c, e = .returned (.slice A (kchains k) c) ∧ RpI w' A (digits k h) ∧ Below w.heap.size w w' := by
  rcases kd_cases k with hk | hk | hk | hk | hk
  · exact lDigits_kd k h w (.inl hk) hh
  · exact lDigits_kd k h w (.inr (.inl hk)) hh
  · exact lDigits_kd k h w (.inr (.inr (.inl hk))) hh
  · exact lDigits_kd k h w (.inr (.inr (.inr hk))) hh
  · refine (lDigits_no k h w hk).mono ?_
    rintro e w' ⟨rfl, hb⟩
    have h0 := kchains_no hk
    exact ⟨none, 0, by rw [h0], fun hx => by rw [digits_length, h0] at hx; omega, hb⟩
end Go.Proofs.Yteiflhgmgdibgaa
