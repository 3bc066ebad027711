/-
  What is proved here: the code's own check sum, and the iterator over the digits of a hash and its check sum.
-/
import Derived.Test.YtobceieadjpaaaaDoorMLmCi1
import Derived.Test.YtobceieadjpaaaaDoorMLmCi2
import Derived.Test.YtobceieadjpaaaaDoorMLmCi3
import Derived.Test.YtobceieadjpaaaaDoorMLmCi4
import Derived.Test.YtobceieadjpaaaaDoorMKa1
import Derived.RangeFuncBox
import Derived.Maps.AppendAt
import Derived.Test.YtobceieadjpaaaaDoorMHa2
import Derived.Stop.BytesEq
import Derived.ChangeOld
set_option linter.unusedSimpArgs false
set_option linter.unusedVariables false
namespace Go.Proofs.YtobceieadjpaaaaDoor
open Go.ChangeShapes Go.WideShapes Go.ChangeAt Go.RowKit Go.Shelf
set_option linter.unusedVariables false
set_option maxRecDepth 20000
attribute [local go_sem] Oper.semAt_some

/-- how many digits so many bytes have, but no more than there are chains -/
def ndig (k : Int) (n : Nat) : Nat := if n = 32 then 256 / kbits k else kchains k
theorem cut_stops (k : Int) (hk : Kd k) (n : Nat) (hn : n = 32 ∨ n = 34) (bs sb : Nat) (A : Option Addr) (c : Nat) (xs : List Int) (hb : Bs xs) (hl : xs.length = n) (w : World) (hc : Cb k bs sb A n c xs w) :
    SeqStopsK Fence.wide 1 Tryd.prog 97 #[.pointer (some ⟨bs, 0, none⟩), .pointer (some ⟨sb, 0, none⟩)] encD (KpS (CbS bs sb A)) (fun ys => ys = upto (dgs (kbits k) (8 / kbits k) xs) (ndig k n)) (fun _ => True) (ndig k n) w := fun l J Jx W hW hJ hJx hY h0 => by
  have hc' := hc.below hW
  have fin : ∀ (m : Nat) (f : Nat → Dg) (e : Ending) (W' : World), ((∃ v, e = .returned v) ∧ ((∃ ys, ys = upto f m ∧ J ys W') ∨ (∃ pre, (∃ k, k ≤ m ∧ pre = upto f k) ∧ Jx pre W'))) →
      (∃ v, e = .returned v) ∧ ((∃ xs, xs = upto f m ∧ J xs W') ∨ (∃ pre, True ∧ Jx pre W')) := fun m f e W' h => ⟨h.1, h.2.imp id (fun ⟨p, _, hp⟩ => ⟨p, trivial, hp⟩)⟩
  rcases hk with rfl | rfl | rfl | rfl <;> rcases hn with rfl | rfl
  · exact (cutf_1_32 l bs sb A c xs hb hl J Jx W hJ hY hc' h0).mono (fin _ _)
  · exact (cutf_1_34 l bs sb A c xs hb hl J Jx W hJ hY hc' h0).mono (fin _ _)
  · exact (cutf_2_32 l bs sb A c xs hb hl J Jx W hJ hY hc' h0).mono (fin _ _)
  · exact (cutf_2_34 l bs sb A c xs hb hl J Jx W hJ hY hc' h0).mono (fin _ _)
  · exact (cutf_3_32 l bs sb A c xs hb hl J Jx W hJ hY hc' h0).mono (fin _ _)
  · exact (cutf_3_34 l bs sb A c xs hb hl J Jx W hJ hY hc' h0).mono (fin _ _)
  · exact (cutf_4_32 l bs sb A c xs hb hl J Jx W hJ hY hc' h0).mono (fin _ _)
  · exact (cutf_4_34 l bs sb A c xs hb hl J Jx W hJ hY hc' h0).mono (fin _ _)
set_option maxRecDepth 20000 in
set_option maxHeartbeats 1000000 in
theorem scut_any (S : Array Value) (A : Option Addr) (n c : Nat) (w : World) :
    Calls Tryd.prog 74 #[.agg S, .slice A n c] w fun e w' => e = .returned (.func (.func 97) #[] #[.pointer (some ⟨w.heap.size, 0, none⟩), .pointer (some ⟨w.heap.size + 1, 0, none⟩)]) ∧ w' = (w.alloc (.cells S 61)).alloc (.cells #[.slice A n c] 29) := by
  go_enter Tryd.func74, Tryd.ntmps74
  go_wp2
  go_ret
  exact ⟨rfl, rfl⟩
theorem shape_info (k : Int) : (Tryd.prog.info? 61).map (·.size) = some (shp k).toList.length := by kernel_rfl
theorem frozen_bel {w w' : World} {p : Addr} {v : Value} (hb : Below w.heap.size w w') (h : w.cell? p = some v) (hf : w.frozen? p = false) : w'.frozen? p = false := (hb.frozen (block_lt_of_cell h)).trans hf
/-- a block of cells lies as it lay, whatever else is turned -/
theorem Blk.own {W W' : World} {g : Nat} {t : TypeId} {cs : Array Value} {row : Option Nat} (h : Blk W g t cs) (hg : W.grownBy W' row) (hr : ∀ r, row = some r → ∃ o : Obj, W.heap[r]? = some o ∧ o.isCells = false) : Blk W' g t cs :=
  h.same (hg.block g h.lt (fun e => by
    obtain ⟨o, ho, hc⟩ := hr g e.symm
    unfold Blk at h
    rw [h] at ho
    injection ho with ho
    subst ho
    cases hc))
theorem Cb.own {k : Int} {bs sb n c : Nat} {A : Option Addr} {xs : List Int} {W W' : World} {row : Option Nat} (h : Cb k bs sb A n c xs W) (hg : W.grownBy W' row) (hr : ∀ r, row = some r → ∃ o : Obj, W.heap[r]? = some o ∧ o.isCells = false) : Cb k bs sb A n c xs W' :=
  ⟨h.b0.own hg hr, h.b1.own hg hr, fun hx => by
    obtain ⟨ad, e, hne, hc⟩ := h.r hx
    exact ⟨ad, e, hne, fun j hj => cell_kept (hc j hj) hg hr⟩⟩
/-- no panic comes -/
def Qn (Q : Exit → Act → World → Prop) : Exit → Act → World → Prop
  | .normal, a, w => Q .normal a w
  | _, _, _ => False
theorem wp_calm {P : Program} {c : Code} {Q : Exit → Act → World → Prop} {a : Act} {w : World} (h : c.wp P (Qn Q) a w) : c.wp P Q a w :=
  wp_mono h fun e a w hq => by cases e <;> first | exact hq | exact hq.elim
/-- bytes appended to a slice that has no room: a new row -/
theorem wp_append_u8 {w : World} {o : Oper} {a : Act} {K : Act → World → Prop} {Q : Exit → Act → World → Prop} (s x : Operand) (ho : o.op = .call { callee := .builtin .append, args := #[s, x], argTypes := #[29, 29] })
    (b : Addr) (n : Nat) (xs : List Int) (hn : n = xs.length) (hs : a.eval s = .slice (some b) n n) (hr : Rp w none (some b) xs) (ad : Addr) (m c : Nat) (ys : List Int) (hm : m = ys.length) (hm0 : 0 < m) (hx : a.eval x = .slice (some ad) m c) (hr2 : Rp w none (some ad) ys)
    (h63 : n + m < 1000000) (h : ∀ w' c', w'.heap.size = w.heap.size + 1 → Below w.heap.size w w' → (∃ cs, Blk w' w.heap.size 5 cs) ∧ Rp w' none (some ⟨w.heap.size, 0, none⟩) (xs ++ ys) → K (a.put o.dst (.slice (some ⟨w.heap.size, 0, none⟩) (n + m) c')) w') : o.wp Tryd.prog a w K Q := by
  subst hn; subst hm
  obtain ⟨i0, hi, hz0, hz1, hz2⟩ := info_parts info_u8
  have cells : ∀ (p : Addr) (zs : List Int), Rp w none (some p) zs → ∀ j v, (u8s zs)[j]? = some v → w.cell? (p.add j) = some v := fun p zs hz j v hv => by
    rcases Nat.lt_or_ge j zs.length with hj | hj
    · obtain ⟨ad', e', hc⟩ := hz.get (by omega)
      injection e' with e'; subst e'
      rw [hc j hj, ← hv, u8s_get _ _ hj]
    · rw [List.getElem?_eq_none (by rw [u8s_length]; exact hj)] at hv; cases hv
  have hrun := run_append_grow (P := Tryd.prog) w 29 o.type 5 i0 (.int .u8 0) Tryd.underlying29 hi hz0 b xs.length xs.length (u8s xs) (by rw [u8s_length, hz1]; simp) (cells b xs hr) ad ys.length c (u8s ys) (by rw [u8s_length, hz1]; simp) (cells ad ys hr2) (by omega) (by omega) (growslice_fits (by omega) (by rw [hz2]; omega))
  unfold Oper.wp execOp
  simp only [ho, resolve, invoke, builtin, Sem.run_bind, Sem.run_pure, Result.andThen_ok, List.map_toArray, List.map_cons, List.map_nil, hs, hx, hrun]
  refine h _ _ (World.size_alloc _ _) (((Below.refl _ _).drew).alloc (Nat.le_refl _) _) ⟨⟨_, Blk.new w.drew 5 _⟩, fun _ => ?_⟩
  refine ⟨_, rfl, (fun ⟨a, e, _⟩ => by cases e), fun j hj => ?_⟩
  rw [Addr.add_lit, Nat.zero_add]
  have hb := Blk.new w.drew 5 ((u8s xs).toArray ++ (u8s ys).toArray ++ Builtin.zeroCells (Value.int .u8 0).cells (grownCap w (xs.length + ys.length) xs.length 5 - (xs.length + ys.length)))
  have hs2 : w.drew.heap.size = w.heap.size := rfl
  rw [hs2] at hb
  rw [hb.cell, Array.getElem?_append_left (by simp [u8s_length]; simpa using hj)]
  have e : ((u8s xs).toArray ++ (u8s ys).toArray) = (u8s (xs ++ ys)).toArray := by simp [u8s]
  rw [e, List.getElem?_toArray, u8s_get _ _ hj]
/-- what the digits lack to the greatest one -/
def lackD (mm : Nat) (pre : List Dg) : Int := pre.foldl (fun s x => s + ((mm : Int) - (x.2.val : Int))) 0
theorem lackD_snoc (mm : Nat) (pre : List Dg) (x : Dg) : lackD mm (pre ++ [x]) = lackD mm pre + ((mm : Int) - (x.2.val : Int)) := by simp [lackD]
theorem lackD_bound (mm : Nat) (hm : mm < 256) (pre : List Dg) : -(256 * pre.length : Nat) ≤ lackD mm pre ∧ lackD mm pre ≤ (256 * pre.length : Nat) := by
  induction h : pre.length generalizing pre with
  | zero => have : pre = [] := List.eq_nil_of_length_eq_zero h; subst this; simp [lackD]
  | succ n ih =>
    obtain ⟨p, x, rfl⟩ : ∃ p x, pre = p ++ [x] := ⟨pre.dropLast, pre.getLast (by intro e; subst e; simp at h), (List.dropLast_concat_getLast _).symm⟩
    have hp : p.length = n := by simpa using h
    have := ih p hp
    rw [lackD_snoc]
    have hx := x.2.isLt
    omega
theorem lackD_upto (k : Int) (hk : Kd k) (h : List Int) (n : Nat) : lackD (kmost k).toNat (upto (dgs (kbits k) (8 / kbits k) h) n) = ksum k h n := by
  induction n with
  | zero => simp [upto, lackD, ksum]
  | succ n ih =>
    rw [upto_succ, lackD_snoc, ih]
    show _ = ksum k h n + (kmost k - digH k h n)
    unfold digH
    have l := dig_lo h n (kbits k) (8 / kbits k)
    have g := dig_hi h n (kbits k) (8 / kbits k)
    have p := pow_le8 (kbits k) (kbits_le k)
    have q : (1 : Int) ≤ 2 ^ kbits k := by have : (0 : Int) < 2 ^ kbits k := Int.pow_pos (by decide); omega
    unfold dgs kmost
    simp only
    rw [Nat.mod_eq_of_lt (by omega), Int.toNat_of_nonneg l, Int.toNat_of_nonneg (by omega)]
/-- between two rounds: the shape, the hash, the sum so far -/
structure SdI (k : Int) (h : List Int) (mm : Nat) (w : World) (pre : List Dg) (W : World) : Prop where
  b0 : Blk W w.heap.size 61 (shp k)
  b1 : Blk W (w.heap.size + 1) 26 (u8s h).toArray
  b2 : Blk W (w.heap.size + 1 + 1) 3 #[.int .i64 (lackD mm pre)]
  bl : Below w.heap.size w W
theorem SdI.own {k : Int} {h : List Int} {mm : Nat} {w : World} {B : Nat} (hB : w.heap.size ≤ B) : OwnFrom B (SdI k h mm w) := fun pre W W' row hs hg hr =>
  ⟨hs.b0.own hg (fun r e => (hr r e).2), hs.b1.own hg (fun r e => (hr r e).2), hs.b2.own hg (fun r e => (hr r e).2), hs.bl.grown hg (hs.bl.size) (fun r e => Nat.le_trans hB (hr r e).1)⟩
theorem SdI.step {k : Int} {h : List Int} {mm : Nat} {w : World} {pre : List Dg} {W w1 : World} {S : Nat → Prop} (hI : SdI k h mm w pre W) (hb : Below W.drew.heap.size W.drew w1) (x : Dg) (v : Int) (hv : v = lackD mm (pre ++ [x])) (hS : ∀ g, S g → g ≠ w.heap.size + 1 + 1) :
    KeepsOthers W (w1.setCell ⟨w.heap.size + 1 + 1, 0, none⟩ (.int .i64 v)) ∧ KpS S W (w1.setCell ⟨w.heap.size + 1 + 1, 0, none⟩ (.int .i64 v)) ∧ SdI k h mm w (pre ++ [x]) (w1.setCell ⟨w.heap.size + 1 + 1, 0, none⟩ (.int .i64 v)) := by
  have hB : Below W.heap.size W w1 := ((Below.refl _ _).drew).trans hb
  refine ⟨(KeepsOthers.of_grownBy (below_grown hB) (fun j o e => by cases e)).trans (KeepsOthers.setCell _ _ _), ⟨?_, fun g hg hl => ?_⟩, ⟨?_, ?_, ?_, ?_⟩⟩
  · simpa [World.setCell] using hB.size
  · exact (Below.heap_setCell w1 _ _ g (by exact hS g hg)).trans (hB.block g hl)
  · exact (hI.b0.below hB).far (by show w.heap.size ≠ w.heap.size + 1 + 1; omega) _
  · exact (hI.b1.below hB).far (by show w.heap.size + 1 ≠ w.heap.size + 1 + 1; omega) _
  · have := (hI.b2.below hB).setd 0 (.int .i64 v)
    rw [hv] at this ⊢
    exact this
  · exact (hI.bl.trans (hB.mono hI.bl.size)).setCell (p := ⟨w.heap.size + 1 + 1, 0, none⟩) (by show w.heap.size ≤ w.heap.size + 1 + 1; omega) _
/-- no block of ints -/
def NotInt (W : World) (g : Nat) : Prop := ∃ cs t, W.heap[g]? = some (.cells cs t (0, 0)) ∧ t ≠ 3
theorem NotInt.own {W W' : World} {g : Nat} {row : Option Nat} (h : NotInt W g) (hg : W.grownBy W' row) (hr : ∀ r, row = some r → ∃ o : Obj, W.heap[r]? = some o ∧ o.isCells = false) : NotInt W' g := by
  obtain ⟨cs, t, h1, h2⟩ := h
  exact ⟨cs, t, Blk.own (cs := cs) h1 hg hr, h2⟩
def SdPost (k : Int) (h : List Int) (w : World) (e : Ending) (w' : World) : Prop := ∃ bs sb A c, e = .returned (.func (.func 97) #[] #[.pointer (some ⟨bs, 0, none⟩), .pointer (some ⟨sb, 0, none⟩)]) ∧ Cb k bs sb A 34 c (kall k h) w' ∧ (∀ g, CbS bs sb A g → w.heap.size ≤ g) ∧ (∀ g, CbS bs sb A g → NotInt w' g) ∧ Below w.heap.size w w'
set_option maxRecDepth 20000 in
set_option maxHeartbeats 4000000 in
theorem sdigits_any (k : Int) (h : List Int) (hk : Kd k) (hh : Ky h) (w : World) : Calls Tryd.prog 39 #[.agg (shp k), .agg (u8s h).toArray] w (SdPost k h w) := by
  refine (callsIn_wide (n := 2)).1 ?_
  refine callsIn_of_wp_marks Tryd.func39 rfl trivial ?_ rfl
  simp only [Tryd.ntmps39, List.size_toArray, List.length_cons, List.length_nil, Nat.reduceAdd, Nat.reduceSub, Array.replicate_succ, Array.replicate_zero, List.push_toArray, List.append_toArray, List.nil_append, List.cons_append]
  refine (wpIn_wide (n := 2)).2 ?_
  obtain ⟨hk1, hk2, hk3, hb0⟩ := blks3 w (shp k) (u8s h).toArray #[.int .i64 0] 61 26 3
  have K1 := hid hk1; have K2 := hid hk2; have K3 := hid hk3; have B0 := hid hb0
  have HSI := hid (shape_info k); have HH := hid hh; have HK := hid hk
  have CG := hid (fun w => greatest_any k w hk)
  obtain ⟨mm, hmm⟩ : ∃ mm, mm = (kmost k).toNat := ⟨_, rfl⟩
  have hm0 : kmost k = (mm : Int) := by rw [hmm]; rcases hk with rfl | rfl | rfl | rfl <;> decide
  have hm1 : mm < 256 := by rw [hmm]; rcases hk with rfl | rfl | rfl | rfl <;> decide
  rw [hm0] at CG
  have HMM := hid hmm
  clear hk1 hk2 hk3 hb0 hk hh hm0 hmm
  go_wp2
  have S0 : Hid ((((w.alloc (.cells (shp k) 61)).alloc (.cells (u8s h).toArray 26)).alloc (.cells #[.int .i64 0] 3)).heap.size = w.heap.size + 1 + 1 + 1) := by show _ = _; simp
  generalize ((w.alloc (.cells (shp k) 61)).alloc (.cells (u8s h).toArray 26)).alloc (.cells #[.int .i64 0] 3) = W0 at K1 K2 K3 B0 S0 ⊢
  refine wp_calm ?_
  refine wp_region_held (S := fun w' => Hid (Below W0.heap.size W0 w')) (by kernel_rfl) ?_
  change wpAnyH _ _ _ _ _ _ _ _ W0.drew
  have G0 : Hid (Below W0.heap.size W0 W0.drew) := (Below.refl _ _).drew
  have E0 : Hid (W0.drew.heap.size = w.heap.size + 1 + 1 + 1) := S0.out
  generalize W0.drew = x0 at G0 E0 ⊢
  refine wpAnyH_take (i := 0) (oi := { dst := some 9, op := _, type := _, pos := _, after := _, guard := _ }) (v := .agg (shp k)) rfl (by kernel_rfl) (by kernel_rfl) (by kernel_rfl) (fun _ _ _ h => h) (yieldsIf_load_mid (cs := (shp k).toList) (by rfl) _ _ rfl _ _ rfl _ (fun w' hSw => blk_rng (K1.out.below (Hid.out hSw))) Tryd.underlying61 rfl HSI.out) (by assumption) ?_
  try simp only [Act.put, List.setIfInBounds_toArray, List.set_cons_zero, List.set_cons_succ]
  refine wpAnyH_take (i := 1) (oi := { dst := some 10, op := _, type := _, pos := _, after := _, guard := _ }) (v := ?_) rfl (by kernel_rfl) (by kernel_rfl) (by kernel_rfl) (fun _ _ _ h => h) (Or.inl ⟨by kernel_rfl, ?_⟩) (by assumption) ?_
  rotate_left
  · (intro w hSw; go_simp; try with_reducible rfl)
  try simp only [Act.put, List.setIfInBounds_toArray, List.set_cons_zero, List.set_cons_succ]
  refine wpAnyH_ready (rs := [2]) (by kernel_rfl) (by simp) ?_
  refine (AllReadyH.cons (o := { dst := some 11, op := _, type := _, pos := _, after := _, guard := _ }) rfl (fun Qc hQc => ?_) AllReadyH.nil)
  go_simp
  go_at_call 74; refine (scut_any _ _ _ _ _).mono ?_; rintro e x1 ⟨rfl, hx1⟩
  have hc1 : Blk x1 x0.heap.size 61 (shp k) ∧ Blk x1 (x0.heap.size + 1) 29 #[.slice (some ⟨w.heap.size + 1, 0, none⟩) 32 32] ∧ Below x0.heap.size x0 x1 := by rw [hx1]; exact blks2 _ _ _ _ _
  rw [E0.out] at hc1
  have C1 := hid hc1.1; have C2 := hid hc1.2.1
  have B1 := hid (G0.out.trans (hc1.2.2.mono (Nat.le_of_eq S0.out)))
  have S1 : Hid (w.heap.size + 1 + 1 + 1 + 1 + 1 = x1.heap.size) := by show _ = _; rw [hx1]; simp [E0.out]
  clear hx1 hc1
  go_wp2_with fail
  refine hQc.out _ _ B1 (fun hHeld => ?_)
  clear hQc Qc G0
  try simp only [Act.put, List.setIfInBounds_toArray, List.set_cons_zero, List.set_cons_succ]
  refine wpAnyH_done (by kernel_rfl) ?_ _
  try simp only [Act.put, List.setIfInBounds_toArray, List.set_cons_zero, List.set_cons_succ]
  rw [E0.out]
  unfold Qn
  go_wp2
  have CB1 : Hid (Cb k (w.heap.size + 1 + 1 + 1) (w.heap.size + 1 + 1 + 1 + 1) (some ⟨w.heap.size + 1, 0, none⟩) 32 32 h x1) := ⟨C1.out, C2.out, blk_rp (K2.out.below B1.out)⟩
  have I0 : SdI k h mm w [] x1 := ⟨K1.out.below B1.out, K2.out.below B1.out, K3.out.below B1.out, B0.out.trans (B1.out.mono (by rw [S0.out]; omega))⟩
  clear K1 K2 K3 B0 C1 C2 B1 hHeld
  have hlt1 : w.heap.size + 1 + 1 + 1 + 1 < x1.heap.size := by rw [← S1.out]; omega
  have HS1 := hid S1.out
  refine (wpIn_wide (n := 2)).1 ?_
  refine wpIn_rangeFunc_ownF (n := 2) rfl (by omega) (gf := 97) (lb := #[.pointer (some ⟨w.heap.size + 1 + 1 + 1, 0, none⟩), .pointer (some ⟨w.heap.size + 1 + 1 + 1 + 1, 0, none⟩)]) rfl trivial (enters_of Tryd.func97 (by kernel_rfl) rfl)
    (cut_stops k HK.out 32 (.inl rfl) _ _ _ 32 h HH.out.bs HH.out.len x1 CB1.out) KpS.t (KpS.b (fun g hg => by
      rcases hg with rfl | rfl | ⟨a, ha, rfl⟩
      · omega
      · omega
      · injection ha with ha; subst ha; show w.heap.size + 1 < _; omega)) (Below.refl _ _) (fun _ => rfl) (SdI k h mm w) (fun _ _ _ => False) (SdI.own (by omega)) (fun _ _ _ _ _ hs _ _ => hs) I0
    (fun x => { tmps := #[.agg (shp k), .agg (u8s h).toArray, .pointer (some ⟨w.heap.size, 0, none⟩), .pointer (some ⟨w.heap.size + 1, 0, none⟩), .nilFunc, .pointer (some ⟨w.heap.size + 1 + 1, 0, none⟩), undef, .int .i64 (x.2.val : Int), undef, .agg (shp k), .slice (some ⟨w.heap.size + 1, 0, none⟩) 32 32, .func (.func 97) #[] #[.pointer (some ⟨w.heap.size + 1 + 1 + 1, 0, none⟩), .pointer (some ⟨w.heap.size + 1 + 1 + 1 + 1, 0, none⟩)], .int .i64 (x.1.val : Int), .int .i64 (x.2.val : Int), undef, undef, undef, undef, undef, undef, undef, undef, undef, undef, undef, undef, undef, undef, undef, undef, undef, undef, undef, undef], defers := [] }) ?assign ?body ?done ?stop
  case assign =>
    intro l x W K hK
    dsimp only [encD]
    gi_wp2
    exact hK
  case body =>
    rintro l pre x W hI hlen
    have HI := hid hI
    have hx := x.2.isLt
    have hb := lackD_bound mm hm1 pre
    have hm : ndig k 32 ≤ 256 := by rcases HK.out with rfl | rfl | rfl | rfl <;> decide
    have HL := hid (lackD_snoc mm pre x)
    obtain ⟨d, hd⟩ : ∃ d : Int, d = (x.2.val : Int) := ⟨_, rfl⟩
    rw [← hd] at HL ⊢
    have d0 : 0 ≤ d ∧ d < 256 := by omega
    obtain ⟨L, hL⟩ : ∃ L, L = lackD mm pre := ⟨_, rfl⟩
    have HLL := hid hL
    have hL1 : -100000 ≤ L ∧ L ≤ 100000 := by omega
    have e1 : IntKind.i64.wrap ((mm : Int) - d) = (mm : Int) - d := IntWalk.i64_in _ (by omega)
    have e2 : IntKind.i64.wrap (L + ((mm : Int) - d)) = L + ((mm : Int) - d) := IntWalk.i64_in _ (by omega)
    have E1 := e1; have E2 := e2
    have c0 := hI.b2.cell 0
    have f0 := hI.b2.frozen 0
    rw [← hL] at c0
    simp at c0
    have hS : shp k = #[.int .i64 (kbits k : Nat), .int .i64 (kchains k : Nat), .int .i64 (kshift k : Nat)] := rfl
    have s0 := hI.b0.cell 0; have s1 := hI.b0.cell 1; have s2 := hI.b0.cell 2
    rw [hS] at s0 s1 s2
    simp at s0 s1 s2
    have hmx : Tryd.prog.follows .mixedOrders = true := by kernel_rfl
    rw [hS] at CG
    clear hI hx hb hlen hd hL hS hL1 d0 e1 e2 hm
    generalize kbits k = kb at CG s0
    generalize kchains k = kc at CG s1
    generalize kshift k = ks at CG s2
    gi_wp2
    gi_region_with_o (refine ⟨trivial, rfl, ?_⟩; gi_at_call 49; refine (CallsIn.inRound l (callsIn_wide.2 (CG.out _))).mono ?_; rintro e w1 ⟨rfl, hb1⟩; have hs0 := (cell_bel hb1 s0); have hs1 := (cell_bel hb1 s1); have hs2 := (cell_bel hb1 s2); have hc0 := (cell_bel hb1 c0); have hf0 := (frozen_bel hb1 c0 f0); have HB1 := hid hb1; clear hb1)
    all_goals gi_wp2
    all_goals exact HI.out.step (S := CbS _ _ _) HB1.out x _ (by rw [HL.out, ← HLL.out]) (fun g hg => by
      rcases hg with rfl | rfl | ⟨a, ha, rfl⟩
      · omega
      · omega
      · injection ha with ha; subst ha; show w.heap.size + 1 ≠ _; omega)
  case done =>
    rintro D ys W hD rfl hI hK
    have hL := hI.b2.cell 0
    rw [HMM.out, show ndig k 32 = 256 / kbits k from rfl, lackD_upto k HK.out] at hL
    have hS : shp k = #[.int .i64 (kbits k : Nat), .int .i64 (kchains k : Nat), .int .i64 (kshift k : Nat)] := rfl
    have s0 := hI.b0.cell 0; have s1 := hI.b0.cell 1; have s2 := hI.b0.cell 2
    rw [hS] at s0 s1 s2
    simp at s0 s1 s2 hL
    have hc : kcheck k h = ksum k h (256 / kbits k) * 2 ^ kshift k := rfl
    have hcb := ksum_bound HK.out h
    generalize ksum k h (256 / kbits k) = L at hL hc
    have HI := hid hI; have HKD := hid hK
    clear hI hK hS
    have HKS : Hid (kshift k ≤ 7) := by show _ ≤ _; rcases HK.out with rfl | rfl | rfl | rfl <;> decide
    generalize kshift k = ks at s2 hc HKS
    have hks : ks ≤ 7 := HKS.out
    have hwr : wrap64 (L * 2 ^ min ks 64) = kcheck k h := by rw [Nat.min_eq_left (by omega), hc]; rw [hc] at hcb; unfold wrap64; omega
    have HWR := hid hwr; have HCB := hid hcb
    clear hwr hcb hc hks
    go_wp2
    rw [HWR.out]
    have hcb := HCB.out
    clear HWR HCB
    have HAL : Hid (kall k h = h ++ [kcheck k h / 256, kcheck k h % 256]) := rfl
    generalize kcheck k h = T at hcb HAL ⊢
    have u0 : IntKind.u8.wrap (T / 256) = T / 256 := by simp [IntKind.wrap, IntKind.bits, IntKind.signed]; omega
    have u1 : IntKind.u8.wrap T = T % 256 := by simp [IntKind.wrap, IntKind.bits, IntKind.signed]
    have U0 := hid u0; have U1 := hid u1
    have HT := hid hcb
    clear hcb
    refine wp_calm ?_
    refine wp_region_held (S := fun w' => Hid (Below W.heap.size W w')) (by kernel_rfl) ?_
    change wpAnyH _ _ _ _ _ _ _ _ W.drew
    have G0 : Hid (Below W.heap.size W W.drew) := (Below.refl _ _).drew
    have E0 : Hid (W.drew.heap.size = W.heap.size) := rfl
    generalize W.drew = y0 at G0 E0 ⊢
    refine wpAnyH_take (i := 0) (oi := { dst := some 24, op := _, type := _, pos := _, after := _, guard := _ }) (v := .agg (shp k)) rfl (by kernel_rfl) (by kernel_rfl) (by kernel_rfl) (fun _ _ _ h => h) (yieldsIf_load_mid (cs := (shp k).toList) (by rfl) _ _ rfl _ _ rfl _ (fun w' hSw => blk_rng (HI.out.b0.below (Hid.out hSw))) Tryd.underlying61 rfl HSI.out) (by assumption) ?_
    try simp only [Act.put, List.setIfInBounds_toArray, List.set_cons_zero, List.set_cons_succ]
    refine wpAnyH_take (i := 1) (oi := { dst := some 25, op := _, type := _, pos := _, after := _, guard := _ }) (v := ?_) rfl (by kernel_rfl) (by kernel_rfl) (by kernel_rfl) (fun _ _ _ h => h) (Or.inl ⟨by kernel_rfl, ?_⟩) (by assumption) ?_
    rotate_left
    · (intro w hSw; go_simp; try with_reducible rfl)
    try simp only [Act.put, List.setIfInBounds_toArray, List.set_cons_zero, List.set_cons_succ]
    refine wpAnyH_take (i := 2) (oi := { dst := some 26, op := _, type := _, pos := _, after := _, guard := _ }) (v := ?_) rfl (by kernel_rfl) (by kernel_rfl) (by kernel_rfl) (fun _ _ _ h => h) (Or.inl ⟨by kernel_rfl, ?_⟩) (by assumption) ?_
    rotate_left
    · (intro w hSw; go_simp; try with_reducible rfl)
    try simp only [Act.put, List.setIfInBounds_toArray, List.set_cons_zero, List.set_cons_succ]
    refine wpAnyH_take (i := 3) (oi := { dst := some 27, op := _, type := _, pos := _, after := _, guard := _ }) (v := ?_) rfl (by kernel_rfl) (by kernel_rfl) (by kernel_rfl) (fun _ _ _ h => h) (Or.inl ⟨by kernel_rfl, ?_⟩) (by assumption) ?_
    rotate_left
    · (intro w hSw; go_simp; try with_reducible rfl)
    try simp only [Act.put, List.setIfInBounds_toArray, List.set_cons_zero, List.set_cons_succ]
    refine wpAnyH_take (i := 4) (oi := { dst := some 28, op := _, type := _, pos := _, after := _, guard := _ }) (v := ?_) rfl (by kernel_rfl) (by kernel_rfl) (by kernel_rfl) (fun _ _ _ h => h) (Or.inl ⟨by kernel_rfl, ?_⟩) (by assumption) ?_
    rotate_left
    · (intro w hSw; go_simp; try with_reducible rfl)
    try simp only [Act.put, List.setIfInBounds_toArray, List.set_cons_zero, List.set_cons_succ]
    refine wpAnyH_take (i := 5) (oi := { dst := some 29, op := _, type := _, pos := _, after := _, guard := _ }) (v := ?_) rfl (by kernel_rfl) (by kernel_rfl) (by kernel_rfl) (fun _ _ _ h => h) (Or.inl ⟨by kernel_rfl, ?_⟩) (by assumption) ?_
    rotate_left
    · (intro w hSw; go_simp; try with_reducible rfl)
    try simp only [Act.put, List.setIfInBounds_toArray, List.set_cons_zero, List.set_cons_succ]
    refine wpAnyH_take (i := 6) (oi := { dst := some 30, op := _, type := _, pos := _, after := _, guard := _ }) (v := ?_) rfl (by kernel_rfl) (by kernel_rfl) (by kernel_rfl) (fun _ _ _ h => h) (Or.inl ⟨by kernel_rfl, ?_⟩) (by assumption) ?_
    rotate_left
    · (intro w hSw; go_simp; try with_reducible rfl)
    try simp only [Act.put, List.setIfInBounds_toArray, List.set_cons_zero, List.set_cons_succ]
    refine wpAnyH_ready (rs := [7]) (by kernel_rfl) (by simp) ?_
    refine (AllReadyH.cons (o := { dst := some 31, op := _, type := _, pos := _, after := _, guard := _ }) rfl (fun Qc hQc => ?_) AllReadyH.nil)
    go_simp
    have G1 : Hid (Below W.heap.size W (y0.alloc (.cells #[.int .u8 (T / 256), .int .u8 (T % 256)] 5))) := G0.out.alloc (Nat.le_of_eq E0.out.symm) _
    have N1 : Hid (Rp (y0.alloc (.cells #[.int .u8 (T / 256), .int .u8 (T % 256)] 5)) none (some ⟨y0.heap.size, 0, none⟩) [T / 256, T % 256]) := Blk.rp (xs := [T / 256, T % 256]) (Blk.new y0 5 _)
    have E1 : Hid ((y0.alloc (.cells #[.int .u8 (T / 256), .int .u8 (T % 256)] 5)).heap.size = W.heap.size + 1) := by show _ = _; rw [World.size_alloc, E0.out]
    refine hQc.out _ _ G1 (fun hHeld => ?_)
    clear hQc Qc G0
    generalize y0.alloc (.cells #[.int .u8 (T / 256), .int .u8 (T % 256)] 5) = y1 at G1 N1 E1 hHeld ⊢
    try simp only [Act.put, List.setIfInBounds_toArray, List.set_cons_zero, List.set_cons_succ]
    refine wpAnyH_ready (rs := [8]) (by kernel_rfl) (by simp) ?_
    refine (AllReadyH.cons (o := { dst := some 32, op := _, type := _, pos := _, after := _, guard := _ }) rfl (fun Qc hQc => ?_) AllReadyH.nil)
    rw [if_pos (by rfl)]
    refine wp_append_u8 (.tmp 25) (.tmp 31) rfl ⟨w.heap.size + 1, 0, none⟩ 32 h HH.out.len.symm rfl (blk_rp (HI.out.b1.below G1.out)) ⟨y0.heap.size, 0, none⟩ 2 2 [T / 256, T % 256] rfl (by decide) rfl N1.out (by decide) ?_
    intro y2 c2 hs2 hb2 ⟨hu2, hr2⟩
    rw [E1.out] at hu2
    have U2 := hid hu2
    clear hu2
    have G2 := hid (G1.out.trans (hb2.mono (by rw [E1.out]; omega)))
    have E2 : Hid (y2.heap.size = W.heap.size + 1 + 1) := by show _ = _; rw [hs2, E1.out]
    rw [E1.out] at hr2
    rw [E1.out]
    have N2 := hid hr2
    clear hs2 hb2 hr2
    refine hQc.out _ _ G2 (fun hHeld => ?_)
    clear hQc Qc
    try simp only [Act.put, List.setIfInBounds_toArray, List.set_cons_zero, List.set_cons_succ]
    refine wpAnyH_ready (rs := [9]) (by kernel_rfl) (by simp) ?_
    refine (AllReadyH.cons (o := { dst := some 33, op := _, type := _, pos := _, after := _, guard := _ }) rfl (fun Qc hQc => ?_) AllReadyH.nil)
    go_simp
    go_at_call 74; refine (scut_any _ _ _ _ _).mono ?_; rintro e y3 ⟨rfl, hy3⟩
    have hc3 : Blk y3 y2.heap.size 61 (shp k) ∧ Blk y3 (y2.heap.size + 1) 29 #[.slice (some ⟨W.heap.size + 1, 0, none⟩) 34 c2] ∧ Below y2.heap.size y2 y3 := by rw [hy3]; exact blks2 _ _ _ _ _
    rw [← HAL.out] at N2
    have CB3 : Hid (Cb k y2.heap.size (y2.heap.size + 1) (some ⟨W.heap.size + 1, 0, none⟩) 34 c2 (kall k h) y3) := ⟨hc3.1, hc3.2.1, N2.out.belowN hc3.2.2⟩
    have NI3 : Hid (∀ g, CbS y2.heap.size (y2.heap.size + 1) (some ⟨W.heap.size + 1, 0, none⟩) g → NotInt y3 g) := by
      rintro g (rfl | rfl | ⟨a, ha, rfl⟩)
      · exact ⟨_, _, hc3.1, by decide⟩
      · exact ⟨_, _, hc3.2.1, by decide⟩
      · injection ha with ha; subst ha
        obtain ⟨cs, hcs⟩ := U2.out
        exact ⟨cs, _, hcs.below hc3.2.2, by decide⟩
    have G3 := hid (G2.out.trans (hc3.2.2.mono (by rw [E2.out]; omega)))
    clear hy3 hc3
    go_wp2_with fail
    refine hQc.out _ _ G3 (fun hHeld => ?_)
    clear hQc Qc
    try simp only [Act.put, List.setIfInBounds_toArray, List.set_cons_zero, List.set_cons_succ]
    refine wpAnyH_take (i := 10) (oi := { dst := some 4, op := _, type := _, pos := _, after := _, guard := _ }) (v := ?_) rfl (by kernel_rfl) (by kernel_rfl) (by kernel_rfl) (fun _ _ _ h => h) (Or.inl ⟨by kernel_rfl, ?_⟩) (by assumption) ?_
    rotate_left
    · (intro w hSw; go_simp; try with_reducible rfl)
    try simp only [Act.put, List.setIfInBounds_toArray, List.set_cons_zero, List.set_cons_succ]
    refine wpAnyH_done (by kernel_rfl) ?_ _
    try simp only [Act.put, List.setIfInBounds_toArray, List.set_cons_zero, List.set_cons_succ]
    unfold Qn
    go_wp2
    have hlt : D < W.heap.size := (Array.getElem?_eq_some_iff.1 HKD.out).1
    have hK3 : y3.heap[D]? = some (.deferred (some [])) := (G3.out.block D hlt).trans HKD.out
    refine ⟨by simp, .inl ⟨_, _, rfl, run_takeDeferred hK3, ?_⟩⟩
    have hxs : w.heap.size ≤ x1.heap.size := by rw [← S1.out]; omega
    have hxW : x1.heap.size ≤ W.heap.size := by omega
    refine ⟨_, results_tmp rfl _ _ _, y2.heap.size, y2.heap.size + 1, some ⟨W.heap.size + 1, 0, none⟩, c2, rfl, CB3.out.own (grownBy_putObj' _ D _) (fun r e => by cases e; exact ⟨_, hK3, rfl⟩), ?_, fun g hg => (NI3.out g hg).own (grownBy_putObj' _ D _) (fun r e => by cases e; exact ⟨_, hK3, rfl⟩), ?_⟩
    · have := E2.out
      rintro g (rfl | rfl | ⟨a, ha, rfl⟩)
      · omega
      · omega
      · injection ha with ha; subst ha; show w.heap.size ≤ W.heap.size + 1; omega
    · exact (HI.out.bl.trans (G3.out.mono HI.out.bl.size)).trans (belowK_b (w := w) (Nat.le_refl _) y3 D _ _ (by omega) hK3 rfl rfl)
  case stop =>
    rintro D c pre W _ _ h _
    exact h.elim
end Go.Proofs.YtobceieadjpaaaaDoor
/-
  What is proved here: the code's own digits of a hash and its check sum.
-/
namespace Go.Proofs.YtobceieadjpaaaaDoor
open Go.ChangeShapes Go.WideShapes Go.ChangeAt Go.RowKit Go.Shelf
set_option linter.unusedVariables false
set_option maxRecDepth 20000
attribute [local go_sem] Oper.semAt_some

theorem make_ints (n : Nat) (hn : n < 1000000000000) (u : World) : (Instr.makeSlice 79 (.int .i64 0) (.int .i64 (n : Int))).run Tryd.prog u =
      .ok (.slice (some ⟨u.heap.size, 0, none⟩) 0 n) (u.alloc (.cells (Array.replicate n (Value.int .i64 0)) 3)) := by
  obtain ⟨i0, hi, hz0, hz1, hz2⟩ := info_parts info_int
  have h := run_make (P := Tryd.prog) u 79 3 i0 (.int .i64 0) Tryd.underlying79 hi hz0 .i64 .i64 0 (n : Int) (by omega) (by omega) (by rw [hz2]; omega) (by omega)
  have e : ((n : Int)).toNat = n := by omega
  rw [e] at h
  have e2 : madeCells (Value.int .i64 0).cells (n * i0.size) = Array.replicate n (Value.int .i64 0) := by
    rw [hz1, Nat.mul_one]
    unfold madeCells
    refine Array.ext (by simp) (fun j h1 h2 => ?_)
    simp [Value.cells, Nat.mod_one]
  rw [e2] at h
  exact h
theorem own_made_int (u : World) (n B : Nat) (hn : n ≤ maxLen) (hB : B ≤ u.heap.size) : (u.alloc (.cells (Array.replicate n (Value.int .i64 0)) 3)).ownsRow B 3 1 (.slice (some ⟨u.heap.size, 0, none⟩) 0 n) 0 (i64s []) :=
  ⟨by simp [i64s], .inr ⟨u.heap.size, n, _, rfl, hB, heap_alloc_new u _, by omega, hn, by simp, by simp [i64s]⟩⟩
theorem kall_length {k : Int} {h : List Int} (hh : Ky h) : (kall k h).length = 34 := by unfold kall; simp [hh.len]
theorem kall_bs {k : Int} {h : List Int} (hk : Kd k) (hh : Ky h) : Bs (kall k h) := by
  have hx := ksum_bound hk h
  unfold kall
  refine bs_append hh.bs (fun v hv => ?_)
  simp only [List.mem_cons, List.not_mem_nil, or_false] at hv
  rcases hv with rfl | rfl <;> omega
/-- the digits that have come -/
def dval (pre : List Dg) : List Int := pre.map fun x => (x.2.val : Int)
theorem dval_snoc (pre : List Dg) (x : Dg) : dval (pre ++ [x]) = dval pre ++ [(x.2.val : Int)] := by simp [dval]
theorem dval_length (pre : List Dg) : (dval pre).length = pre.length := by simp [dval]
theorem dval_upto (k : Int) (hk : Kd k) (h : List Int) : dval (upto (dgs (kbits k) (8 / kbits k) (kall k h)) (kchains k)) = digits k h := by
  unfold dval upto digits
  rw [List.map_map]
  refine List.map_congr_left (fun i _ => ?_)
  have l := dig_lo (kall k h) i (kbits k) (8 / kbits k)
  have g := dig_hi (kall k h) i (kbits k) (8 / kbits k)
  have p := pow_le8 (kbits k) (kbits_le k)
  simp only [Function.comp_apply, dgs]
  rw [Nat.mod_eq_of_lt (by omega), Int.toNat_of_nonneg l]
/-- between two rounds -/
structure DgI (LB n0 : Nat) (S : Nat → Prop) (w : World) (pre : List Dg) (W : World) : Prop where
  lb : ∃ v, Boxed W LB 79 v ∧ W.ownsRow n0 3 1 v pre.length (i64s (dval pre)) ∧ True
  ty : ∀ g, S g → NotInt W g
  bl : Below n0 w W
theorem DgI.own {LB n0 B : Nat} {S : Nat → Prop} {w : World} (hn : n0 ≤ w.heap.size) (hB : n0 ≤ B) : OwnFrom B (DgI LB n0 S w) := fun pre W W' row hs hg hr =>
  ⟨holdsRow_own n0 LB 79 3 1 (fun pre => pre.length) (fun pre => i64s (dval pre)) (fun _ _ => True) pre W W' row hs.lb hg (fun r e => (hr r e).2), fun g hS => by
    obtain ⟨cs, t, h1, h2⟩ := hs.ty g hS
    exact ⟨cs, t, Blk.own (cs := cs) h1 hg (fun r e => (hr r e).2), h2⟩, hs.bl.grown hg (Nat.le_trans hn hs.bl.size) (fun r e => Nat.le_trans hB (hr r e).1)⟩
theorem DgI.step {LB n0 : Nat} {S : Nat → Prop} {w : World} {pre : List Dg} {W w1 : World} {v v' : Value} {tmp : Obj} (hty : ∀ g, S g → NotInt W g) (hbl : Below n0 w W) (x : Dg) (hn : n0 ≤ W.heap.size) (hL : n0 ≤ LB) (hS : ∀ g, S g → g ≠ LB)
    (hv : Boxed W LB 79 v) (hrow : W.ownsRow n0 3 1 v pre.length (i64s (dval pre))) (hown : w1.ownsRow n0 3 1 v' (pre.length + 1) (i64s (dval pre) ++ [.int .i64 (x.2.val : Int)])) (hgrow : (W.alloc tmp).grownBy w1 v.ownBlock) :
    KeepsOthers W (w1.setCell ⟨LB, 0, none⟩ v') ∧ KpS S W (w1.setCell ⟨LB, 0, none⟩ v') ∧ DgI LB n0 S w (pre ++ [x]) (w1.setCell ⟨LB, 0, none⟩ v') := by
  obtain ⟨hv1, hv2, hr2, hk2, hb2⟩ := hv.appended (by decide) hrow hn hL hown hgrow
  have same : ∀ g, S g → (w1.setCell ⟨LB, 0, none⟩ v').heap[g]? = W.heap[g]? := fun g hg => by
    obtain ⟨cs, t, h1, h2⟩ := hty g hg
    have hlt : g < W.heap.size := Blk.lt (cs := cs) h1
    refine (Below.heap_setCell w1 _ _ g (by exact hS g hg)).trans ((hgrow.block g (by simp; omega) ?_).trans (Below.heap_alloc W tmp g hlt))
    intro e
    rcases hrow.2 with ⟨rfl, _⟩ | ⟨g', cap, cur, rfl, _, hgb, _⟩
    · simp [Value.ownBlock] at e
    · obtain rfl : g = g' := by simpa [Value.ownBlock] using e
      rw [h1] at hgb
      injection hgb with hgb
      injection hgb with _ e4
      exact h2 e4
  refine ⟨hk2, ⟨hb2.size, fun g hg _ => same g hg⟩, ⟨⟨v', hv2, ?_, trivial⟩, fun g hg => ?_, hbl.trans hb2⟩⟩
  · rw [dval_snoc, List.length_append]
    simpa [i64s] using hr2
  · obtain ⟨cs, t, h1, h2⟩ := hty g hg
    exact ⟨cs, t, (same g hg).trans h1, h2⟩
theorem lDigits_no (k : Int) (h : List Int) (w : World) (hk : k ≠ 1 ∧ k ≠ 2 ∧ k ≠ 3 ∧ k ≠ 4) :
    Calls Tryd.prog 45 #[.int .i64 k, .agg (u8s h).toArray] w fun e w' => e = .returned (.slice none 0 0) ∧ Below w.heap.size w w' := by
  have CS := hid (shapeOf_any k)
  rw [shp_no hk] at CS
  clear hk
  go_enter Tryd.func45, Tryd.ntmps45
  go_wp2_with (go_at_call 35; refine (CS.out _).mono ?_; rintro e w1 ⟨rfl, hb1⟩; have HB := hid (((Below.refl _ _).alloc (Nat.le_refl _) _).trans (hb1.mono (by simp))); clear hb1)
  go_ret
  exact ⟨rfl, HB.out.alloc HB.out.size _⟩
set_option maxRecDepth 20000 in
set_option maxHeartbeats 4000000 in
theorem lDigits_kd (k : Int) (h : List Int) (w : World) (hk : Kd k) (hh : Ky h) :
    Calls Tryd.prog 45 #[.int .i64 k, .agg (u8s h).toArray] w fun e w' => ∃ A c, e = .returned (.slice A (kchains k) c) ∧ RpI w' A (digits k h) ∧ Below w.heap.size w w' := by
  refine (callsIn_wide (n := 2)).1 ?_
  refine callsIn_of_wp_marks Tryd.func45 rfl trivial ?_ rfl
  simp only [Tryd.ntmps45, List.size_toArray, List.length_cons, List.length_nil, Nat.reduceAdd, Nat.reduceSub, Array.replicate_succ, Array.replicate_zero, List.push_toArray, List.append_toArray, List.nil_append, List.cons_append]
  refine (wpIn_wide (n := 2)).2 ?_
  have CS := hid (shapeOf_any k)
  have HSI := hid (shape_info k); have HHI := hid (hash_info hh.len)
  have HH := hid hh; have HK := hid hk
  have hkc := kchains_le k
  have hkz : ((kchains k : Nat) : Int) ≠ 0 := by rcases hk with rfl | rfl | rfl | rfl <;> decide
  have hkb : (((kchains k : Nat) : Int) == 0) = false := by simpa using hkz
  have hmk := make_ints (kchains k) (by omega)
  have HSP : Hid (shp k = #[.int .i64 (kbits k : Nat), .int .i64 (kchains k : Nat), .int .i64 (kshift k : Nat)]) := rfl
  have CD := hid (fun w => sdigits_any k h hk hh w)
  have K0 := hid (Blk.new w 26 (u8s h).toArray)
  have B0 : Hid (Below w.heap.size w (w.alloc (.cells (u8s h).toArray 26))) := (Below.refl _ _).alloc (Nat.le_refl _) _
  obtain ⟨kc, hkce⟩ : ∃ kc, kc = kchains k := ⟨_, rfl⟩
  have HKC := hid hkce
  rw [← hkce] at hkc hkz hkb hmk HSP ⊢
  rw [HSP.out] at CS
  generalize kbits k = kb at CS HSP
  generalize kshift k = ks at CS HSP
  clear hk hh hkce
  rw [HSP.out] at CD
  go_wp2_with (first
    | (go_at_call 35; refine (CS.out _).mono ?_; rintro e w1 ⟨rfl, hb1⟩; have HB := hid hb1; clear hb1)
    | (refine load_at rfl 26 (.tmp 3) rfl w.heap.size 0 rfl (u8s h) _ (blk_row ((((K0.out.below HB.out).alloc _).alloc _).alloc _)) Tryd.underlying26 rfl HHI.out (u8s h).toArray rfl ?_)
    | (go_at_call 39; refine (CD.out _).mono ?_; rintro e w5 ⟨bs, sb, A, c, rfl, hcb, hS, hni, hb5⟩; have HCB := hid hcb; have HS := hid hS; have HNI := hid hni; have HB5 := hid hb5; clear hcb hS hni hb5))
  have n1 : w.heap.size + 1 ≤ w1.heap.size := by have := HB.out.size; rwa [World.size_alloc] at this
  obtain ⟨W4, hW4⟩ : ∃ W4, W4 = ((w1.alloc (.cells #[.int .i64 kb, .int .i64 kc, .int .i64 ks] 61)).alloc (.cells (Array.replicate kc (.int .i64 0)) 3)).alloc (.cells #[.slice (some ⟨w1.heap.size + 1, 0, none⟩) 0 kc] 79) := ⟨_, rfl⟩
  rw [← hW4] at HB5 HS
  have S4 : Hid (W4.heap.size = w1.heap.size + 1 + 1 + 1) := by show _ = _; rw [hW4]; simp
  have BX4 : Hid (Boxed W4 (w1.heap.size + 1 + 1) 79 (.slice (some ⟨w1.heap.size + 1, 0, none⟩) 0 kc)) := by
    show Boxed _ _ _ _
    rw [hW4]
    have := Boxed.new ((w1.alloc (.cells #[.int .i64 kb, .int .i64 kc, .int .i64 ks] 61)).alloc (.cells (Array.replicate kc (.int .i64 0)) 3)) 79 (.slice (some ⟨w1.heap.size + 1, 0, none⟩) 0 kc)
    rwa [World.size_alloc, World.size_alloc] at this
  have OR4 : Hid (W4.ownsRow w.heap.size 3 1 (.slice (some ⟨w1.heap.size + 1, 0, none⟩) 0 kc) 0 (i64s [])) := by
    show World.ownsRow _ _ _ _ _ _ _
    rw [hW4]
    have := own_made_int (w1.alloc (.cells #[.int .i64 kb, .int .i64 kc, .int .i64 ks] 61)) kc w.heap.size (by unfold maxLen; omega) (by rw [World.size_alloc]; omega)
    rw [World.size_alloc] at this
    exact this.alloc _
  have B4 : Hid (Below w.heap.size w W4) := by
    show Below _ _ _
    rw [hW4]
    exact (((B0.out.trans (HB.out.mono (by rw [World.size_alloc]; omega))).alloc (by omega) _).alloc (by simp; omega) _).alloc (by simp; omega) _
  have I0 : DgI (w1.heap.size + 1 + 1) w.heap.size (CbS bs sb A) w [] w5 := ⟨⟨_, BX4.out.kept (below_grown HB5.out) (by simp), own_below OR4.out HB5.out, trivial⟩, HNI.out, B4.out.trans (HB5.out.mono B4.out.size)⟩
  have n5 : w1.heap.size + 1 + 1 + 1 ≤ w5.heap.size := by have := HB5.out.size; rw [S4.out] at this; exact this
  have hSl : ∀ g, CbS bs sb A g → g ≠ w1.heap.size + 1 + 1 := fun g hg => by have := HS.out g hg; rw [S4.out] at this; omega
  have HSL := hid hSl
  clear hW4 BX4 OR4 B4 K0 B0 hSl hmk
  refine (wpIn_wide (n := 2)).1 ?_
  refine wpIn_rangeFunc_ownF (n := 2) rfl (by omega) (gf := 97) (lb := #[.pointer (some ⟨bs, 0, none⟩), .pointer (some ⟨sb, 0, none⟩)]) rfl trivial (enters_of Tryd.func97 (by kernel_rfl) rfl)
    (cut_stops k HK.out 34 (.inr rfl) bs sb A c (kall k h) (kall_bs HK.out HH.out) (kall_length HH.out) w5 HCB.out) KpS.t (KpS.b (fun g hg => by
      obtain ⟨cs, t, h1, _⟩ := HNI.out g hg
      exact Blk.lt (cs := cs) h1)) (Below.refl _ _) (fun _ => rfl) (DgI (w1.heap.size + 1 + 1) w.heap.size (CbS bs sb A) w) (fun _ _ _ => False) (DgI.own (Nat.le_refl _) (by omega)) (fun _ _ _ _ _ hs _ _ => hs) I0
    (fun x => { tmps := #[.int .i64 k, .agg (u8s h).toArray, undef, .pointer (some ⟨w.heap.size, 0, none⟩), .slice none 0 0, .pointer (some ⟨w1.heap.size, 0, none⟩), .pointer (some ⟨w1.heap.size + 1 + 1, 0, none⟩), undef, .int .i64 (x.2.val : Int), .int .i64 k, .agg #[.int .i64 kb, .int .i64 kc, .int .i64 ks], .pointer (some ⟨w1.heap.size, 1, none⟩), .int .i64 kc, .bool false, .pointer (some ⟨w1.heap.size, 1, none⟩), .int .i64 kc, .slice (some ⟨w1.heap.size + 1, 0, none⟩) 0 kc, .agg #[.int .i64 kb, .int .i64 kc, .int .i64 ks], .agg (u8s h).toArray, .func (.func 97) #[] #[.pointer (some ⟨bs, 0, none⟩), .pointer (some ⟨sb, 0, none⟩)], .int .i64 (x.1.val : Int), .int .i64 (x.2.val : Int), undef, undef, undef, undef, undef], defers := [] }) ?assign ?body ?done ?stop
  case assign =>
    intro l x W K hK
    dsimp only [encD]
    gi_wp2
    exact hK
  case body =>
    rintro l pre x W ⟨⟨v, hv, hrow, -⟩, hty, hbl⟩ hlen
    have hlen2 : pre.length < 265 := Nat.lt_of_lt_of_le hlen (kchains_le k)
    obtain ⟨i0, hi, hz0, hz1, hz2⟩ := info_parts info_int
    have HV := hid hv; have HROW := hid hrow; have HTY := hid hty; have HBL := hid hbl
    have hc := hv.cell
    have hW : w.heap.size ≤ W.heap.size := hbl.size
    have HI := hid hi; have HZ0 := hid hz0; have HZ1 := hid hz1; have HZ2 := hid hz2; have HW := hid hW; have HLEN := hid hlen2
    have N1 := n1
    clear hv hrow hty hbl hi hz0 hz1 hz2 hW hlen hlen2
    gi_wp2_with (gi_at_builtin; refine wpListIn_append_own _ rfl _ _ 79 rfl w.heap.size 3 i0 (.int .i64 0) 1 8 Tryd.underlying79 HI.out HZ0.out HZ1.out HZ2.out rfl (by decide) _ _ _ rfl (HROW.out.alloc _) ⟨W.heap.size, 0, none⟩ 1 1 [.int .i64 (x.2.val : Int)] rfl rfl (cell_one_new _ _ _) (by simp [Value.oneCell']) (by have := HLEN.out; unfold maxLen; omega) (by have := HLEN.out; omega) (by have := HW.out; simp; omega) ?_; intro v' w9 hown' hgrow _; obtain ⟨g', cap', rfl⟩ := ownsRow_succ hown'; have hstep := DgI.step HTY.out HBL.out x HW.out (by omega) HSL.out HV.out HROW.out hown' hgrow; obtain ⟨hv1, -, -, -, -⟩ := HV.out.appended (by decide) HROW.out HW.out (by omega) hown' hgrow; have hc1 := hv1.cell; have hf1 := hv1.frozen; have HST := hid hstep; clear hown' hgrow hstep hv1)
    exact HST.out
  case done =>
    rintro D ys W hD rfl ⟨⟨v, hv, hrow, -⟩, hty, hbl⟩ hK
    have hc := hv.cell
    have hm : ndig k 34 = kchains k := rfl
    rw [hm, upto_length, dval_upto k HK.out, ← HKC.out] at hrow
    obtain ⟨A9, c9, rfl, _, hr9⟩ := ints_of_own hrow
    have HR9 := hid hr9; have HK9 := hid hK; have HBL := hid hbl
    clear hv hrow hty hbl hK hr9
    go_wp2
    refine ⟨by simp, .inl ⟨_, _, rfl, run_takeDeferred HK9.out, ?_⟩⟩
    refine ⟨_, results_tmp rfl _ _ _, A9, c9, rfl, ?_, HBL.out.trans (belowK_b (w := w) (Nat.le_refl _) W D _ _ (by omega) HK9.out rfl rfl)⟩
    exact HR9.out.same fun g cs hh => (grownBy_putObj' W D (.deferred none)).block g (Blk.lt (cs := cs) hh) (fun e => by
      injection e with e
      subst e
      rw [HK9.out] at hh
      cases hh)
  case stop =>
    rintro D c pre W _ _ h _
    exact h.elim
theorem lDigits_any (k : Int) (h : List Int) (w : World) (hh : Ky h) :
    Calls Tryd.prog 45 #[.int .i64 k, .agg (u8s h).toArray] w fun e w' => ∃ A c, e = .returned (.slice A (kchains k) c) ∧ RpI w' A (digits k h) ∧ Below w.heap.size w w' := by
  rcases kd_cases k with hk | hk | hk | hk | hk
  · exact lDigits_kd k h w (.inl hk) hh
  · exact lDigits_kd k h w (.inr (.inl hk)) hh
  · exact lDigits_kd k h w (.inr (.inr (.inl hk))) hh
  · exact lDigits_kd k h w (.inr (.inr (.inr hk))) hh
  · refine (lDigits_no k h w hk).mono ?_
    rintro e w' ⟨rfl, hb⟩
    have h0 := kchains_no hk
    exact ⟨none, 0, by rw [h0], fun hx => by rw [digits_length, h0] at hx; omega, hb⟩
end Go.Proofs.YtobceieadjpaaaaDoor
/-
  What is proved here: the fixed fact that each statement on keys for one signature asks first.
-/
namespace Go.Proofs.YtobceieadjpaaaaDoor
open Go.ChangeShapes Go.WideShapes Go.ChangeAt Go.RowKit
set_option linter.unusedVariables false
set_option maxRecDepth 20000

set_option maxRecDepth 100000 in
theorem zero_H : ∃ Z : Array Value, Hid (Z = (u8s (List.replicate 32 0)).toArray) ∧ (¬ Z = #[]) ∧ ∀ w : World, Sem.run Tryd.prog (zeroValue 26) w = Result.ok (.agg Z) w := by
  refine ⟨(List.replicate 32 (.int .u8 0)).toArray, ?_, ?_, fun w => by kernel_rfl⟩
  · show _ = _
    unfold u8s
    rw [List.map_replicate]
  · intro h
    have := congrArg Array.size h
    simp at this
theorem ky_zero : Ky (List.replicate 32 0) := ⟨by simp, fun v hv => by have := List.eq_of_mem_replicate hv; omega⟩
set_option maxRecDepth 20000 in
set_option maxHeartbeats 1000000 in
theorem kawake_any (w : World) : Calls Tryd.prog 13 #[] w fun e w' => e = .returned (.bool true) ∧ Below w.heap.size w w' := by
  obtain ⟨Z, HZ, hZ0, hZs⟩ := zero_H
  have C1 : Hid (∀ w, Calls Tryd.prog 43 #[.int .i64 3] w fun e w' => e = .returned (.int .i64 67) ∧ Below w.heap.size w w') := lChains_any 3
  have C2 : Hid (∀ w, Calls Tryd.prog 44 #[.int .i64 3] w fun e w' => e = .returned (.int .i64 2180) ∧ Below w.heap.size w w') := lSize_any 3
  have C3 : Hid (∀ w, Calls Tryd.prog 45 #[.int .i64 2, .agg Z] w fun e w' => ∃ A c, e = .returned (.slice A 133 c) ∧ RpI w' A (digits 2 (List.replicate 32 0)) ∧ Below w.heap.size w w') := by
    rw [HZ.out]
    exact fun w => lDigits_any 2 _ w ky_zero
  go_enter Tryd.func13, Tryd.ntmps13
  go_wp2_with (first
    | (go_at_call 43; refine (C1.out _).mono ?_; rintro e w1 ⟨rfl, hb1⟩; have H1 := hid hb1; clear hb1)
    | (go_at_call 44; refine (C2.out _).mono ?_; rintro e w2 ⟨rfl, hb2⟩; have H2 := hid (H1.out.trans (hb2.mono H1.out.size)); clear hb2)
    | (go_at_call 45; refine (C3.out _).mono ?_; rintro e w3 ⟨A, c, rfl, _, hb3⟩; have H3 := hid (H2.out.trans (hb3.mono H2.out.size)); clear hb3))
  go_ret
  exact ⟨rfl, H3.out⟩
end Go.Proofs.YtobceieadjpaaaaDoor
/-
  What is proved here: when two hashes are the same.
-/
namespace Go.Proofs.YtobceieadjpaaaaDoor
open Go.ChangeShapes Go.WideShapes Go.ChangeAt Go.RowKit
set_option linter.unusedVariables false
set_option maxRecDepth 20000

theorem neq_hash (a b : List Int) (ha : Ky a) (hb : Ky b) (w : World) :
    (binOp .neq 26 (.agg (u8s a).toArray) (.agg (u8s b).toArray)).run Tryd.prog w = .ok (.bool (!decide (a = b))) w := by
  have h := run_equalIn_bytes (P := Tryd.prog) w 9998 26 5 32 Tryd.underlying26 Tryd.underlying5 (fun w => by kernel_rfl) (a.map fun v => UInt8.ofNat v.toNat) (b.map fun v => UInt8.ofNat v.toNat) (by simp [ha.len]) (by simp [hb.len])
  rw [← to_u8 a ha.bs, ← to_u8 b hb.bs] at h
  rw [run_neq_struct, h]
  simp only [Result.andThen]
  congr 3
  rw [Bool.eq_iff_iff, beq_iff_eq, decide_eq_true_iff]
  exact ⟨fun e => u8_inj a b ha.bs hb.bs e, fun e => by rw [e]⟩
end Go.Proofs.YtobceieadjpaaaaDoor
/-
  What is proved here: what the arguments of the statements on keys for one signature hold when they are read: a hash, an id, a key.
-/
namespace Go.Proofs.YtobceieadjpaaaaDoor
open Go.ChangeShapes Go.WideShapes Go.ChangeAt Go.RowKit
set_option linter.unusedVariables false
set_option maxRecDepth 20000

section
variable {H : Type} {enc : TypeId × Value → H} {w : World} {base : Nat} {spare : Nat → Bool} {held : Bool}
theorem open_arr {T m : Nat} {fuel : Nat} {cs : List Value} {x : DataW H × List MemPlace} (hu : Tryd.prog.underlying T = some (.array m 5)) (hct : Tryd.prog.cellsOf T = m) (h : DataW.trod enc Tryd.prog w base spare held fuel T cs = some x) : ∃ K : List Int, K.length = m ∧ Bs K ∧ cs = u8s K := by
  obtain ⟨xs, n, _, _, hl, hn, he⟩ := DataW.trod_array hu h
  rw [hct] at hl
  have hc : Tryd.prog.cellsOf 5 = 1 := by kernel_rfl
  have each : ∀ i : Nat, ∃ v : Int, i < m → cs[i]? = some (.int .u8 v) ∧ 0 ≤ v ∧ v < 256 := by
    intro i
    by_cases hi : i < m
    · have h1 := he i hi
      rw [hc, Nat.mul_one, List.getElem?_eq_getElem (by omega : i < xs.length)] at h1
      obtain ⟨v, hv, _, hw⟩ := DataW.trod_int Tryd.underlying5 h1
      have b := bounds_u8 hw
      refine ⟨v, fun _ => ⟨?_, b.1, by omega⟩⟩
      have h2 := congrArg (fun l => l[0]?) hv
      simpa [List.getElem?_take, List.getElem?_drop] using h2
    · exact ⟨0, fun h => absurd h hi⟩
  obtain ⟨F, hF⟩ := Classical.axiomOfChoice each
  refine ⟨(List.range m).map F, by simp, fun v hv => ?_, ?_⟩
  · simp only [List.mem_map, List.mem_range] at hv
    obtain ⟨i, hi, rfl⟩ := hv
    exact (hF i hi).2
  · apply List.ext_getElem?
    intro i
    by_cases hi : i < m
    · rw [(hF i hi).1]
      simp [u8s, hi]
    · rw [List.getElem?_eq_none (by omega), List.getElem?_eq_none (by simp [u8s]; omega)]
theorem open_hash {fuel : Nat} {cs : List Value} {x : DataW H × List MemPlace} (h : DataW.trod enc Tryd.prog w base spare held fuel 26 cs = some x) : ∃ K, Ky K ∧ cs = u8s K := by
  obtain ⟨K, h1, h2, h3⟩ := open_arr Tryd.underlying26 (by kernel_rfl) h
  exact ⟨K, ⟨h1, h2⟩, h3⟩
theorem open_lkey {fuel : Nat} {cs : List Value} {x : DataW H × List MemPlace} (h : DataW.trod enc Tryd.prog w base spare held fuel 28 cs = some x) :
    ∃ (k : Int) (id : List Int) (q : Int) (sd : List Int), (id.length = 16 ∧ Bs id) ∧ (0 ≤ q ∧ q < 4294967296) ∧ Ky sd ∧ cs = .int .i64 k :: (u8s id ++ (.int .u32 q :: u8s sd)) := by
  obtain ⟨xs, n, _, _, hl, hn, he⟩ := DataW.trod_struct Tryd.underlying28 h
  rw [show Tryd.prog.cellsOf 28 = 50 by kernel_rfl] at hl
  match xs, hn with
  | [y0, y1, y2, y3], _ =>
    have e0 : DataW.trod enc Tryd.prog w base spare held n 3 ((cs.drop 0).take (Tryd.prog.cellsOf 3)) = some y0 := he 0 _ rfl
    have e1 : DataW.trod enc Tryd.prog w base spare held n 23 ((cs.drop 1).take (Tryd.prog.cellsOf 23)) = some y1 := he 1 _ rfl
    have e2 : DataW.trod enc Tryd.prog w base spare held n 24 ((cs.drop 17).take (Tryd.prog.cellsOf 24)) = some y2 := he 2 _ rfl
    have e3 : DataW.trod enc Tryd.prog w base spare held n 26 ((cs.drop 18).take (Tryd.prog.cellsOf 26)) = some y3 := he 3 _ rfl
    rw [show Tryd.prog.cellsOf 3 = 1 by kernel_rfl] at e0
    rw [show Tryd.prog.cellsOf 23 = 16 by kernel_rfl] at e1
    rw [show Tryd.prog.cellsOf 24 = 1 by kernel_rfl] at e2
    rw [show Tryd.prog.cellsOf 26 = 32 by kernel_rfl, List.take_of_length_le (by rw [List.length_drop]; omega)] at e3
    obtain ⟨k, hk, _, _⟩ := DataW.trod_int Tryd.underlying3 e0
    obtain ⟨id, hi1, hi2, hi3⟩ := open_arr Tryd.underlying23 (by kernel_rfl) e1
    obtain ⟨q, hq, _, hqw⟩ := DataW.trod_int Tryd.underlying24 e2
    obtain ⟨sd, hs, hsc⟩ := open_hash e3
    have hqb := bounds_u32 hqw
    refine ⟨k, id, q, sd, ⟨hi1, hi2⟩, ⟨by omega, by omega⟩, hs, ?_⟩
    have a1 : cs.drop 17 = (cs.drop 17).take 1 ++ cs.drop 18 := by
      rw [show cs.drop 18 = (cs.drop 17).drop 1 by rw [List.drop_drop]]
      exact (List.take_append_drop 1 _).symm
    have a2 : cs.drop 1 = (cs.drop 1).take 16 ++ cs.drop 17 := by
      rw [show cs.drop 17 = (cs.drop 1).drop 16 by rw [List.drop_drop]]
      exact (List.take_append_drop 16 _).symm
    have a3 : cs = (cs.drop 0).take 1 ++ cs.drop 1 := (List.take_append_drop 1 cs).symm
    rw [hk] at a3
    rw [hi3] at a2
    rw [hq, hsc] at a1
    rw [a3, a2, a1]
    rfl
theorem agg_of {r : Reach} {b0 : Nat} {t : TypeId} {v : Value} {d : TypeDesc} (hu : Tryd.prog.underlying t = some d) (hd : d.isRow = true) (h : Value.okWide Tryd.prog w r b0 t v) : ∃ cs, v = .agg cs := by
  unfold Value.okWide at h
  rw [hu] at h
  cases d <;> simp at hd
  all_goals
    obtain ⟨cs, h, _⟩ := h
    exact ⟨cs, h⟩
end
theorem arr_of {cs : Array Value} {K : List Int} (h : cs.toList = u8s K) : cs = (u8s K).toArray := by rw [← h]
/-- a key as cells -/
def lkeyC (k : Int) (id : List Int) (q : Int) (sd : List Int) : Array Value := (Value.int .i64 k :: (u8s id ++ (.int .u32 q :: u8s sd))).toArray
theorem lkey_of {cs : Array Value} {k : Int} {id : List Int} {q : Int} {sd : List Int} (h : cs.toList = .int .i64 k :: (u8s id ++ (.int .u32 q :: u8s sd))) : cs = lkeyC k id q sd := by
  unfold lkeyC
  rw [← h]
end Go.Proofs.YtobceieadjpaaaaDoor
