/-
  What is proved here: whether steps, and the end below them, may stand so on a way to a key.
-/
import Derived.Test.YtjhaamffgkialaaGreatDoorMY1
import Derived.Deep.DeepCutAuto
import Derived.Deep.RegionLaw
import Derived.Test.YtjhaamffgkialaaGreatDoorMX14
import Derived.RangeFuncNested
set_option linter.unusedSimpArgs false
set_option linter.unusedVariables false
namespace Go.Proofs.YtjhaamffgkialaaGreatDoor
open Go.ChangeShapes Go.WideShapes Go.ChangeAt Go.RowKit
set_option linter.unusedVariables false
set_option linter.unusedSimpArgs false
set_option maxRecDepth 20000

theorem stZ_ok : stZ.Ok := ⟨ky_zero, ky_zero⟩
theorem lead_at {key : List Int} {l : Int} {B : List Int} {S : List QS} {k : Nat} {s : QS} (h : S[k]? = some s) : leadS key l B (S.drop k) = if stepB key l B s = true then leadS key (s.n + 1) (chK s.n s.b (bitI key s.n)) (S.drop (k + 1)) else none := by
  obtain ⟨hl, rfl⟩ := List.getElem?_eq_some_iff.1 h
  rw [List.drop_eq_getElem_cons hl]
  rfl
theorem lead_none {key : List Int} {q : QP} (h : leadS key 0 zk q.ss = none) : leadB key q = false := by unfold leadB; rw [h]
theorem lead_some {key : List Int} {q : QP} {c : Int × List Int} (h : leadS key 0 zk q.ss = some c) : leadB key q = endB key q c := by unfold leadB; rw [h]
theorem chv_as (l : Int) {B : List Int} (b : Int) (hB : Ky B) : ∃ l2 B2, Ky B2 ∧ chV l B b = .tuple #[.agg (pc l2 B2), .bool (chB l B b)] ∧ (chB l B b = true → l2 = l + 1 ∧ B2 = chK l B b) := by
  unfold chV
  by_cases h : chB l B b = true
  · rw [if_pos h]; exact ⟨_, _, chk_ky hB h, by rw [h], fun _ => ⟨rfl, rfl⟩⟩
  · rw [if_neg h]; exact ⟨_, _, zk_ky, by rw [Bool.not_eq_true] at h; rw [h], fun h2 => absurd h2 h⟩
theorem InS.at {w : World} {A : Option Addr} {n : Nat} {S : List QS} (h : InS w A n S) {k : Nat} (hk : k < n) : ∃ b o s, A = some ⟨b, o, none⟩ ∧ S[k]? = some s ∧ s.Ok ∧ w.rangeAt b (o + k * 65) (stc s) := by
  obtain ⟨b, o, e, hlt, hat⟩ := h.at' (by omega)
  have hl := h.len
  have hs : S[k]? = some S[k] := List.getElem?_eq_getElem (by omega)
  exact ⟨b, o, _, e, hs, h.ok _ (List.getElem_mem (by omega)), hat k _ hs⟩
end Go.Proofs.YtjhaamffgkialaaGreatDoor
/-
  What is proved here: the text of an inner node of any length, as the code has it.
-/
namespace Go.Proofs.YtjhaamffgkialaaGreatDoor
open Go.ChangeShapes Go.WideShapes Go.ChangeAt Go.RowKit
set_option linter.unusedVariables false
set_option linter.unusedSimpArgs false
set_option maxRecDepth 20000

theorem inR_4w {w : World} {g : Nat} {B C D : Option Addr} {a b d : List Int} (hb : Blk w g 65 #[.slice none 0 0, .slice B 32 32, .slice C 32 32, .slice D 32 32]) (ha : Ky a) (hk : Ky b) (hd : Ky d) (h1 : Rp w none B a) (h2 : Rp w none C b) (h3 : Rp w none D d) :
    InR w (some ⟨g, 0, none⟩) 4 [[], a, b, d] := by
  refine ⟨rfl, by decide, fun _ => ⟨g, 0, rfl, hb.lt, fun i hi => ?_⟩⟩
  have h01 : i = 0 ∨ i = 1 ∨ i = 2 ∨ i = 3 := by omega
  rcases h01 with rfl | rfl | rfl | rfl
  · exact ⟨none, 0, [], rfl, by rw [hb.cell]; rfl, (fun v hv => by simp at hv), Rp.nil _ _ _, Nat.le_refl _, by simp⟩
  · exact ⟨B, 32, a, rfl, by rw [hb.cell, ha.len]; rfl, ha.bs, h1, by rw [ha.len]; decide, by rw [ha.len]; decide⟩
  · exact ⟨C, 32, b, rfl, by rw [hb.cell, hk.len]; rfl, hk.bs, h2, by rw [hk.len]; decide, by rw [hk.len]; decide⟩
  · exact ⟨D, 32, d, rfl, by rw [hb.cell, hd.len]; rfl, hd.bs, h3, by rw [hd.len]; decide, by rw [hd.len]; decide⟩
theorem len_4w {a b d : List Int} (ha : Ky a) (hb : Ky b) (hd : Ky d) : ∀ f ∈ [[], a, b, d], f.length ≤ 300 := fun f hf => by
  simp only [List.mem_cons, List.not_mem_nil, or_false] at hf
  rcases hf with rfl | rfl | rfl | rfl
  · decide
  · rw [ha.len]; decide
  · rw [hb.len]; decide
  · rw [hd.len]; decide
theorem text_4w {w : World} {F : FuncId} (CT : ∀ (tag : Int) (A : Option Addr) (n c : Nat) (L : List (List Int)) (w : World), InR w A n L → n ≤ 20 → (∀ f ∈ L, f.length ≤ 300) → 0 ≤ tag ∧ tag < 256 → Calls Tryz.prog F #[.int .u8 tag, .slice A n c] w fun e w' => ∃ A' c', e = .returned (.slice A' (textL tag L).length c') ∧ (textL tag L).length ≤ c' ∧ Fresh w w' A' (textL tag L) ∧ Below w.heap.size w w')
    {g : Nat} {B C D : Option Addr} {a b d : List Int} (hb : Blk w g 65 #[.slice none 0 0, .slice B 32 32, .slice C 32 32, .slice D 32 32]) (ha : Ky a) (hk : Ky b) (hd : Ky d) (h1 : Rp w none B a) (h2 : Rp w none C b) (h3 : Rp w none D d) :
    Calls Tryz.prog F #[.int .u8 110, .slice (some ⟨g, 0, none⟩) 4 4] w fun e w' => (∃ A c, e = .returned (.slice A (textL 110 [[], a, b, d]).length c) ∧ (textL 110 [[], a, b, d]).length ≤ c ∧ Fresh w w' A (textL 110 [[], a, b, d])) ∧ Below w.heap.size w w' :=
  (CT 110 _ 4 4 [[], a, b, d] w (inR_4w hb ha hk hd h1 h2 h3) (by decide) (len_4w ha hk hd) (by decide)).mono fun e w' ⟨A, c, h1, h2, h3, h4⟩ => ⟨⟨A, c, h1, h2, h3⟩, h4⟩
set_option maxHeartbeats 4000000 in
theorem xText_wild (q : Nd) (l r : List Int) (w : World) (hq : NdOk q) (hl : q.leaf = false) (hn : q.n < 0 ∨ 65535 < q.n) (hkl : Ky l) (hkr : Ky r) : Calls Tryz.prog 73 #[.agg (nc q).toArray, .agg (kc l), .agg (kc r)] w (TxA w (textL 110 [[], q.b, l, r])) := by
  obtain ⟨Z, hz, hz0, z0, z1, z2, z3, z4, hZs⟩ := zero_writer
  obtain ⟨hk1, hk2, hk3, hb0⟩ := three_blks w (nc q).toArray (kc l) (kc r) 63 25 25
  have S1 : (((w.alloc (.cells (nc q).toArray 63)).alloc (.cells (kc l) 25)).alloc (.cells (kc r) 25)).heap.size = w.heap.size + 1 + 1 + 1 := by simp
  have hW0 : WAt ((((w.alloc (.cells (nc q).toArray 63)).alloc (.cells (kc l) 25)).alloc (.cells (kc r) 25)).alloc (.cells Z 149)) (w.heap.size + 1 + 1 + 1) [] := by
    have := new_writer (Blk.new (((w.alloc (.cells (nc q).toArray 63)).alloc (.cells (kc l) 25)).alloc (.cells (kc r) 25)) 149 Z) hz z0.out z1.out z2.out z3.out
    rw [S1] at this; exact this
  have HW0 : Hid (WRep ((((w.alloc (.cells (nc q).toArray 63)).alloc (.cells (kc l) 25)).alloc (.cells (kc r) 25)).alloc (.cells Z 149)) (some ⟨w.heap.size + 1 + 1 + 1, 0, none⟩) (.good [])) := ⟨_, rfl, hW0⟩
  have na := (hk1.alloc (.cells Z 149)).node hq
  have cl := na.leaf
  have cn := na.len
  rw [hl] at cl
  have J1 := hid (hk1.alloc (.cells Z 149))
  have J2 := hid (hk2.alloc (.cells Z 149))
  have J3 := hid (hk3.alloc (.cells Z 149))
  have B0 := hid (hb0.alloc (by rw [S1]; omega) (.cells Z 149))
  have cl0 := (hk1.node hq).leaf
  rw [hl] at cl0
  have HQ := hid hq; have HKL := hid hkl; have HKR := hid hkr
  have HOF : Hid (∀ k, Of (some ⟨w.heap.size + 1 + 1 + 1, 0, none⟩) k → k = w.heap.size + 1 + 1 + 1) := by rintro k ⟨a, ha, rfl⟩; injection ha with ha; subst ha; rfl
  have SK : Hid (((((w.alloc (.cells (nc q).toArray 63)).alloc (.cells (kc l) 25)).alloc (.cells (kc r) 25)).alloc (.cells Z 149)).heap.size = w.heap.size + 1 + 1 + 1 + 1) := by show _ = _; simp
  have H1 := hid (WU16_any (some ⟨w.heap.size + 1 + 1 + 1, 0, none⟩) (.good []) q.n _ HW0.out (by simp [WS.len]))
  have hup : (WS.good []).up 65535 q.n 2 = .bad := by unfold WS.up; rw [if_pos hn]; rfl
  rw [hup] at H1
  clear hk1 hk2 hk3 hb0 hq hl hkl hkr hz z0 z1 z2 z3 z4 hW0 HW0 hn hup na
  unfold TxA
  go_enter Tryz.func73, Tryz.ntmps73
  go_upto_region 6 with (first
    | (go_at_call 94; refine H1.out.mono ?_; rintro e w1 ⟨rfl, hw1, ho1⟩; have O1 := hid ho1; have H5 := Out_bad (some ⟨w.heap.size + 1 + 1 + 1, 0, none⟩) w1 hw1; have H5 := hid H5; clear hw1 ho1)
    | (go_at_call 95; refine H5.out.mono ?_; rintro e w4 ⟨rfl, rfl⟩))
  have B4 := hid (B0.out.trans (O1.out.below (B := w.heap.size) (by rw [SK.out]; omega) (fun k hk => by rw [HOF.out k hk]; omega)))
  have SZ : w.heap.size + 1 + 1 + 1 + 1 ≤ w1.heap.size := by rw [← SK.out]; exact O1.out.size
  have L1 := hid (J1.out.same (O1.out.block _ J1.out.lt (fun hk => by have := HOF.out _ hk; omega)))
  have K2 := hid (J2.out.same (O1.out.block _ J2.out.lt (fun hk => by have := HOF.out _ hk; omega)))
  have K3 := hid (J3.out.same (O1.out.block _ J3.out.lt (fun hk => by have := HOF.out _ hk; omega)))
  have NA := hid (L1.out.node HQ.out)
  refine wp_region_held (S := fun w' => Hid (Below w1.heap.size w1 w')) (by kernel_rfl) ?_
  change wpAnyH _ _ _ _ _ _ _ _ w1.drew
  have Gx0 : Hid (Below w1.heap.size w1 w1.drew) := (Below.refl _ _).drew
  generalize w1.drew = x0 at Gx0  ⊢
  refine wpAnyH_take (i := 0) (oi := { dst := some 26, op := _, type := _, pos := _, after := _, guard := _ }) (v := ?_) rfl (by kernel_rfl) (by kernel_rfl) (by kernel_rfl) (fun _ _ _ h => h) (Or.inl ⟨by kernel_rfl, ?_⟩) Gx0 ?_
  rotate_left
  · (intro w hSw; go_simp; try with_reducible rfl)
  try simp only [Act.put, List.setIfInBounds_toArray, List.set_cons_zero, List.set_cons_succ]
  refine wpAnyH_take (i := 1) (oi := { dst := some 27, op := _, type := _, pos := _, after := _, guard := _ }) (v := ?_) rfl (by kernel_rfl) (by kernel_rfl) (by kernel_rfl) (fun _ _ _ h => h) (Or.inl ⟨by kernel_rfl, ?_⟩) Gx0 ?_
  rotate_left
  · (intro w hSw; go_simp; try with_reducible rfl)
  try simp only [Act.put, List.setIfInBounds_toArray, List.set_cons_zero, List.set_cons_succ]
  refine wpAnyH_take (i := 2) (oi := { dst := some 28, op := _, type := _, pos := _, after := _, guard := _ }) (v := ?_) rfl (by kernel_rfl) (by kernel_rfl) (by kernel_rfl) (fun _ _ _ h => h) (Or.inl ⟨by kernel_rfl, ?_⟩) Gx0 ?_
  rotate_left
  · (intro w hSw; go_simp; try with_reducible rfl)
  try simp only [Act.put, List.setIfInBounds_toArray, List.set_cons_zero, List.set_cons_succ]
  refine wpAnyH_take (i := 3) (oi := { dst := some 29, op := _, type := _, pos := _, after := _, guard := _ }) (v := ?_) rfl (by kernel_rfl) (by kernel_rfl) (by kernel_rfl) (fun _ _ _ h => h) (Or.inl ⟨by kernel_rfl, ?_⟩) Gx0 ?_
  rotate_left
  · (intro w hSw; go_simp; try with_reducible rfl)
  try simp only [Act.put, List.setIfInBounds_toArray, List.set_cons_zero, List.set_cons_succ]
  refine wpAnyH_take (i := 4) (oi := { dst := some 30, op := _, type := _, pos := _, after := _, guard := _ }) (v := ?_) rfl (by kernel_rfl) (by kernel_rfl) (by kernel_rfl) (fun _ _ _ h => h) (Or.inl ⟨by kernel_rfl, ?_⟩) Gx0 ?_
  rotate_left
  · (intro w hSw; go_simp; try with_reducible rfl)
  try simp only [Act.put, List.setIfInBounds_toArray, List.set_cons_zero, List.set_cons_succ]
  refine wpAnyH_take (i := 5) (oi := { dst := some 31, op := _, type := _, pos := _, after := _, guard := _ }) (v := ?_) rfl (by kernel_rfl) (by kernel_rfl) (by kernel_rfl) (fun _ _ _ h => h) (Or.inl ⟨by kernel_rfl, ?_⟩) Gx0 ?_
  rotate_left
  · (intro w hSw; go_simp; try with_reducible rfl)
  try simp only [Act.put, List.setIfInBounds_toArray, List.set_cons_zero, List.set_cons_succ]
  refine wpAnyH_ready (rs := [6]) (by kernel_rfl) (by simp) ?_
  refine (AllReadyH.cons (o := { dst := some 32, op := _, type := _, pos := _, after := _, guard := _ }) rfl (fun Qc hQc => ?_) AllReadyH.nil)
  go_simp
  have NBx1 : Hid (Blk (x0.alloc (.cells #[.slice none 0 0, .slice (some ⟨w.heap.size, 66, none⟩) 32 32, .slice (some ⟨w.heap.size + 1, 0, none⟩) 32 32, .slice (some ⟨w.heap.size + 1 + 1, 0, none⟩) 32 32] 65)) x0.heap.size 65 #[.slice none 0 0, .slice (some ⟨w.heap.size, 66, none⟩) 32 32, .slice (some ⟨w.heap.size + 1, 0, none⟩) 32 32, .slice (some ⟨w.heap.size + 1 + 1, 0, none⟩) 32 32]) := Blk.new x0 65 #[.slice none 0 0, .slice (some ⟨w.heap.size, 66, none⟩) 32 32, .slice (some ⟨w.heap.size + 1, 0, none⟩) 32 32, .slice (some ⟨w.heap.size + 1 + 1, 0, none⟩) 32 32]
  have Gx1 := hid (Gx0.out.alloc Gx0.out.size (.cells #[.slice none 0 0, .slice (some ⟨w.heap.size, 66, none⟩) 32 32, .slice (some ⟨w.heap.size + 1, 0, none⟩) 32 32, .slice (some ⟨w.heap.size + 1 + 1, 0, none⟩) 32 32] 65))
  refine hQc.out _ _ Gx1 (fun hHeld => ?_)
  clear hQc Qc hHeld
  generalize x0.heap.size = g1 at NBx1 ⊢
  generalize x0.alloc (.cells #[.slice none 0 0, .slice (some ⟨w.heap.size, 66, none⟩) 32 32, .slice (some ⟨w.heap.size + 1, 0, none⟩) 32 32, .slice (some ⟨w.heap.size + 1 + 1, 0, none⟩) 32 32] 65) = x1 at NBx1 Gx1 ⊢
  try simp only [Act.put, List.setIfInBounds_toArray, List.set_cons_zero, List.set_cons_succ]
  refine wpAnyH_ready (rs := [7]) (by kernel_rfl) (by simp) ?_
  refine (AllReadyH.cons (o := { dst := some 33, op := _, type := _, pos := _, after := _, guard := _ }) rfl (fun Qc hQc => ?_) AllReadyH.nil)
  go_simp
  go_at_call 60
  refine (text_4w Text_any NBx1.out HQ.out.b HKL.out HKR.out ((rng_rp NA.out.bits).belowN Gx1.out) ((blk_rp K2.out).belowN Gx1.out) ((blk_rp K3.out).belowN Gx1.out)).mono ?_
  rintro e x2 ⟨⟨A5, c5, rfl, h5, hf5⟩, hb⟩
  have Gx2 := hid (Gx1.out.trans (hb.mono Gx1.out.size))
  have F5 := hid (hf5.more Gx1.out.size)
  clear hb
  go_wp2_with fail
  refine hQc.out _ _ Gx2 (fun hHeld => ?_)
  clear hQc Qc hHeld
  try simp only [Act.put, List.setIfInBounds_toArray, List.set_cons_zero, List.set_cons_succ]
  refine wpAnyH_take (i := 8) (oi := { dst := some 6, op := _, type := _, pos := _, after := _, guard := _ }) (v := ?_) rfl (by kernel_rfl) (by kernel_rfl) (by kernel_rfl) (fun _ _ _ h => h) (Or.inl ⟨by kernel_rfl, ?_⟩) Gx2 ?_
  rotate_left
  · (intro w hSw; go_simp; try with_reducible rfl)
  try simp only [Act.put, List.setIfInBounds_toArray, List.set_cons_zero, List.set_cons_succ]
  refine wpAnyH_done (by kernel_rfl) ?_ _
  try simp only [Act.put, List.setIfInBounds_toArray, List.set_cons_zero, List.set_cons_succ]
  go_wp2
  go_ret
  exact ⟨A5, c5, rfl, h5, F5.out.more B4.out.size, B4.out.trans (Gx2.out.mono B4.out.size)⟩
theorem xText_X (q : Nd) (l r : List Int) (w : World) (hq : NdOk q) (hl : q.leaf = false) (hkl : Ky l) (hkr : Ky r) : Calls Tryz.prog 73 #[.agg (nc q).toArray, .agg (kc l), .agg (kc r)] w (TxA w (innX q.n q.b l r)) := by
  unfold innX
  by_cases h : 0 ≤ q.n ∧ q.n ≤ 65535
  · rw [if_pos h]; exact xText_inner q l r w hq hl h hkl hkr
  · rw [if_neg h]; exact xText_wild q l r w hq hl (by omega) hkl hkr
/-- a node of which only the prefix is told -/
def ndP (n : Int) (b : List Int) : Nd := ⟨false, z32, z32, n, b, 0, 0, z32⟩
theorem ndP_ok {n : Int} {b : List Int} (h : Ky b) : NdOk (ndP n b) := ⟨ky_zero, ky_zero, h, ky_zero⟩
def ndK (k v : List Int) : Nd := ⟨true, k, v, 0, z32, 0, 0, z32⟩
theorem ndK_ok {k v : List Int} (h : Ky k) (hv : Ky v) : NdOk (ndK k v) := ⟨h, hv, ky_zero, ky_zero⟩
end Go.Proofs.YtjhaamffgkialaaGreatDoor
/-
  What this file is for: drawn and plain regions within the round of a range over a function; a range whose variable lies in a box; the iterator over steps, from the last one on.
-/
namespace Go.Proofs.YtjhaamffgkialaaGreatDoor
open Go.ChangeShapes Go.WideShapes Go.ChangeAt Go.RowKit Go.Shelf
set_option linter.unusedVariables false
set_option linter.unusedSimpArgs false
set_option maxRecDepth 20000
attribute [local go_sem] Oper.semAt_some

section
variable {P : Program} {R : Act → World → Prop} {l n : Nat}
theorem any_round {md : Region.Mode} {ops : Array Oper} (hd : ∀ (i : Nat) o, ops[i]? = some o → ∀ c, o.op ≠ .defer c) : ∀ (fuel : Nat) (listed : Array Bool) (a : Act) (w : World), wpAny P md ops (Qr R) fuel listed a w → wpAnyIn (Fence.wide.inRound l) n P md ops (Qr R) fuel listed a w := by
  intro fuel
  induction fuel with
  | zero => intro listed a w h; exact h
  | succ fuel ih =>
    intro listed a w h
    refine ⟨h.1, fun i hi => ?_⟩
    have h1 := h.2 i hi
    unfold wpOp at h1
    unfold wpOpIn
    cases ho : ops[i]? with
    | none => rw [ho] at h1; exact ih _ _ _ h1
    | some o =>
      rw [ho] at h1
      simp only at h1 ⊢
      by_cases hw : Region.wanted o (yielded ops a.tmps) = true
      · rw [if_pos hw] at h1 ⊢
        rcases h1 with h1 | ⟨_, a0, w0, h1⟩
        · exact oper_round (hd i o ho) (fun a w h => ih _ _ _ h) h1
        · exact h1.elim
      · rw [if_neg hw] at h1 ⊢
        exact ⟨fun _ _ => trivial, ih _ _ _ h1⟩
theorem region_round {id : Nat} {ops : Array Oper} {S : World → Prop} {a : Act} {w : World} (hm : P.follows .mixedOrders = true) (hd : (ops.toList.all fun o => match o.op with | .defer _ => false | _ => true) = true)
    (h : wpAnyH P .any ops (Qr R) S ops.size (Array.replicate ops.size false) a { w with drawn := w.drawn + 1 }) : (Code.region id ops true).wpIn (Fence.wide.inRound l) n P (Qr R) a w :=
  wpIn_region_any hm (any_round (fun i o ho c hc => by
    rw [List.all_eq_true] at hd
    have := hd o (by rw [← Array.getElem?_toList] at ho; exact List.mem_of_getElem? ho)
    rw [hc] at this
    cases this) _ _ _ _ (wpAny_of_held _ _ _ _ h))
theorem seq_plain {id : Nat} {L : List Oper} {y : Code} {Q : Exit → Act → World → Prop} {a : Act} {w : World} (hd : (L.all fun o => match o.op with | .defer _ => false | _ => true) = true)
    (h : wpList P L.toArray (Qr fun a w => y.wpIn (Fence.wide.inRound l) n P Q a w) L a w) : (Code.seq (.region id L.toArray false) y).wpIn (Fence.wide.inRound l) n P Q a w :=
  wpIn_seq (wpIn_cut _ (plain_round hd h) (fun _ _ h => h))
end
theorem keeps_below {B : Nat} {W W' : World} (h : Below W.heap.size W W') : KeepsFrom B W W' := ⟨h.size, fun k o _ hk _ => (h.block k (by
  rcases Nat.lt_or_ge k W.heap.size with h1 | h1
  · exact h1
  · rw [Array.getElem?_eq_none h1] at hk; cases hk)).trans hk⟩
/-- a range over a function whose variable lies in a box -/
theorem range_box {α : Type} {P : Program} {n : Nat} {g : Operand} {ps : Array Tmp} {assign body : Code} {Q : Exit → Act → World → Prop} {a : Act} {w : World} (h1 : 1 ≤ n) {gf : Nat} {lb : Array Value} (hg : a.eval g = .func (.func gf) #[] lb) (eg : ∀ args w, (callFunc gf args).run P w = .ok (.enter gf args) w)
    {encs : α → Array Value} {SS : Nat → Prop} {S Sp : List α → Prop} {N : Nat} {w0 : World} (hseq : SeqStopsK Fence.wide (n - 1) P gf lb encs (KpS SS) S Sp N w0)
    (hSS : ∀ g, SS g → g < w.heap.size) (hb0 : Below w0.heap.size w0 w) (hps : ∀ x, (encs x).size = ps.size)
    (I : List α → World → Prop) (hI : OwnFrom w.heap.size I) (hIb : ∀ pre W W', I pre W → Below W.heap.size W W' → I pre W') (h0 : I [] w) (F : α → Nat → Act) (t : TypeId) (C : α → Array Value)
    (hassign : ∀ (l : Nat) (x : α) (W : World) (K : Act → World → Prop), (∀ g8 W', Blk W' g8 t (C x) → Below W.heap.size W W' → W.heap.size ≤ g8 → K (F x g8) W') →
      assign.wpIn (Fence.wide.inRound l) (n - 1 - 1) P (Exit.then K (fun _ _ _ => False)) { tmps := (ps.zip (encs x)).foldl (fun t (p, v) => t.setIfInBounds p v) a.tmps, defers := [] } W)
    (hbody : ∀ (l : Nat) (pre : List α) (x : α) (g8 : Nat) (W : World), w.heap.size ≤ W.heap.size → I pre W → Blk W g8 t (C x) → w.heap.size ≤ g8 → pre.length < N → body.wpIn (Fence.wide.inRound l) (n - 1 - 1) P (ownPostG w.heap.size (KpS SS) I (fun _ _ _ => False) (pre ++ [x]) W) (F x g8) W)
    (hdone : ∀ (D : Nat) (xs : List α) (W : World), w.heap.size ≤ D → S xs → I xs W → W.heap[D]? = some (.deferred (some [])) → Q .normal { a with defers := { target := .collected D, args := #[] } :: a.defers } W) :
    (Code.rangeFunc g ps assign body).wpIn Fence.wide n P Q a w := by
  refine wpIn_rangeFunc_ownH (n := n) rfl h1 hg trivial eg hseq KpS.t (KpS.b (S := SS) hSS) hb0 hps (fun pre W => I pre W ∧ w.heap.size ≤ W.heap.size) (fun _ _ _ => False) (fun pre W W' row h hg hr => ⟨hI pre W W' row h.1 hg hr, Nat.le_trans h.2 hg.size⟩) (fun _ _ _ _ _ hs _ _ => hs) ⟨h0, Nat.le_refl _⟩
    (fun x a' W => ∃ g8, a' = F x g8 ∧ Blk W g8 t (C x) ∧ w.heap.size ≤ g8) (fun x a' _ W W' row h hg hr => ?_) (fun l pre x W K hi hK => ?_) (fun l pre x a' W _ _ hi hax hlen => ?_) (fun D xs W hD hS hi hd => hdone D xs W hD hS hi.1 hd) (fun D c pre W _ _ h _ => h.elim)
  · obtain ⟨g8, e, hb, hle⟩ := h
    exact ⟨g8, e, hb.own hg (fun r e => (hr r e).2), hle⟩
  · refine hassign l x W K (fun g8 W' hb hbl hle => hK _ _ (keeps_below hbl) (KpS.below hbl) ⟨hIb _ _ _ hi.1 hbl, Nat.le_trans hi.2 hbl.size⟩ ⟨g8, rfl, hb, Nat.le_trans hi.2 hle⟩)
  · obtain ⟨g8, rfl, hb, hle⟩ := hax
    refine wpIn_mono (hbody l pre x g8 W hi.2 hi.1 hb hle hlen) (fun e a w h => ?_)
    cases e with
    | normal => exact ⟨h.1, h.2.1, h.2.2, Nat.le_trans hi.2 h.1.size⟩
    | ret => exact h
    | exit id => exact h
    | goto t => exact h
    | panic c => exact h
    | outgrown => exact h
def ItT (bs : Nat) (A : Option Addr) (m : Nat) (g : Nat) : Prop := g = bs ∨ (0 < m ∧ ∃ a, A = some a ∧ g = a.block)
theorem InS.keep {w w' : World} {A : Option Addr} {n : Nat} {S : List QS} (h : InS w A n S) (hs : w.heap.size ≤ w'.heap.size) (hk : 0 < n → ∀ a, A = some a → a.block < w.heap.size → w'.heap[a.block]? = w.heap[a.block]?) : InS w' A n S := by
  refine ⟨h.len, h.max, h.ok, fun hn => ?_⟩
  obtain ⟨b, o, e, hlt, hat⟩ := h.at' hn
  have hb := hk hn _ e hlt
  exact ⟨b, o, e, Nat.lt_of_lt_of_le hlt hs, fun i q hq j v hv => (World.cell?_of_block (a := ⟨b, o + i * 65 + j, none⟩) hb).trans (hat i q hq j v hv)⟩
theorem gi_load {n : Nat} {ops : Array Oper} {rest : List Oper} {o : Oper} {a : Act} {w : World} {Q : Exit → Act → World → Prop} (hgd : o.guard = none) (ty : TypeId) (x : Operand) (ho : o.op = .load ty x)
    (v p : Value) (hx : a.eval x = p) (hr : (Instr.loadAt ty p).run Tryz.prog w = .ok v w) (h : wpListIn Fence.wide n Tryz.prog ops Q rest (a.put o.dst v) w) : wpListIn Fence.wide n Tryz.prog ops Q (o :: rest) a w := by
  refine wpListIn_plain hgd (fun K hK => ?_)
  unfold Oper.wpIn
  refine ⟨fun _ _ => trivial, ?_⟩
  rw [Oper.semAt_plain _ _ _ (fun c hc => by rw [ho] at hc; cases hc), exec_load ty x p v ho hx hr]
  exact hK _ _ h
def sAt (S : List QS) {m : Nat} (x : Fin m) : QS := S[x.val]?.getD stZ
def encQ (S : List QS) {m : Nat} (x : Fin m) : Array Value := #[.int .i64 (x.val : Int), .agg (stc (sAt S x)).toArray]
end Go.Proofs.YtjhaamffgkialaaGreatDoor
