/-
  What this file is for: the number at a signature's beginning, as a reader takes it, and when a signature leads to a key; plain mathematics. Nothing of the program is walked here.
-/
import Derived.Test.YtobceieadjpaaaaDoorMSg1
import Derived.Test.YtobceieadjpaaaaDoorMRd1
import Derived.OwnWalk
set_option linter.unusedSimpArgs false
set_option linter.unusedVariables false
namespace Go.Proofs.YtobceieadjpaaaaDoor
open Go.ChangeShapes Go.WideShapes Go.ChangeAt Go.RowKit
set_option linter.unusedVariables false

theorem num4_short {sig : List Int} (h : sig.length < 4) : (RS.got false sig).num 4 4294967295 = (0, .got true sig) := by
  unfold RS.num
  simp only
  rw [if_pos (by omega)]
theorem num4_long {sig : List Int} (h : 4 ≤ sig.length) (hb : Bs sig) : (RS.got false sig).num 4 4294967295 = (val (sig.take 4), .got false (sig.drop 4)) := by
  have hv := val_bound (sig.take 4) (hb.take 4)
  rw [List.length_take, Nat.min_eq_left h] at hv
  unfold RS.num
  simp only
  rw [if_neg (by omega), if_neg (by have := hv.2; omega)]
theorem num4_lo {sig : List Int} (hb : Bs sig) : 0 ≤ ((RS.got false sig).num 4 4294967295).1 ∧ ((RS.got false sig).num 4 4294967295).1 ≤ 4294967295 := by
  rcases Nat.lt_or_ge sig.length 4 with h | h
  · rw [num4_short h]; exact ⟨by show (0 : Int) ≤ 0; omega, by show (0 : Int) ≤ 4294967295; omega⟩
  · have hv := val_bound (sig.take 4) (hb.take 4)
    rw [List.length_take, Nat.min_eq_left h] at hv
    rw [num4_long h hb]
    refine ⟨hv.1, ?_⟩
    have := hv.2
    omega
theorem ksize_ge {k : Int} (hk : Kd k) : 36 ≤ ksize k := by rcases hk with rfl | rfl | rfl | rfl <;> decide
theorem kd_ch {k : Int} (h : kchains k ≠ 0) : Kd k := by
  rcases kd_cases k with h1 | h1 | h1 | h1 | h1
  · exact .inl h1
  · exact .inr (.inl h1)
  · exact .inr (.inr (.inl h1))
  · exact .inr (.inr (.inr h1))
  · exact absurd (kchains_no h1) h
theorem sigB_num {sig : List Int} (hb : Bs sig) (h : sigB sig = true) : kchains ((RS.got false sig).num 4 4294967295).1 ≠ 0 ∧ sig.length = ksize ((RS.got false sig).num 4 4294967295).1 := by
  have h' : 36 ≤ sig.length ∧ 1 ≤ val (sig.take 4) ∧ val (sig.take 4) ≤ 4 ∧ sig.length = ksize (val (sig.take 4)) := of_decide_eq_true h
  rw [num4_long (by omega) hb]
  refine ⟨?_, h'.2.2.2⟩
  show kchains (val (sig.take 4)) ≠ 0
  have : Kd (val (sig.take 4)) := by unfold Kd; omega
  rcases this with e | e | e | e <;> rw [e] <;> decide
theorem sigB_of {sig : List Int} (hb : Bs sig) (h1 : kchains ((RS.got false sig).num 4 4294967295).1 ≠ 0) (h2 : sig.length = ksize ((RS.got false sig).num 4 4294967295).1) :
    sigB sig = true ∧ ((RS.got false sig).num 4 4294967295).1 = val (sig.take 4) ∧ ((RS.got false sig).num 4 4294967295).2 = .got false (sig.drop 4) := by
  have hk := kd_ch h1
  have hg := ksize_ge hk
  have hl : 36 ≤ sig.length := by omega
  rw [num4_long (by omega) hb] at h1 h2 hk ⊢
  refine ⟨decide_eq_true ⟨hl, ?_, ?_, h2⟩, rfl, rfl⟩ <;> (unfold Kd at hk; simp only at hk; omega)
theorem sigB_no {sig : List Int} (hb : Bs sig) (h : kchains ((RS.got false sig).num 4 4294967295).1 = 0 ∨ sig.length ≠ ksize ((RS.got false sig).num 4 4294967295).1) : sigB sig = false := by
  rcases hs : sigB sig with _ | _
  · rfl
  · have := sigB_num hb hs
    rcases h with h | h
    · exact absurd h this.1
    · exact absurd this.2 h
theorem rec_facts {sig : List Int} (hb : Bs sig) (h1 : kchains ((RS.got false sig).num 4 4294967295).1 ≠ 0) (h2 : sig.length = ksize ((RS.got false sig).num 4 4294967295).1) :
    sigB sig = true ∧ ((RS.got false sig).num 4 4294967295).1 = val (sig.take 4) ∧ ((RS.got false sig).num 4 4294967295).2 = .got false (sig.drop 4) ∧ Kd ((RS.got false sig).num 4 4294967295).1 ∧ sig.length = 36 + 32 * kchains ((RS.got false sig).num 4 4294967295).1 := by
  obtain ⟨a, b, c⟩ := sigB_of hb h1 h2
  refine ⟨a, b, c, kd_ch h1, ?_⟩
  rw [h2]
  rcases kd_ch h1 with e | e | e | e <;> rw [e] <;> rfl
end Go.Proofs.YtobceieadjpaaaaDoor
/-
  What is proved here: what a reader's Plain takes, while the bytes that it reads from stay in their block; and an append that fits.
-/
namespace Go.Proofs.YtobceieadjpaaaaDoor
open Go.ChangeShapes Go.WideShapes Go.ChangeAt Go.RowKit
set_option linter.unusedVariables false
set_option maxRecDepth 20000

/-- a reader at b, whose bytes lie in block d -/
def RRepA (w : World) (b d : Nat) (l : List Int) : Prop :=
  ∃ A c, Blk w b 119 #[.slice A l.length c, .bool false] ∧ l.length ≤ c ∧ l.length < 1000000000000 ∧ Bs l ∧ Rp w (some ⟨b, 0, none⟩) A l ∧ ∀ ad, A = some ad → ad.block = d
theorem RRepA.rep {w : World} {b d : Nat} {l : List Int} (h : RRepA w b d l) : RRep w (some ⟨b, 0, none⟩) (.got false l) := by
  obtain ⟨A, c, h1, h2, h3, h4, h5, _⟩ := h
  exact ⟨b, A, c, rfl, h1, h2, h3, h4, h5⟩
theorem RRepA.of {w : World} {b : Nat} {l : List Int} (h : RRep w (some ⟨b, 0, none⟩) (.got false l)) (hl : 0 < l.length) : ∃ d, RRepA w b d l ∧ d < w.heap.size := by
  obtain ⟨b', A, c, e, h1, h2, h3, h4, h5⟩ := h
  injection e with e
  injection e with e
  subst e
  obtain ⟨ad, rfl, _, hc⟩ := id (h5 hl)
  have hlt := block_lt_of_cell (hc 0 hl)
  rw [add_block] at hlt
  exact ⟨ad.block, ⟨some ad, c, h1, h2, h3, h4, h5, fun ad' e => by injection e with e; rw [e]⟩, hlt⟩
theorem RRepA.lt {w : World} {b d : Nat} {l : List Int} (h : RRepA w b d l) : b < w.heap.size := by
  obtain ⟨A, c, h1, _⟩ := h
  exact h1.lt
theorem RRepA.below {w w' : World} {b d : Nat} {l : List Int} (h : RRepA w b d l) (hb : Below w.heap.size w w') : RRepA w' b d l := by
  obtain ⟨A, c, h1, h2, h3, h4, h5, h6⟩ := h
  exact ⟨A, c, h1.below hb, h2, h3, h4, h5.same (fun k hk _ => hb.block k hk), h6⟩
theorem RRepA.same {w w' : World} {b d : Nat} {l : List Int} (h : RRepA w b d l) (hb : w'.heap[b]? = w.heap[b]?) (hd : w'.heap[d]? = w.heap[d]?) : RRepA w' b d l := by
  obtain ⟨A, c, h1, h2, h3, h4, h5, h6⟩ := h
  refine ⟨A, c, h1.same hb, h2, h3, h4, fun hx => ?_, h6⟩
  obtain ⟨ad, e, hne, hc⟩ := h5 hx
  refine ⟨ad, e, hne, fun j hj => (World.cell?_of_block (w := w) ?_).trans (hc j hj)⟩
  rw [add_block, h6 ad e]
  exact hd
theorem RRepA.rowFar {w : World} {b d g : Nat} {l : List Int} (h : RRepA w b d l) (hb : b ≠ g) (hd : d ≠ g) (cs : Array Value) : RRepA (w.setRow g cs) b d l :=
  h.same (setRow_other w g b cs hb) (setRow_other w g d cs hd)
theorem RRepA.cut {w : World} {b d : Nat} {A A' : Option Addr} {c c' m k : Nat} {l : List Int} (hm : m = l.length) (h1 : Blk w b 119 #[.slice A m c, .bool false]) (h2 : m ≤ c) (h3 : m < 1000000000000) (h4 : Bs l)
    (h5 : Rp w (some ⟨b, 0, none⟩) A l) (h6 : ∀ ad, A = some ad → ad.block = d) (hA : A' = if c = k then A else A.map (·.add k)) (hc' : c' = c - k) : RRepA (w.setCell ⟨b, 0, none⟩ (.slice A' (m - k) c')) b d (l.drop k) := by
  subst hc'
  have ho : OnlyS (Of (some ⟨b, 0, none⟩)) w (w.setCell ⟨b, 0, none⟩ (.slice A' (m - k) (c - k))) := (OnlyS.refl _ w).setCell (.inl ⟨_, rfl, rfl⟩) _
  refine ⟨A', c - k, ?_, ?_, ?_, h4.drop k, ?_, ?_⟩
  · rw [List.length_drop, ← hm]; exact h1.setd 0 _
  · rw [List.length_drop]; omega
  · rw [List.length_drop]; omega
  · have := h5.cut (k := k) (c := c) (by omega)
    rw [← hA] at this
    exact this.keep ho
  · intro ad e
    rw [hA] at e
    split at e
    · exact h6 ad e
    · cases A with
      | none => cases e
      | some a0 => simp only [Option.map_some, Option.some.injEq] at e; rw [← e, add_block]; exact h6 a0 rfl
set_option maxHeartbeats 1000000 in
theorem RPlainA (b d k : Nat) (l : List Int) (w : World) (h : RRepA w b d l) (hk : k ≤ l.length) :
    Calls Tryd.prog 48 #[.pointer (some ⟨b, 0, none⟩), .int .i64 k] w fun e w' => ∃ A' c', e = .returned (.slice A' k c') ∧ k ≤ c' ∧ Fresh w w' A' (l.take k) ∧ RRepA w' b d (l.drop k) ∧ OnlyS (Of (some ⟨b, 0, none⟩)) w w' := by
  have HF := hid (Fails_any _ _ w h.rep)
  have HX := hid (fail_any _ _ w h.rep)
  obtain ⟨A, c, h1, h2, h3, h4, h5, h6⟩ := h
  obtain ⟨m, hml⟩ : ∃ m, m = l.length := ⟨_, rfl⟩
  rw [← hml] at h1 h2 h3 hk
  have c0 : w.cell? ⟨b, 0, none⟩ = some (.slice A m c) := h1.cell 0
  have hkm : k ≤ m := by omega
  have hkc : k ≤ c := by omega
  have hk0 : (0 : Int) ≤ (k : Int) := by omega
  have hlk : (l.take k).length = k := by rw [List.length_take]; omega
  have hcl := Clone_any A c (l.take k) w (h5.any.take k) (by omega)
  rw [hlk] at hcl
  have HC := hid hcl
  have HML := hid hml; have H1 := hid h1; have H4 := hid h4; have H5 := hid h5; have HLK := hid hlk; have H6 := hid h6
  have hblt := h1.lt
  clear h1 hml h4 h5 hlk hcl h6 hk
  go_enter Tryd.func48, Tryd.ntmps48
  go_wp2_with (first
    | (go_at_call 80; refine HF.out.mono ?_; rintro e w1 ⟨rfl, rfl⟩; simp only [RS.fails])
    | (go_at_call 78; refine HC.out.mono ?_; rintro e w2 ⟨A', c', rfl, hc', hf, hbl⟩; have HC' := hid hc'; have HF' := hid hf; have HBL := hid hbl; have d0 : w2.cell? ⟨b, 0, none⟩ = some (.slice A m c) := (hbl.cell (p := ⟨b, 0, none⟩) hblt).trans c0; have e0 : w2.frozen? ⟨b, 0, none⟩ = false := ((H1.out.same (hbl.block b hblt)).frozen 0); clear hc' hf hbl))
  all_goals go_ret
  all_goals have hbl := HBL.out
  all_goals have h1 := H1.out.same (hbl.block b hblt)
  all_goals have h5 := H5.out.same (w' := w2) (fun k hk _ => hbl.block k hk)
  all_goals refine ⟨A', c', rfl, HC'.out, HF'.out.keep (S := Of (some ⟨b, 0, none⟩)) ((OnlyS.refl _ _).setCell (.inl ⟨_, rfl, rfl⟩) _) (fun k hk1 hk2 ⟨a, e, he⟩ => by injection e with e; subst e; simp at he; omega), ?_, (OnlyS.of_below hbl (Nat.le_refl _)).trans ((OnlyS.refl _ _).setCell (.inl ⟨_, rfl, rfl⟩) _)⟩
  · have hck : c = k := by assumption
    exact RRepA.cut HML.out h1 h2 h3 H4.out h5 H6.out (by rw [if_pos hck]) (by omega)
  · have hck : ¬ c = k := by assumption
    exact RRepA.cut HML.out h1 h2 h3 H4.out h5 H6.out (by rw [if_neg hck]) rfl
/-- only the reader, and what is new, have turned -/
structure Rw (rd : Nat) (w w' : World) : Prop where
  bl : OnlyS (Of (some ⟨rd, 0, none⟩)) w w'
section
variable {rd : Nat} {w w' w2 : World}
theorem Rw.below (h : Rw rd w w') (hb : Below w'.heap.size w' w2) : Rw rd w w2 := ⟨h.bl.trans (OnlyS.of_below hb (Nat.le_refl _))⟩
theorem Rw.drew (h : Rw rd w w') : Rw rd w w'.drew := h.below ((Below.refl _ _).drew)
theorem Rw.alloc (h : Rw rd w w') (o : Obj) : Rw rd w (w'.alloc o) := h.below ((Below.refl _ _).alloc (Nat.le_refl _) _)
theorem Rw.row (h : Rw rd w w') {g : Nat} (hg : w.heap.size ≤ g) (cs : Array Value) : Rw rd w (w'.setRow g cs) := by
  have h2 : Below w.heap.size w' (w'.setRow g cs) := below_setRow (Below.refl _ _) hg cs
  exact ⟨⟨h2.os.trans h.bl.os, h2.tape.trans h.bl.tape, h2.output.trans h.bl.output, Nat.le_trans h.bl.size h2.size, fun k hk hn => (h2.block k hk).trans (h.bl.block k hk hn)⟩⟩
theorem Rw.b {B : Nat} (h : Rw rd w w') (hB : B ≤ w.heap.size) (hr : B ≤ rd) : Below B w w' := h.bl.below hB (fun k hk => by
  obtain ⟨a, e, rfl⟩ := hk
  injection e with e
  subst e
  exact hr)
end
end Go.Proofs.YtobceieadjpaaaaDoor
/-
  What is proved here: an append that fits, as an operation; the rows to which a signature's parts lead; and what stays between two rounds of the code's Recover.
-/
namespace Go.Proofs.YtobceieadjpaaaaDoor
open Go.ChangeShapes Go.WideShapes Go.ChangeAt Go.RowKit
set_option linter.unusedVariables false
set_option maxRecDepth 20000

theorem wp_append32 {w : World} {o : Oper} {a : Act} {K : Act → World → Prop} {Q : Exit → Act → World → Prop} (s x : Operand)
    (ho : o.op = .call { callee := .builtin .append, args := #[s, x], argTypes := #[29, 29] })
    (nb n cap : Nat) (xs ys : List Int) (hs : a.eval s = .slice (some ⟨nb, 0, none⟩) n cap) (hown : w.ownsRow nb 5 1 (.slice (some ⟨nb, 0, none⟩) n cap) n (u8s xs))
    (ad : Addr) (c : Nat) (hx : a.eval x = .slice (some ad) 32 c) (hl : ys.length = 32) (hr : Rp w none (some ad) ys) (hfit : n + 32 ≤ cap)
    (hK : ∀ w', w'.ownsRow nb 5 1 (.slice (some ⟨nb, 0, none⟩) (n + 32) cap) (n + 32) (u8s (xs ++ ys)) → w.grownBy w' (some nb) → K (a.put o.dst (.slice (some ⟨nb, 0, none⟩) (n + 32) cap)) w') : o.wp Tryd.prog a w K Q := by
  obtain ⟨i0, hi, hz0, hz1, hz2⟩ := info_parts info_u8
  obtain ⟨w', hrun, r1, r2⟩ := run_append_fits (P := Tryd.prog) (w := w) nb 29 o.type 5 i0 1 Tryd.underlying29 hi hz1 nb n cap (u8s xs) hown ad 32 c (u8s ys) (by rw [u8s_length, hl]) (fun j u hu => by
    rcases Nat.lt_or_ge j ys.length with hj | hj
    · obtain ⟨ad', e', hc⟩ := hr.get (by omega)
      injection e' with e'; subst e'
      rw [hc j hj, ← hu, u8s_get _ _ hj]
    · rw [List.getElem?_eq_none (by rw [u8s_length]; exact hj)] at hu; cases hu) (u8s_one ys) hfit
  unfold Oper.wp
  simp [execOp, ho, resolve, invoke, builtin, hs, hx, hrun, Result.andThen]
  exact hK w' (by unfold u8s at r1 ⊢; rw [List.map_append]; exact r1) r2
theorem rng_of {w : World} {g : Nat} {t : TypeId} {cur : Array Value} {xs : List Int} (h : Blk w g t cur) (hc : ∀ j, j < xs.length → cur[j]? = some (.int .u8 (xs[j]?.getD 0))) : w.rangeAt g 0 (u8s xs) := fun j v hv => by
  have hj : j < xs.length := by
    rcases Nat.lt_or_ge j xs.length with h1 | h1
    · exact h1
    · rw [List.getElem?_eq_none (by rw [u8s_length]; exact h1)] at hv; cases hv
  rw [Nat.zero_add, h.cell, hc j hj, ← hv, u8s_get _ _ hj]
theorem arrayAt_32 (ga c9 : Nat) (w : World) : (Instr.arrayAt 26 (.slice (some ⟨ga, 0, none⟩) 32 c9)).run Tryd.prog w = .ok (.pointer (some ⟨ga, 0, none⟩)) w := by
  unfold Instr.arrayAt
  simp [Sem.run_bind, Sem.run_pure, Result.andThen]
/-- the rows to which a signature's parts lead -/
def rowsC (id : List Int) (q : Int) (sig : List Int) (mm : Nat) (pre : List Dg) : List Int := pre.zipIdx.flatMap fun p => steps id q (p.1.1.val : Int) ((sig.drop (36 + 32 * p.2)).take 32) p.1.2.val (mm - p.1.2.val)
theorem rowsC_snoc (id : List Int) (q : Int) (sig : List Int) (mm : Nat) (pre : List Dg) (x : Dg) : rowsC id q sig mm (pre ++ [x]) = rowsC id q sig mm pre ++ steps id q (x.1.val : Int) ((sig.drop (36 + 32 * pre.length)).take 32) x.2.val (mm - x.2.val) := by
  unfold rowsC
  rw [List.zipIdx_append, List.flatMap_append, Nat.zero_add]
  simp only [List.zipIdx_cons, List.zipIdx_nil, List.flatMap_cons, List.flatMap_nil, List.append_nil]
theorem rowsC_upto (id : List Int) (q : Int) (sig : List Int) (mm : Nat) (f : Nat → Dg) (n : Nat) : rowsC id q sig mm (upto f n) = rowsOf n fun i => steps id q ((f i).1.val : Int) ((sig.drop (36 + 32 * i)).take 32) (f i).2.val (mm - (f i).2.val) := by
  induction n with
  | zero => rfl
  | succ n ih => rw [upto_succ, rowsC_snoc, ih, upto_length, rowsOf_succ]
theorem rowsC_led (k : Int) (id : List Int) (q : Int) (sig H : List Int) (mm : Nat) : rowsC id q sig mm (upto (dgs (kbits k) (8 / kbits k) (kall k H)) (kchains k)) = rowsOf (kchains k) fun i => steps id q i ((sig.drop (36 + 32 * i)).take 32) (dgt k H i) (mm - dgt k H i) := by
  rw [rowsC_upto]
  unfold rowsOf
  refine flat_congr fun i hi => ?_
  have hi2 : i < kchains k := by simpa using hi
  rw [dgs_fst _ _ _ _ (Nat.lt_of_lt_of_le hi2 (kchains_le k)), dgs_snd k H i hi2]
theorem RRepA.own {W W' : World} {b d : Nat} {l : List Int} {row : Option Nat} (h : RRepA W b d l) (hg : W.grownBy W' row) (hr : ∀ r, row = some r → ∃ o : Obj, W.heap[r]? = some o ∧ o.isCells = false) : RRepA W' b d l := by
  obtain ⟨A, c, h1, h2, h3, h4, h5, h6⟩ := h
  exact ⟨A, c, h1.own hg hr, h2, h3, h4, fun hx => by
    obtain ⟨ad, e, hne, hc⟩ := h5 hx
    exact ⟨ad, e, hne, fun j hj => cell_kept (hc j hj) hg hr⟩, h6⟩
theorem ownsRow_same {W W' : World} {nb n cap : Nat} {xs : List Value} (h : W.ownsRow nb 5 1 (.slice (some ⟨nb, 0, none⟩) n cap) n xs) (hb : W'.heap[nb]? = W.heap[nb]?) : W'.ownsRow nb 5 1 (.slice (some ⟨nb, 0, none⟩) n cap) n xs := by
  refine ⟨h.1, ?_⟩
  rcases h.2 with ⟨e, _⟩ | ⟨g, cap', cur, e, h1, h2, h3⟩
  · cases e
  · injection e with e1 e2 e3
    injection e1 with e1
    injection e1 with e1
    subst e1; subst e3
    exact .inr ⟨nb, cap, cur, rfl, h1, hb.trans h2, h3⟩
theorem ownsRow_blk {W : World} {nb n cap : Nat} {xs : List Value} (h : W.ownsRow nb 5 1 (.slice (some ⟨nb, 0, none⟩) n cap) n xs) : ∃ cur, Blk W nb 5 cur := by
  rcases h.2 with ⟨e, _⟩ | ⟨g, cap', cur, e, h1, h2, h3⟩
  · cases e
  · injection e with e1 e2 e3
    injection e1 with e1
    injection e1 with e1
    subst e1
    exact ⟨cur, h2⟩
/-- only the row's block and the block of its slice have turned -/
structure Nx (nb : Nat) (w w' : World) : Prop where
  bl : OnlyS (fun j => j = nb ∨ j = nb + 1) w w'
theorem only_cells {U : Nat → Prop} {W W' : World} (hU : ∀ k, U k → ∃ cs t, Blk W k t cs) (ho : OnlyS U W W') : KeepsOthers W W' := by
  refine ⟨ho.size, fun k o hk hn => ?_⟩
  by_cases he : U k
  · obtain ⟨cs, t, h⟩ := hU k he
    unfold Blk at h
    rw [h] at hk
    injection hk with hk
    subst hk
    cases hn
  · exact (ho.block k (by
      rcases Nat.lt_or_ge k W.heap.size with h | h
      · exact h
      · rw [Array.getElem?_eq_none h] at hk; cases hk) he).trans hk
theorem rp_of_row {W : World} {nb n cap : Nat} {xs : List Int} (h : W.ownsRow nb 5 1 (.slice (some ⟨nb, 0, none⟩) n cap) n (u8s xs)) : Rp W none (some ⟨nb, 0, none⟩) xs ∧ xs.length = n ∧ n ≤ cap := by
  have hl : xs.length = n := by have := h.1; rw [u8s_length] at this; omega
  rcases h.2 with ⟨e, _⟩ | ⟨g, cap', cur, e, h1, h2, h3, h4, h5, h6⟩
  · cases e
  · injection e with e1 e2 e3
    injection e1 with e1
    injection e1 with e1
    subst e1; subst e3
    refine ⟨fun hx => ⟨_, rfl, (fun ⟨a, e, _⟩ => by cases e), fun j hj => ?_⟩, hl, h3⟩
    have e : (⟨nb, 0, none⟩ : Addr).add j = ⟨nb, j, none⟩ := by unfold Addr.add; split <;> simp_all
    rw [e, cell_of_row W nb j cur 5 (0, 0) h2, ← u8s_get _ _ hj, ← h6, List.getElem?_take, if_pos (by omega)]
    simp
/-- between two rounds of Recover -/
structure RcI (KC Z : Array Value) (id : List Int) (q : Int) (sig : List Int) (mm cap n0 g rb rd d nb zb : Nat) (w : World) (pre : List Dg) (W : World) : Prop where
  key : Blk W g 64 KC
  bx : Blk W rb 81 #[.pointer (some ⟨rd, 0, none⟩)]
  zz : Blk W zb 26 Z
  rr : RRepA W rd d (sig.drop (36 + 32 * pre.length))
  eb : Blk W (nb + 1) 29 #[.slice (some ⟨nb, 0, none⟩) (32 * pre.length) cap]
  row : W.ownsRow nb 5 1 (.slice (some ⟨nb, 0, none⟩) (32 * pre.length) cap) (32 * pre.length) (u8s (rowsC id q sig mm pre))
  bl : Below n0 w W
theorem RcI.own {KC Z : Array Value} {id : List Int} {q : Int} {sig : List Int} {mm cap n0 g rb rd d nb zb B : Nat} {w : World} (hn : n0 ≤ w.heap.size) (hB : n0 ≤ B) : OwnFrom B (RcI KC Z id q sig mm cap n0 g rb rd d nb zb w) := fun pre W W' row hs hg hr => by
  have h2 := fun r e => (hr r e).2
  obtain ⟨cur, hcur⟩ := ownsRow_blk hs.row
  exact ⟨hs.key.own hg h2, hs.bx.own hg h2, hs.zz.own hg h2, hs.rr.own hg h2, hs.eb.own hg h2, ownsRow_same hs.row ((hcur.own hg h2).trans hcur.symm), hs.bl.grown hg (Nat.le_trans hn hs.bl.size) (fun r e => Nat.le_trans hB (hr r e).1)⟩
end Go.Proofs.YtobceieadjpaaaaDoor
