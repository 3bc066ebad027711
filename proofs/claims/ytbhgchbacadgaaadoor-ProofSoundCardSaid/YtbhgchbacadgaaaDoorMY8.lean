/-
  What is proved here: the texts of a proof, as the code tells them.
-/
import Derived.Test.YtbhgchbacadgaaaDoorMTk
import Derived.Test.YtbhgchbacadgaaaDoorMY5
import Derived.Test.YtbhgchbacadgaaaDoorMX20
import Derived.Deep.DeepCutAuto
import Derived.Deep.RegionLaw
import Derived.Deep.CutBlock
set_option linter.unusedSimpArgs false
set_option linter.unusedVariables false
namespace Go.Proofs.YtbhgchbacadgaaaDoor
open Go.ChangeShapes Go.WideShapes Go.ChangeAt Go.RowKit Go.Shelf
set_option linter.unusedVariables false
set_option linter.unusedSimpArgs false
set_option maxRecDepth 20000
attribute [local go_sem] Oper.semAt_some

theorem ndP_built {n : Int} {b : List Int} (hb : Ky b) : Tryd.prog.built 57 [(3, .agg (pc n b))] = some (nc (ndP n b)).toArray := by
  obtain ⟨i0, hi, hz0, hz1, hz2⟩ := info_parts info_node
  obtain ⟨fields, hu, hpl⟩ := node_places
  unfold Program.built
  rw [hi, hu]
  simp only [hz0, hpl]
  have e3 : (Value.agg (nc ndZ).toArray).cells = (nc ndZ).toArray := rfl
  have sz : (nc ndZ).toArray.size = 132 := rfl
  rw [e3, fill_step (v := .agg (pc n b)) (off := 65) (size := 33) rfl (pc_size n hb) (by simp only [putRow_len, sz]; decide), fill_end]
  have c1 : (Value.agg (pc n b)).cells.toList = .int .i64 n :: u8s b := rfl
  rw [c1, nc_3 ky_zero ky_zero ky_zero hb]
  rfl
theorem ndK_built {k v : List Int} (hk : Ky k) (hv : Ky v) : Tryd.prog.built 57 [(0, .bool true), (1, .agg (kc k)), (2, .agg (kc v))] = some (nc (ndK k v)).toArray := by
  obtain ⟨i0, hi, hz0, hz1, hz2⟩ := info_parts info_node
  obtain ⟨fields, hu, hpl⟩ := node_places
  unfold Program.built
  rw [hi, hu]
  simp only [hz0, hpl]
  have e3 : (Value.agg (nc ndZ).toArray).cells = (nc ndZ).toArray := rfl
  have sz : (nc ndZ).toArray.size = 132 := rfl
  rw [e3, fill_step (v := .bool true) (off := 0) (size := 1) rfl rfl (by simp only [putRow_len, sz]; decide), fill_step (v := .agg (kc k)) (off := 1) (size := 32) rfl (kc_size hk) (by simp only [putRow_len, sz]; decide), fill_step (v := .agg (kc v)) (off := 33) (size := 32) rfl (kc_size hv) (by simp only [putRow_len, sz]; decide), fill_end]
  have c1 : (Value.agg (kc k)).cells.toList = u8s k := rfl
  have c2 : (Value.agg (kc v)).cells.toList = u8s v := rfl
  have c0 : (Value.bool true).cells.toList = [.bool true] := rfl
  rw [c0, c1, c2, nc_0, nc_1 ky_zero hk, nc_2 hk ky_zero hv]
  rfl
theorem stepX_sd (key x : List Int) (s : QS) : stepX key s x = innX s.n s.b (sdV key s.n (sum x) s.o).1 (sdV key s.n (sum x) s.o).2 := by
  unfold stepX sdV
  split <;> rfl
theorem sdV_ky {K a c : List Int} {n : Int} (ha : Ky a) (hc : Ky c) : Ky (sdV K n a c).1 ∧ Ky (sdV K n a c).2 := by
  unfold sdV
  split
  · exact ⟨hc, ha⟩
  · exact ⟨ha, hc⟩
theorem innX_bs {n : Int} {b l r : List Int} (hb : Ky b) (hl : Ky l) (hr : Ky r) : Bs (innX n b l r) := by
  unfold innX
  split
  · exact inner_tbs hb hl hr
  · refine textL_bs 110 _ (by decide) (fun f hf => ?_)
    simp only [List.mem_cons, List.not_mem_nil, or_false] at hf
    rcases hf with rfl | rfl | rfl | rfl
    · intro v hv; simp at hv
    · exact hb.bs
    · exact hl.bs
    · exact hr.bs
theorem endX_bs {q : QP} (h : q.Ok) : Bs (endX q) := by
  unfold endX
  split
  · exact textL_bs 101 _ (by decide) (fun f hf => by simp at hf)
  · split
    · exact leaf_tbs h.k h.v
    · exact innX_bs h.b h.l h.r
theorem wp_cut {P : Program} {c : Code} {Q : Exit → Act → World → Prop} {a : Act} {w : World} (R : Act → World → Prop) (h : c.wp P (Qr R) a w) (hR : ∀ a w, R a w → Q .normal a w) : c.wp P Q a w :=
  (wpIn_wide (n := 0)).1 (wpIn_cut R ((wpIn_wide (n := 0)).2 h) hR)
/-- what stands in Texts: its arguments, the texts so far in their box -/
structure TxB (w : World) (A : Option Addr) (n c : Nat) (q : QP) (key : List Int) (M : List (List Int)) (v : Value) (x : World) : Prop where
  pr : Blk x w.heap.size 66 (prc (.slice A n c) q).toArray
  kk : Blk x (w.heap.size + 1) 24 (kc key)
  bx : Blk x (w.heap.size + 1 + 1) 79 #[v]
  tx : Txs w.heap.size x M v
  bl : Below w.heap.size w x
section
variable {w x y : World} {A : Option Addr} {n c : Nat} {q : QP} {key : List Int} {M : List (List Int)} {v : Value}
theorem TxB.below (h : TxB w A n c q key M v x) (hb : Below x.heap.size x y) : TxB w A n c q key M v y :=
  ⟨h.pr.below hb, h.kk.below hb, h.bx.below hb, h.tx.below hb, h.bl.trans (hb.mono h.bl.size)⟩
theorem Txs.far {n0 e : Nat} {cs : Array Value} {t : TypeId} (h : Txs n0 x M v) (hb : Blk x e t cs) (h1 : t ≠ 49) (h2 : t ≠ 5) (u : Value) : Txs n0 (x.setCell ⟨e, 0, none⟩ u) M v := by
  obtain ⟨A, c, rows, hv, hown, hr⟩ := h
  refine ⟨A, c, rows, hv, own_keep hown (fun k hk => Below.heap_setCell x _ _ k (fun e' => ?_)), fun j hj => ?_⟩
  · have e'' : k = e := e'
    subst e''
    rcases hown.2 with ⟨h1, h0⟩ | ⟨g, cap, cur, hv, _, hh, _⟩
    · rw [h1] at hk; cases hk
    · rw [hv] at hk; injection hk with hk; subst hk
      exact hb.ne (show Blk x g 49 cur from hh) h1 rfl
  · obtain ⟨B, d, h4, h5, h6⟩ := hr j hj
    exact ⟨B, d, h4, h5, h6.same (fun g cs hg => Below.heap_setCell x _ _ g (fun e' => by
      have e'' : g = e := e'
      subst e''
      exact hb.ne hg h2 rfl))⟩
theorem TxB.push {v' : Value} {xs : List Int} (h : TxB w A n c q key M v x) (ht : Txs w.heap.size y (M ++ [xs]) v') (hb : But v x y) : TxB w A n c q key (M ++ [xs]) v' (y.setCell ⟨w.heap.size + 1 + 1, 0, none⟩ v') := by
  have kb := hb.blkt h.tx h.bx (by decide)
  refine ⟨(hb.blkt h.tx h.pr (by decide)).far (show w.heap.size ≠ w.heap.size + 1 + 1 by omega) _, (hb.blkt h.tx h.kk (by decide)).far (show w.heap.size + 1 ≠ w.heap.size + 1 + 1 by omega) _, kb.setd 0 v', ht.far kb (by decide) (by decide) _, ?_⟩
  exact (h.bl.trans (hb.bel h.bl.size (fun k hk => (h.tx.ty k hk).1))).setCell (p := ⟨w.heap.size + 1 + 1, 0, none⟩) (by show _ ≤ w.heap.size + 1 + 1; omega) _
theorem TxB.bx2 (h : TxB w A n c q key M v x) (hb : But v x y) : Blk y (w.heap.size + 1 + 1) 79 #[v] := hb.blkt h.tx h.bx (by decide)
/-- what turns -/
theorem TxB.turn (h : TxB w A n c q key M v x) (hb : But v x y) {k : Nat} (hk : k < x.heap.size) (hne : (k < w.heap.size ∨ ∃ t cs, Blk x k t cs ∧ t ≠ 49 ∧ t ≠ 79)) (u : Value) : (y.setCell ⟨w.heap.size + 1 + 1, 0, none⟩ u).heap[k]? = x.heap[k]? := by
  have n1 : v.ownBlock ≠ some k := fun e => by
    obtain ⟨h1, C, h2⟩ := h.tx.ty k e
    rcases hne with h3 | ⟨t, cs, h3, h4, _⟩
    · omega
    · exact h3.ne h2 h4 rfl
  have n2 : k ≠ w.heap.size + 1 + 1 := fun e => by
    rcases hne with h3 | ⟨t, cs, h3, _, h4⟩
    · omega
    · subst e; exact h3.ne h.bx h4 rfl
  exact (Below.heap_setCell y _ _ k n2).trans (hb.at k hk n1)
theorem TxB.keeps (h : TxB w A n c q key M v x) (hb : But v x y) (B : Nat) (u : Value) : KeepsFrom B x (y.setCell ⟨w.heap.size + 1 + 1, 0, none⟩ u) := by
  refine KeepsFrom.trans ⟨hb.size, fun k o _ hk hc => (hb.at k ?_ (fun e => ?_)).trans hk⟩ ((KeepsOthers.setCell y _ u).from B)
  · rcases Nat.lt_or_ge k x.heap.size with h1 | h1
    · exact h1
    · rw [Array.getElem?_eq_none h1] at hk; cases hk
  · obtain ⟨_, C, h2⟩ := h.tx.ty k e
    unfold Blk at h2
    rw [h2] at hk
    injection hk with hk
    subst hk
    cases hc
theorem Txs.own {n0 : Nat} {row : Option Nat} (h : Txs n0 x M v) (hg : x.grownBy y row) (hr : ∀ r, row = some r → ∃ o : Obj, x.heap[r]? = some o ∧ o.isCells = false) : Txs n0 y M v := by
  obtain ⟨A, c, rows, hv, hown, hr2⟩ := h
  refine ⟨A, c, rows, hv, own_own hown hg hr, fun j hj => ?_⟩
  obtain ⟨B, d, h4, h5, h6⟩ := hr2 j hj
  exact ⟨B, d, h4, h5, h6.same (fun g cs hgb => (hgb.own hg hr).trans hgb.symm)⟩
end
/-- between two rounds -/
structure TxL (w : World) (A : Option Addr) (n c : Nat) (q : QP) (key : List Int) (bs : Nat) (pre : List (Fin n)) (M : List (List Int)) (v : Value) (W : World) : Prop where
  b : TxB w A n c q key M v W
  len : M.length = pre.length + 1
  all : ∀ x ∈ M, Bs x ∧ x.length < 20000
  it : ∀ k, ItT bs A n k → k < W.heap.size ∧ (k < w.heap.size ∨ ∃ cs, Blk W k 64 cs)
  cond : pre.map (·.val) = downs n pre.length → M = (allX key (endX q) (q.ss.drop (n - pre.length))).reverse
def TxE (w : World) (A : Option Addr) (n c : Nat) (q : QP) (key : List Int) (bs : Nat) (pre : List (Fin n)) (W : World) : Prop := ∃ M v, TxL w A n c q key bs pre M v W
theorem TxE.own {w : World} {A : Option Addr} {n c : Nat} {q : QP} {key : List Int} {bs B : Nat} (hB : w.heap.size ≤ B) : OwnFrom B (TxE w A n c q key bs) := fun pre W W' row ⟨M, v, h⟩ hg hr => by
  have hr2 := fun r e => (hr r e).2
  refine ⟨M, v, ⟨h.b.pr.own hg hr2, h.b.kk.own hg hr2, h.b.bx.own hg hr2, h.b.tx.own hg hr2, h.b.bl.grown hg h.b.bl.size (fun k e => Nat.le_trans hB (hr k e).1)⟩, h.len, h.all, fun k hk => ?_, h.cond⟩
  obtain ⟨h1, h2⟩ := h.it k hk
  exact ⟨Nat.lt_of_lt_of_le h1 hg.size, h2.imp id (fun ⟨cs, h3⟩ => ⟨cs, h3.own hg hr2⟩)⟩
theorem TxE.below {w : World} {A : Option Addr} {n c : Nat} {q : QP} {key : List Int} {bs : Nat} {pre : List (Fin n)} {W W' : World} (h : TxE w A n c q key bs pre W) (hb : Below W.heap.size W W') : TxE w A n c q key bs pre W' := by
  obtain ⟨M, v, h⟩ := h
  exact ⟨M, v, h.b.below hb, h.len, h.all, fun k hk => by obtain ⟨h1, h2⟩ := h.it k hk; exact ⟨Nat.lt_of_lt_of_le h1 hb.size, h2.imp id (fun ⟨cs, h3⟩ => ⟨cs, h3.below hb⟩)⟩, h.cond⟩
/-- a round's end -/
theorem TxL.step {w W x y : World} {A : Option Addr} {n c : Nat} {q : QP} {key : List Int} {bs : Nat} {pre : List (Fin n)} {M : List (List Int)} {v v' : Value} {B : Nat} (h : TxL w A n c q key bs pre M v W) (hb : Below W.heap.size W x) (hx : TxB w A n c q key M v x) (i : Fin n) (s : QS) (hs : q.ss[i.val]? = some s) (hok : s.Ok) (hql : q.ss.length = n) (xl : List Int) (hxl : M[pre.length]? = some xl)
    (hlen : pre.length < n) (ht : Txs w.heap.size y (M ++ [stepX key s xl]) v') (hbt : But v x y) (hbs : Bs (stepX key s xl)) :
    KeepsFrom B W (y.setCell ⟨w.heap.size + 1 + 1, 0, none⟩ v') ∧ KpS (ItT bs A n) W (y.setCell ⟨w.heap.size + 1 + 1, 0, none⟩ v') ∧ TxE w A n c q key bs (pre ++ [i]) (y.setCell ⟨w.heap.size + 1 + 1, 0, none⟩ v') := by
  have hsz : W.heap.size ≤ (y.setCell ⟨w.heap.size + 1 + 1, 0, none⟩ v').heap.size := Nat.le_trans hb.size (by simpa [World.setCell] using hbt.size)
  have hit : ∀ k, ItT bs A n k → (y.setCell ⟨w.heap.size + 1 + 1, 0, none⟩ v').heap[k]? = W.heap[k]? := fun k hk => by
    obtain ⟨h1, h2⟩ := h.it k hk
    exact (hx.turn hbt (Nat.lt_of_lt_of_le h1 hb.size) (h2.imp id (fun ⟨cs, h3⟩ => ⟨_, cs, h3.below hb, by decide, by decide⟩)) v').trans (hb.block k h1)
  refine ⟨(keeps_below hb).trans (hx.keeps hbt B v'), ⟨hsz, fun g hg _ => hit g hg⟩, M ++ [stepX key s xl], v', hx.push ht hbt, by simp [h.len], fun z hz => ?_, fun k hk => ?_, fun hp => ?_⟩
  · rcases List.mem_append.1 hz with hz | hz
    · exact h.all z hz
    · rw [List.mem_singleton.1 hz]; exact ⟨hbs, stepX_len hok⟩
  · obtain ⟨h1, h2⟩ := h.it k hk
    exact ⟨Nat.lt_of_lt_of_le h1 hsz, h2.imp id (fun ⟨cs, h3⟩ => ⟨cs, h3.same (hit k hk)⟩)⟩
  · obtain ⟨h5, h6⟩ := downs_last hp
    have h7 := h.cond h5
    have hi := i.isLt
    rw [show n - (pre ++ [i]).length = i.val by simp only [List.length_append, List.length_singleton]; omega, all_step key (endX q) hs, List.reverse_cons]
    rw [show n - pre.length = i.val + 1 by omega] at h7
    have hl := all_last key (endX q) (q.ss.drop (i.val + 1))
    rw [← h7] at hl
    rw [show (q.ss.drop (i.val + 1)).length = pre.length by rw [List.length_drop, hql]; omega, hxl] at hl
    injection hl with hl
    rw [h7, hl]
/-- frames -/
structure FrP (w : World) (V : Value) (q : QP) (x : World) : Prop where
  b : Blk x w.heap.size 66 (prc V q).toArray
theorem FrP.below {w x y : World} {V : Value} {q : QP} (h : FrP w V q x) (hb : Below x.heap.size x y) : FrP w V q y := ⟨h.b.below hb⟩
theorem FrP.far {w x : World} {V : Value} {q : QP} {e : Nat} {v : Value} (h : FrP w V q x) (hb : Blk x e 79 #[v]) (u : Value) : FrP w V q (x.setCell ⟨e, 0, none⟩ u) := ⟨h.b.far (h.b.ne hb (by decide)) u⟩
theorem FrP.but {w x y : World} {V : Value} {q : QP} {n0 : Nat} {M : List (List Int)} {v : Value} (h : FrP w V q x) (ht : Txs n0 x M v) (hb : But v x y) : FrP w V q y := ⟨hb.blkt ht h.b (by decide)⟩
structure FrN (g6 : Nat) (q : Nd) (x : World) : Prop where
  b : Blk x g6 57 (nc q).toArray
theorem FrN.below {x y : World} {g6 : Nat} {q : Nd} (h : FrN g6 q x) (hb : Below x.heap.size x y) : FrN g6 q y := ⟨h.b.below hb⟩
theorem FrN.far {x : World} {g6 : Nat} {q : Nd} {e : Nat} {v : Value} (h : FrN g6 q x) (hb : Blk x e 79 #[v]) (u : Value) : FrN g6 q (x.setCell ⟨e, 0, none⟩ u) := ⟨h.b.far (h.b.ne hb (by decide)) u⟩
theorem FrN.but {x y : World} {g6 : Nat} {q : Nd} {n0 : Nat} {M : List (List Int)} {v : Value} (h : FrN g6 q x) (ht : Txs n0 x M v) (hb : But v x y) : FrN g6 q y := ⟨hb.blkt ht h.b (by decide)⟩
structure FrS (g8 e10 e11 : Nat) (s : QS) (l r : List Int) (x : World) : Prop where
  b : Blk x g8 129 (stc s).toArray
  l : Blk x e10 24 (kc l)
  r : Blk x e11 24 (kc r)
theorem FrS.below {g8 e10 e11 : Nat} {s : QS} {l r : List Int} {x y : World} (h : FrS g8 e10 e11 s l r x) (hb : Below x.heap.size x y) : FrS g8 e10 e11 s l r y := ⟨h.b.below hb, h.l.below hb, h.r.below hb⟩
theorem FrS.far {g8 e10 e11 : Nat} {s : QS} {l r : List Int} {x : World} {e : Nat} {v : Value} (h : FrS g8 e10 e11 s l r x) (hb : Blk x e 79 #[v]) (u : Value) : FrS g8 e10 e11 s l r (x.setCell ⟨e, 0, none⟩ u) := ⟨h.b.far (h.b.ne hb (by decide)) u, h.l.far (h.l.ne hb (by decide)) u, h.r.far (h.r.ne hb (by decide)) u⟩
theorem FrS.but {g8 e10 e11 : Nat} {s : QS} {l r : List Int} {x y : World} {n0 : Nat} {M : List (List Int)} {v : Value} (h : FrS g8 e10 e11 s l r x) (ht : Txs n0 x M v) (hb : But v x y) : FrS g8 e10 e11 s l r y := ⟨hb.blkt ht h.b (by decide), hb.blkt ht h.l (by decide), hb.blkt ht h.r (by decide)⟩
theorem blk_st {x : World} {g8 : Nat} {s : QS} (h : Blk x g8 129 (stc s).toArray) (hs : s.Ok) : StAt x g8 0 s := st_at (fun j v hv => by rw [h.cell, Nat.zero_add, List.getElem?_toArray]; exact hv) hs
theorem nb2 (w : World) (Z : Array Value) : Blk ((w.alloc (.cells Z 24)).alloc (.cells Z 24)) (w.heap.size + 1) 24 Z := by
  have := Blk.new (w.alloc (.cells Z 24)) 24 Z
  rwa [show (w.alloc (.cells Z 24)).heap.size = w.heap.size + 1 by simp] at this
/-- what Texts answers -/
def TxsA (w : World) (M : List (List Int)) (e : Ending) (w' : World) : Prop := ∃ v, e = .returned v ∧ Txs w.heap.size w' M v ∧ Below w.heap.size w w'
theorem txs_out {key : List Int} {q : QP} (h : isEnd q.e = false) : txsX key q = [] := by unfold txsX; rw [h]; rfl
theorem txs_in {key : List Int} {q : QP} (h : isEnd q.e = true) : txsX key q = (allX key (endX q) q.ss).reverse := by unfold txsX; rw [if_pos h]
theorem is_end {e : Int} (h : isEnd e = true) : e = 0 ∨ e = 1 ∨ e = 2 := by
  unfold isEnd at h
  simp only [Bool.or_eq_true, decide_eq_true_eq] at h
  omega
set_option maxHeartbeats 8000000 in
theorem qtexts_no {A : Option Addr} {n c : Nat} {q : QP} {key : List Int} (w : World) (hq : q.Ok) (hK : Ky key) (he : isEnd q.e = false) :
    Calls Tryd.prog 34 #[.agg (prc (.slice A n c) q).toArray, .agg (kc key)] w (TxsA w []) := by
  obtain ⟨hk1, hk2, hk3, hb0⟩ := three_blks w (prc (.slice A n c) q).toArray (kc key) #[.slice none 0 0] 66 24 79
  have c1 := (hk1.pr hq).«end»
  have B0 := hid hb0
  obtain ⟨ev, hev⟩ : ∃ ev, ev = q.e := ⟨_, rfl⟩
  rw [← hev] at c1 he
  have h0 : ¬ ev = 0 := fun e => by rw [e] at he; revert he; decide
  have h1 : ¬ ev = 1 := fun e => by rw [e] at he; revert he; decide
  have h2 : ¬ ev = 2 := fun e => by rw [e] at he; revert he; decide
  clear hk1 hk2 hk3 hb0 hq hK hev he
  unfold TxsA
  go_enter Tryd.func34, Tryd.ntmps34
  go_wp2
  go_ret
  exact ⟨_, rfl, Txs.nil _ _, B0.out⟩
set_option maxHeartbeats 16000000 in
theorem qtexts_yes {A : Option Addr} {n c : Nat} {q : QP} {key : List Int} (w : World) (hin : InS w A n q.ss) (hq : q.Ok) (hK : Ky key) (hn : n ≤ 100) (ht : Tab w) (he : isEnd q.e = true) :
    Calls Tryd.prog 34 #[.agg (prc (.slice A n c) q).toArray, .agg (kc key)] w (TxsA w (allX key (endX q) q.ss).reverse) := by
  obtain ⟨Z, HZ, hZ0, hZs⟩ := zero_key
  obtain ⟨Y, HY, hY0, hYs⟩ := zero_step
  obtain ⟨X, HX, hX0, hXs⟩ := zero_node
  obtain ⟨hk1, hk2, hk3, hb0⟩ := three_blks w (prc (.slice A n c) q).toArray (kc key) #[.slice none 0 0] 66 24 79
  have TX : Hid (TxB w A n c q key [] (.slice none 0 0) (((w.alloc (.cells (prc (.slice A n c) q).toArray 66)).alloc (.cells (kc key) 24)).alloc (.cells #[.slice none 0 0] 79))) := ⟨hk1, hk2, hk3, Txs.nil _ _, hb0⟩
  have PA := hk1.pr hq
  have c1 := PA.«end»
  have HIN := hid hin; have HQ := hid hq; have HK := hid hK; have HT := hid ht
  have HKI := hid (u8s_info hK)
  have HPN := hid (pcl_info q.n hq.b); have HLI := hid (u8s_info hq.l); have HRI := hid (u8s_info hq.r)
  have HNP := hid (ndP_ok (n := q.n) hq.b); have HNK := hid (ndK_ok hq.k hq.v)
  have HNKI := hid (node_info (ndK_ok hq.k hq.v))
  have HPB := hid (ndP_built (n := q.n) hq.b)
  have HKB := ndK_built hq.k hq.v
  have HkI := hid (u8s_info hq.k); have HvI := hid (u8s_info hq.v)
  have HHZ : Hid (Z.size = (kc zk).size) := by show _ = _; rw [HZ.out]
  have HZn := HZ; have HYn := HY
  have HN1 := hid (node_info2 (ndK_ok hq.k hq.v))
  have HN2 : Hid (X.size = (nc (ndK q.k q.v)).toArray.size) := by show _ = _; rw [HX.out, List.size_toArray, List.size_toArray, ndZ_ok.nc, (ndK_ok hq.k hq.v).nc]
  have HN3 : Hid ((nc (ndK q.k q.v)).toArray.all (·.oneCell') = true) := by
    show _ = _
    rw [Array.all_eq_true']
    intro v hv
    exact nc_one _ v (by simpa using hv)
  have HML : Hid (([] : List (List Int)).length ≤ 1000) := by show _ ≤ _; decide
  obtain ⟨ev, hev⟩ : ∃ ev, ev = q.e := ⟨_, rfl⟩
  rw [← hev] at c1 he
  have HE3 : Hid ((ev = 0 → endX q = emptyT) ∧ (ev = 1 → endX q = leafT q.k q.v) ∧ (ev = 2 → endX q = innX q.n q.b q.l q.r)) := by
    refine ⟨fun e => ?_, fun e => ?_, fun e => ?_⟩
    · unfold endX; rw [if_pos (by omega)]
    · unfold endX; rw [if_neg (by omega), if_pos (by omega)]
    · unfold endX; rw [if_neg (by omega), if_neg (by omega)]
  have HPA := hid PA
  have HEV := hid (is_end he)
  have HN := hid hn
  clear hk1 hk2 hk3 hb0 hin hq hK ht he hev PA hn HX
  unfold TxsA
  refine (callsIn_wide (n := 2)).1 ?_
  refine callsIn_of_wp_marks Tryd.func34 rfl trivial ?_ rfl
  simp only [Tryd.ntmps34, List.size_toArray, List.length_cons, List.length_nil, Nat.reduceAdd, Nat.reduceSub, Array.replicate_succ, Array.replicate_zero, List.push_toArray, List.append_toArray, List.nil_append, List.cons_append]
  refine (wpIn_wide (n := 2)).2 ?_
  go_upto_block 0 with (fail)
  clear c1
  generalize ((w.alloc (.cells (prc (.slice A n c) q).toArray 66)).alloc (.cells (kc key) 24)).alloc (.cells #[.slice none 0 0] 79) = w0 at TX HPA ⊢
  go_cut [5] from 14 to 46 (fun s5 wx => s5 = .pointer (some ⟨w.heap.size + 1 + 1, 0, none⟩) ∧ ∃ v, Hid (TxB w A n c q key ([] ++ [endX q]) v wx))
  case first =>
    refine wp_cut _ ?_ (fun _ _ h => h)
    rcases HEV.out with h | h | h
    · have HEX : Hid (endX q = emptyT) := HE3.out.1 h
      subst h
      go_upto_region 5 with (fail)
      have GX0 : Hid (FrP w (.slice A n c) q w0) := ⟨TX.out.pr⟩
      have BW : Hid (Below w0.heap.size w0 w0) := Below.refl _ _
      refine wp_region_held (S := fun w' => Hid (FrP w (.slice A n c) q w')) (by kernel_rfl) ?_
      change wpAnyH _ _ _ _ _ _ _ _ w0.drew
      have Gx0 : Hid (FrP w (.slice A n c) q w0.drew) := GX0.out.below (Below.refl _ _).drew
      have TX' : Hid (TxB w A n c q key ([]) (.slice none 0 0) w0.drew) := TX.out.below (Below.refl _ _).drew
      have BW' : Hid (Below w0.heap.size w0 w0.drew) := BW.out.trans (((Below.refl w0.heap.size w0).drew).mono BW.out.size)
      clear TX BW
      have TX := TX'
      have BW := BW'
      clear TX' BW'
      generalize w0.drew = x0 at Gx0 TX BW ⊢
      have TXx0 := TX
      have BWx0 := BW
      clear TX BW
      refine wpAnyH_ready (rs := [0, 1]) (by kernel_rfl) (by simp) ?_
      refine (AllReadyH.cons (o := { dst := some 16, op := _, type := _, pos := _, after := _, guard := _ }) rfl (fun Qc hQc => ?_) (AllReadyH.cons (o := { dst := some 17, op := _, type := _, pos := _, after := _, guard := _ }) rfl (fun Qc hQc => ?_) AllReadyH.nil))
      ·
        have c0 : x0.cell? ⟨w.heap.size + 1 + 1, 0, none⟩ = some (.slice none 0 0) := TXx0.out.bx.cell 0
        go_simp
        refine hQc.out _ _ Gx0 (fun hHeld => ?_)
        clear hQc Qc c0
        try simp only [Act.put, List.setIfInBounds_toArray, List.set_cons_zero, List.set_cons_succ]
        refine rd1 1 (some 17) (fun Qc hQc => ?_)
        go_simp
        go_at_call 58
        refine (Text_any 101 none 0 0 [] x0 (inR_0 _) (by decide) (fun f hf => by simp at hf) (by decide)).mono ?_
        rintro e x1 ⟨B5, d5, rfl, h5, hf5, hb⟩
        have TXx1 := hid (TXx0.out.below hb)
        have Gx1 := hid (Gx0.out.below hb)
        have BWx1 := hid (BWx0.out.trans (hb.mono BWx0.out.size))
        have FB := hid hf5.byt
        have HD5 := hid h5
        clear hb h5 hf5
        go_wp2_with fail
        refine hQc.out _ _ Gx1 (fun hHeld => ?_)
        clear hQc Qc hHeld
        try simp only [Act.put, List.setIfInBounds_toArray, List.set_cons_zero, List.set_cons_succ]
        refine rd1 2 (some 18) (fun Qc hQc => ?_)
        go_simp
        have NB : Hid (Blk (x1.alloc (.cells #[.slice B5 (textL 101 []).length d5] 49)) x1.heap.size 49 #[.slice B5 (textL 101 []).length d5]) := Blk.new x1 49 #[.slice B5 (textL 101 []).length d5]
        have hb : Below x1.heap.size x1 (x1.alloc (.cells #[.slice B5 (textL 101 []).length d5] 49)) := (Below.refl _ _).alloc (Nat.le_refl _) _
        have TXx2 := hid (TXx1.out.below hb)
        have Gx2 := hid (Gx1.out.below hb)
        have BWx2 := hid (BWx1.out.trans (hb.mono BWx1.out.size))
        have FB2 := hid (FB.out.below hb)
        clear hb
        refine hQc.out _ _ Gx2 (fun hHeld => ?_)
        clear hQc Qc hHeld
        generalize x1.heap.size = g5 at NB ⊢
        generalize x1.alloc (.cells #[.slice B5 (textL 101 []).length d5] 49) = x2 at NB TXx2 Gx2 BWx2 FB2 ⊢
        try simp only [Act.put, List.setIfInBounds_toArray, List.set_cons_zero, List.set_cons_succ]
        refine rd1 3 (some 19) (fun Qc hQc => ?_)
        rw [if_pos (by rfl)]
        refine wp_append_tx (.tmp 16) (.tmp 18) rfl w.heap.size ([]) (.slice none 0 0) rfl TXx2.out.tx g5 B5 d5 (textL 101 []).length (textL 101 []) rfl rfl NB.out HD5.out FB2.out HML.out TXx2.out.bl.size ?_
        intro v9 x3 ht9 hbt9
        have HT9 := hid ht9; have HB9 := hid hbt9
        have Gx3 := hid (Gx2.out.but TXx2.out.tx HB9.out)
        obtain ⟨A9, c9, hv9⟩ := HT9.out.len
        replace hv9 : v9 = .slice A9 (1) c9 := by rw [hv9]; simp
        subst hv9
        clear ht9 hbt9
        refine hQc.out _ _ Gx3 (fun hHeld => ?_)
        clear hQc Qc hHeld
        try simp only [Act.put, List.setIfInBounds_toArray, List.set_cons_zero, List.set_cons_succ]
        refine rd1 4 none (fun Qc hQc => ?_)
        have c1 : x3.cell? ⟨w.heap.size + 1 + 1, 0, none⟩ = some (.slice none 0 0) := (TXx2.out.bx2 HB9.out).cell 0
        have f1 : x3.frozen? ⟨w.heap.size + 1 + 1, 0, none⟩ = false := (TXx2.out.bx2 HB9.out).frozen 0
        go_simp
        clear c1 f1
        have Gx4 : Hid (FrP w (.slice A n c) q (x3.setCell ⟨w.heap.size + 1 + 1, 0, none⟩ (Value.slice A9 (1) c9))) := FrP.far Gx3.out (TXx2.out.bx2 HB9.out) _
        have TF := hid (TXx2.out.push HT9.out HB9.out)
        refine hQc.out _ _ Gx4 (fun hHeld => ?_)
        clear hQc Qc hHeld
        generalize hw9 : x3.setCell ⟨w.heap.size + 1 + 1, 0, none⟩ (Value.slice A9 (1) c9) = x4 at Gx4 TF ⊢
        try simp only [Act.put, List.setIfInBounds_toArray, List.set_cons_zero, List.set_cons_succ]
        refine wpAnyH_done (by kernel_rfl) ?_ _
        try simp only [Act.put, List.setIfInBounds_toArray, List.set_cons_zero, List.set_cons_succ]
        go_wp2
        simp only [Qr, Exit.then]
        rename_i hKK hJ
        refine hKK _ _ (Met.intro (hJ _ _ ?_))
        (repeat apply Exists.intro)
        refine ⟨⟨rfl, _, (by rw [HEX.out]; exact TF)⟩, rfl⟩
      ·
        go_simp
        go_at_call 58
        refine (Text_any 101 none 0 0 [] x0 (inR_0 _) (by decide) (fun f hf => by simp at hf) (by decide)).mono ?_
        rintro e x5 ⟨B5, d5, rfl, h5, hf5, hb⟩
        have TXx5 := hid (TXx0.out.below hb)
        have Gx5 := hid (Gx0.out.below hb)
        have BWx5 := hid (BWx0.out.trans (hb.mono BWx0.out.size))
        have FB := hid hf5.byt
        have HD5 := hid h5
        clear hb h5 hf5
        go_wp2_with fail
        refine hQc.out _ _ Gx5 (fun hHeld => ?_)
        clear hQc Qc hHeld
        try simp only [Act.put, List.setIfInBounds_toArray, List.set_cons_zero, List.set_cons_succ]
        refine wpAnyH_ready (rs := [0, 2]) (by kernel_rfl) (by simp) ?_
        refine (AllReadyH.cons (o := { dst := some 16, op := _, type := _, pos := _, after := _, guard := _ }) rfl (fun Qc hQc => ?_) (AllReadyH.cons (o := { dst := some 18, op := _, type := _, pos := _, after := _, guard := _ }) rfl (fun Qc hQc => ?_) AllReadyH.nil))
        ·
          have c0 : x5.cell? ⟨w.heap.size + 1 + 1, 0, none⟩ = some (.slice none 0 0) := TXx5.out.bx.cell 0
          go_simp
          refine hQc.out _ _ Gx5 (fun hHeld => ?_)
          clear hQc Qc c0
          try simp only [Act.put, List.setIfInBounds_toArray, List.set_cons_zero, List.set_cons_succ]
          refine rd1 2 (some 18) (fun Qc hQc => ?_)
          go_simp
          have NB : Hid (Blk (x5.alloc (.cells #[.slice B5 (textL 101 []).length d5] 49)) x5.heap.size 49 #[.slice B5 (textL 101 []).length d5]) := Blk.new x5 49 #[.slice B5 (textL 101 []).length d5]
          have hb : Below x5.heap.size x5 (x5.alloc (.cells #[.slice B5 (textL 101 []).length d5] 49)) := (Below.refl _ _).alloc (Nat.le_refl _) _
          have TXx6 := hid (TXx5.out.below hb)
          have Gx6 := hid (Gx5.out.below hb)
          have BWx6 := hid (BWx5.out.trans (hb.mono BWx5.out.size))
          have FB2 := hid (FB.out.below hb)
          clear hb
          refine hQc.out _ _ Gx6 (fun hHeld => ?_)
          clear hQc Qc hHeld
          generalize x5.heap.size = g5 at NB ⊢
          generalize x5.alloc (.cells #[.slice B5 (textL 101 []).length d5] 49) = x6 at NB TXx6 Gx6 BWx6 FB2 ⊢
          try simp only [Act.put, List.setIfInBounds_toArray, List.set_cons_zero, List.set_cons_succ]
          refine rd1 3 (some 19) (fun Qc hQc => ?_)
          rw [if_pos (by rfl)]
          refine wp_append_tx (.tmp 16) (.tmp 18) rfl w.heap.size ([]) (.slice none 0 0) rfl TXx6.out.tx g5 B5 d5 (textL 101 []).length (textL 101 []) rfl rfl NB.out HD5.out FB2.out HML.out TXx6.out.bl.size ?_
          intro v9 x7 ht9 hbt9
          have HT9 := hid ht9; have HB9 := hid hbt9
          have Gx7 := hid (Gx6.out.but TXx6.out.tx HB9.out)
          obtain ⟨A9, c9, hv9⟩ := HT9.out.len
          replace hv9 : v9 = .slice A9 (1) c9 := by rw [hv9]; simp
          subst hv9
          clear ht9 hbt9
          refine hQc.out _ _ Gx7 (fun hHeld => ?_)
          clear hQc Qc hHeld
          try simp only [Act.put, List.setIfInBounds_toArray, List.set_cons_zero, List.set_cons_succ]
          refine rd1 4 none (fun Qc hQc => ?_)
          have c1 : x7.cell? ⟨w.heap.size + 1 + 1, 0, none⟩ = some (.slice none 0 0) := (TXx6.out.bx2 HB9.out).cell 0
          have f1 : x7.frozen? ⟨w.heap.size + 1 + 1, 0, none⟩ = false := (TXx6.out.bx2 HB9.out).frozen 0
          go_simp
          clear c1 f1
          have Gx8 : Hid (FrP w (.slice A n c) q (x7.setCell ⟨w.heap.size + 1 + 1, 0, none⟩ (Value.slice A9 (1) c9))) := FrP.far Gx7.out (TXx6.out.bx2 HB9.out) _
          have TF := hid (TXx6.out.push HT9.out HB9.out)
          refine hQc.out _ _ Gx8 (fun hHeld => ?_)
          clear hQc Qc hHeld
          generalize hw9 : x7.setCell ⟨w.heap.size + 1 + 1, 0, none⟩ (Value.slice A9 (1) c9) = x8 at Gx8 TF ⊢
          try simp only [Act.put, List.setIfInBounds_toArray, List.set_cons_zero, List.set_cons_succ]
          refine wpAnyH_done (by kernel_rfl) ?_ _
          try simp only [Act.put, List.setIfInBounds_toArray, List.set_cons_zero, List.set_cons_succ]
          go_wp2
          simp only [Qr, Exit.then]
          rename_i hKK hJ
          refine hKK _ _ (Met.intro (hJ _ _ ?_))
          (repeat apply Exists.intro)
          refine ⟨⟨rfl, _, (by rw [HEX.out]; exact TF)⟩, rfl⟩
        ·
          go_simp
          have NB : Hid (Blk (x5.alloc (.cells #[.slice B5 (textL 101 []).length d5] 49)) x5.heap.size 49 #[.slice B5 (textL 101 []).length d5]) := Blk.new x5 49 #[.slice B5 (textL 101 []).length d5]
          have hb : Below x5.heap.size x5 (x5.alloc (.cells #[.slice B5 (textL 101 []).length d5] 49)) := (Below.refl _ _).alloc (Nat.le_refl _) _
          have TXx9 := hid (TXx5.out.below hb)
          have Gx9 := hid (Gx5.out.below hb)
          have BWx9 := hid (BWx5.out.trans (hb.mono BWx5.out.size))
          have FB2 := hid (FB.out.below hb)
          clear hb
          refine hQc.out _ _ Gx9 (fun hHeld => ?_)
          clear hQc Qc hHeld
          generalize x5.heap.size = g5 at NB ⊢
          generalize x5.alloc (.cells #[.slice B5 (textL 101 []).length d5] 49) = x9 at NB TXx9 Gx9 BWx9 FB2 ⊢
          try simp only [Act.put, List.setIfInBounds_toArray, List.set_cons_zero, List.set_cons_succ]
          refine rd1 0 (some 16) (fun Qc hQc => ?_)
          have c0 : x9.cell? ⟨w.heap.size + 1 + 1, 0, none⟩ = some (.slice none 0 0) := TXx9.out.bx.cell 0
          go_simp
          refine hQc.out _ _ Gx9 (fun hHeld => ?_)
          clear hQc Qc c0
          try simp only [Act.put, List.setIfInBounds_toArray, List.set_cons_zero, List.set_cons_succ]
          refine rd1 3 (some 19) (fun Qc hQc => ?_)
          rw [if_pos (by rfl)]
          refine wp_append_tx (.tmp 16) (.tmp 18) rfl w.heap.size ([]) (.slice none 0 0) rfl TXx9.out.tx g5 B5 d5 (textL 101 []).length (textL 101 []) rfl rfl NB.out HD5.out FB2.out HML.out TXx9.out.bl.size ?_
          intro v9 x10 ht9 hbt9
          have HT9 := hid ht9; have HB9 := hid hbt9
          have Gx10 := hid (Gx9.out.but TXx9.out.tx HB9.out)
          obtain ⟨A9, c9, hv9⟩ := HT9.out.len
          replace hv9 : v9 = .slice A9 (1) c9 := by rw [hv9]; simp
          subst hv9
          clear ht9 hbt9
          refine hQc.out _ _ Gx10 (fun hHeld => ?_)
          clear hQc Qc hHeld
          try simp only [Act.put, List.setIfInBounds_toArray, List.set_cons_zero, List.set_cons_succ]
          refine rd1 4 none (fun Qc hQc => ?_)
          have c1 : x10.cell? ⟨w.heap.size + 1 + 1, 0, none⟩ = some (.slice none 0 0) := (TXx9.out.bx2 HB9.out).cell 0
          have f1 : x10.frozen? ⟨w.heap.size + 1 + 1, 0, none⟩ = false := (TXx9.out.bx2 HB9.out).frozen 0
          go_simp
          clear c1 f1
          have Gx11 : Hid (FrP w (.slice A n c) q (x10.setCell ⟨w.heap.size + 1 + 1, 0, none⟩ (Value.slice A9 (1) c9))) := FrP.far Gx10.out (TXx9.out.bx2 HB9.out) _
          have TF := hid (TXx9.out.push HT9.out HB9.out)
          refine hQc.out _ _ Gx11 (fun hHeld => ?_)
          clear hQc Qc hHeld
          generalize hw9 : x10.setCell ⟨w.heap.size + 1 + 1, 0, none⟩ (Value.slice A9 (1) c9) = x11 at Gx11 TF ⊢
          try simp only [Act.put, List.setIfInBounds_toArray, List.set_cons_zero, List.set_cons_succ]
          refine wpAnyH_done (by kernel_rfl) ?_ _
          try simp only [Act.put, List.setIfInBounds_toArray, List.set_cons_zero, List.set_cons_succ]
          go_wp2
          simp only [Qr, Exit.then]
          rename_i hKK hJ
          refine hKK _ _ (Met.intro (hJ _ _ ?_))
          (repeat apply Exists.intro)
          refine ⟨⟨rfl, _, (by rw [HEX.out]; exact TF)⟩, rfl⟩
    · have HEX : Hid (endX q = leafT q.k q.v) := HE3.out.2.1 h
      subst h
      go_upto_region 8 with (first
        | (refine load_at rfl 24 (.tmp 22) rfl w.heap.size 2 rfl (u8s q.k) _ HPA.out.key Tryd.underlying24 rfl HkI.out (kc q.k) rfl ?_)
        | (refine load_at rfl 24 (.tmp 24) rfl w.heap.size 34 rfl (u8s q.v) _ HPA.out.val Tryd.underlying24 rfl HvI.out (kc q.v) rfl ?_)
        | (refine wpList_buildC rfl 57 _ rfl (nc (ndK q.k q.v)).toArray ?hc ?_; case hc => (simp only [List.map_toArray, List.map_cons, List.map_nil, Act.eval]; exact HKB))
        | (refine wpList_store_row rfl 57 (.tmp 6) (.tmp 26) rfl w0.heap.size (nc (ndK q.k q.v)).toArray rfl rfl 57 X (Blk.new w0 57 X) HN1.out HN2.out HN3.out ?_))
      have NB6 : Hid (Blk ((w0.alloc (.cells X 57)).setRow w0.heap.size (nc (ndK q.k q.v)).toArray) w0.heap.size 57 (nc (ndK q.k q.v)).toArray) := (Blk.new w0 57 X).row _
      have BB : Hid (Below w0.heap.size w0 ((w0.alloc (.cells X 57)).setRow w0.heap.size (nc (ndK q.k q.v)).toArray)) := below_setRow ((Below.refl _ _).alloc (Nat.le_refl _) _) (Nat.le_refl _) _
      have TX2 := hid (TX.out.below BB.out)
      clear TX BB
      have TX := TX2
      clear TX2
      generalize (w0.alloc (.cells X 57)).setRow w0.heap.size (nc (ndK q.k q.v)).toArray = w2 at TX NB6 ⊢
      generalize w0.heap.size = g6 at NB6 ⊢
      have GX0 : Hid (FrN g6 (ndK q.k q.v) w2) := ⟨NB6.out⟩
      have BW : Hid (Below w2.heap.size w2 w2) := Below.refl _ _
      refine wp_region_held (S := fun w' => Hid (FrN g6 (ndK q.k q.v) w')) (by kernel_rfl) ?_
      change wpAnyH _ _ _ _ _ _ _ _ w2.drew
      have Gx0 : Hid (FrN g6 (ndK q.k q.v) w2.drew) := GX0.out.below (Below.refl _ _).drew
      have TX' : Hid (TxB w A n c q key ([]) (.slice none 0 0) w2.drew) := TX.out.below (Below.refl _ _).drew
      have BW' : Hid (Below w2.heap.size w2 w2.drew) := BW.out.trans (((Below.refl w2.heap.size w2).drew).mono BW.out.size)
      clear TX BW
      have TX := TX'
      have BW := BW'
      clear TX' BW'
      generalize w2.drew = x0 at Gx0 TX BW ⊢
      have TXx0 := TX
      have BWx0 := BW
      clear TX BW
      refine tkv 1 (some 28) (.agg ((nc (ndK q.k q.v)).toArray)) rfl (yieldsIf_load_mid (cs := nc (ndK q.k q.v)) (by rfl) _ _ rfl _ _ rfl _ (fun w' hSw => (hSw.out.b.node HNK.out).all) Tryd.underlying57 rfl HNKI.out) ?_
      refine wpAnyH_take (i := 2) (oi := { dst := some 29, op := _, type := _, pos := _, after := _, guard := _ }) (v := .agg (kc zk)) rfl (by kernel_rfl) (by kernel_rfl) (by kernel_rfl) (fun _ _ _ h => h) (Or.inl ⟨by kernel_rfl, ?_⟩) Gx0 ?_
      · (intro w hSw; exact exec_build 24 #[] rfl _ (by simp only [List.map_toArray, List.map_nil]; exact built_hash0) w)
      try simp only [Act.put, List.setIfInBounds_toArray, List.set_cons_zero, List.set_cons_succ]
      refine wpAnyH_take (i := 3) (oi := { dst := some 30, op := _, type := _, pos := _, after := _, guard := _ }) (v := .agg (kc zk)) rfl (by kernel_rfl) (by kernel_rfl) (by kernel_rfl) (fun _ _ _ h => h) (Or.inl ⟨by kernel_rfl, ?_⟩) Gx0 ?_
      · (intro w hSw; exact exec_build 24 #[] rfl _ (by simp only [List.map_toArray, List.map_nil]; exact built_hash0) w)
      try simp only [Act.put, List.setIfInBounds_toArray, List.set_cons_zero, List.set_cons_succ]
      refine wpAnyH_ready (rs := [0, 4]) (by kernel_rfl) (by simp) ?_
      refine (AllReadyH.cons (o := { dst := some 27, op := _, type := _, pos := _, after := _, guard := _ }) rfl (fun Qc hQc => ?_) (AllReadyH.cons (o := { dst := some 31, op := _, type := _, pos := _, after := _, guard := _ }) rfl (fun Qc hQc => ?_) AllReadyH.nil))
      ·
        have c0 : x0.cell? ⟨w.heap.size + 1 + 1, 0, none⟩ = some (.slice none 0 0) := TXx0.out.bx.cell 0
        go_simp
        refine hQc.out _ _ Gx0 (fun hHeld => ?_)
        clear hQc Qc c0
        try simp only [Act.put, List.setIfInBounds_toArray, List.set_cons_zero, List.set_cons_succ]
        refine rd1 4 (some 31) (fun Qc hQc => ?_)
        go_simp
        go_at_call 25
        refine (show Calls Tryd.prog 25 _ x0 (TxA x0 (leafT q.k q.v)) from xText_leaf (ndK q.k q.v) zk zk x0 HNK.out rfl zk_ky zk_ky).mono ?_
        rintro e x1 ⟨B5, d5, rfl, h5, hf5, hb⟩
        have TXx1 := hid (TXx0.out.below hb)
        have Gx1 := hid (Gx0.out.below hb)
        have BWx1 := hid (BWx0.out.trans (hb.mono BWx0.out.size))
        have FB := hid hf5.byt
        have HD5 := hid h5
        clear hb h5 hf5
        go_wp2_with fail
        refine hQc.out _ _ Gx1 (fun hHeld => ?_)
        clear hQc Qc hHeld
        try simp only [Act.put, List.setIfInBounds_toArray, List.set_cons_zero, List.set_cons_succ]
        refine rd1 5 (some 32) (fun Qc hQc => ?_)
        go_simp
        have NB : Hid (Blk (x1.alloc (.cells #[.slice B5 (leafT q.k q.v).length d5] 49)) x1.heap.size 49 #[.slice B5 (leafT q.k q.v).length d5]) := Blk.new x1 49 #[.slice B5 (leafT q.k q.v).length d5]
        have hb : Below x1.heap.size x1 (x1.alloc (.cells #[.slice B5 (leafT q.k q.v).length d5] 49)) := (Below.refl _ _).alloc (Nat.le_refl _) _
        have TXx2 := hid (TXx1.out.below hb)
        have Gx2 := hid (Gx1.out.below hb)
        have BWx2 := hid (BWx1.out.trans (hb.mono BWx1.out.size))
        have FB2 := hid (FB.out.below hb)
        clear hb
        refine hQc.out _ _ Gx2 (fun hHeld => ?_)
        clear hQc Qc hHeld
        generalize x1.heap.size = g5 at NB ⊢
        generalize x1.alloc (.cells #[.slice B5 (leafT q.k q.v).length d5] 49) = x2 at NB TXx2 Gx2 BWx2 FB2 ⊢
        try simp only [Act.put, List.setIfInBounds_toArray, List.set_cons_zero, List.set_cons_succ]
        refine rd1 6 (some 33) (fun Qc hQc => ?_)
        rw [if_pos (by rfl)]
        refine wp_append_tx (.tmp 27) (.tmp 32) rfl w.heap.size ([]) (.slice none 0 0) rfl TXx2.out.tx g5 B5 d5 (leafT q.k q.v).length (leafT q.k q.v) rfl rfl NB.out HD5.out FB2.out HML.out TXx2.out.bl.size ?_
        intro v9 x3 ht9 hbt9
        have HT9 := hid ht9; have HB9 := hid hbt9
        have Gx3 := hid (Gx2.out.but TXx2.out.tx HB9.out)
        obtain ⟨A9, c9, hv9⟩ := HT9.out.len
        replace hv9 : v9 = .slice A9 (1) c9 := by rw [hv9]; simp
        subst hv9
        clear ht9 hbt9
        refine hQc.out _ _ Gx3 (fun hHeld => ?_)
        clear hQc Qc hHeld
        try simp only [Act.put, List.setIfInBounds_toArray, List.set_cons_zero, List.set_cons_succ]
        refine rd1 7 none (fun Qc hQc => ?_)
        have c1 : x3.cell? ⟨w.heap.size + 1 + 1, 0, none⟩ = some (.slice none 0 0) := (TXx2.out.bx2 HB9.out).cell 0
        have f1 : x3.frozen? ⟨w.heap.size + 1 + 1, 0, none⟩ = false := (TXx2.out.bx2 HB9.out).frozen 0
        go_simp
        clear c1 f1
        have Gx4 : Hid (FrN g6 (ndK q.k q.v) (x3.setCell ⟨w.heap.size + 1 + 1, 0, none⟩ (Value.slice A9 (1) c9))) := FrN.far Gx3.out (TXx2.out.bx2 HB9.out) _
        have TF := hid (TXx2.out.push HT9.out HB9.out)
        refine hQc.out _ _ Gx4 (fun hHeld => ?_)
        clear hQc Qc hHeld
        generalize hw9 : x3.setCell ⟨w.heap.size + 1 + 1, 0, none⟩ (Value.slice A9 (1) c9) = x4 at Gx4 TF ⊢
        try simp only [Act.put, List.setIfInBounds_toArray, List.set_cons_zero, List.set_cons_succ]
        refine wpAnyH_done (by kernel_rfl) ?_ _
        try simp only [Act.put, List.setIfInBounds_toArray, List.set_cons_zero, List.set_cons_succ]
        go_wp2
        simp only [Qr, Exit.then]
        rename_i hKK hJ
        refine hKK _ _ (Met.intro (hJ _ _ ?_))
        (repeat apply Exists.intro)
        refine ⟨⟨rfl, _, (by rw [HEX.out]; exact TF)⟩, rfl⟩
      ·
        go_simp
        go_at_call 25
        refine (show Calls Tryd.prog 25 _ x0 (TxA x0 (leafT q.k q.v)) from xText_leaf (ndK q.k q.v) zk zk x0 HNK.out rfl zk_ky zk_ky).mono ?_
        rintro e x5 ⟨B5, d5, rfl, h5, hf5, hb⟩
        have TXx5 := hid (TXx0.out.below hb)
        have Gx5 := hid (Gx0.out.below hb)
        have BWx5 := hid (BWx0.out.trans (hb.mono BWx0.out.size))
        have FB := hid hf5.byt
        have HD5 := hid h5
        clear hb h5 hf5
        go_wp2_with fail
        refine hQc.out _ _ Gx5 (fun hHeld => ?_)
        clear hQc Qc hHeld
        try simp only [Act.put, List.setIfInBounds_toArray, List.set_cons_zero, List.set_cons_succ]
        refine wpAnyH_ready (rs := [0, 5]) (by kernel_rfl) (by simp) ?_
        refine (AllReadyH.cons (o := { dst := some 27, op := _, type := _, pos := _, after := _, guard := _ }) rfl (fun Qc hQc => ?_) (AllReadyH.cons (o := { dst := some 32, op := _, type := _, pos := _, after := _, guard := _ }) rfl (fun Qc hQc => ?_) AllReadyH.nil))
        ·
          have c0 : x5.cell? ⟨w.heap.size + 1 + 1, 0, none⟩ = some (.slice none 0 0) := TXx5.out.bx.cell 0
          go_simp
          refine hQc.out _ _ Gx5 (fun hHeld => ?_)
          clear hQc Qc c0
          try simp only [Act.put, List.setIfInBounds_toArray, List.set_cons_zero, List.set_cons_succ]
          refine rd1 5 (some 32) (fun Qc hQc => ?_)
          go_simp
          have NB : Hid (Blk (x5.alloc (.cells #[.slice B5 (leafT q.k q.v).length d5] 49)) x5.heap.size 49 #[.slice B5 (leafT q.k q.v).length d5]) := Blk.new x5 49 #[.slice B5 (leafT q.k q.v).length d5]
          have hb : Below x5.heap.size x5 (x5.alloc (.cells #[.slice B5 (leafT q.k q.v).length d5] 49)) := (Below.refl _ _).alloc (Nat.le_refl _) _
          have TXx6 := hid (TXx5.out.below hb)
          have Gx6 := hid (Gx5.out.below hb)
          have BWx6 := hid (BWx5.out.trans (hb.mono BWx5.out.size))
          have FB2 := hid (FB.out.below hb)
          clear hb
          refine hQc.out _ _ Gx6 (fun hHeld => ?_)
          clear hQc Qc hHeld
          generalize x5.heap.size = g5 at NB ⊢
          generalize x5.alloc (.cells #[.slice B5 (leafT q.k q.v).length d5] 49) = x6 at NB TXx6 Gx6 BWx6 FB2 ⊢
          try simp only [Act.put, List.setIfInBounds_toArray, List.set_cons_zero, List.set_cons_succ]
          refine rd1 6 (some 33) (fun Qc hQc => ?_)
          rw [if_pos (by rfl)]
          refine wp_append_tx (.tmp 27) (.tmp 32) rfl w.heap.size ([]) (.slice none 0 0) rfl TXx6.out.tx g5 B5 d5 (leafT q.k q.v).length (leafT q.k q.v) rfl rfl NB.out HD5.out FB2.out HML.out TXx6.out.bl.size ?_
          intro v9 x7 ht9 hbt9
          have HT9 := hid ht9; have HB9 := hid hbt9
          have Gx7 := hid (Gx6.out.but TXx6.out.tx HB9.out)
          obtain ⟨A9, c9, hv9⟩ := HT9.out.len
          replace hv9 : v9 = .slice A9 (1) c9 := by rw [hv9]; simp
          subst hv9
          clear ht9 hbt9
          refine hQc.out _ _ Gx7 (fun hHeld => ?_)
          clear hQc Qc hHeld
          try simp only [Act.put, List.setIfInBounds_toArray, List.set_cons_zero, List.set_cons_succ]
          refine rd1 7 none (fun Qc hQc => ?_)
          have c1 : x7.cell? ⟨w.heap.size + 1 + 1, 0, none⟩ = some (.slice none 0 0) := (TXx6.out.bx2 HB9.out).cell 0
          have f1 : x7.frozen? ⟨w.heap.size + 1 + 1, 0, none⟩ = false := (TXx6.out.bx2 HB9.out).frozen 0
          go_simp
          clear c1 f1
          have Gx8 : Hid (FrN g6 (ndK q.k q.v) (x7.setCell ⟨w.heap.size + 1 + 1, 0, none⟩ (Value.slice A9 (1) c9))) := FrN.far Gx7.out (TXx6.out.bx2 HB9.out) _
          have TF := hid (TXx6.out.push HT9.out HB9.out)
          refine hQc.out _ _ Gx8 (fun hHeld => ?_)
          clear hQc Qc hHeld
          generalize hw9 : x7.setCell ⟨w.heap.size + 1 + 1, 0, none⟩ (Value.slice A9 (1) c9) = x8 at Gx8 TF ⊢
          try simp only [Act.put, List.setIfInBounds_toArray, List.set_cons_zero, List.set_cons_succ]
          refine wpAnyH_done (by kernel_rfl) ?_ _
          try simp only [Act.put, List.setIfInBounds_toArray, List.set_cons_zero, List.set_cons_succ]
          go_wp2
          simp only [Qr, Exit.then]
          rename_i hKK hJ
          refine hKK _ _ (Met.intro (hJ _ _ ?_))
          (repeat apply Exists.intro)
          refine ⟨⟨rfl, _, (by rw [HEX.out]; exact TF)⟩, rfl⟩
        ·
          go_simp
          have NB : Hid (Blk (x5.alloc (.cells #[.slice B5 (leafT q.k q.v).length d5] 49)) x5.heap.size 49 #[.slice B5 (leafT q.k q.v).length d5]) := Blk.new x5 49 #[.slice B5 (leafT q.k q.v).length d5]
          have hb : Below x5.heap.size x5 (x5.alloc (.cells #[.slice B5 (leafT q.k q.v).length d5] 49)) := (Below.refl _ _).alloc (Nat.le_refl _) _
          have TXx9 := hid (TXx5.out.below hb)
          have Gx9 := hid (Gx5.out.below hb)
          have BWx9 := hid (BWx5.out.trans (hb.mono BWx5.out.size))
          have FB2 := hid (FB.out.below hb)
          clear hb
          refine hQc.out _ _ Gx9 (fun hHeld => ?_)
          clear hQc Qc hHeld
          generalize x5.heap.size = g5 at NB ⊢
          generalize x5.alloc (.cells #[.slice B5 (leafT q.k q.v).length d5] 49) = x9 at NB TXx9 Gx9 BWx9 FB2 ⊢
          try simp only [Act.put, List.setIfInBounds_toArray, List.set_cons_zero, List.set_cons_succ]
          refine rd1 0 (some 27) (fun Qc hQc => ?_)
          have c0 : x9.cell? ⟨w.heap.size + 1 + 1, 0, none⟩ = some (.slice none 0 0) := TXx9.out.bx.cell 0
          go_simp
          refine hQc.out _ _ Gx9 (fun hHeld => ?_)
          clear hQc Qc c0
          try simp only [Act.put, List.setIfInBounds_toArray, List.set_cons_zero, List.set_cons_succ]
          refine rd1 6 (some 33) (fun Qc hQc => ?_)
          rw [if_pos (by rfl)]
          refine wp_append_tx (.tmp 27) (.tmp 32) rfl w.heap.size ([]) (.slice none 0 0) rfl TXx9.out.tx g5 B5 d5 (leafT q.k q.v).length (leafT q.k q.v) rfl rfl NB.out HD5.out FB2.out HML.out TXx9.out.bl.size ?_
          intro v9 x10 ht9 hbt9
          have HT9 := hid ht9; have HB9 := hid hbt9
          have Gx10 := hid (Gx9.out.but TXx9.out.tx HB9.out)
          obtain ⟨A9, c9, hv9⟩ := HT9.out.len
          replace hv9 : v9 = .slice A9 (1) c9 := by rw [hv9]; simp
          subst hv9
          clear ht9 hbt9
          refine hQc.out _ _ Gx10 (fun hHeld => ?_)
          clear hQc Qc hHeld
          try simp only [Act.put, List.setIfInBounds_toArray, List.set_cons_zero, List.set_cons_succ]
          refine rd1 7 none (fun Qc hQc => ?_)
          have c1 : x10.cell? ⟨w.heap.size + 1 + 1, 0, none⟩ = some (.slice none 0 0) := (TXx9.out.bx2 HB9.out).cell 0
          have f1 : x10.frozen? ⟨w.heap.size + 1 + 1, 0, none⟩ = false := (TXx9.out.bx2 HB9.out).frozen 0
          go_simp
          clear c1 f1
          have Gx11 : Hid (FrN g6 (ndK q.k q.v) (x10.setCell ⟨w.heap.size + 1 + 1, 0, none⟩ (Value.slice A9 (1) c9))) := FrN.far Gx10.out (TXx9.out.bx2 HB9.out) _
          have TF := hid (TXx9.out.push HT9.out HB9.out)
          refine hQc.out _ _ Gx11 (fun hHeld => ?_)
          clear hQc Qc hHeld
          generalize hw9 : x10.setCell ⟨w.heap.size + 1 + 1, 0, none⟩ (Value.slice A9 (1) c9) = x11 at Gx11 TF ⊢
          try simp only [Act.put, List.setIfInBounds_toArray, List.set_cons_zero, List.set_cons_succ]
          refine wpAnyH_done (by kernel_rfl) ?_ _
          try simp only [Act.put, List.setIfInBounds_toArray, List.set_cons_zero, List.set_cons_succ]
          go_wp2
          simp only [Qr, Exit.then]
          rename_i hKK hJ
          refine hKK _ _ (Met.intro (hJ _ _ ?_))
          (repeat apply Exists.intro)
          refine ⟨⟨rfl, _, (by rw [HEX.out]; exact TF)⟩, rfl⟩
    · have HEX : Hid (endX q = innX q.n q.b q.l q.r) := HE3.out.2.2 h
      subst h
      go_upto_region 10 with (fail)
      have GX0 : Hid (FrP w (.slice A n c) q w0) := ⟨TX.out.pr⟩
      have BW : Hid (Below w0.heap.size w0 w0) := Below.refl _ _
      refine wp_region_held (S := fun w' => Hid (FrP w (.slice A n c) q w')) (by kernel_rfl) ?_
      change wpAnyH _ _ _ _ _ _ _ _ w0.drew
      have Gx0 : Hid (FrP w (.slice A n c) q w0.drew) := GX0.out.below (Below.refl _ _).drew
      have TX' : Hid (TxB w A n c q key ([]) (.slice none 0 0) w0.drew) := TX.out.below (Below.refl _ _).drew
      have BW' : Hid (Below w0.heap.size w0 w0.drew) := BW.out.trans (((Below.refl w0.heap.size w0).drew).mono BW.out.size)
      clear TX BW
      have TX := TX'
      have BW := BW'
      clear TX' BW'
      generalize w0.drew = x0 at Gx0 TX BW ⊢
      have TXx0 := TX
      have BWx0 := BW
      clear TX BW
      refine tk 1 (some 37) ?_
      refine tkv 2 (some 38) (.agg (pc q.n q.b)) rfl (yieldsIf_load_mid (cs := (.int .i64 q.n :: u8s q.b)) (by rfl) _ _ rfl _ _ rfl _ (fun w' hSw => (hSw.out.b.pr HQ.out).pre) Tryd.underlying55 rfl HPN.out) ?_
      refine wpAnyH_take (i := 3) (oi := { dst := some 39, op := _, type := _, pos := _, after := _, guard := _ }) (v := .agg (nc (ndP q.n q.b)).toArray) rfl (by kernel_rfl) (by kernel_rfl) (by kernel_rfl) (fun _ _ _ h => h) (Or.inl ⟨by kernel_rfl, ?_⟩) Gx0 ?_
      · (intro w hSw; have hbw := HPB.out; exact exec_build 57 #[(3, .tmp 38)] rfl _ (by simp only [List.map_toArray, List.map_cons, List.map_nil, Act.eval]; exact hbw) w)
      try simp only [Act.put, List.setIfInBounds_toArray, List.set_cons_zero, List.set_cons_succ]
      refine tk 4 (some 40) ?_
      refine tkv 5 (some 41) (.agg (kc q.l)) rfl (yieldsIf_load_mid (cs := u8s q.l) (by rfl) _ _ rfl _ _ rfl _ (fun w' hSw => (hSw.out.b.pr HQ.out).left) Tryd.underlying24 rfl HLI.out) ?_
      refine tk 6 (some 42) ?_
      refine tkv 7 (some 43) (.agg (kc q.r)) rfl (yieldsIf_load_mid (cs := u8s q.r) (by rfl) _ _ rfl _ _ rfl _ (fun w' hSw => (hSw.out.b.pr HQ.out).right) Tryd.underlying24 rfl HRI.out) ?_
      refine wpAnyH_ready (rs := [0, 8]) (by kernel_rfl) (by simp) ?_
      refine (AllReadyH.cons (o := { dst := some 36, op := _, type := _, pos := _, after := _, guard := _ }) rfl (fun Qc hQc => ?_) (AllReadyH.cons (o := { dst := some 44, op := _, type := _, pos := _, after := _, guard := _ }) rfl (fun Qc hQc => ?_) AllReadyH.nil))
      ·
        have c0 : x0.cell? ⟨w.heap.size + 1 + 1, 0, none⟩ = some (.slice none 0 0) := TXx0.out.bx.cell 0
        go_simp
        refine hQc.out _ _ Gx0 (fun hHeld => ?_)
        clear hQc Qc c0
        try simp only [Act.put, List.setIfInBounds_toArray, List.set_cons_zero, List.set_cons_succ]
        refine rd1 8 (some 44) (fun Qc hQc => ?_)
        go_simp
        go_at_call 25
        refine (show Calls Tryd.prog 25 _ x0 (TxA x0 (innX q.n q.b q.l q.r)) from xText_X (ndP q.n q.b) q.l q.r x0 HNP.out rfl HQ.out.l HQ.out.r).mono ?_
        rintro e x1 ⟨B5, d5, rfl, h5, hf5, hb⟩
        have TXx1 := hid (TXx0.out.below hb)
        have Gx1 := hid (Gx0.out.below hb)
        have BWx1 := hid (BWx0.out.trans (hb.mono BWx0.out.size))
        have FB := hid hf5.byt
        have HD5 := hid h5
        clear hb h5 hf5
        go_wp2_with fail
        refine hQc.out _ _ Gx1 (fun hHeld => ?_)
        clear hQc Qc hHeld
        try simp only [Act.put, List.setIfInBounds_toArray, List.set_cons_zero, List.set_cons_succ]
        refine rd1 9 (some 45) (fun Qc hQc => ?_)
        go_simp
        have NB : Hid (Blk (x1.alloc (.cells #[.slice B5 (innX q.n q.b q.l q.r).length d5] 49)) x1.heap.size 49 #[.slice B5 (innX q.n q.b q.l q.r).length d5]) := Blk.new x1 49 #[.slice B5 (innX q.n q.b q.l q.r).length d5]
        have hb : Below x1.heap.size x1 (x1.alloc (.cells #[.slice B5 (innX q.n q.b q.l q.r).length d5] 49)) := (Below.refl _ _).alloc (Nat.le_refl _) _
        have TXx2 := hid (TXx1.out.below hb)
        have Gx2 := hid (Gx1.out.below hb)
        have BWx2 := hid (BWx1.out.trans (hb.mono BWx1.out.size))
        have FB2 := hid (FB.out.below hb)
        clear hb
        refine hQc.out _ _ Gx2 (fun hHeld => ?_)
        clear hQc Qc hHeld
        generalize x1.heap.size = g5 at NB ⊢
        generalize x1.alloc (.cells #[.slice B5 (innX q.n q.b q.l q.r).length d5] 49) = x2 at NB TXx2 Gx2 BWx2 FB2 ⊢
        try simp only [Act.put, List.setIfInBounds_toArray, List.set_cons_zero, List.set_cons_succ]
        refine rd1 10 (some 46) (fun Qc hQc => ?_)
        rw [if_pos (by rfl)]
        refine wp_append_tx (.tmp 36) (.tmp 45) rfl w.heap.size ([]) (.slice none 0 0) rfl TXx2.out.tx g5 B5 d5 (innX q.n q.b q.l q.r).length (innX q.n q.b q.l q.r) rfl rfl NB.out HD5.out FB2.out HML.out TXx2.out.bl.size ?_
        intro v9 x3 ht9 hbt9
        have HT9 := hid ht9; have HB9 := hid hbt9
        have Gx3 := hid (Gx2.out.but TXx2.out.tx HB9.out)
        obtain ⟨A9, c9, hv9⟩ := HT9.out.len
        replace hv9 : v9 = .slice A9 (1) c9 := by rw [hv9]; simp
        subst hv9
        clear ht9 hbt9
        refine hQc.out _ _ Gx3 (fun hHeld => ?_)
        clear hQc Qc hHeld
        try simp only [Act.put, List.setIfInBounds_toArray, List.set_cons_zero, List.set_cons_succ]
        refine rd1 11 none (fun Qc hQc => ?_)
        have c1 : x3.cell? ⟨w.heap.size + 1 + 1, 0, none⟩ = some (.slice none 0 0) := (TXx2.out.bx2 HB9.out).cell 0
        have f1 : x3.frozen? ⟨w.heap.size + 1 + 1, 0, none⟩ = false := (TXx2.out.bx2 HB9.out).frozen 0
        go_simp
        clear c1 f1
        have Gx4 : Hid (FrP w (.slice A n c) q (x3.setCell ⟨w.heap.size + 1 + 1, 0, none⟩ (Value.slice A9 (1) c9))) := FrP.far Gx3.out (TXx2.out.bx2 HB9.out) _
        have TF := hid (TXx2.out.push HT9.out HB9.out)
        refine hQc.out _ _ Gx4 (fun hHeld => ?_)
        clear hQc Qc hHeld
        generalize hw9 : x3.setCell ⟨w.heap.size + 1 + 1, 0, none⟩ (Value.slice A9 (1) c9) = x4 at Gx4 TF ⊢
        try simp only [Act.put, List.setIfInBounds_toArray, List.set_cons_zero, List.set_cons_succ]
        refine wpAnyH_done (by kernel_rfl) ?_ _
        try simp only [Act.put, List.setIfInBounds_toArray, List.set_cons_zero, List.set_cons_succ]
        go_wp2
        simp only [Qr, Exit.then]
        rename_i hKK hJ
        refine hKK _ _ (Met.intro (hJ _ _ ?_))
        (repeat apply Exists.intro)
        refine ⟨⟨rfl, _, (by rw [HEX.out]; exact TF)⟩, rfl⟩
      ·
        go_simp
        go_at_call 25
        refine (show Calls Tryd.prog 25 _ x0 (TxA x0 (innX q.n q.b q.l q.r)) from xText_X (ndP q.n q.b) q.l q.r x0 HNP.out rfl HQ.out.l HQ.out.r).mono ?_
        rintro e x5 ⟨B5, d5, rfl, h5, hf5, hb⟩
        have TXx5 := hid (TXx0.out.below hb)
        have Gx5 := hid (Gx0.out.below hb)
        have BWx5 := hid (BWx0.out.trans (hb.mono BWx0.out.size))
        have FB := hid hf5.byt
        have HD5 := hid h5
        clear hb h5 hf5
        go_wp2_with fail
        refine hQc.out _ _ Gx5 (fun hHeld => ?_)
        clear hQc Qc hHeld
        try simp only [Act.put, List.setIfInBounds_toArray, List.set_cons_zero, List.set_cons_succ]
        refine wpAnyH_ready (rs := [0, 9]) (by kernel_rfl) (by simp) ?_
        refine (AllReadyH.cons (o := { dst := some 36, op := _, type := _, pos := _, after := _, guard := _ }) rfl (fun Qc hQc => ?_) (AllReadyH.cons (o := { dst := some 45, op := _, type := _, pos := _, after := _, guard := _ }) rfl (fun Qc hQc => ?_) AllReadyH.nil))
        ·
          have c0 : x5.cell? ⟨w.heap.size + 1 + 1, 0, none⟩ = some (.slice none 0 0) := TXx5.out.bx.cell 0
          go_simp
          refine hQc.out _ _ Gx5 (fun hHeld => ?_)
          clear hQc Qc c0
          try simp only [Act.put, List.setIfInBounds_toArray, List.set_cons_zero, List.set_cons_succ]
          refine rd1 9 (some 45) (fun Qc hQc => ?_)
          go_simp
          have NB : Hid (Blk (x5.alloc (.cells #[.slice B5 (innX q.n q.b q.l q.r).length d5] 49)) x5.heap.size 49 #[.slice B5 (innX q.n q.b q.l q.r).length d5]) := Blk.new x5 49 #[.slice B5 (innX q.n q.b q.l q.r).length d5]
          have hb : Below x5.heap.size x5 (x5.alloc (.cells #[.slice B5 (innX q.n q.b q.l q.r).length d5] 49)) := (Below.refl _ _).alloc (Nat.le_refl _) _
          have TXx6 := hid (TXx5.out.below hb)
          have Gx6 := hid (Gx5.out.below hb)
          have BWx6 := hid (BWx5.out.trans (hb.mono BWx5.out.size))
          have FB2 := hid (FB.out.below hb)
          clear hb
          refine hQc.out _ _ Gx6 (fun hHeld => ?_)
          clear hQc Qc hHeld
          generalize x5.heap.size = g5 at NB ⊢
          generalize x5.alloc (.cells #[.slice B5 (innX q.n q.b q.l q.r).length d5] 49) = x6 at NB TXx6 Gx6 BWx6 FB2 ⊢
          try simp only [Act.put, List.setIfInBounds_toArray, List.set_cons_zero, List.set_cons_succ]
          refine rd1 10 (some 46) (fun Qc hQc => ?_)
          rw [if_pos (by rfl)]
          refine wp_append_tx (.tmp 36) (.tmp 45) rfl w.heap.size ([]) (.slice none 0 0) rfl TXx6.out.tx g5 B5 d5 (innX q.n q.b q.l q.r).length (innX q.n q.b q.l q.r) rfl rfl NB.out HD5.out FB2.out HML.out TXx6.out.bl.size ?_
          intro v9 x7 ht9 hbt9
          have HT9 := hid ht9; have HB9 := hid hbt9
          have Gx7 := hid (Gx6.out.but TXx6.out.tx HB9.out)
          obtain ⟨A9, c9, hv9⟩ := HT9.out.len
          replace hv9 : v9 = .slice A9 (1) c9 := by rw [hv9]; simp
          subst hv9
          clear ht9 hbt9
          refine hQc.out _ _ Gx7 (fun hHeld => ?_)
          clear hQc Qc hHeld
          try simp only [Act.put, List.setIfInBounds_toArray, List.set_cons_zero, List.set_cons_succ]
          refine rd1 11 none (fun Qc hQc => ?_)
          have c1 : x7.cell? ⟨w.heap.size + 1 + 1, 0, none⟩ = some (.slice none 0 0) := (TXx6.out.bx2 HB9.out).cell 0
          have f1 : x7.frozen? ⟨w.heap.size + 1 + 1, 0, none⟩ = false := (TXx6.out.bx2 HB9.out).frozen 0
          go_simp
          clear c1 f1
          have Gx8 : Hid (FrP w (.slice A n c) q (x7.setCell ⟨w.heap.size + 1 + 1, 0, none⟩ (Value.slice A9 (1) c9))) := FrP.far Gx7.out (TXx6.out.bx2 HB9.out) _
          have TF := hid (TXx6.out.push HT9.out HB9.out)
          refine hQc.out _ _ Gx8 (fun hHeld => ?_)
          clear hQc Qc hHeld
          generalize hw9 : x7.setCell ⟨w.heap.size + 1 + 1, 0, none⟩ (Value.slice A9 (1) c9) = x8 at Gx8 TF ⊢
          try simp only [Act.put, List.setIfInBounds_toArray, List.set_cons_zero, List.set_cons_succ]
          refine wpAnyH_done (by kernel_rfl) ?_ _
          try simp only [Act.put, List.setIfInBounds_toArray, List.set_cons_zero, List.set_cons_succ]
          go_wp2
          simp only [Qr, Exit.then]
          rename_i hKK hJ
          refine hKK _ _ (Met.intro (hJ _ _ ?_))
          (repeat apply Exists.intro)
          refine ⟨⟨rfl, _, (by rw [HEX.out]; exact TF)⟩, rfl⟩
        ·
          go_simp
          have NB : Hid (Blk (x5.alloc (.cells #[.slice B5 (innX q.n q.b q.l q.r).length d5] 49)) x5.heap.size 49 #[.slice B5 (innX q.n q.b q.l q.r).length d5]) := Blk.new x5 49 #[.slice B5 (innX q.n q.b q.l q.r).length d5]
          have hb : Below x5.heap.size x5 (x5.alloc (.cells #[.slice B5 (innX q.n q.b q.l q.r).length d5] 49)) := (Below.refl _ _).alloc (Nat.le_refl _) _
          have TXx9 := hid (TXx5.out.below hb)
          have Gx9 := hid (Gx5.out.below hb)
          have BWx9 := hid (BWx5.out.trans (hb.mono BWx5.out.size))
          have FB2 := hid (FB.out.below hb)
          clear hb
          refine hQc.out _ _ Gx9 (fun hHeld => ?_)
          clear hQc Qc hHeld
          generalize x5.heap.size = g5 at NB ⊢
          generalize x5.alloc (.cells #[.slice B5 (innX q.n q.b q.l q.r).length d5] 49) = x9 at NB TXx9 Gx9 BWx9 FB2 ⊢
          try simp only [Act.put, List.setIfInBounds_toArray, List.set_cons_zero, List.set_cons_succ]
          refine rd1 0 (some 36) (fun Qc hQc => ?_)
          have c0 : x9.cell? ⟨w.heap.size + 1 + 1, 0, none⟩ = some (.slice none 0 0) := TXx9.out.bx.cell 0
          go_simp
          refine hQc.out _ _ Gx9 (fun hHeld => ?_)
          clear hQc Qc c0
          try simp only [Act.put, List.setIfInBounds_toArray, List.set_cons_zero, List.set_cons_succ]
          refine rd1 10 (some 46) (fun Qc hQc => ?_)
          rw [if_pos (by rfl)]
          refine wp_append_tx (.tmp 36) (.tmp 45) rfl w.heap.size ([]) (.slice none 0 0) rfl TXx9.out.tx g5 B5 d5 (innX q.n q.b q.l q.r).length (innX q.n q.b q.l q.r) rfl rfl NB.out HD5.out FB2.out HML.out TXx9.out.bl.size ?_
          intro v9 x10 ht9 hbt9
          have HT9 := hid ht9; have HB9 := hid hbt9
          have Gx10 := hid (Gx9.out.but TXx9.out.tx HB9.out)
          obtain ⟨A9, c9, hv9⟩ := HT9.out.len
          replace hv9 : v9 = .slice A9 (1) c9 := by rw [hv9]; simp
          subst hv9
          clear ht9 hbt9
          refine hQc.out _ _ Gx10 (fun hHeld => ?_)
          clear hQc Qc hHeld
          try simp only [Act.put, List.setIfInBounds_toArray, List.set_cons_zero, List.set_cons_succ]
          refine rd1 11 none (fun Qc hQc => ?_)
          have c1 : x10.cell? ⟨w.heap.size + 1 + 1, 0, none⟩ = some (.slice none 0 0) := (TXx9.out.bx2 HB9.out).cell 0
          have f1 : x10.frozen? ⟨w.heap.size + 1 + 1, 0, none⟩ = false := (TXx9.out.bx2 HB9.out).frozen 0
          go_simp
          clear c1 f1
          have Gx11 : Hid (FrP w (.slice A n c) q (x10.setCell ⟨w.heap.size + 1 + 1, 0, none⟩ (Value.slice A9 (1) c9))) := FrP.far Gx10.out (TXx9.out.bx2 HB9.out) _
          have TF := hid (TXx9.out.push HT9.out HB9.out)
          refine hQc.out _ _ Gx11 (fun hHeld => ?_)
          clear hQc Qc hHeld
          generalize hw9 : x10.setCell ⟨w.heap.size + 1 + 1, 0, none⟩ (Value.slice A9 (1) c9) = x11 at Gx11 TF ⊢
          try simp only [Act.put, List.setIfInBounds_toArray, List.set_cons_zero, List.set_cons_succ]
          refine wpAnyH_done (by kernel_rfl) ?_ _
          try simp only [Act.put, List.setIfInBounds_toArray, List.set_cons_zero, List.set_cons_succ]
          go_wp2
          simp only [Qr, Exit.then]
          rename_i hKK hJ
          refine hKK _ _ (Met.intro (hJ _ _ ?_))
          (repeat apply Exists.intro)
          refine ⟨⟨rfl, _, (by rw [HEX.out]; exact TF)⟩, rfl⟩
  case rest =>
  obtain ⟨rfl, v, TX1⟩ := hcut
  clear HE3 HEV HPA TX HPN HLI HRI HNP HNK HNKI HPB HKB HkI HvI HN1 HN2 HN3
  generalize wc = w6 at TX1 ⊢
  have c0 : w6.cell? ⟨w.heap.size, 0, none⟩ = some (.slice A n c) := (TX1.out.pr.pr HQ.out).steps
  have CB := hid (fun w => qback_any A n c w)
  go_wp2_with (go_at_call 71; refine (CB.out _).mono ?_; rintro e w7 ⟨rfl, hw7⟩; have HW7 := hid hw7; clear hw7)
  clear c0
  have BL7 : Hid (Below w6.heap.size w6 w7) := by show Below _ _ _; rw [HW7.out]; exact (Below.refl _ _).alloc (Nat.le_refl _) _
  have KB7 : Hid (Blk w7 w6.heap.size 64 #[.slice A n c]) := by show Blk _ _ _ _; rw [HW7.out]; exact Blk.new w6 64 _
  have TX7 := hid (TX1.out.below BL7.out)
  have IT : Hid (ItQ w6.heap.size A n c q.ss w7) := ⟨KB7.out, HIN.out.below (TX7.out.bl)⟩
  clear HW7 CB TX1 BL7
  generalize w6.heap.size = bs at KB7 IT ⊢
  have HIT : Hid (∀ k, ItT bs A n k → k < w7.heap.size ∧ (k < w.heap.size ∨ ∃ cs, Blk w7 k 64 cs)) := fun k hk => by
    rcases hk with h | ⟨hn, a, h, e⟩
    · rw [h]; exact ⟨KB7.out.lt, .inr ⟨_, KB7.out⟩⟩
    · obtain ⟨b, o, e2, hlt, _⟩ := HIN.out.at' hn
      rw [h] at e2; injection e2 with e2; subst e2
      rw [e]
      exact ⟨Nat.lt_of_lt_of_le hlt TX7.out.bl.size, .inl hlt⟩
  have HQL : Hid (q.ss.length = n) := HIN.out.len
  have I7 : Hid (TxE w A n c q key bs ([] : List (Fin n)) w7) := ⟨[] ++ [endX q], v, TX7.out, rfl, fun x hx => by rw [List.nil_append, List.mem_singleton] at hx; rw [hx]; exact ⟨endX_bs HQ.out, endX_len HQ.out⟩, HIT.out, fun _ => by
    rw [List.length_nil, Nat.sub_zero, List.drop_of_length_le (by rw [HQL.out]; omega)]; rfl⟩
  have BW7 : Hid (w.heap.size ≤ w7.heap.size) := TX7.out.bl.size
  have BLW : Hid (Below w.heap.size w w7) := TX7.out.bl
  have HNM : Hid (n < 1000000) := by have := HN.out; show n < 1000000; omega
  clear TX7 KB7
  refine (wpIn_wide (n := 2)).1 ?_
  refine range_box (n := 2) (by omega) (gf := 107) (lb := #[.pointer (some ⟨bs, 0, none⟩)]) rfl (enters_of Tryd.func107 (by kernel_rfl) rfl) (SS := ItT bs A n)
    (qback_stops (m := n) HNM.out bs A c q.ss w7 IT.out) (fun k hk => (HIT.out k hk).1) (Below.refl _ _) (fun _ => rfl) (TxE w A n c q key bs) (TxE.own BW7.out) (fun _ _ _ h hb => h.below hb) I7.out ?F 129 (fun x => (stc (sAt q.ss x)).toArray) ?assign ?body ?done
  case assign =>
    intro l x W K hK
    have HKK := hid hK
    clear hK
    dsimp only [encQ]
    rw [zip2]
    simp only [List.setIfInBounds_toArray, List.set_cons_succ, List.set_cons_zero]
    obtain ⟨s, hs⟩ : ∃ s, s = sAt q.ss x := ⟨_, rfl⟩
    have hx : q.ss[x.val]? = some s := by rw [hs]; unfold sAt; rw [List.getElem?_eq_getElem (by rw [HQL.out]; exact x.isLt)]; rfl
    have hok : s.Ok := HQ.out.ss s (List.mem_of_getElem? hx)
    have HSI2 := hid (step_info2 hok)
    have HSY : Hid (Y.size = (stc s).toArray.size) := by show _ = _; rw [HYn.out, List.size_toArray, List.size_toArray, stZ_ok.len, hok.len]
    have HONE : Hid ((stc s).toArray.all (·.oneCell') = true) := by
      show _ = _
      rw [Array.all_eq_true']
      intro v hv
      exact stc_one s v (by simpa using hv)
    rw [← hs] at HKK
    rw [← hs]
    obtain ⟨g8, hg8⟩ : ∃ g8, W.heap.size = g8 := ⟨_, rfl⟩
    refine wpIn_cut K (plain_round (L := [_, _]) (by rfl) ?_) (fun _ _ h => h)
    have hnb : Blk (W.alloc (.cells Y 129)) g8 129 Y := by rw [← hg8]; exact Blk.new W 129 Y
    have hb1 : Blk ((W.alloc (.cells Y 129)).setRow g8 (stc s).toArray) g8 129 (stc s).toArray := hnb.row _
    have hb3 : W.heap.size ≤ g8 := by rw [hg8]; exact Nat.le_refl _
    have hb2 : Below W.heap.size W ((W.alloc (.cells Y 129)).setRow g8 (stc s).toArray) := below_setRow ((Below.refl _ _).alloc (Nat.le_refl _) _) hb3 _
    have HB1 := hid hb1; have HB2 := hid hb2; have HB3 := hid hb3
    clear hb1 hb2 hb3
    go_wp2_with (refine wpList_store_row rfl 129 (.tmp 8) (.tmp 51) rfl g8 (stc s).toArray rfl rfl 129 Y hnb HSI2.out HSY.out HONE.out ?_)
    try simp only [Qr]
    subst hs
    exact HKK.out g8 _ HB1.out HB2.out HB3.out
  case body =>
    rintro l pre x g8 W hWs hI hb8 hle hlen
    obtain ⟨M, v, hs⟩ := hI
    obtain ⟨s, hss⟩ : ∃ s, s = sAt q.ss x := ⟨_, rfl⟩
    have hx : q.ss[x.val]? = some s := by rw [hss]; unfold sAt; rw [List.getElem?_eq_getElem (by rw [HQL.out]; exact x.isLt)]; rfl
    have hok : s.Ok := HQ.out.ss s (List.mem_of_getElem? hx)
    rw [← hss] at hb8
    try dsimp only
    try rw [← hss]
    clear hss
    have SOK := hid hok
    have HSX := hid hx
    have HLEN := hid hlen
    obtain ⟨A1, c1, hv⟩ := hs.b.tx.len
    rw [hs.len] at hv
    obtain ⟨k1, hk1⟩ : ∃ k1, k1 = pre.length := ⟨_, rfl⟩
    rw [← hk1] at hv
    subst hv
    have hml : M.length = k1 + 1 := by rw [hs.len, hk1]
    obtain ⟨hlm, g1, B1, d1, rfl, hg1, hc1, hd1, hB1⟩ := hs.b.tx.at (j := k1) (by omega)
    obtain ⟨xl, hxl⟩ : ∃ xl, M[k1]? = some xl := ⟨_, List.getElem?_eq_getElem (by omega)⟩
    rw [hxl] at hc1 hd1 hB1
    simp only [Option.getD_some] at hc1 hd1 hB1
    have hxa := hs.all xl (List.mem_of_getElem? hxl)
    have cbx : W.cell? ⟨w.heap.size + 1 + 1, 0, none⟩ = some (.slice (some ⟨g1, 0, none⟩) (k1 + 1) c1) := hs.b.bx.cell 0
    have TXW := hid hs.b
    have HTW := hid (HT.out.below TXW.out.bl)
    have CS := hid (Sum_any B1 d1 xl W hB1.1 hxa.1 (by have := hxa.2; omega) hd1 HTW.out)
    have HKsum := hid (sum_ky xl)
    obtain ⟨hsd1, hsd2⟩ := sdV_ky (K := key) (n := s.n) HKsum.out SOK.out.o
    have CD := hid (fun w => qsidesH_any s.n s.b key (sum xl) s.o SOK.out.b HK.out HKsum.out SOK.out.o w)
    have HSTX := stepX_sd key xl s
    obtain ⟨hl, hhl⟩ : ∃ hl, hl = (sdV key s.n (sum xl) s.o).1 := ⟨_, rfl⟩
    obtain ⟨hr, hhr⟩ : ∃ hr, hr = (sdV key s.n (sum xl) s.o).2 := ⟨_, rfl⟩
    rw [← hhl, ← hhr] at HSTX CD
    rw [← hhl] at hsd1
    rw [← hhr] at hsd2
    have HKl := hid hsd1; have HKr := hid hsd2
    have HPS := hid (pcl_info s.n SOK.out.b); have HOI := hid (u8s_info SOK.out.o); have HSuI := hid (u8s_info HKsum.out)
    have HlI := hid (u8s_info hsd1); have HrI := hid (u8s_info hsd2)
    have HSuK := hid (kc_info HKsum.out); have HlK := hid (kc_info hsd1); have HrK := hid (kc_info hsd2)
    have HSuZ : Hid (Z.size = (kc (sum xl)).size) := by show _ = _; rw [HZn.out, kc_size zk_ky, kc_size HKsum.out]
    have HlZ : Hid (Z.size = (kc hl).size) := by show _ = _; rw [HZn.out, kc_size zk_ky, kc_size hsd1]
    have HrZ : Hid (Z.size = (kc hr).size) := by show _ = _; rw [HZn.out, kc_size zk_ky, kc_size hsd2]
    have HNPs := hid (ndP_ok (n := s.n) SOK.out.b)
    have HPBs := hid (ndP_built (n := s.n) SOK.out.b)
    have HML : Hid (M.length ≤ 1000) := by have := HN.out; show M.length ≤ 1000; omega
    have HSTEP : Hid (∀ xx y v', Below W.heap.size W xx → TxB w A n c q key M (.slice (some ⟨g1, 0, none⟩) (k1 + 1) c1) xx → Txs w.heap.size y (M ++ [innX s.n s.b hl hr]) v' → But (.slice (some ⟨g1, 0, none⟩) (k1 + 1) c1) xx y → KeepsFrom w7.heap.size W (y.setCell ⟨w.heap.size + 1 + 1, 0, none⟩ v') ∧ KpS (ItT bs A n) W (y.setCell ⟨w.heap.size + 1 + 1, 0, none⟩ v') ∧ TxE w A n c q key bs (pre ++ [x]) (y.setCell ⟨w.heap.size + 1 + 1, 0, none⟩ v')) := fun xx y v' h1 h2 h3 h4 => by
      rw [← HSTX] at h3
      exact hs.step h1 h2 x s HSX.out SOK.out HQL.out xl (by rw [← hk1]; exact hxl) HLEN.out h3 h4 (by rw [HSTX]; exact innX_bs SOK.out.b HKl.out HKr.out)
    obtain ⟨sx, hsx⟩ : ∃ sx, sx = sum xl := ⟨_, rfl⟩
    rw [← hsx] at CS CD HKsum HSuI HSuK HSuZ
    have hk50 : k1 < 1000 := by have := HN.out; omega
    have B8 := hid hb8
    have HK1 := hid hk1
    clear hs hx hok hlen hml hg1 hd1 hB1 hxl hxa hsd1 hsd2 hhl hhr HSTX hb8 hk1 hlm hsx
    refine wpIn_block ?_
    refine seq_plain (L := [_, _, _, _, _, _, _, _, _]) (by rfl) ?_
    go_wp2_with (first
      | (go_at_call 69; refine CS.out.mono ?_; rintro e w2 ⟨rfl, hb⟩; have TX2 := hid (TXW.out.below hb); have BW2 := hid hb; have B82 := hid (B8.out.below hb); clear hb)
      | (refine wpList_store_row rfl 24 (.tmp 9) (.tmp 58) rfl w2.heap.size (kc (sx)) rfl rfl 24 Z (Blk.new w2 24 Z) HSuK.out HSuZ.out (kc_one _) ?_))

    try simp only [Qr]
    have N9 : Hid (Blk ((w2.alloc (.cells Z 24)).setRow w2.heap.size (kc (sx))) w2.heap.size 24 (kc (sx))) := (Blk.new w2 24 Z).row _
    have BB : Hid (Below w2.heap.size w2 ((w2.alloc (.cells Z 24)).setRow w2.heap.size (kc (sx)))) := below_setRow ((Below.refl _ _).alloc (Nat.le_refl _) _) (Nat.le_refl _) _
    have TX3 := hid (TX2.out.below BB.out)
    have BW3 := hid (BW2.out.trans (BB.out.mono BW2.out.size))
    have B83 := hid (B82.out.below BB.out)
    clear TX2 BW2 B82 BB TXW B8 CS cbx hc1
    generalize (w2.alloc (.cells Z 24)).setRow w2.heap.size (kc (sx)) = w3 at N9 TX3 BW3 B83 ⊢
    generalize w2.heap.size = e9 at N9 ⊢
    have ST3 := hid (blk_st B83.out SOK.out)
    have OT3 : Hid (w3.rangeAt g8 33 (u8s s.o)) := by have := ST3.out.oth; rwa [Nat.zero_add] at this
    refine seq_plain (L := [_, _, _, _, _, _, _, _, _, _, _, _, _, _]) (by rfl) ?_
    go_wp2_with (first
      | (refine load_at rfl 55 (.tmp 60) rfl g8 0 rfl (.int .i64 s.n :: u8s s.b) _ ST3.out.pre Tryd.underlying55 rfl HPS.out (pc s.n s.b) rfl ?_)
      | (refine load_at rfl 24 (.tmp 3) rfl (w.heap.size + 1) 0 rfl (u8s key) _ (blk_key TX3.out.kk) Tryd.underlying24 rfl HKI.out (kc key) rfl ?_)
      | (refine load_at rfl 24 (.tmp 9) rfl e9 0 rfl (u8s (sx)) _ (blk_key N9.out) Tryd.underlying24 rfl HSuI.out (kc (sx)) rfl ?_)
      | (refine load_at rfl 24 (.tmp 64) rfl g8 33 rfl (u8s s.o) _ OT3.out Tryd.underlying24 rfl HOI.out (kc s.o) rfl ?_)
      | (go_at_call 72; refine (CD.out _).mono ?_; rintro e w4 ⟨rfl, hb⟩; have TX4 := hid (TX3.out.below hb); have BW4 := hid (BW3.out.trans (hb.mono BW3.out.size)); have B84 := hid (B83.out.below hb); clear hb)
      | (refine wpList_store_row rfl 24 (.tmp 10) (.tmp 67) rfl w4.heap.size (kc hl) rfl rfl 24 Z ((Blk.new w4 24 Z).alloc _) HlK.out HlZ.out (kc_one _) ?_)
      | (refine wpList_store_row rfl 24 (.tmp 11) (.tmp 68) rfl (w4.heap.size + 1) (kc hr) rfl rfl 24 Z ((nb2 w4 Z).rowFar (by omega) _) HrK.out HrZ.out (kc_one _) ?_))
    try simp only [Qr]
    have N10 : Hid (Blk ((((w4.alloc (.cells Z 24)).alloc (.cells Z 24)).setRow w4.heap.size (kc hl)).setRow (w4.heap.size + 1) (kc hr)) w4.heap.size 24 (kc hl)) := (((Blk.new w4 24 Z).alloc _).row _).rowFar (by omega) _
    have N11 : Hid (Blk ((((w4.alloc (.cells Z 24)).alloc (.cells Z 24)).setRow w4.heap.size (kc hl)).setRow (w4.heap.size + 1) (kc hr)) (w4.heap.size + 1) 24 (kc hr)) := ((nb2 w4 Z).rowFar (by omega) _).row _
    have BB : Hid (Below w4.heap.size w4 ((((w4.alloc (.cells Z 24)).alloc (.cells Z 24)).setRow w4.heap.size (kc hl)).setRow (w4.heap.size + 1) (kc hr))) := below_setRow (below_setRow (((Below.refl _ _).alloc (Nat.le_refl _) _).alloc (by simp) _) (Nat.le_refl _) _) (by omega) _
    have TX := hid (TX4.out.below BB.out)
    have BW := hid (BW4.out.trans (BB.out.mono BW4.out.size))
    have B85 := hid (B84.out.below BB.out)
    clear TX4 BW4 B84 BB TX3 BW3 B83 ST3 N9 CD
    generalize (((w4.alloc (.cells Z 24)).alloc (.cells Z 24)).setRow w4.heap.size (kc hl)).setRow (w4.heap.size + 1) (kc hr) = w5 at N10 N11 TX BW B85 ⊢
    generalize w4.heap.size + 1 = e11 at N11 ⊢
    generalize w4.heap.size = e10 at N10 ⊢
    have GX0 : Hid (FrS g8 e10 e11 s hl hr w5) := ⟨B85.out, N10.out, N11.out⟩
    clear N10 N11 B85
    refine wpIn_cut (fun _ w' => KeepsFrom w7.heap.size W w' ∧ KpS (ItT bs A n) W w' ∧ TxE w A n c q key bs (pre ++ [x]) w') ?_ (fun _ _ h => h)
    refine region_round (S := fun w' => Hid (FrS g8 e10 e11 s hl hr w')) (by kernel_rfl) (by rfl) ?_
    change wpAnyH _ _ _ _ _ _ _ _ w5.drew
    have Gx0 : Hid (FrS g8 e10 e11 s hl hr w5.drew) := GX0.out.below (Below.refl _ _).drew
    have TX' : Hid (TxB w A n c q key (M) (.slice (some ⟨g1, 0, none⟩) (k1 + 1) c1) w5.drew) := TX.out.below (Below.refl _ _).drew
    have BW' : Hid (Below W.heap.size W w5.drew) := BW.out.trans (((Below.refl w5.heap.size w5).drew).mono BW.out.size)
    clear TX BW
    have TX := TX'
    have BW := BW'
    clear TX' BW'
    generalize w5.drew = x0 at Gx0 TX BW ⊢
    have TXx0 := TX
    have BWx0 := BW
    clear TX BW
    refine tk 1 (some 70) ?_
    refine tkv 2 (some 71) (.agg (pc s.n s.b)) rfl (yieldsIf_load_mid (cs := (.int .i64 s.n :: u8s s.b)) (by rfl) _ _ rfl _ _ rfl _ (fun w' hSw => (blk_st hSw.out.b SOK.out).pre) Tryd.underlying55 rfl HPS.out) ?_
    refine wpAnyH_take (i := 3) (oi := { dst := some 72, op := _, type := _, pos := _, after := _, guard := _ }) (v := .agg (nc (ndP s.n s.b)).toArray) rfl (by kernel_rfl) (by kernel_rfl) (by kernel_rfl) (fun _ _ _ h => h) (Or.inl ⟨by kernel_rfl, ?_⟩) Gx0 ?_
    · (intro w hSw; have hbw := HPBs.out; exact exec_build 57 #[(3, .tmp 71)] rfl _ (by simp only [List.map_toArray, List.map_cons, List.map_nil, Act.eval]; exact hbw) w)
    try simp only [Act.put, List.setIfInBounds_toArray, List.set_cons_zero, List.set_cons_succ]
    refine tkv 4 (some 73) (.agg (kc hl)) rfl (yieldsIf_load_mid (cs := u8s hl) (by rfl) _ _ rfl _ _ rfl _ (fun w' hSw => blk_key hSw.out.l) Tryd.underlying24 rfl HlI.out) ?_
    refine tkv 5 (some 74) (.agg (kc hr)) rfl (yieldsIf_load_mid (cs := u8s hr) (by rfl) _ _ rfl _ _ rfl _ (fun w' hSw => blk_key hSw.out.r) Tryd.underlying24 rfl HrI.out) ?_
    refine wpAnyH_ready (rs := [0, 6]) (by kernel_rfl) (by simp) ?_
    refine (AllReadyH.cons (o := { dst := some 69, op := _, type := _, pos := _, after := _, guard := _ }) rfl (fun Qc hQc => ?_) (AllReadyH.cons (o := { dst := some 75, op := _, type := _, pos := _, after := _, guard := _ }) rfl (fun Qc hQc => ?_) AllReadyH.nil))
    ·
      have c0 : x0.cell? ⟨w.heap.size + 1 + 1, 0, none⟩ = some (.slice (some ⟨g1, 0, none⟩) (k1 + 1) c1) := TXx0.out.bx.cell 0
      go_simp
      refine hQc.out _ _ Gx0 (fun hHeld => ?_)
      clear hQc Qc c0
      try simp only [Act.put, List.setIfInBounds_toArray, List.set_cons_zero, List.set_cons_succ]
      refine rd1 6 (some 75) (fun Qc hQc => ?_)
      go_simp
      go_at_call 25
      refine (show Calls Tryd.prog 25 _ x0 (TxA x0 (innX s.n s.b hl hr)) from xText_X (ndP s.n s.b) hl hr x0 HNPs.out rfl HKl.out HKr.out).mono ?_
      rintro e x1 ⟨B5, d5, rfl, h5, hf5, hb⟩
      have TXx1 := hid (TXx0.out.below hb)
      have Gx1 := hid (Gx0.out.below hb)
      have BWx1 := hid (BWx0.out.trans (hb.mono BWx0.out.size))
      have FB := hid hf5.byt
      have HD5 := hid h5
      clear hb h5 hf5
      go_wp2_with fail
      refine hQc.out _ _ Gx1 (fun hHeld => ?_)
      clear hQc Qc hHeld
      try simp only [Act.put, List.setIfInBounds_toArray, List.set_cons_zero, List.set_cons_succ]
      refine rd1 7 (some 76) (fun Qc hQc => ?_)
      go_simp
      have NB : Hid (Blk (x1.alloc (.cells #[.slice B5 (innX s.n s.b hl hr).length d5] 49)) x1.heap.size 49 #[.slice B5 (innX s.n s.b hl hr).length d5]) := Blk.new x1 49 #[.slice B5 (innX s.n s.b hl hr).length d5]
      have hb : Below x1.heap.size x1 (x1.alloc (.cells #[.slice B5 (innX s.n s.b hl hr).length d5] 49)) := (Below.refl _ _).alloc (Nat.le_refl _) _
      have TXx2 := hid (TXx1.out.below hb)
      have Gx2 := hid (Gx1.out.below hb)
      have BWx2 := hid (BWx1.out.trans (hb.mono BWx1.out.size))
      have FB2 := hid (FB.out.below hb)
      clear hb
      refine hQc.out _ _ Gx2 (fun hHeld => ?_)
      clear hQc Qc hHeld
      generalize x1.heap.size = g5 at NB ⊢
      generalize x1.alloc (.cells #[.slice B5 (innX s.n s.b hl hr).length d5] 49) = x2 at NB TXx2 Gx2 BWx2 FB2 ⊢
      try simp only [Act.put, List.setIfInBounds_toArray, List.set_cons_zero, List.set_cons_succ]
      refine rd1 8 (some 77) (fun Qc hQc => ?_)
      rw [if_pos (by rfl)]
      refine wp_append_tx (.tmp 69) (.tmp 76) rfl w.heap.size (M) (.slice (some ⟨g1, 0, none⟩) (k1 + 1) c1) rfl TXx2.out.tx g5 B5 d5 (innX s.n s.b hl hr).length (innX s.n s.b hl hr) rfl rfl NB.out HD5.out FB2.out HML.out TXx2.out.bl.size ?_
      intro v9 x3 ht9 hbt9
      have HT9 := hid ht9; have HB9 := hid hbt9
      have Gx3 := hid (Gx2.out.but TXx2.out.tx HB9.out)
      obtain ⟨A9, c9, hv9⟩ := HT9.out.len
      replace hv9 : v9 = .slice A9 (M.length + 1) c9 := by rw [hv9]; simp
      subst hv9
      clear ht9 hbt9
      refine hQc.out _ _ Gx3 (fun hHeld => ?_)
      clear hQc Qc hHeld
      try simp only [Act.put, List.setIfInBounds_toArray, List.set_cons_zero, List.set_cons_succ]
      refine rd1 9 none (fun Qc hQc => ?_)
      have c1 : x3.cell? ⟨w.heap.size + 1 + 1, 0, none⟩ = some (.slice (some ⟨g1, 0, none⟩) (k1 + 1) c1) := (TXx2.out.bx2 HB9.out).cell 0
      have f1 : x3.frozen? ⟨w.heap.size + 1 + 1, 0, none⟩ = false := (TXx2.out.bx2 HB9.out).frozen 0
      go_simp
      clear c1 f1
      have Gx4 : Hid (FrS g8 e10 e11 s hl hr (x3.setCell ⟨w.heap.size + 1 + 1, 0, none⟩ (Value.slice A9 (M.length + 1) c9))) := FrS.far Gx3.out (TXx2.out.bx2 HB9.out) _
      have TF := hid (TXx2.out.push HT9.out HB9.out)
      have ST := HSTEP.out x2 _ _ BWx2.out TXx2.out HT9.out HB9.out
      refine hQc.out _ _ Gx4 (fun hHeld => ?_)
      clear hQc Qc hHeld
      generalize hw9 : x3.setCell ⟨w.heap.size + 1 + 1, 0, none⟩ (Value.slice A9 (M.length + 1) c9) = x4 at Gx4 TF ⊢
      try simp only [Act.put, List.setIfInBounds_toArray, List.set_cons_zero, List.set_cons_succ]
      refine wpAnyH_done (by kernel_rfl) ?_ _
      try simp only [Act.put, List.setIfInBounds_toArray, List.set_cons_zero, List.set_cons_succ]
      rw [hw9] at ST
      exact ST
    ·
      go_simp
      go_at_call 25
      refine (show Calls Tryd.prog 25 _ x0 (TxA x0 (innX s.n s.b hl hr)) from xText_X (ndP s.n s.b) hl hr x0 HNPs.out rfl HKl.out HKr.out).mono ?_
      rintro e x5 ⟨B5, d5, rfl, h5, hf5, hb⟩
      have TXx5 := hid (TXx0.out.below hb)
      have Gx5 := hid (Gx0.out.below hb)
      have BWx5 := hid (BWx0.out.trans (hb.mono BWx0.out.size))
      have FB := hid hf5.byt
      have HD5 := hid h5
      clear hb h5 hf5
      go_wp2_with fail
      refine hQc.out _ _ Gx5 (fun hHeld => ?_)
      clear hQc Qc hHeld
      try simp only [Act.put, List.setIfInBounds_toArray, List.set_cons_zero, List.set_cons_succ]
      refine wpAnyH_ready (rs := [0, 7]) (by kernel_rfl) (by simp) ?_
      refine (AllReadyH.cons (o := { dst := some 69, op := _, type := _, pos := _, after := _, guard := _ }) rfl (fun Qc hQc => ?_) (AllReadyH.cons (o := { dst := some 76, op := _, type := _, pos := _, after := _, guard := _ }) rfl (fun Qc hQc => ?_) AllReadyH.nil))
      ·
        have c0 : x5.cell? ⟨w.heap.size + 1 + 1, 0, none⟩ = some (.slice (some ⟨g1, 0, none⟩) (k1 + 1) c1) := TXx5.out.bx.cell 0
        go_simp
        refine hQc.out _ _ Gx5 (fun hHeld => ?_)
        clear hQc Qc c0
        try simp only [Act.put, List.setIfInBounds_toArray, List.set_cons_zero, List.set_cons_succ]
        refine rd1 7 (some 76) (fun Qc hQc => ?_)
        go_simp
        have NB : Hid (Blk (x5.alloc (.cells #[.slice B5 (innX s.n s.b hl hr).length d5] 49)) x5.heap.size 49 #[.slice B5 (innX s.n s.b hl hr).length d5]) := Blk.new x5 49 #[.slice B5 (innX s.n s.b hl hr).length d5]
        have hb : Below x5.heap.size x5 (x5.alloc (.cells #[.slice B5 (innX s.n s.b hl hr).length d5] 49)) := (Below.refl _ _).alloc (Nat.le_refl _) _
        have TXx6 := hid (TXx5.out.below hb)
        have Gx6 := hid (Gx5.out.below hb)
        have BWx6 := hid (BWx5.out.trans (hb.mono BWx5.out.size))
        have FB2 := hid (FB.out.below hb)
        clear hb
        refine hQc.out _ _ Gx6 (fun hHeld => ?_)
        clear hQc Qc hHeld
        generalize x5.heap.size = g5 at NB ⊢
        generalize x5.alloc (.cells #[.slice B5 (innX s.n s.b hl hr).length d5] 49) = x6 at NB TXx6 Gx6 BWx6 FB2 ⊢
        try simp only [Act.put, List.setIfInBounds_toArray, List.set_cons_zero, List.set_cons_succ]
        refine rd1 8 (some 77) (fun Qc hQc => ?_)
        rw [if_pos (by rfl)]
        refine wp_append_tx (.tmp 69) (.tmp 76) rfl w.heap.size (M) (.slice (some ⟨g1, 0, none⟩) (k1 + 1) c1) rfl TXx6.out.tx g5 B5 d5 (innX s.n s.b hl hr).length (innX s.n s.b hl hr) rfl rfl NB.out HD5.out FB2.out HML.out TXx6.out.bl.size ?_
        intro v9 x7 ht9 hbt9
        have HT9 := hid ht9; have HB9 := hid hbt9
        have Gx7 := hid (Gx6.out.but TXx6.out.tx HB9.out)
        obtain ⟨A9, c9, hv9⟩ := HT9.out.len
        replace hv9 : v9 = .slice A9 (M.length + 1) c9 := by rw [hv9]; simp
        subst hv9
        clear ht9 hbt9
        refine hQc.out _ _ Gx7 (fun hHeld => ?_)
        clear hQc Qc hHeld
        try simp only [Act.put, List.setIfInBounds_toArray, List.set_cons_zero, List.set_cons_succ]
        refine rd1 9 none (fun Qc hQc => ?_)
        have c1 : x7.cell? ⟨w.heap.size + 1 + 1, 0, none⟩ = some (.slice (some ⟨g1, 0, none⟩) (k1 + 1) c1) := (TXx6.out.bx2 HB9.out).cell 0
        have f1 : x7.frozen? ⟨w.heap.size + 1 + 1, 0, none⟩ = false := (TXx6.out.bx2 HB9.out).frozen 0
        go_simp
        clear c1 f1
        have Gx8 : Hid (FrS g8 e10 e11 s hl hr (x7.setCell ⟨w.heap.size + 1 + 1, 0, none⟩ (Value.slice A9 (M.length + 1) c9))) := FrS.far Gx7.out (TXx6.out.bx2 HB9.out) _
        have TF := hid (TXx6.out.push HT9.out HB9.out)
        have ST := HSTEP.out x6 _ _ BWx6.out TXx6.out HT9.out HB9.out
        refine hQc.out _ _ Gx8 (fun hHeld => ?_)
        clear hQc Qc hHeld
        generalize hw9 : x7.setCell ⟨w.heap.size + 1 + 1, 0, none⟩ (Value.slice A9 (M.length + 1) c9) = x8 at Gx8 TF ⊢
        try simp only [Act.put, List.setIfInBounds_toArray, List.set_cons_zero, List.set_cons_succ]
        refine wpAnyH_done (by kernel_rfl) ?_ _
        try simp only [Act.put, List.setIfInBounds_toArray, List.set_cons_zero, List.set_cons_succ]
        rw [hw9] at ST
        exact ST
      ·
        go_simp
        have NB : Hid (Blk (x5.alloc (.cells #[.slice B5 (innX s.n s.b hl hr).length d5] 49)) x5.heap.size 49 #[.slice B5 (innX s.n s.b hl hr).length d5]) := Blk.new x5 49 #[.slice B5 (innX s.n s.b hl hr).length d5]
        have hb : Below x5.heap.size x5 (x5.alloc (.cells #[.slice B5 (innX s.n s.b hl hr).length d5] 49)) := (Below.refl _ _).alloc (Nat.le_refl _) _
        have TXx9 := hid (TXx5.out.below hb)
        have Gx9 := hid (Gx5.out.below hb)
        have BWx9 := hid (BWx5.out.trans (hb.mono BWx5.out.size))
        have FB2 := hid (FB.out.below hb)
        clear hb
        refine hQc.out _ _ Gx9 (fun hHeld => ?_)
        clear hQc Qc hHeld
        generalize x5.heap.size = g5 at NB ⊢
        generalize x5.alloc (.cells #[.slice B5 (innX s.n s.b hl hr).length d5] 49) = x9 at NB TXx9 Gx9 BWx9 FB2 ⊢
        try simp only [Act.put, List.setIfInBounds_toArray, List.set_cons_zero, List.set_cons_succ]
        refine rd1 0 (some 69) (fun Qc hQc => ?_)
        have c0 : x9.cell? ⟨w.heap.size + 1 + 1, 0, none⟩ = some (.slice (some ⟨g1, 0, none⟩) (k1 + 1) c1) := TXx9.out.bx.cell 0
        go_simp
        refine hQc.out _ _ Gx9 (fun hHeld => ?_)
        clear hQc Qc c0
        try simp only [Act.put, List.setIfInBounds_toArray, List.set_cons_zero, List.set_cons_succ]
        refine rd1 8 (some 77) (fun Qc hQc => ?_)
        rw [if_pos (by rfl)]
        refine wp_append_tx (.tmp 69) (.tmp 76) rfl w.heap.size (M) (.slice (some ⟨g1, 0, none⟩) (k1 + 1) c1) rfl TXx9.out.tx g5 B5 d5 (innX s.n s.b hl hr).length (innX s.n s.b hl hr) rfl rfl NB.out HD5.out FB2.out HML.out TXx9.out.bl.size ?_
        intro v9 x10 ht9 hbt9
        have HT9 := hid ht9; have HB9 := hid hbt9
        have Gx10 := hid (Gx9.out.but TXx9.out.tx HB9.out)
        obtain ⟨A9, c9, hv9⟩ := HT9.out.len
        replace hv9 : v9 = .slice A9 (M.length + 1) c9 := by rw [hv9]; simp
        subst hv9
        clear ht9 hbt9
        refine hQc.out _ _ Gx10 (fun hHeld => ?_)
        clear hQc Qc hHeld
        try simp only [Act.put, List.setIfInBounds_toArray, List.set_cons_zero, List.set_cons_succ]
        refine rd1 9 none (fun Qc hQc => ?_)
        have c1 : x10.cell? ⟨w.heap.size + 1 + 1, 0, none⟩ = some (.slice (some ⟨g1, 0, none⟩) (k1 + 1) c1) := (TXx9.out.bx2 HB9.out).cell 0
        have f1 : x10.frozen? ⟨w.heap.size + 1 + 1, 0, none⟩ = false := (TXx9.out.bx2 HB9.out).frozen 0
        go_simp
        clear c1 f1
        have Gx11 : Hid (FrS g8 e10 e11 s hl hr (x10.setCell ⟨w.heap.size + 1 + 1, 0, none⟩ (Value.slice A9 (M.length + 1) c9))) := FrS.far Gx10.out (TXx9.out.bx2 HB9.out) _
        have TF := hid (TXx9.out.push HT9.out HB9.out)
        have ST := HSTEP.out x9 _ _ BWx9.out TXx9.out HT9.out HB9.out
        refine hQc.out _ _ Gx11 (fun hHeld => ?_)
        clear hQc Qc hHeld
        generalize hw9 : x10.setCell ⟨w.heap.size + 1 + 1, 0, none⟩ (Value.slice A9 (M.length + 1) c9) = x11 at Gx11 TF ⊢
        try simp only [Act.put, List.setIfInBounds_toArray, List.set_cons_zero, List.set_cons_succ]
        refine wpAnyH_done (by kernel_rfl) ?_ _
        try simp only [Act.put, List.setIfInBounds_toArray, List.set_cons_zero, List.set_cons_succ]
        rw [hw9] at ST
        exact ST
  case done =>
    rintro D ys W hD hys hI hK
    obtain ⟨M, v, hs⟩ := hI
    obtain ⟨A1, c1, rfl⟩ := hs.b.tx.len
    have cb : W.cell? ⟨w.heap.size + 1 + 1, 0, none⟩ = some (.slice A1 M.length c1) := hs.b.bx.cell 0
    have HS := hid hs; have HKD := hid hK; have HYS := hid hys
    have HD : Hid (w7.heap.size ≤ D) := hD
    clear hs hK hys hD
    go_wp2
    refine ⟨by simp, .inl ⟨_, _, rfl, run_takeDeferred HKD.out, ?_⟩⟩
    have hg := grownBy_putObj' W D (.deferred none)
    have hr : ∀ r, some D = some r → ∃ o : Obj, W.heap[r]? = some o ∧ o.isCells = false := fun r e => by cases e; exact ⟨_, HKD.out, rfl⟩
    have hl : ys.length = n := by
      have := congrArg List.length HYS.out
      rw [List.length_map, downs_length] at this
      exact this
    have hM := HS.out.cond (by rw [hl]; exact HYS.out)
    rw [hl, Nat.sub_self, List.drop_zero] at hM
    rw [← hM]
    exact ⟨_, results_tmp rfl _ _ _, .slice A1 M.length c1, rfl, HS.out.b.tx.own hg hr, HS.out.b.bl.grown hg HS.out.b.bl.size (fun k e => by cases e; have := HD.out; have := BW7.out; omega)⟩
theorem qtexts_any {A : Option Addr} {n c : Nat} {q : QP} {key : List Int} (w : World) (hin : InS w A n q.ss) (hq : q.Ok) (hK : Ky key) (hn : n ≤ 100) (ht : Tab w) :
    Calls Tryd.prog 34 #[.agg (prc (.slice A n c) q).toArray, .agg (kc key)] w (TxsA w (txsX key q)) := by
  cases he : isEnd q.e with
  | true => rw [txs_in he]; exact qtexts_yes w hin hq hK hn ht he
  | false => rw [txs_out he]; exact qtexts_no w hq hK he
end Go.Proofs.YtbhgchbacadgaaaDoor
