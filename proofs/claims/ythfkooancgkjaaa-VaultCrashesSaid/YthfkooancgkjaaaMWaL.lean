/-
  What this file is for: what stays where a log turns; lists of bytes that are kept, wherever they lie. Nothing of the program is walked here.
-/
import Derived.Test.YthfkooancgkjaaaMWaT
import Derived.Test.YthfkooancgkjaaaMDyM
import Derived.Test.YthfkooancgkjaaaMKept
set_option linter.unusedSimpArgs false
set_option linter.unusedVariables false
namespace Go.Proofs.Ythfkooancgkjaaa
open Go.ChangeShapes Go.WideShapes Go.ChangeAt Go.RowKit
set_option linter.unusedVariables false
set_option maxRecDepth 20000

/-- a type of neither a device's blocks nor a log's -/
def NX (t : TypeId) : Prop := NT t ∧ t ≠ 90
instance (t : TypeId) : Decidable (NX t) := by unfold NX; infer_instance
/-- no block but a device's, or a log's, has turned -/
structure Kx (w w' : World) : Prop where
  sz : w.heap.size ≤ w'.heap.size
  bl : ∀ k t cs, Blk w k t cs → NX t → w'.heap[k]? = w.heap[k]?
theorem Kx.trans {a b c : World} (h : Kx a b) (k : Kx b c) : Kx a c := ⟨Nat.le_trans h.sz k.sz, fun j t cs hb ht => (k.bl j t cs (hb.same (h.bl j t cs hb ht)) ht).trans (h.bl j t cs hb ht)⟩
theorem Kx.of {w w' : World} (h : Kt w w') : Kx w w' := ⟨h.sz, fun k t cs hb ht => h.bl k t cs hb ht.1⟩
theorem Kx.below {w w' : World} (h : Below w.heap.size w w') : Kx w w' := ⟨h.size, fun k t cs hb _ => h.block k hb.lt⟩
theorem Kx.log {w w' : World} {lb : Nat} {cs : Array Value} (h : OnlyS (fun k => k = lb) w w') (hb : Blk w lb 90 cs) : Kx w w' := ⟨h.size, fun k t cs' hk ht => h.block k hk.lt (fun e => by subst e; exact ht.2 (hk.inj hb).1)⟩
theorem Kx.blk {w w' : World} (h : Kx w w') {k : Nat} {t : TypeId} {cs : Array Value} (hb : Blk w k t cs) (ht : NX t) : Blk w' k t cs := hb.same (h.bl k t cs hb ht)
theorem Kx.own {w w' : World} (h : Kx w w') {base e size n : Nat} {v : Value} {xs : List Value} (ho : w.ownsRow base e size v n xs) (ht : NX e) : w'.ownsRow base e size v n xs := by
  refine ⟨ho.1, ?_⟩
  rcases ho.2 with h1 | ⟨g, cap, cur, hv, hg, hh, r⟩
  · exact .inl h1
  · exact .inr ⟨g, cap, cur, hv, hg, h.blk (show Blk w g e cur from hh) ht, r⟩
theorem Dy.log {n0 : Nat} {w w' : World} {b lb : Nat} {s : SS} {cs : Array Value} (hd : Dy n0 w b s) (h : OnlyS (fun k => k = lb) w w') (hb : Blk w lb 90 cs) : Dy n0 w' b s :=
  hd.typed h.size fun k t cs' hk ht => h.block k hk.lt (fun e => by subst e; exact ht (by rw [(hk.inj hb).1]; decide))
/-- bytes that lie below n0, or in a block of bytes -/
def RqL (n0 : Nat) (w : World) (B : Option Addr) (xs : List Int) : Prop := Rp w none B xs ∧ Src n0 w B xs
theorem RqL.keep {n0 : Nat} {w w' : World} {B : Option Addr} {xs : List Int} (h : RqL n0 w B xs) (hk : ∀ g cs, Blk w g 5 cs → w'.heap[g]? = w.heap[g]?) (hb : Below n0 w w') : RqL n0 w' B xs := by
  refine ⟨fun hx => ?_, fun hx a ha => ?_⟩
  · obtain ⟨ad, e, h1, hc⟩ := h.1 hx
    refine ⟨ad, e, h1, fun k hkk => ?_⟩
    rcases h.2 hx ad e with h5 | ⟨cs, h5⟩
    · exact (hb.cell (by rw [add_block]; exact h5)).trans (hc k hkk)
    · exact (World.cell?_of_block (w := w) (by rw [add_block]; exact hk _ _ h5)).trans (hc k hkk)
  · rcases h.2 hx a ha with h5 | ⟨cs, h5⟩
    · exact .inl h5
    · exact .inr ⟨cs, h5.same (hk _ _ h5)⟩
theorem Kx.u8 {w w' : World} (h : Kx w w') : ∀ g cs, Blk w g 5 cs → w'.heap[g]? = w.heap[g]? := fun g cs hg => h.bl g _ cs hg (by decide)
theorem Fresh.rq {n0 : Nat} {w w' : World} {B : Option Addr} {xs : List Int} (h : Fresh w w' B xs) : RqL n0 w' B xs := ⟨h.rp0, fun hx a ha => by
  obtain ⟨g, cur, e, hg, hb, hc⟩ := h hx
  rw [e] at ha
  injection ha with ha
  subst ha
  exact .inr ⟨cur, hb⟩⟩
theorem own_rp {w : World} {base n c : Nat} {A : Option Addr} {xs : List Int} (h : w.ownsRow base 5 1 (.slice A n c) n (u8s xs)) : Rp w none A xs := fun hx => by
  have hl := h.1
  rw [u8s_length, Nat.mul_one] at hl
  rcases h.2 with ⟨_, h0⟩ | ⟨g, cap, cur, hv, _, hh, hnc, _, hcs, htk⟩
  · omega
  · injection hv with hA
    refine ⟨_, hA, (fun ⟨a, e, _⟩ => by cases e), fun j hj => ?_⟩
    rw [Addr.add_lit, Nat.zero_add, (show Blk w g 5 cur from hh).cell, ← Array.getElem?_toList]
    have e : cur.toList[j]? = (cur.toList.take (n * 1))[j]? := by rw [List.getElem?_take, if_pos (by omega)]
    rw [e, htk, u8s_get _ _ hj]
theorem own_rq {w : World} {base n n0 c : Nat} {A : Option Addr} {xs : List Int} (h : w.ownsRow base 5 1 (.slice A n c) n (u8s xs)) : RqL n0 w A xs := ⟨own_rp h, fun hx a ha => by
  have hl := h.1
  rw [u8s_length, Nat.mul_one] at hl
  rcases h.2 with ⟨_, h0⟩ | ⟨g, cap, cur, hv, _, hh, _⟩
  · omega
  · injection hv with hA
    rw [hA] at ha
    injection ha with ha
    subst ha
    exact .inr ⟨cur, hh⟩⟩
theorem append_rn {w : World} {ops : Array Oper} {rest : List Oper} {o : Oper} {a : Act} {Q : Exit → Act → World → Prop} (hgd : o.guard = none) (s x : Operand)
    (ho : o.op = .call { callee := .builtin .append, args := #[s, x], argTypes := #[23, 23] })
    (base : Nat) (v : Value) (n : Nat) (xs : List Int) (hs : a.eval s = v) (hown : w.ownsRow base 5 1 v n (u8s xs)) (hn : n = xs.length)
    (A : Option Addr) (m c : Nat) (ys : List Int) (hm : m = ys.length) (hx : a.eval x = .slice A m c) (hr : Rp w none A ys) (h63 : n + m < 100000) (hbase : base ≤ w.heap.size)
    (h : ∀ A' c' w', Hid (w'.ownsRow base 5 1 (.slice A' (n + m) c') (n + m) (u8s (xs ++ ys))) → Hid (Below base w w') → wpList Try.prog ops Q rest (a.put o.dst (.slice A' (n + m) c')) w') : wpList Try.prog ops Q (o :: rest) a w := by
  subst hn
  subst hm
  refine append_rp hgd s x ho base base v xs hs hown A c ys hx hr (by omega) hbase (Nat.le_refl _) (fun v' w' h1 h2 => ?_)
  have h1' := h1.out
  rw [List.length_append] at h1'
  obtain ⟨A', c', rfl⟩ := slice_of h1'
  exact h A' c' w' (hid h1') h2
theorem append_rk {w : World} {ops : Array Oper} {rest : List Oper} {o : Oper} {a : Act} {Q : Exit → Act → World → Prop} (hgd : o.guard = none) (s x : Operand)
    (ho : o.op = .call { callee := .builtin .append, args := #[s, x], argTypes := #[23, 23] })
    (base : Nat) (v : Value) (n : Nat) (xs : List Int) (hs : a.eval s = v) (hown : w.ownsRow base 5 1 v n (u8s xs)) (hn : n = xs.length)
    (A : Option Addr) (m c : Nat) (ys : List Int) (hm : m = ys.length) (hx : a.eval x = .slice A m c) (hr : Rp w none A ys) (h63 : n + m < 100000) (hbase : base ≤ w.heap.size)
    (h : ∀ A' c' w', Hid (w'.ownsRow base 5 1 (.slice A' (n + m) c') (n + m) (u8s (xs ++ ys))) → Hid (Below base w w') → Hid (∀ k t cs, Blk w k t cs → t ≠ 5 → w'.heap[k]? = w.heap[k]?) → wpList Try.prog ops Q rest (a.put o.dst (.slice A' (n + m) c')) w') : wpList Try.prog ops Q (o :: rest) a w := by
  obtain ⟨i0, hi, hz0, hz1, hz2⟩ := info_parts info_u8
  cases A with
  | none =>
    have h0 : ys = [] := by
      cases ys with
      | nil => rfl
      | cons y ys => obtain ⟨ad, e, _⟩ := hr (by simp); cases e
    subst h0
    obtain rfl : m = 0 := hm
    obtain ⟨A', c', rfl⟩ := slice_of hown
    refine wpList_append_nil' hgd s x 23 ho base 5 i0 1 Try.underlying23 hi (.slice A' n c') n (u8s xs) c hs hown hx ?_
    exact h A' c' w (show World.ownsRow _ _ _ _ _ _ _ by rw [List.append_nil]; exact hown) (Below.refl _ _) (fun _ _ _ _ _ => rfl)
  | some ad =>
    subst hm
    refine wpList_append_own _ hgd s x 23 ho base 5 i0 (.int .u8 0) 1 1 Try.underlying23 hi hz0 hz1 hz2 rfl (by decide) v n (u8s xs) hs hown ad ys.length c (u8s ys) hx (by rw [u8s_length]; omega) (fun j u hu => ?_) (u8s_one _) (by unfold maxLen; omega) (by omega) hbase ?_
    · rcases Nat.lt_or_ge j ys.length with hj | hj
      · obtain ⟨ad', e', hc⟩ := hr.get (by omega)
        injection e' with e'; subst e'
        rw [hc j hj, ← hu, u8s_get _ _ hj]
      · rw [List.getElem?_eq_none (by rw [u8s_length]; exact hj)] at hu; cases hu
    · intro v' w' h1 h2 _
      obtain ⟨A', c', rfl⟩ := slice_of h1
      refine h A' c' w' (show World.ownsRow _ _ _ _ _ _ _ from ?_) ((Below.refl _ _).grown h2 hbase (fun b hb => (hown.lt b hb).1)) (fun k t cs hk ht => h2.block k hk.lt (fun e => own_ne_t hown hk ht e.symm))
      rw [show u8s (xs ++ ys) = u8s xs ++ u8s ys by simp [u8s]]
      exact h1
/-- lists of bytes, kept one by one: the list new since m, its bytes below n0 or in blocks of bytes -/
def AllM (m n0 : Nat) (w : World) (M : List (List Int)) (v : Value) : Prop :=
  ∃ A c rows, v = .slice A M.length c ∧ w.ownsRow m 23 1 v M.length rows ∧ ∀ j, j < M.length → ∃ B d, rows[j]? = some (.slice B (M[j]?.getD []).length d) ∧ RqL n0 w B (M[j]?.getD [])
theorem AllM.keep {m n0 : Nat} {w w' : World} {M : List (List Int)} {v : Value} (h : AllM m n0 w M v) (hk : Kx w w') (hb : Below n0 w w') : AllM m n0 w' M v := by
  obtain ⟨A, c, rows, h1, h2, h3⟩ := h
  exact ⟨A, c, rows, h1, hk.own h2 (by decide), fun j hj => by
    obtain ⟨B, d, h4, h5⟩ := h3 j hj
    exact ⟨B, d, h4, h5.keep hk.u8 hb⟩⟩
theorem AllM.below {m n0 : Nat} {w w' : World} {M : List (List Int)} {v : Value} (h : AllM m n0 w M v) (hb : Below w.heap.size w w') (hn : n0 ≤ w.heap.size) : AllM m n0 w' M v := h.keep (Kx.below hb) (hb.mono hn)
theorem AllM.nil (m n0 : Nat) (w : World) : AllM m n0 w [] (.slice none 0 0) := ⟨none, 0, [], rfl, ⟨rfl, .inl ⟨rfl, rfl⟩⟩, fun j hj => by simp at hj⟩
theorem AllM.raise {m m' n0 : Nat} {w : World} {M : List (List Int)} {v : Value} (h : AllM m 0 w M v) (hm : m' ≤ m) : AllM m' n0 w M v := by
  obtain ⟨A, c, rows, h1, h2, h3⟩ := h
  exact ⟨A, c, rows, h1, own_mono h2 hm, fun j hj => by
    obtain ⟨B, d, h4, h5, h6⟩ := h3 j hj
    exact ⟨B, d, h4, h5, fun hx a ha => by
      rcases h6 hx a ha with h7 | h7
      · omega
      · exact .inr h7⟩⟩
theorem AllM.len {m n0 : Nat} {w : World} {M : List (List Int)} {v : Value} (h : AllM m n0 w M v) : ∃ A c, v = .slice A M.length c := by
  obtain ⟨A', c', rows, hv, _⟩ := h
  exact ⟨A', c', hv⟩
theorem own_cellb {w : World} {base e size n c : Nat} {A : Option Addr} {xs : List Value} (h : w.ownsRow base e size (.slice A n c) n xs) (hn : 0 < n) : ∃ g, A = some ⟨g, 0, none⟩ ∧ base ≤ g ∧ (∃ cur, Blk w g e cur) ∧ ∀ j v, xs[j]? = some v → w.cell? ⟨g, j, none⟩ = some v := by
  rcases h.2 with ⟨_, h0⟩ | ⟨g, cap, cur, hv, hb, hh, hnc, _, hcs, htk⟩
  · omega
  · injection hv with hA
    refine ⟨g, hA, hb, ⟨cur, hh⟩, fun j v hv => ?_⟩
    rw [← htk, List.getElem?_take] at hv
    split at hv
    · rw [(show Blk w g e cur from hh).cell, ← Array.getElem?_toList]; exact hv
    · cases hv
/-- what stays where rows of bytes turn -/
def Kb (w w' : World) : Prop := w.heap.size ≤ w'.heap.size ∧ ∀ k t cs, Blk w k t cs → t ≠ 23 → w'.heap[k]? = w.heap[k]?
theorem Dy.kb {n0 : Nat} {w w' : World} {b : Nat} {s : SS} (h : Dy n0 w b s) (hk : Kb w w') : Dy n0 w' b s := h.typed hk.1 fun k t cs hb ht => hk.2 k t cs hb (fun e => ht (by subst e; decide))
theorem Kb.blk {w w' : World} (h : Kb w w') {k : Nat} {t : TypeId} {cs : Array Value} (hb : Blk w k t cs) (ht : t ≠ 23) : Blk w' k t cs := hb.same (h.2 k t cs hb ht)
theorem Kb.u8 {w w' : World} (h : Kb w w') : ∀ g cs, Blk w g 5 cs → w'.heap[g]? = w.heap[g]? := fun g cs hg => h.2 g _ cs hg (by decide)
/-- one more -/
theorem AllM.push {m n0 : Nat} {w w' : World} {M : List (List Int)} {rows : List Value} {v' : Value} {A' : Option Addr} {c' : Nat} {B : Option Addr} {d : Nat} {xs : List Int} (hl : rows.length = M.length) (h3 : ∀ j, j < M.length → ∃ B d, rows[j]? = some (.slice B (M[j]?.getD []).length d) ∧ RqL n0 w B (M[j]?.getD []))
    (hB : RqL n0 w B xs) (hv : v' = .slice A' (M.length + 1) c') (ho : w'.ownsRow m 23 1 v' (M.length + 1) (rows ++ [.slice B xs.length d])) (hk : ∀ g cs, Blk w g 5 cs → w'.heap[g]? = w.heap[g]?) (hb : Below n0 w w') : AllM m n0 w' (M ++ [xs]) v' := by
  refine ⟨A', c', _, by rw [hv]; simp, by rw [List.length_append]; exact ho, fun j hj => ?_⟩
  rw [List.length_append, List.length_singleton] at hj
  by_cases h : j < M.length
  · obtain ⟨B', d', h4, h5⟩ := h3 j h
    rw [List.getElem?_append_left h]
    exact ⟨B', d', by rw [List.getElem?_append_left (by omega)]; exact h4, h5.keep hk hb⟩
  · obtain rfl : j = M.length := by omega
    rw [List.getElem?_append_right (Nat.le_refl _), Nat.sub_self]
    exact ⟨B, d, by rw [List.getElem?_append_right (by omega), hl, Nat.sub_self]; rfl, hB.keep hk hb⟩
theorem append_m {w : World} {ops : Array Oper} {rest : List Oper} {o : Oper} {a : Act} {Q : Exit → Act → World → Prop} (hgd : o.guard = none) (s x : Operand)
    (ho : o.op = .call { callee := .builtin .append, args := #[s, x], argTypes := #[31, 31] }) (n0 m0 : Nat) (M : List (List Int)) (v : Value) (hs : a.eval s = v) (hM : AllM m0 n0 w M v) (B : Option Addr) (m c : Nat) (xs : List Int) (hx : a.eval x = .slice (some ⟨w.heap.size, 0, none⟩) 1 1)
    (hlen : M.length ≤ 1000) (hB : RqL n0 w B xs) (hm : m = xs.length) (hn : m0 ≤ w.heap.size) (hnm : n0 ≤ m0) (h : ∀ v' w', AllM m0 n0 w' (M ++ [xs]) v' → Kb w w' → Below m0 w w' → wpList Try.prog ops Q rest (a.put o.dst v') w') : wpList Try.prog ops Q (o :: rest) a (w.alloc (.cells #[.slice B m c] 23)) := by
  obtain ⟨i0, hi, hz0, hz1, hz2⟩ := info_parts info_row1
  have hb : Below w.heap.size w (w.alloc (.cells #[.slice B m c] 23)) := (Below.refl _ _).alloc (Nat.le_refl _) _
  have hMM := hM
  obtain ⟨A, cc, rows, hv, hown, hj⟩ := hM
  refine wpList_append_own _ hgd s x 31 ho m0 23 i0 (.slice none 0 0) 1 24 Try.underlying31 hi hz0 hz1 hz2 rfl (by decide) v M.length rows hs (hown.alloc _) ⟨w.heap.size, 0, none⟩ 1 1 [.slice B m c] hx rfl (one_row _ _) (fun u hu => by rw [List.mem_singleton.1 hu]; rfl) (by unfold maxLen; omega) (by omega) (Nat.le_trans hn hb.size) ?_
  intro v9 w9 ow9 gr9 _
  obtain ⟨A9, c9, hv9⟩ := slice_of ow9
  have kb : ∀ k t cs, Blk w k t cs → t ≠ 23 → w9.heap[k]? = w.heap[k]? := fun k t cs hk ht =>
    (gr9.block k (hk.same (hb.block k hk.lt)).lt (fun e => own_ne_t hown hk ht e.symm)).trans (hb.block k hk.lt)
  have bel : Below m0 w w9 := (hb.mono hn).trans ((Below.refl _ _).grown gr9 (Nat.le_trans hn hb.size) (fun k hk => (hown.lt k hk).1))
  subst hm
  exact h v9 w9 (AllM.push (by have := hown.1; omega) hj hB hv9 ow9 (fun g cs hg => kb g _ cs hg (by decide)) (bel.mono hnm)) ⟨Nat.le_trans hb.size gr9.size, kb⟩ bel
theorem AllM.at {m n0 : Nat} {w : World} {M : List (List Int)} {A : Option Addr} {c lm : Nat} (h : AllM m n0 w M (.slice A lm c)) {j : Nat} (hj : j < M.length) : lm = M.length ∧ ∃ g B d, A = some ⟨g, 0, none⟩ ∧ w.cell? ⟨g, j, none⟩ = some (.slice B (M[j]?.getD []).length d) ∧ RqL n0 w B (M[j]?.getD []) := by
  obtain ⟨A', c', rows, hv, hown, hr⟩ := h
  injection hv with e1 e2 e3
  subst e1; subst e2; subst e3
  obtain ⟨g, e, _, _, hc⟩ := own_cellb hown (by omega)
  obtain ⟨B, d, h4, h5⟩ := hr j hj
  exact ⟨rfl, g, B, d, e, hc j _ h4, h5⟩
/-- lists of bytes, wherever they lie -/
def RAl (w : World) (A : Option Addr) (M : List (List Int)) : Prop := ∀ j, j < M.length → ∃ g o B d, A = some ⟨g, o, none⟩ ∧ w.cell? ⟨g, o + j, none⟩ = some (.slice B (M[j]?.getD []).length d) ∧ Rp w none B (M[j]?.getD [])
theorem AllM.ral {m n0 : Nat} {w : World} {M : List (List Int)} {v : Value} (h : AllM m n0 w M v) : ∃ A c, v = .slice A M.length c ∧ RAl w A M := by
  obtain ⟨A, c, hv⟩ := h.len
  subst hv
  refine ⟨A, c, rfl, fun j hj => ?_⟩
  obtain ⟨_, g, B, d, e, h1, h2⟩ := h.at hj
  exact ⟨g, 0, B, d, e, by rw [Nat.zero_add]; exact h1, h2.1⟩
theorem InR.ral {w : World} {A : Option Addr} {n : Nat} {L : List (List Int)} (h : InR w A n L) : RAl w A L := fun j hj => by
  obtain ⟨b, o, e, _, hat⟩ := h.2.2 (by have := h.1; omega)
  obtain ⟨B, c, xs, h1, h2, _, h4, _⟩ := hat j (by have := h.1; omega)
  exact ⟨b, o, B, c, e, by rw [h1]; exact h2, by rw [h1]; exact h4⟩
end Go.Proofs.Ythfkooancgkjaaa
