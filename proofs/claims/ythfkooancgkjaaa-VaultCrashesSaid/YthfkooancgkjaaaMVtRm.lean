/-
  What is proved here: what a round of the statement on records in the place of all does to memory, call by call.
-/
import Derived.Test.YthfkooancgkjaaaMVtM
import Derived.Test.YthfkooancgkjaaaMVtQ
set_option linter.unusedSimpArgs false
set_option linter.unusedVariables false
namespace Go.Proofs.Ythfkooancgkjaaa
open Go.ChangeShapes Go.WideShapes Go.ChangeAt Go.RowKit
set_option linter.unusedVariables false
set_option maxRecDepth 20000

/-- a vault that is open, in memory; w is the world in which the statement began -/
structure RpM (S n0 b vb : Nat) (w : World) (s : SS) (a : Nat) (lam : Int) (l : LS) (lb : Nat) (wr : World) : Prop where
  dy : Dy n0 wr b s
  vt : Blk wr vb 62 (vtC b S (decide (a = 1)) lam l.g (some ⟨lb, 0, none⟩) true)
  lg : Blk wr lb 90 (lgC b (off S a) S l)
  hlb : n0 ≤ lb
  hvb : n0 ≤ vb
  be : Below n0 w wr
section
variable {S n0 b vb : Nat} {w : World} {s : SS} {a : Nat} {lam : Int} {l : LS} {lb : Nat} {wr w' : World}
theorem RpM.below (h : RpM S n0 b vb w s a lam l lb wr) (hb : Below wr.heap.size wr w') (hn : n0 ≤ wr.heap.size) : RpM S n0 b vb w s a lam l lb w' := ⟨h.dy.below hb, h.vt.below hb, h.lg.below hb, h.hlb, h.hvb, h.be.trans (hb.mono hn)⟩
theorem RpM.kb (h : RpM S n0 b vb w s a lam l lb wr) (hk : Kb wr w') (hb : Below n0 wr w') : RpM S n0 b vb w s a lam l lb w' := ⟨h.dy.kb hk, hk.blk h.vt (by decide), hk.blk h.lg (by decide), h.hlb, h.hvb, h.be.trans hb⟩
theorem RpM.app (h : RpM S n0 b vb w s a lam l lb wr) (hn : n0 ≤ wr.heap.size) (hS : S ≤ 1000) (ha2 : a < 2) (hu : l.n ≤ S) (hg : 0 ≤ l.g ∧ l.g < 4294967296) (hQ : s.Q.length < 900000) (B : Option Addr) (m cx : Nat) (xs : List Int) (hm : m = xs.length) (hr : Rp wr none B xs) (hr2 : 110 < m → Src n0 wr B xs) (hmc : m ≤ cx) (hmb : m ≤ 9223372036854775807) (r : Int) (s9 : SS) (l9 : LS) (hy : s.ap (off S a) S l xs = (r, s9, l9)) (h6 : r ≠ 6) :
    Calls Try.prog 11 #[.pointer (some ⟨vb, 0, none⟩), .slice B m cx] wr fun e w' => e = .returned (.int .i64 r) ∧ RpM S n0 b vb w s9 a lam l9 lb w' ∧ Kv wr w' ∧ Below n0 wr w' := by
  have hgg := ap_g s (off S a) S l xs
  have hoff : off S a ≤ 4096 := by unfold off; have : a = 0 ∨ a = 1 := by omega
                                   rcases this with rfl | rfl <;> omega
  have := vtAppend_up h.dy hn h.hvb h.hlb h.vt h.lg (by omega) hoff hu hg B m cx xs hm hr hr2 hmc hmb hQ
  rw [hy] at this hgg
  refine this.mono ?_
  rintro e w' ⟨q1, q2, q3, q4, q5, q6⟩
  simp only at q1 q2 q3 q4 hgg
  rw [decide_eq_true h6, ← hgg] at q4
  exact ⟨q1, ⟨q2, q4, q3, h.hlb, h.hvb, h.be.trans q6⟩, q5, q6⟩
theorem RpM.flu (h : RpM S n0 b vb w s a lam l lb wr) (hn : n0 ≤ wr.heap.size) (r : Int) (s9 : SS) (l9 : LS) (hy : s.lf l = (r, s9, l9)) (h6 : r ≠ 6) :
    Calls Try.prog 12 #[.pointer (some ⟨vb, 0, none⟩)] wr fun e w' => e = .returned (.int .i64 r) ∧ RpM S n0 b vb w s9 a lam l9 lb w' ∧ Kv wr w' ∧ Below n0 wr w' := by
  have hgg := (lf_log s l).1
  have := vtFlush_up h.dy hn h.hvb h.hlb h.vt h.lg
  rw [hy] at this hgg
  refine this.mono ?_
  rintro e w' ⟨q1, q2, q3, q4, q5, q6⟩
  simp only at q1 q2 q3 q4 hgg
  rw [decide_eq_true h6, ← hgg] at q4
  exact ⟨q1, ⟨q2, q4, q3, h.hlb, h.hvb, h.be.trans q6⟩, q5, q6⟩
/-- Replace: refused -/
theorem RpM.long (h : RpM S n0 b vb w s a lam l lb wr) (hn0 : w.heap.size = n0) (hn : n0 ≤ wr.heap.size) (hbs : s.bs) {T : Nat} {n : Int} {all : List (List Int)} {sure : Nat} (hu : VU T S s n a lam l all sure) (hS : S ≤ 1000) (hnn : n + 2 < 18446744073709551616) (hg : l.g + 1 < 4294967294) (hQ : s.Q.length < 800000)
    (A : Option Addr) (m c : Nat) (L : List (List Int)) (hin : InR w A m L) (hm : m ≤ 100) (hx : ∃ x ∈ L, 6000 < x.length) :
    Calls Try.prog 14 #[.pointer (some ⟨vb, 0, none⟩), .slice A m c] wr fun e w' => e = .returned (.int .i64 3) ∧ wr = w' := by
  have := vtReplace_up h.dy hn hbs h.hvb hu h.vt hS hnn hg hQ A m c L hin hn0 h.be hm _ _ _ rfl
  refine this.mono ?_
  rintro e w' (⟨_, q1, q2⟩ | ⟨q, _⟩ | ⟨q, _⟩)
  · exact ⟨q1, q2⟩
  · obtain ⟨x, h1, h2⟩ := hx; have := q x h1; omega
  · obtain ⟨x, h1, h2⟩ := hx; have := q x h1; omega
theorem RpM.full (h : RpM S n0 b vb w s a lam l lb wr) (hn0 : w.heap.size = n0) (hn : n0 ≤ wr.heap.size) (hbs : s.bs) {T : Nat} {n : Int} {all : List (List Int)} {sure : Nat} (hu : VU T S s n a lam l all sure) (hS : S ≤ 1000) (hnn : n + 2 < 18446744073709551616) (hg : l.g + 1 < 4294967294) (hQ : s.Q.length < 800000)
    (A : Option Addr) (m c : Nat) (L : List (List Int)) (hin : InR w A m L) (hm : m ≤ 100) (hx : ∀ x ∈ L, x.length ≤ 6000) (hp : S < pgs L) :
    Calls Try.prog 14 #[.pointer (some ⟨vb, 0, none⟩), .slice A m c] wr fun e w' => e = .returned (.int .i64 5) ∧ wr = w' := by
  have := vtReplace_up h.dy hn hbs h.hvb hu h.vt hS hnn hg hQ A m c L hin hn0 h.be hm _ _ _ rfl
  refine this.mono ?_
  rintro e w' (⟨⟨x, h1, h2⟩, _⟩ | ⟨_, _, q1, q2⟩ | ⟨_, q, _⟩)
  · have := hx x h1; omega
  · exact ⟨q1, q2⟩
  · omega
/-- Replace: done -/
theorem RpM.rep (h : RpM S n0 b vb w s a lam l lb wr) (hn0 : w.heap.size = n0) (hn : n0 ≤ wr.heap.size) (hbs : s.bs) {T : Nat} {n : Int} {all : List (List Int)} {sure : Nat} (hu : VU T S s n a lam l all sure) (hS : S ≤ 1000) (hnn : n + 2 < 18446744073709551616) (hg : l.g + 1 < 4294967294) (hQ : s.Q.length < 800000)
    (A : Option Addr) (m c : Nat) (L : List (List Int)) (hin : InR w A m L) (hm : m ≤ 100) (hx : ∀ x ∈ L, x.length ≤ 6000) (hp : pgs L ≤ S) (r9 : Int) (s9 : SS) (l9 : LS) (hY : s.rp S a lam l L = (r9, s9, l9)) :
    Calls Try.prog 14 #[.pointer (some ⟨vb, 0, none⟩), .slice A m c] wr fun e w' => e = .returned (.int .i64 r9) ∧ Dy n0 w' b s9 ∧ Kv wr w' ∧ Below n0 wr w' ∧ (∃ sec lam g lp, Blk w' vb 62 (vtC b S sec lam g lp (decide (r9 ≠ 6)))) ∧ (r9 = 0 → l9.g = l.g + 1 → ∃ lb', RpM S n0 b vb w s9 (1 - a) (l.g + 1) l9 lb' w') := by
  have := vtReplace_up h.dy hn hbs h.hvb hu h.vt hS hnn hg hQ A m c L hin hn0 h.be hm r9 s9 l9 hY
  refine this.mono ?_
  rintro e w' (⟨⟨x, h1, h2⟩, _⟩ | ⟨_, q, _⟩ | ⟨_, _, q1, q2, q3, q4, q5, q6⟩)
  · have := hx x h1; omega
  · omega
  · refine ⟨q1, q2, q3, q4, q5, fun h0 hg9 => ?_⟩
    obtain ⟨lb', k1, k2, k3⟩ := q6 h0
    refine ⟨lb', ⟨q2, ?_, k2, k1, h.hvb, h.be.trans q4⟩⟩
    rw [hg9]; exact k3
end
/-- whether a record is too long -/
def lng (L : List (List Int)) : Bool := L.any (fun x => decide (6000 < x.length))
theorem lng_take {L : List (List Int)} {k : Nat} {x : List Int} (h : L[k]? = some x) : lng (L.take (k + 1)) = (lng (L.take k) || decide (6000 < x.length)) := by
  unfold lng
  rw [List.take_add_one, h, List.any_append]
  simp
theorem lng_yes {L : List (List Int)} (h : lng L = true) : ∃ x ∈ L, 6000 < x.length := by
  unfold lng at h
  rw [List.any_eq_true] at h
  obtain ⟨x, h1, h2⟩ := h
  exact ⟨x, h1, of_decide_eq_true h2⟩
theorem lng_no {L : List (List Int)} (h : lng L = false) : ∀ x ∈ L, x.length ≤ 6000 := fun x hx => by
  unfold lng at h
  rw [List.any_eq_false] at h
  have := h x hx
  simp at this
  omega
theorem np_64 {n : Nat} (h : n ≤ 7000) : np n ≤ 64 := by unfold np; omega
/-- a list of records' bytes -/
theorem InR.bsx {w : World} {A : Option Addr} {n : Nat} {L : List (List Int)} (h : InR w A n L) : ∀ x ∈ L, Bs x := fun x hx => by
  obtain ⟨j, hj⟩ := List.mem_iff_getElem?.1 hx
  have hjl : j < n := by
    rcases Nat.lt_or_ge j n with h1 | h1
    · exact h1
    · rw [List.getElem?_eq_none (by have := h.1; omega)] at hj; cases hj
  obtain ⟨b0, o0, _, _, hat⟩ := h.2.2 (by omega)
  obtain ⟨B, cc, x', h1, _, h3, _⟩ := hat j hjl
  rw [hj] at h1
  injection h1 with h1
  rw [h1]; exact h3
end Go.Proofs.Ythfkooancgkjaaa
