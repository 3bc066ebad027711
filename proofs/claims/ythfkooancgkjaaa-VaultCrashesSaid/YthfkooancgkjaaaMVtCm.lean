/-
  What is proved here: what the statement on crashes keeps in memory, and what its calls do to it.
-/
import Derived.Test.YthfkooancgkjaaaMVtRm
set_option linter.unusedSimpArgs false
set_option linter.unusedVariables false
namespace Go.Proofs.Ythfkooancgkjaaa
open Go.ChangeShapes Go.WideShapes Go.ChangeAt Go.RowKit
set_option linter.unusedVariables false
set_option maxRecDepth 20000

/-- lists of records: kept, or come in -/
def AllX (n0 : Nat) (w wr : World) (M : List (List Int)) (v : Value) : Prop := AllM n0 n0 wr M v ∨ ∃ A c, v = .slice A M.length c ∧ InR w A M.length M
theorem AllX.keep {n0 : Nat} {w wr w' : World} {M : List (List Int)} {v : Value} (h : AllX n0 w wr M v) (hk : Kv wr w') (hb : Below n0 wr w') : AllX n0 w w' M v := h.imp (fun h => h.keepv hk hb) id
theorem AllX.keepKb {n0 : Nat} {w wr w' : World} {M : List (List Int)} {v : Value} (h : AllX n0 w wr M v) (hb : Below wr.heap.size wr w') (hn : n0 ≤ wr.heap.size) : AllX n0 w w' M v := h.keep (Kv.below hb) (hb.mono hn)
theorem AllX.len {n0 : Nat} {w wr : World} {M : List (List Int)} {v : Value} (h : AllX n0 w wr M v) : ∃ A c, v = .slice A M.length c := by
  rcases h with h | ⟨A, c, h, _⟩
  · exact h.len
  · exact ⟨A, c, h⟩
theorem AllX.raq {n0 : Nat} {w wr : World} {M : List (List Int)} {A : Option Addr} {c lm : Nat} (h : AllX n0 w wr M (.slice A lm c)) (h0 : w.heap.size = n0) (hb : Below n0 w wr) : RAq n0 wr A M := by
  rcases h with h | ⟨A', c', h, hi⟩
  · exact h.raq
  · injection h with h1 h2 h3
    subst h1
    exact hi.raq h0 hb
/-- lists of lists of records, each come in -/
def OthX (n0 : Nat) (w wr : World) (O : List (List (List Int))) (v : Value) : Prop :=
  ∃ A c rows, v = .slice A O.length c ∧ wr.ownsRow n0 31 1 v O.length rows ∧ ∀ j, j < O.length → ∃ B d, rows[j]? = some (.slice B (O[j]?.getD []).length d) ∧ InR w B (O[j]?.getD []).length (O[j]?.getD [])
theorem OthX.keep {n0 : Nat} {w wr w' : World} {O : List (List (List Int))} {v : Value} (h : OthX n0 w wr O v) (hk : Kv wr w') : OthX n0 w w' O v := by
  obtain ⟨A, c, rows, h1, h2, h3⟩ := h
  exact ⟨A, c, rows, h1, hk.own h2 (by decide), h3⟩
theorem OthX.nil (n0 : Nat) (w wr : World) : OthX n0 w wr [] (.slice none 0 0) := ⟨none, 0, [], rfl, ⟨rfl, .inl ⟨rfl, rfl⟩⟩, fun j hj => by simp at hj⟩
theorem OthX.len {n0 : Nat} {w wr : World} {O : List (List (List Int))} {v : Value} (h : OthX n0 w wr O v) : ∃ A c, v = .slice A O.length c := by
  obtain ⟨A, c, rows, h1, _⟩ := h
  exact ⟨A, c, h1⟩
theorem OthX.at {n0 : Nat} {w wr : World} {O : List (List (List Int))} {A : Option Addr} {c lm : Nat} (h : OthX n0 w wr O (.slice A lm c)) {j : Nat} (hj : j < O.length) : ∃ g B d, A = some ⟨g, 0, none⟩ ∧ wr.cell? ⟨g, j, none⟩ = some (.slice B (O[j]?.getD []).length d) ∧ InR w B (O[j]?.getD []).length (O[j]?.getD []) := by
  obtain ⟨A', c', rows, hv, hown, hr⟩ := h
  injection hv with e1 e2 e3
  subst e1; subst e2; subst e3
  obtain ⟨g, e, _, _, hc⟩ := own_cellb hown (by omega)
  obtain ⟨B, d, h4, h5⟩ := hr j hj
  exact ⟨g, B, d, e, hc j _ h4, h5⟩
theorem info_row3 : (Try.prog.info? 31).map (fun i => (i.zero, i.size, i.bytes)) = some (some (.slice none 0 0), 1, 24) := by kernel_rfl
theorem one_row3 (u : World) (v : Value) : ∀ j x, [v][j]? = some x → (u.alloc (.cells #[v] 31)).cell? ((⟨u.heap.size, 0, none⟩ : Addr).add j) = some x := by
  intro j x h
  match j, h with
  | 0, h => rw [Addr.add_lit, (Blk.new u 31 #[v]).cell]; exact h
  | j + 1, h => simp at h
/-- one more -/
theorem append_3 {w0 w : World} {ops : Array Oper} {rest : List Oper} {o : Oper} {a : Act} {Q : Exit → Act → World → Prop} (hgd : o.guard = none) (s x : Operand)
    (ho : o.op = .call { callee := .builtin .append, args := #[s, x], argTypes := #[34, 34] }) (n0 : Nat) (O : List (List (List Int))) (v : Value) (hs : a.eval s = v) (hM : OthX n0 w0 w O v) (B : Option Addr) (m c : Nat) (L : List (List Int)) (hx : a.eval x = .slice (some ⟨w.heap.size, 0, none⟩) 1 1)
    (hlen : O.length ≤ 1000) (hB : InR w0 B L.length L) (hm : m = L.length) (hn : n0 ≤ w.heap.size) (h : ∀ v' w', OthX n0 w0 w' (O ++ [L]) v' → (w.heap.size ≤ w'.heap.size ∧ ∀ k t cs, Blk w k t cs → t ≠ 31 → w'.heap[k]? = w.heap[k]?) → Below n0 w w' → wpList Try.prog ops Q rest (a.put o.dst v') w') : wpList Try.prog ops Q (o :: rest) a (w.alloc (.cells #[.slice B m c] 31)) := by
  obtain ⟨i0, hi, hz0, hz1, hz2⟩ := info_parts info_row3
  have hb : Below w.heap.size w (w.alloc (.cells #[.slice B m c] 31)) := (Below.refl _ _).alloc (Nat.le_refl _) _
  obtain ⟨A, cc, rows, hv, hown, hj⟩ := hM
  refine wpList_append_own _ hgd s x 34 ho n0 31 i0 (.slice none 0 0) 1 24 Try.underlying34 hi hz0 hz1 hz2 rfl (by decide) v O.length rows hs (hown.alloc _) ⟨w.heap.size, 0, none⟩ 1 1 [.slice B m c] hx rfl (one_row3 _ _) (fun u hu => by rw [List.mem_singleton.1 hu]; rfl) (by unfold maxLen; omega) (by omega) (Nat.le_trans hn hb.size) ?_
  intro v9 w9 ow9 gr9 _
  obtain ⟨A9, c9, hv9⟩ := slice_of ow9
  have kb : ∀ k t cs, Blk w k t cs → t ≠ 31 → w9.heap[k]? = w.heap[k]? := fun k t cs hk ht =>
    (gr9.block k (hk.same (hb.block k hk.lt)).lt (fun e => own_ne_t hown hk ht e.symm)).trans (hb.block k hk.lt)
  have bel : Below n0 w w9 := (hb.mono hn).trans ((Below.refl _ _).grown gr9 (Nat.le_trans hn hb.size) (fun k hk => (hown.lt k hk).1))
  subst hm
  refine h v9 w9 ⟨A9, c9, _, by rw [hv9]; simp, by rw [List.length_append]; exact ow9, fun j hjl => ?_⟩ ⟨Nat.le_trans hb.size gr9.size, kb⟩ bel
  rw [List.length_append, List.length_singleton] at hjl
  have hl : rows.length = O.length := by have := hown.1; omega
  by_cases h : j < O.length
  · obtain ⟨B', d', h4, h5⟩ := hj j h
    rw [List.getElem?_append_left h]
    exact ⟨B', d', by rw [List.getElem?_append_left (by omega)]; exact h4, h5⟩
  · obtain rfl : j = O.length := by omega
    rw [List.getElem?_append_right (Nat.le_refl _), Nat.sub_self]
    exact ⟨B, c, by rw [List.getElem?_append_right (by omega), hl, Nat.sub_self]; rfl, hB⟩
/-- a vault in memory, open or over -/
structure CrM (n0 b vb : Nat) (w : World) (s : SS) (a : Nat) (lam : Int) (l : LS) (ov : Bool) (wr : World) : Prop where
  dy : Dy n0 wr b s
  hvb : n0 ≤ vb
  be : Below n0 w wr
  up : ov = false → ∃ lb, RpM 59 n0 b vb w s a lam l lb wr
  dn : ov = true → ∃ sec lam g lp, Blk wr vb 62 (vtC b 59 sec lam g lp false)
section
variable {n0 b vb : Nat} {w : World} {s : SS} {a : Nat} {lam : Int} {l : LS} {ov : Bool} {wr w' : World}
theorem CrM.below (h : CrM n0 b vb w s a lam l ov wr) (hb : Below wr.heap.size wr w') (hn : n0 ≤ wr.heap.size) : CrM n0 b vb w s a lam l ov w' := ⟨h.dy.below hb, h.hvb, h.be.trans (hb.mono hn), fun ho => by
  obtain ⟨lb, h1⟩ := h.up ho
  exact ⟨lb, h1.below hb hn⟩, fun ho => by
  obtain ⟨sec, lam, g, lp, h1⟩ := h.dn ho
  exact ⟨sec, lam, g, lp, h1.below hb⟩⟩
/-- a world in which only rows have turned -/
def Ko (t0 : TypeId) (w w' : World) : Prop := w.heap.size ≤ w'.heap.size ∧ ∀ k t cs, Blk w k t cs → t ≠ t0 → w'.heap[k]? = w.heap[k]?
theorem RpM.ko {S lb : Nat} {t0 : TypeId} (h : RpM S n0 b vb w s a lam l lb wr) (hk : Ko t0 wr w') (h1 : NT t0) (h2 : t0 ≠ 62 ∧ t0 ≠ 90) (hb : Below n0 wr w') : RpM S n0 b vb w s a lam l lb w' :=
  ⟨h.dy.typed hk.1 fun k t cs hkk ht => hk.2 k t cs hkk (fun e => ht (by rw [e]; exact h1)), h.vt.same (hk.2 _ _ _ h.vt (fun e => h2.1 e.symm)), h.lg.same (hk.2 _ _ _ h.lg (fun e => h2.2 e.symm)), h.hlb, h.hvb, h.be.trans hb⟩
theorem CrM.ko {t0 : TypeId} (h : CrM n0 b vb w s a lam l ov wr) (hk : Ko t0 wr w') (h1 : NT t0) (h2 : t0 ≠ 62 ∧ t0 ≠ 90) (hb : Below n0 wr w') : CrM n0 b vb w s a lam l ov w' :=
  ⟨h.dy.typed hk.1 fun k t cs hkk ht => hk.2 k t cs hkk (fun e => ht (by rw [e]; exact h1)), h.hvb, h.be.trans hb, fun ho => by
    obtain ⟨lb, h3⟩ := h.up ho
    exact ⟨lb, h3.ko hk h1 h2 hb⟩, fun ho => by
    obtain ⟨sec, lam, g, lp, h3⟩ := h.dn ho
    exact ⟨sec, lam, g, lp, h3.same (hk.2 _ _ _ h3 (fun e => h2.1 e.symm))⟩⟩
theorem Kb.ko {w w' : World} (h : Kb w w') : Ko 23 w w' := h
/-- a device's call -/
theorem CrM.dev {s' : SS} (h : CrM n0 b vb w s a lam l ov wr) (hl : Lf n0 b s' wr w') : CrM n0 b vb w s' a lam l ov w' := ⟨hl.1, h.hvb, h.be.trans hl.2.2, fun ho => by
  obtain ⟨lb, h1⟩ := h.up ho
  exact ⟨lb, ⟨hl.1, hl.2.1.vlt h1.vt, hl.2.1.log h1.lg, h1.hlb, h1.hvb, h1.be.trans hl.2.2⟩⟩, fun ho => by
  obtain ⟨sec, lam, g, lp, h1⟩ := h.dn ho
  exact ⟨sec, lam, g, lp, hl.2.1.vlt h1⟩⟩
/-- Append -/
theorem CrM.app {k : Nat} {all : List (List Int)} {sure : Nat} {other : List (List (List Int))} {n : Int} (q : VC k all sure other s n a lam l ov) (hk : k ≤ 29) {x : List Int} (hx : Bs x) (h6 : x.length ≤ 6000) :
    ∃ (r : Int) (s9 : SS) (l9 : LS) (ov9 : Bool), (k ≤ 28 → VC (k + 1) (if r = 5 then all else all ++ [x]) sure other s9 n a lam l9 ov9) ∧
      ∀ (y : World) (B : Option Addr) (m cx : Nat), CrM n0 b vb w s a lam l ov y → n0 ≤ y.heap.size → m = x.length → Rp y none B x → Src n0 y B x → m ≤ cx → m ≤ 9223372036854775807 →
        Calls Try.prog 11 #[.pointer (some ⟨vb, 0, none⟩), .slice B m cx] y fun e w' => e = .returned (.int .i64 r) ∧ CrM n0 b vb w s9 a lam l9 ov9 w' ∧ Kv y w' ∧ Below n0 y w' := by
  cases ov with
  | true =>
    refine ⟨6, s, l, true, fun _ => by rw [if_neg (by decide)]; exact q.app_over h6, fun y B m cx h hn hm hr hs hmc hmb => ?_⟩
    obtain ⟨sec, lam', g, lp, h1⟩ := h.dn rfl
    exact (vtAppend_over h1 B m cx).mono fun e w' ⟨h2, h3⟩ => by subst h3; exact ⟨h2, h, Kv.below (Below.refl _ _), Below.refl _ _⟩
  | false =>
    obtain ⟨r, s9, l9, hy⟩ : ∃ r s9 l9, s.ap (off 59 a) 59 l x = (r, s9, l9) := ⟨_, _, _, rfl⟩
    have hg := q.gb
    have hql := q.ql
    have hoff : off 59 a ≤ 4096 := by unfold off; have := q.a2; omega
    refine ⟨r, s9, l9, decide (r = 6), fun hk => ?_, fun y B m cx h hn hm hr hs hmc hmb => ?_⟩
    · obtain ⟨u1, u2⟩ := q.app hk hx h6
      rw [hy] at u1 u2
      simp only at u1 u2
      by_cases h5 : r = 5
      · rw [if_pos h5]
        have := u1 h5
        rw [h5]
        exact this
      · rw [if_neg h5]
        exact u2 h5
    · obtain ⟨lb, h1⟩ := h.up rfl
      have hgg := ap_g s (off 59 a) 59 l x
      have := vtAppend_up h1.dy hn h1.hvb h1.hlb h1.vt h1.lg (by omega) hoff q.n2 (by omega) B m cx x hm hr (fun _ => hs) hmc hmb (by omega)
      rw [hy] at this hgg
      refine this.mono ?_
      rintro e w' ⟨q1, q2, q3, q4, q5, q6⟩
      simp only at q1 q2 q3 q4 hgg
      refine ⟨q1, ⟨q2, h1.hvb, h1.be.trans q6, fun ho => ?_, fun ho => ?_⟩, q5, q6⟩
      · have hr6 : r ≠ 6 := fun e => by rw [e] at ho; cases ho
        rw [decide_eq_true hr6, ← hgg] at q4
        exact ⟨lb, ⟨q2, q4, q3, h1.hlb, h1.hvb, h1.be.trans q6⟩⟩
      · have hr6 : r = 6 := of_decide_eq_true ho
        rw [hr6] at q4
        exact ⟨_, _, _, _, q4⟩
/-- Flush -/
theorem CrM.flu {k : Nat} {all : List (List Int)} {sure : Nat} {other : List (List (List Int))} {n : Int} (q : VC k all sure other s n a lam l ov) :
    ∃ (r : Int) (s9 : SS) (l9 : LS) (ov9 : Bool), VC (k + 1) all (if r = 0 then all.length else sure) other s9 n a lam l9 ov9 ∧
      ∀ (y : World), CrM n0 b vb w s a lam l ov y → n0 ≤ y.heap.size → Calls Try.prog 12 #[.pointer (some ⟨vb, 0, none⟩)] y fun e w' => e = .returned (.int .i64 r) ∧ CrM n0 b vb w s9 a lam l9 ov9 w' ∧ Kv y w' ∧ Below n0 y w' := by
  cases ov with
  | true =>
    refine ⟨6, s, l, true, by rw [if_neg (by decide)]; exact q.more, fun y h hn => ?_⟩
    obtain ⟨sec, lam', g, lp, h1⟩ := h.dn rfl
    exact (vtFlush_over h1).mono fun e w' ⟨h2, h3⟩ => by subst h3; exact ⟨h2, h, Kv.below (Below.refl _ _), Below.refl _ _⟩
  | false =>
    obtain ⟨r, s9, l9, hy⟩ : ∃ r s9 l9, s.lf l = (r, s9, l9) := ⟨_, _, _, rfl⟩
    have hvc := q.flu
    rw [hy] at hvc
    refine ⟨r, s9, l9, decide (r = 6), hvc, fun y h hn => ?_⟩
    obtain ⟨lb, h1⟩ := h.up rfl
    have hgg := (lf_log s l).1
    have := vtFlush_up h1.dy hn h1.hvb h1.hlb h1.vt h1.lg
    rw [hy] at this hgg
    refine this.mono ?_
    rintro e w' ⟨q1, q2, q3, q4, q5, q6⟩
    simp only at q1 q2 q3 q4 hgg
    refine ⟨q1, ⟨q2, h1.hvb, h1.be.trans q6, fun ho => ?_, fun ho => ?_⟩, q5, q6⟩
    · have hr6 : r ≠ 6 := fun e => by rw [e] at ho; cases ho
      rw [decide_eq_true hr6, ← hgg] at q4
      exact ⟨lb, ⟨q2, q4, q3, h1.hlb, h1.hvb, h1.be.trans q6⟩⟩
    · have hr6 : r = 6 := of_decide_eq_true ho
      rw [hr6] at q4
      exact ⟨_, _, _, _, q4⟩
/-- Replace -/
theorem CrM.rep {k : Nat} {all : List (List Int)} {sure : Nat} {other : List (List (List Int))} {n : Int} (q : VC k all sure other s n a lam l ov) (hk : k ≤ 29) {A : Option Addr} {m c : Nat} {L : List (List Int)} (hin : InR w A m L) (hn0 : w.heap.size = n0) (hm : m ≤ 10) :
    ∃ (r : Int) (s9 : SS) (n9 : Int) (a9 : Nat) (lam9 : Int) (l9 : LS) (ov9 : Bool),
      (k ≤ 28 → VC (k + 1) (if r = 0 then L else all) (if r = 0 then L.length else sure) (if r = 0 then [] else if r = 6 then other ++ [L] else other) s9 n9 a9 lam9 l9 ov9) ∧
      ∀ (y : World), CrM n0 b vb w s a lam l ov y → n0 ≤ y.heap.size → Calls Try.prog 14 #[.pointer (some ⟨vb, 0, none⟩), .slice A m c] y fun e w' => e = .returned (.int .i64 r) ∧ (k ≤ 28 → CrM n0 b vb w s9 a9 lam9 l9 ov9 w') ∧ Kv y w' ∧ Below n0 y w' := by
  cases ov with
  | true =>
    refine ⟨6, s, n, a, lam, l, true, fun _ => by rw [if_neg (by decide), if_neg (by decide), if_neg (by decide), if_pos rfl]; exact q.rep_over L, fun y h hn => ?_⟩
    obtain ⟨sec, lam', g, lp, h1⟩ := h.dn rfl
    exact (vtReplace_over h1 A m c).mono fun e w' ⟨h2, h3⟩ => by subst h3; exact ⟨h2, fun _ => h, Kv.below (Below.refl _ _), Below.refl _ _⟩
  | false =>
    obtain ⟨hu, _⟩ := q.up rfl
    have hg := q.gb
    have hql := q.ql
    have hnb := q.nb
    cases hl : lng L with
    | true =>
      refine ⟨3, s, n, a, lam, l, false, fun _ => by rw [if_neg (by decide), if_neg (by decide), if_neg (by decide), if_neg (by decide)]; exact q.more, fun y h hn => ?_⟩
      obtain ⟨lb, h1⟩ := h.up rfl
      exact (h1.long hn0 hn q.bs hu (by decide) (by omega) (by omega) (by omega) A m c L hin (by omega) (lng_yes hl)).mono fun e w' ⟨h2, h3⟩ => by subst h3; exact ⟨h2, fun _ => h, Kv.below (Below.refl _ _), Below.refl _ _⟩
    | false =>
      by_cases hp : 59 < pgs L
      · refine ⟨5, s, n, a, lam, l, false, fun _ => by rw [if_neg (by decide), if_neg (by decide), if_neg (by decide), if_neg (by decide)]; exact q.more, fun y h hn => ?_⟩
        obtain ⟨lb, h1⟩ := h.up rfl
        exact (h1.full hn0 hn q.bs hu (by decide) (by omega) (by omega) (by omega) A m c L hin (by omega) (lng_no hl) hp).mono fun e w' ⟨h2, h3⟩ => by subst h3; exact ⟨h2, fun _ => h, Kv.below (Below.refl _ _), Below.refl _ _⟩
      · obtain ⟨r, s9, l9, hY⟩ : ∃ r s9 l9, s.rp 59 a lam l L = (r, s9, l9) := ⟨_, _, _, rfl⟩
        have hb : ∀ x ∈ L, Bs x ∧ x.length ≤ 6000 := fun x hx => ⟨hin.bsx x hx, lng_no hl x hx⟩
        by_cases hr0 : r = 0
        · subst hr0
          have key : k ≤ 28 → VC (k + 1) L L.length [] s9 (n + 2) (1 - a) (l.g + 1) l9 false ∧ l9.g = l.g + 1 := fun hk => by
            rcases q.rep hk hb (by omega) (by have := hin.1; omega) with ⟨_, e2⟩ | ⟨e1, _⟩
            · rw [hY] at e2
              rcases hu.rp (by omega) (by omega) hb (by omega) with ⟨_, _, e3⟩ | ⟨e1, _⟩
              · rw [hY] at e3; exact ⟨e2, e3⟩
              · rw [hY] at e1; cases e1
            · rw [hY] at e1; cases e1
          refine ⟨0, s9, n + 2, 1 - a, l.g + 1, l9, false, fun hk => by rw [if_pos rfl, if_pos rfl, if_pos rfl]; exact (key hk).1, fun y h hn => ?_⟩
          obtain ⟨lb, h1⟩ := h.up rfl
          exact (h1.rep hn0 hn q.bs hu (by decide) (by omega) (by omega) (by omega) A m c L hin (by omega) (lng_no hl) (by omega) 0 s9 l9 hY).mono fun e w' ⟨h2, h3, h4, h5, h6, h7⟩ => ⟨h2, fun hk => ⟨h3, h1.hvb, h1.be.trans h5, fun _ => h7 rfl (key hk).2, fun ho => by cases ho⟩, h4, h5⟩
        · refine ⟨r, s9, n, a, lam, l, true, fun hk => ?_, fun y h hn => ?_⟩
          · rcases q.rep hk hb (by omega) (by have := hin.1; omega) with ⟨e1, _⟩ | ⟨e1, e2⟩
            · rw [hY] at e1; exact (hr0 e1).elim
            · rw [hY] at e1 e2
              simp only at e1 e2
              rw [if_neg hr0, if_neg hr0, if_neg hr0, if_pos e1]
              exact e2 l q.n2 hg.1 (by omega) n hnb.1 (by omega) a q.a2 lam
          · obtain ⟨lb, h1⟩ := h.up rfl
            refine (h1.rep hn0 hn q.bs hu (by decide) (by omega) (by omega) (by omega) A m c L hin (by omega) (lng_no hl) (by omega) r s9 l9 hY).mono fun e w' ⟨h2, h3, h4, h5, h6, h7⟩ => ⟨h2, fun hk => ⟨h3, h1.hvb, h1.be.trans h5, fun ho => (by cases ho), fun _ => ?_⟩, h4, h5⟩
            have hr6 : r = 6 := by
              rcases q.rep hk hb (by omega) (by have := hin.1; omega) with ⟨e1, _⟩ | ⟨e1, _⟩
              · rw [hY] at e1; exact (hr0 e1).elim
              · rw [hY] at e1; exact e1
            rw [hr6] at h6
            exact h6
end
/-! What is found is of no more than 6000 bytes. -/
theorem nx_6000 {P : Nat → List Int} : ∀ (f i : Nat) (l : Int) (first : Bool) (acc r : List Int) (j : Nat) (g : Int), nx P f i l first acc = some (r, j, g) → r.length ≤ 6000
  | 0, i, l, first, acc, r, j, g, h => by cases h
  | f + 1, i, l, first, acc, r, j, g, h => by
    unfold nx at h
    cases hr : rt (P i) ((i : Int) + 1) l with
    | none => rw [hr] at h; cases h
    | some q =>
      obtain ⟨g', kd, b⟩ := q
      rw [hr] at h
      simp only at h
      split at h
      · cases h
      · rename_i hc
        split at h
        · injection h with h
          injection h with h1 h2
          rw [← h1]
          have : ¬ 6000 < (acc ++ b).length := fun h => hc (.inr (.inr h))
          omega
        · exact nx_6000 f (i + 1) g' false (acc ++ b) r j g h
theorem scn_6000 {P : Nat → List Int} {n : Nat} : ∀ (f i : Nat) (l : Int), ∀ x ∈ (scn P n f i l).1, x.length ≤ 6000
  | 0, i, l => fun x hx => by simp [scn] at hx
  | f + 1, i, l => fun x hx => by
    cases hn : nx P (n - i) i l true [] with
    | none => rw [scn_none hn] at hx; simp at hx
    | some q =>
      obtain ⟨r, j, g⟩ := q
      rw [scn_some hn] at hx
      rcases List.mem_cons.1 hx with h1 | h1
      · rw [h1]; exact nx_6000 _ _ _ _ _ _ _ _ hn
      · exact scn_6000 f j g x h1
theorem VR.len6 {T S : Nat} {s : SS} {n : Int} {a : Nat} {lam gm : Int} {all : List (List Int)} (h : VR T S s n a lam gm all) : ∀ x ∈ all, x.length ≤ 6000 := by
  rw [← h.al]; exact scn_6000 _ _ _
/-- the first of a call's records -/
theorem rec_at {w : World} {B : Option Addr} {m1 c1 : Nat} {L : List (List Int)} {n0 : Nat} (hin : InR w B m1 L) (h0 : w.heap.size = n0) (h7 : ∀ x ∈ L, x.length ≤ 7000) (kd iv : Int) (E : Option Addr) (m2 d : Nat) :
    ∃ (Rb : Option Addr) (rm rc : Nat) (x : List Int), rm = x.length ∧ x.length ≤ 7000 ∧ Bs x ∧ rm ≤ rc ∧ (∀ y, Below n0 w y → Rp y none Rb x) ∧ (∀ y, Src n0 y Rb x) ∧
      ∀ y, Below n0 w y → Calls Try.prog 10 #[.agg #[.int .i64 kd, .int .i64 iv, .slice B m1 c1, .slice E m2 d]] y fun e w' => e = .returned (.slice Rb rm rc) ∧ Below y.heap.size y w' := by
  have B0 : ∀ y : World, Below y.heap.size y (y.alloc (.cells #[.int .i64 kd, .int .i64 iv, .slice B m1 c1, .slice E m2 d] 37)) := fun y => (Below.refl _ _).alloc (Nat.le_refl _) _
  by_cases hm : m1 = 0
  · subst hm
    refine ⟨none, 0, 0, [], rfl, by simp, (fun y hy => by simp at hy), Nat.le_refl _, fun y hy h => by simp at h, fun y h => by simp at h, fun y hy => ?_⟩
    have HB := hid (B0 y)
    clear hin h7
    go_enter Try.func10, Try.ntmps10
    go_wp2
    go_ret
    exact ⟨rfl, HB.out⟩
  · obtain ⟨gb, ob, e, hlt, hat⟩ := hin.2.2 (by omega)
    obtain ⟨Rb, rc, x, h1, h2, h3, h4, h5, h6⟩ := hat 0 (by omega)
    refine ⟨Rb, x.length, rc, x, rfl, h7 x (List.mem_of_getElem? h1), h3, h5, fun y hy => h4.same fun j hj _ => hy.block j (by rw [← h0]; exact hj), fun y hx a ha => .inl (by rw [← h0]; exact rp_lt h4 hx a ha), fun y hy => ?_⟩
    have HB := hid (B0 y)
    subst e
    obtain ⟨q, hq⟩ : ∃ q, q = x.length := ⟨_, rfl⟩
    rw [← hq] at h2 ⊢
    have z0 : (y.alloc (.cells #[.int .i64 kd, .int .i64 iv, .slice (some ⟨gb, ob, none⟩) m1 c1, .slice E m2 d] 37)).cell? ⟨gb, ob, none⟩ = some (.slice Rb q rc) := by
      have := cell_bl (B0 y) ((hy.cell (by rw [← h0]; exact hlt)).trans h2)
      rw [Nat.add_zero] at this
      exact this
    have hm1 : (0 : Int) < (m1 : Int) := by omega
    have hme : ((m1 : Int) == 0) = false := by simp; omega
    clear hin h7 hat h1 h2 h3 h4 h5 h6 hq hlt
    go_enter Try.func10, Try.ntmps10
    go_wp2
    go_ret
    exact ⟨rfl, HB.out⟩
end Go.Proofs.Ythfkooancgkjaaa
