/-
  What is proved here: a part of a record's bytes; what a log's calls leave as it was.
-/
import Derived.Test.YthfkooancgkjaaaMWaO
set_option linter.unusedSimpArgs false
set_option linter.unusedVariables false
namespace Go.Proofs.Ythfkooancgkjaaa
open Go.ChangeShapes Go.WideShapes Go.ChangeAt Go.RowKit
set_option linter.unusedVariables false
set_option maxRecDepth 20000

theorem run_cutn (A : Option Addr) (n c lo hi : Nat) (h1 : lo ≤ hi) (h2 : hi ≤ c) (w : World) :
    (Instr.sliceAt 23 (.slice A n c) (some (.int .i64 (lo : Nat))) (some (.int .i64 (hi : Nat))) none).run Try.prog w = .ok (.slice (if c = lo then A else A.map (·.add lo)) (hi - lo) (c - lo)) w := by
  cases A with
  | none =>
    go_simp
  | some ad =>
    go_simp
    try rfl
theorem cutn_at {ops : Array Oper} {rest : List Oper} {o : Oper} {a : Act} {w : World} {Q : Exit → Act → World → Prop} (hw : Region.wanted o (yielded ops a.tmps) = true) (x l h : Operand) (ho : o.op = .slice 23 x (some l) (some h) none)
    (A : Option Addr) (n c lo hi m : Nat) (L H : Int) (hx : a.eval x = .slice A n c) (hl : a.eval l = .int .i64 L) (hh : a.eval h = .int .i64 H) (hL : L = (lo : Nat)) (hH : H = (hi : Nat)) (hm : hi = lo + m) (h2 : hi ≤ c)
    (k : ∀ A', A' = (if c = lo then A else A.map (·.add lo)) → wpList Try.prog ops Q rest (a.put o.dst (.slice A' m (c - lo))) w) : wpList Try.prog ops Q (o :: rest) a w := by
  subst hL hH
  unfold wpList
  rw [if_pos hw]
  refine Or.inl ?_
  unfold Oper.wp execOp
  simp only [ho, Option.map_some, Option.map_none, hx, hl, hh, Sem.run_bind, run_cutn A n c lo hi (by omega) h2 w, Result.andThen_ok]
  rw [show hi - lo = m by omega]
  exact k _ rfl
theorem rp_part {w : World} {A : Option Addr} {xs : List Int} (h : Rp w none A xs) {lo m c : Nat} (hc : xs.length ≤ c) : Rp w none (if c = lo then A else A.map (·.add lo)) ((xs.drop lo).take m) := (h.cut hc).take m

theorem apw_len : ∀ (ps : List (List Int)) (i : Nat) (s : SS), (apw s i ps).2.L.length = s.L.length ∧ (apw s i ps).2.Q.length ≤ s.Q.length + ps.length
  | [], i, s => ⟨rfl, Nat.le_refl _⟩
  | p :: ps, i, s => by
    have h1 := s.wr_len (i : Int) p
    have h2 := apw_len ps (i + 1) (s.wr (i : Int) p).2
    unfold apw
    rw [List.length_cons]
    split
    · exact ⟨h1.1, by omega⟩
    · exact ⟨h2.1.trans h1.1, by omega⟩
theorem apw_bs : ∀ (ps : List (List Int)) (i : Nat) (s : SS), s.bs → (∀ p ∈ ps, Bs p) → (apw s i ps).2.bs
  | [], i, s, h, _ => h
  | p :: ps, i, s, h, hp => by
    have h1 := SS.wr_bs h (i : Int) p (hp p (by simp))
    unfold apw
    split
    · exact h1
    · exact apw_bs ps (i + 1) _ h1 (fun q hq => hp q (List.mem_cons_of_mem _ hq))
theorem rpg_bs {g : Int} (hg : 0 ≤ g ∧ g < 4294967296) (b : List Int) (hb : Bs b) (i : Nat) : ∀ p ∈ rpg g i true (cut b), Bs p := by
  intro p hp
  obtain ⟨j, hj⟩ := List.mem_iff_getElem?.1 hp
  have hlt : j < (rpg g i true (cut b)).length := by
    rcases Nat.lt_or_ge j (rpg g i true (cut b)).length with h | h
    · exact h
    · rw [List.getElem?_eq_none h] at hj; cases hj
  rw [rpg_len, cut_len] at hlt
  have h1 := rpg_cut g b i j hlt
  rw [hj] at h1
  rw [show p = (some p).getD [] from rfl, h1]
  have hk := kdI_bound j (np b.length)
  exact wpg_bs (by omega) (by rw [List.length_take]; omega) ((hb.drop _).take _)
theorem ap_len (s : SS) (a c : Nat) (l : LS) (b : List Int) : (s.ap a c l b).2.1.L.length = s.L.length ∧ (s.ap a c l b).2.1.Q.length ≤ s.Q.length + 55 := by
  have h1 := apw_len (rpg l.g l.n true (cut b)) (a + l.n) s
  rw [rpg_len, cut_len] at h1
  unfold SS.ap
  split
  · exact ⟨rfl, by simp⟩
  · split
    · exact ⟨rfl, by simp⟩
    · have h2 := np_max b.length (by omega)
      split
      · exact ⟨rfl, by simp⟩
      · split
        · exact ⟨h1.1, by show (apw _ _ _).2.Q.length ≤ _; omega⟩
        · exact ⟨h1.1, by show (apw _ _ _).2.Q.length ≤ _; omega⟩
theorem ap_bs {s : SS} (h : s.bs) (a c : Nat) {l : LS} (hg : 0 ≤ l.g ∧ l.g < 4294967296) {b : List Int} (hb : Bs b) : (s.ap a c l b).2.1.bs := by
  have h1 := apw_bs _ (a + l.n) s h (rpg_bs hg b hb l.n)
  unfold SS.ap
  split
  · exact h
  · split
    · exact h
    · split
      · exact h
      · split
        · exact h1
        · exact h1
theorem ap_log (s : SS) (a c : Nat) (l : LS) (b : List Int) (hn : l.n ≤ c) : (s.ap a c l b).2.2.g = l.g ∧ (s.ap a c l b).2.2.n ≤ c := by
  unfold SS.ap
  split
  · exact ⟨rfl, hn⟩
  · split
    · exact ⟨rfl, hn⟩
    · split
      · exact ⟨rfl, hn⟩
      · split
        · exact ⟨rfl, by show l.n + (cut b).length ≤ c; omega⟩
        · exact ⟨rfl, hn⟩
theorem lf_bs {s : SS} (h : s.bs) (l : LS) : (s.lf l).2.1.bs := by
  unfold SS.lf
  split
  · exact h
  · exact SS.fl_bs h
theorem lf_len (s : SS) (l : LS) : (s.lf l).2.1.L.length = s.L.length ∧ (s.lf l).2.1.Q.length ≤ s.Q.length + 1 := by
  unfold SS.lf
  split
  · exact ⟨rfl, by simp⟩
  · exact s.fl_len
theorem lf_log (s : SS) (l : LS) : (s.lf l).2.2.g = l.g ∧ (s.lf l).2.2.n = l.n := by
  unfold SS.lf
  split
  · exact ⟨rfl, rfl⟩
  · exact ⟨rfl, rfl⟩
/-- what Append answers, and leaves -/
def ApA (n0 b lb a c : Nat) (y : Int × SS × LS) (w : World) (e : Ending) (w' : World) : Prop :=
  e = .returned (.int .i64 y.1) ∧ Dy n0 w' b y.2.1 ∧ Blk w' lb 90 (lgC b a c y.2.2) ∧ Kx w w' ∧ Below n0 w w'
end Go.Proofs.Ythfkooancgkjaaa
