/-
  What this file is for: a slot at any place of a device of any size: what Save leaves, what a restart leaves. Nothing of the program is walked here.
-/
import Derived.Test.YthfkooancgkjaaaMSlX
import Derived.Test.YthfkooancgkjaaaMWlW
import Derived.Test.YthfkooancgkjaaaMWaC
set_option linter.unusedSimpArgs false
set_option linter.unusedVariables false
namespace Go.Proofs.Ythfkooancgkjaaa
open Go.ChangeShapes Go.WideShapes Go.ChangeAt Go.RowKit
set_option linter.unusedVariables false
set_option maxRecDepth 20000

/-- a slot at t: its serial n, its value v; nothing that waits is on its pages -/
structure Sc (s : SS) (t : Nat) (n : Int) (v : List Int) : Prop where
  fit : t + 1 < s.L.length
  sl : SlI n v (s.L[t]?.getD []) (s.L[t + 1]?.getD [])
  no : ∀ q ∈ s.Q, q.1 ≠ t ∧ q.1 ≠ t + 1
theorem Sc.n0 {s : SS} {t : Nat} {n : Int} {v : List Int} (h : Sc s t n v) : 0 ≤ n ∧ n < 18446744073709551616 := h.sl.1
theorem Sc.state {s : SS} {t : Nat} {n : Int} {v : List Int} (h : Sc s t n v) (F : Int) (D : Bool) : Sc ⟨s.L, s.Q, F, D⟩ t n v := ⟨h.fit, h.sl, h.no⟩
theorem pg_t {s : SS} {t : Nat} (h : ∀ q ∈ s.Q, q.1 ≠ t ∧ q.1 ≠ t + 1) : (pg s.L s.Q)[t]? = s.L[t]? ∧ (pg s.L s.Q)[t + 1]? = s.L[t + 1]? := ⟨pg_far _ _ _ (fun q hq => (h q hq).1), pg_far _ _ _ (fun q hq => (h q hq).2)⟩
theorem sc_ld {s : SS} {t : Nat} {n : Int} {v : List Int} (h : Sc s t n v) (hd : s.D = false) : s.ld t = (0, n, v) := by
  have hp := pg_t h.no
  have hf := h.fit
  have r2 : s.rd (t : Int) = (0, s.L[t]?.getD []) := by
    unfold SS.rd
    rw [if_neg (by rw [hd]; simp), if_neg (by omega), Int.toNat_natCast, hp.1]
  have r3 : s.rd ((t : Int) + 1) = (0, s.L[t + 1]?.getD []) := by
    unfold SS.rd
    rw [if_neg (by rw [hd]; simp), if_neg (by omega), show ((t : Int) + 1).toNat = t + 1 by omega, hp.2]
  rw [ld_ok (by rw [r2]) (by rw [r3]), r2, r3, sli_slv h.sl]
theorem sd_le (n : Int) : sd n ≤ 1 := by unfold sd; omega
/-- Save, with the power on at its beginning -/
theorem sc_save {s : SS} {t : Nat} {n : Int} {v : List Int} (h : Sc s t n v) (hd : s.D = false) {B : List Int} (hB : B.length ≤ 110) (bB : Bs B) (hn1 : n + 1 < 18446744073709551616) :
    ((s.sv t B).1 = 6 ∧ (s.sv t B).2.2.D = true ∧ (s.sv t B).2.2.L = s.L ∧ ((s.sv t B).2.2.Q = s.Q ∨ (s.sv t B).2.2.Q = s.Q ++ [(t + sd n, pgl (n + 1) B)])) ∨
    ((s.sv t B).1 = 0 ∧ (s.sv t B).2.2.D = false ∧ (s.sv t B).2.2.Q = [] ∧ (s.sv t B).2.2.L = (pg s.L s.Q).set (t + sd n) (pgl (n + 1) B) ∧ (s.sv t B).2.2.F = bn (bn s.F) ∧ Sc (s.sv t B).2.2 t (n + 1) B) := by
  have hl := sc_ld h hd
  have hf := h.fit
  have h0 := h.n0
  have hlt := sd_le n
  have hd2 : ¬ s.D = true := by rw [hd]; simp
  have hsd : ((t : Int) + (n + 1) % 2) = ((t + sd n : Nat) : Int) := by unfold sd; omega
  have hf18 : n ≠ 18446744073709551615 := by omega
  by_cases hF : s.F = 0
  · have hw : s.wr ((t : Int) + (n + 1) % 2) (pgl (n + 1) B) = (6, ⟨s.L, s.Q, 0, true⟩) := by
      unfold SS.wr
      rw [if_neg hd2, hsd, if_neg (by omega), if_neg (by rw [pgl_len _ _ hB]; simp), if_pos hF]
    left
    rw [sv_wr (x := n) hB (by rw [hl]) (by rw [hl]) hf18 (by rw [hw]; simp), hw]
    exact ⟨rfl, rfl, rfl, .inl rfl⟩
  · have hw : s.wr ((t : Int) + (n + 1) % 2) (pgl (n + 1) B) = (0, ⟨s.L, s.Q ++ [(t + sd n, pgl (n + 1) B)], bn s.F, false⟩) := by
      unfold SS.wr
      rw [if_neg hd2, hsd, if_neg (by omega), if_neg (by rw [pgl_len _ _ hB]; simp), if_neg hF, Int.toNat_natCast]
    by_cases hF2 : bn s.F = 0
    · have hfl : (⟨s.L, s.Q ++ [(t + sd n, pgl (n + 1) B)], bn s.F, false⟩ : SS).fl = (6, ⟨s.L, s.Q ++ [(t + sd n, pgl (n + 1) B)], 0, true⟩) := by
        unfold SS.fl
        rw [if_neg (by simp), if_pos hF2]
      left
      rw [sv_fl (x := n) hB (by rw [hl]) (by rw [hl]) hf18 (by rw [hw]) (by rw [hw]; simp only; rw [hfl]; simp), hw]
      simp only
      rw [hfl]
      exact ⟨(by first | rfl | trivial), (by first | rfl | trivial), (by first | rfl | trivial), .inr (by first | rfl | trivial)⟩
    · have hfl : (⟨s.L, s.Q ++ [(t + sd n, pgl (n + 1) B)], bn s.F, false⟩ : SS).fl = (0, ⟨(pg s.L s.Q).set (t + sd n) (pgl (n + 1) B), [], bn (bn s.F), false⟩) := by
        unfold SS.fl
        rw [if_neg (by simp), if_neg hF2, pg_snoc]
      right
      rw [sv_ok (x := n) hB (by rw [hl]) (by rw [hl]) hf18 (by rw [hw]) (by rw [hw]; simp only; rw [hfl]), hw]
      simp only
      rw [hfl]
      have hp := pg_t h.no
      have hpl : (pg s.L s.Q).length = s.L.length := pg_length _ _
      have hx := sli_next h.sl hn1 hB bB
      refine ⟨(by first | rfl | trivial), (by first | rfl | trivial), (by first | rfl | trivial), (by first | rfl | trivial), (by first | rfl | trivial), ⟨by simp only [List.length_set]; omega, ?_, fun q hq => by simp at hq⟩⟩
      simp only
      have hpar : n % 2 = 0 ∨ n % 2 = 1 := by omega
      rcases hpar with hpar | hpar
      · have e : t + sd n = t + 1 := by unfold sd; omega
        rw [e, List.getElem?_set_self (by omega), List.getElem?_set_ne (by omega), hp.1, Option.getD_some]
        exact hx.1 hpar
      · have e : t + sd n = t := by unfold sd; omega
        rw [e, List.getElem?_set_self (by omega), List.getElem?_set_ne (by omega), hp.2, Option.getD_some]
        exact hx.2 hpar
/-- behind a restart, nothing of it waiting -/
theorem sc_rest {s : SS} {t : Nat} {n : Int} {v : List Int} (h : Sc s t n v) (ls : List Int) : Sc (s.rs ls) t n v := by
  have hm : (mixs (keep ls) s.L s.Q s.Q.length).length = s.L.length := mixs_length _ _ _ _
  refine ⟨by show t + 1 < (mixs (keep ls) s.L s.Q s.Q.length).length; rw [hm]; exact h.fit, ?_, fun q hq => by simp [SS.rs] at hq⟩
  show SlI n v ((mixs (keep ls) s.L s.Q s.Q.length)[t]?.getD []) ((mixs (keep ls) s.L s.Q s.Q.length)[t + 1]?.getD [])
  rw [mixs_far (fun q hq => (h.no q hq).1), mixs_far (fun q hq => (h.no q hq).2)]
  exact h.sl
/-- behind a restart, a value that was begun waiting: the elder one or the new one -/
theorem sc_half {s s' : SS} {t : Nat} {n : Int} {v B : List Int} (h : Sc s t n v) (hL : s'.L = s.L) (hQ : s'.Q = s.Q ++ [(t + sd n, pgl (n + 1) B)]) (hB : B.length ≤ 110) (bB : Bs B) (hn1 : n + 1 < 18446744073709551616) (ls : List Int) :
    Sc (s'.rs ls) t n v ∨ Sc (s'.rs ls) t (n + 1) B := by
  obtain ⟨m, hm⟩ : ∃ m, m = s.Q.length := ⟨_, rfl⟩
  have hat : (s.Q ++ [(t + sd n, pgl (n + 1) B)])[m]? = some (t + sd n, pgl (n + 1) B) := by rw [hm, List.getElem?_append_right (Nat.le_refl _), Nat.sub_self]; rfl
  have hlen : (s.Q ++ [(t + sd n, pgl (n + 1) B)]).length = m + 1 := by rw [List.length_append, hm]; rfl
  have near : ∀ j q, j < m → (s.Q ++ [(t + sd n, pgl (n + 1) B)])[j]? = some q → q.1 ≠ t ∧ q.1 ≠ t + 1 := fun j q hj hjq => by
    rw [List.getElem?_append_left (by omega)] at hjq
    exact h.no q (List.mem_of_getElem? hjq)
  have n2 := mixs_near (T := keep ls) (L := s.L) (Q := s.Q ++ [(t + sd n, pgl (n + 1) B)]) (i := t) m (fun j q h1 h2 => (near j q h1 h2).1)
  have n3 := mixs_near (T := keep ls) (L := s.L) (Q := s.Q ++ [(t + sd n, pgl (n + 1) B)]) (i := t + 1) m (fun j q h1 h2 => (near j q h1 h2).2)
  have e : (s'.rs ls).L = (mixs (keep ls) s.L (s.Q ++ [(t + sd n, pgl (n + 1) B)]) m).set (t + sd n) (mx ((mixs (keep ls) s.L (s.Q ++ [(t + sd n, pgl (n + 1) B)]) m)[t + sd n]?.getD []) (pgl (n + 1) B) (keep ls m)) := by
    show mixs (keep ls) s'.L s'.Q s'.Q.length = _
    rw [hL, hQ, hlen, mixs_succ hat]
  have hml : (mixs (keep ls) s.L (s.Q ++ [(t + sd n, pgl (n + 1) B)]) m).length = s.L.length := mixs_length _ _ _ _
  have hf := h.fit
  have hrl : (s'.rs ls).L.length = s.L.length := by rw [e, List.length_set, hml]
  have ht := sli_torn h.sl hn1 hB bB (keep_le ls m)
  have h0 := h.n0
  have hpar : n % 2 = 0 ∨ n % 2 = 1 := by omega
  have key : ∀ n' v', SlI n' v' ((s'.rs ls).L[t]?.getD []) ((s'.rs ls).L[t + 1]?.getD []) → Sc (s'.rs ls) t n' v' := fun n' v' hs => ⟨by rw [hrl]; exact hf, hs, fun q hq => by simp [SS.rs] at hq⟩
  rcases hpar with hpar | hpar
  · have e3 : t + sd n = t + 1 := by unfold sd; omega
    rw [e3] at e n2 n3 hml
    have a2 : (s'.rs ls).L[t]? = s.L[t]? := by rw [e, List.getElem?_set_ne (by omega), n2]
    have a3 : (s'.rs ls).L[t + 1]?.getD [] = mx (s.L[t + 1]?.getD []) (pgl (n + 1) B) (keep ls m) := by rw [e, List.getElem?_set_self (by omega), n3]; rfl
    rcases ht.1 hpar with hx | hx
    · exact .inl (key n v (by rw [a2, a3]; exact hx))
    · exact .inr (key (n + 1) B (by rw [a2, a3]; exact hx))
  · have e3 : t + sd n = t := by unfold sd; omega
    rw [e3] at e n2 n3 hml
    have a3 : (s'.rs ls).L[t + 1]? = s.L[t + 1]? := by rw [e, List.getElem?_set_ne (by omega), n3]
    have a2 : (s'.rs ls).L[t]?.getD [] = mx (s.L[t]?.getD []) (pgl (n + 1) B) (keep ls m) := by rw [e, List.getElem?_set_self (by omega), n2]; rfl
    rcases ht.2 hpar with hx | hx
    · exact .inl (key n v (by rw [a2, a3]; exact hx))
    · exact .inr (key (n + 1) B (by rw [a2, a3]; exact hx))
/-- what a restart leaves of pages that nothing waits on -/
theorem rs_far {s : SS} {i : Nat} (h : ∀ q ∈ s.Q, q.1 ≠ i) (ls : List Int) : (s.rs ls).L[i]? = s.L[i]? := mixs_far h _
theorem sc_new {T t : Nat} (h : t + 1 < T) : Sc ⟨List.replicate T zpg, [], -1, false⟩ t 0 [] := by
  refine ⟨by simpa using h, ?_, fun q hq => by simp at hq⟩
  simp only
  rw [List.getElem?_replicate, if_pos (by omega), List.getElem?_replicate, if_pos (by omega)]
  exact sli_new
end Go.Proofs.Ythfkooancgkjaaa
/-
  What this file is for: a vault's pages, call by call: what stands when it rests, when it is open, when the power is gone. Nothing of the program is walked here.
-/
namespace Go.Proofs.Ythfkooancgkjaaa
open Go.ChangeShapes Go.WideShapes Go.ChangeAt Go.RowKit
set_option linter.unusedVariables false
set_option maxRecDepth 20000

/-- where an area begins -/
def off (S a : Nat) : Nat := 2 + a * S
theorem off_at {S : Nat} : off S 0 = 2 ∧ off S 1 = 2 + S := by unfold off; omega
theorem off_ge (S a : Nat) : 2 ≤ off S a := by unfold off; omega
theorem off_fit {S T a : Nat} (hf : 2 + 2 * S ≤ T) (ha : a < 2) : off S a + S ≤ T := by
  have : a = 0 ∨ a = 1 := by omega
  rcases this with rfl | rfl
  · rw [off_at.1]; omega
  · rw [off_at.2]; omega
/-- areas lie apart -/
theorem off_ne {S a k : Nat} (ha : a < 2) (h : off S a ≤ k ∧ k < off S a + S) : ¬ (off S (1 - a) ≤ k ∧ k < off S (1 - a) + S) := by
  have : a = 0 ∨ a = 1 := by omega
  rcases this with rfl | rfl
  · rw [show 1 - 0 = 1 from rfl, off_at.2]; rw [off_at.1] at h; omega
  · rw [show 1 - 1 = 0 from rfl, off_at.1]; rw [off_at.2] at h; omega
/-- a slot's value: the active area, the least generation, the generation -/
def val9 (a : Nat) (lam g : Int) : List Int := (a : Int) :: (be lam 4 ++ be g 4)
theorem val9_len (a : Nat) (lam g : Int) : (val9 a lam g).length = 9 := by unfold val9; rw [List.length_cons, List.length_append, be_length, be_length]
theorem val9_bs {a : Nat} (h : a < 2) (lam g : Int) : Bs (val9 a lam g) := fun y hy => by
  unfold val9 at hy
  rcases List.mem_cons.1 hy with h1 | h1
  · rw [h1]; omega
  · rcases List.mem_append.1 h1 with h2 | h2
    · exact be_bs _ _ y h2
    · exact be_bs _ _ y h2
/-- what a slot's serial and value tell -/
def Tel (n : Int) (v : List Int) (a : Nat) (lam gm : Int) : Prop := (n = 0 ∧ a = 0 ∧ lam = 1 ∧ gm = 0) ∨ (n ≠ 0 ∧ v = val9 a lam gm ∧ lam ≤ gm)
/-- at rest: nothing waits -/
structure VR (T S : Nat) (s : SS) (n : Int) (a : Nat) (lam gm : Int) (all : List (List Int)) : Prop where
  len : s.L.length = T
  fit : 2 + 2 * S ≤ T
  q : s.Q = []
  d : s.D = false
  sc : ∃ v, Sc s 0 n v ∧ Tel n v a lam gm
  a2 : a < 2
  lg : 1 ≤ lam ∧ lam ≤ gm + 1 ∧ 0 ≤ gm
  cg : ∀ b, b < 2 → ∀ k, k < S → Cg gm (s.lp (off S b) k)
  al : (scn (s.lp (off S a)) S S 0 lam).1 = all
section
variable {T S : Nat} {s : SS} {n : Int} {a : Nat} {lam gm : Int} {all : List (List Int)}
theorem lp_noq {s : SS} (h : s.Q = []) (o k : Nat) : s.lp o k = s.L[o + k]?.getD [] := by unfold SS.lp; rw [h]; rfl
theorem VR.fuse (h : VR T S s n a lam gm all) (F : Int) : VR T S (s.sf F) n a lam gm all := by
  obtain ⟨v, h1, h2⟩ := h.sc
  exact ⟨h.len, h.fit, h.q, h.d, ⟨v, ⟨h1.fit, h1.sl, h1.no⟩, h2⟩, h.a2, h.lg, h.cg, h.al⟩
/-- the same pages, but for the slot's -/
theorem vr_same {s s' : SS} {n' : Int} {gm' : Int} {v' : List Int} (h : VR T S s n a lam gm all) (hl : s'.L.length = s.L.length) (hq : s'.Q = []) (hd : s'.D = false) (hsc : Sc s' 0 n' v') (ht : Tel n' v' a lam gm') (hg : gm ≤ gm') (hp : ∀ i, 2 ≤ i → s'.L[i]? = s.L[i]?) : VR T S s' n' a lam gm' all := by
  have e : ∀ b, s'.lp (off S b) = s.lp (off S b) := fun b => by
    funext k
    rw [lp_noq hq, lp_noq h.q, hp _ (by have := off_ge S b; omega)]
  refine ⟨hl.trans h.len, h.fit, hq, hd, ⟨v', hsc, ht⟩, h.a2, by have := h.lg; omega, fun b hb k hk => by rw [e b]; exact (h.cg b hb k hk).more hg, by rw [e a]; exact h.al⟩
theorem VR.rest (h : VR T S s n a lam gm all) (ls : List Int) : VR T S (s.rs ls) n a lam gm all := by
  obtain ⟨v, h1, h2⟩ := h.sc
  have hl : (s.rs ls).L = s.L := by show mixs _ s.L s.Q s.Q.length = _; rw [h.q]; rfl
  exact vr_same h (by rw [hl]) rfl rfl (sc_rest h1 ls) h2 (Int.le_refl _) (fun i _ => by rw [hl])
/-- an opening's Save -/
theorem vr_save (h : VR T S s n a lam gm all) (hn : n + 1 < 18446744073709551616) :
    ((s.sv 0 (val9 a lam (gm + 1))).1 = 6 ∧ (s.sv 0 (val9 a lam (gm + 1))).2.2.D = true ∧ ∀ ls, VR T S ((s.sv 0 (val9 a lam (gm + 1))).2.2.rs ls) n a lam gm all ∨ VR T S ((s.sv 0 (val9 a lam (gm + 1))).2.2.rs ls) (n + 1) a lam (gm + 1) all) ∨
    ((s.sv 0 (val9 a lam (gm + 1))).1 = 0 ∧ VR T S (s.sv 0 (val9 a lam (gm + 1))).2.2 (n + 1) a lam (gm + 1) all) := by
  obtain ⟨v, h1, h2⟩ := h.sc
  have hn0 := h1.n0
  have hlg := h.lg
  have hB : (val9 a lam (gm + 1)).length ≤ 110 := by rw [val9_len]; decide
  have bB := val9_bs h.a2 lam (gm + 1)
  have ht : Tel (n + 1) (val9 a lam (gm + 1)) a lam (gm + 1) := .inr ⟨by omega, rfl, by omega⟩
  have hsd := sd_le n
  have hsv := sc_save h1 h.d hB bB hn
  rw [show ((0 : Nat) : Int) = 0 from rfl] at hsv
  rcases hsv with ⟨e1, e2, e3, e4⟩ | ⟨e1, e2, e3, e4, _, e5⟩
  · left
    refine ⟨e1, e2, fun ls => ?_⟩
    generalize (s.sv 0 (val9 a lam (gm + 1))).2.2 = s' at e2 e3 e4
    have far : ∀ i, 2 ≤ i → (s'.rs ls).L[i]? = s.L[i]? := fun i hi => by
      rw [rs_far (fun q hq => ?_) ls, e3]
      rcases e4 with e4 | e4
      · rw [e4, h.q] at hq; simp at hq
      · rw [e4, h.q] at hq
        simp only [List.nil_append, List.mem_singleton] at hq
        rw [hq]
        simp only
        omega
    have hl : (s'.rs ls).L.length = s.L.length := by show (mixs _ _ _ _).length = _; rw [mixs_length, e3]
    rcases e4 with e4 | e4
    · left
      have hs : Sc s' 0 n v := ⟨by rw [e3]; exact h1.fit, by rw [e3]; exact h1.sl, by rw [e4]; exact h1.no⟩
      exact vr_same h hl rfl rfl (sc_rest hs ls) h2 (Int.le_refl _) far
    · rcases sc_half h1 e3 e4 hB bB hn ls with hs | hs
      · exact .inl (vr_same h hl rfl rfl hs h2 (Int.le_refl _) far)
      · exact .inr (vr_same h hl rfl rfl hs ht (by omega) far)
  · right
    refine ⟨e1, vr_same h ?_ e3 e2 e5 ht (by omega) fun i hi => ?_⟩
    · rw [e4, List.length_set, pg_length]
    · rw [e4, List.getElem?_set_ne (by omega), h.q]; rfl
/-- the log that is opened then -/
theorem VR.log (h : VR T S s n a lam gm all) (hg : 1 ≤ gm ∧ gm < 4294967296) (hlam : lam ≤ gm) (hc : ∀ k, k < S → Cg (gm - 1) (s.lp (off S a) k)) :
    WI T (off S a) S lam (s.lp (off S a)) (s.lp (off S a)) (scn (s.lp (off S a)) S S 0 lam).2.1 (scn (s.lp (off S a)) S S 0 lam).2.1 all [] [] [] [] s ⟨gm, (scn (s.lp (off S a)) S S 0 lam).2.1, false⟩ all all.length := by
  have := wi_open (s := s) (a := off S a) (c := S) (lam := lam) h.len (off_fit h.fit h.a2) (fun r hr => by rw [h.q] at hr; simp at hr) hc hg hlam
  rw [h.al] at this
  exact this
end
/-- writes one behind the other: where they wait -/
theorem apw_q : ∀ (ps : List (List Int)) (i : Nat) (s : SS), (apw s i ps).2.L = s.L ∧ ∃ W, (apw s i ps).2.Q = s.Q ++ W ∧ ∀ q ∈ W, i ≤ q.1 ∧ q.1 < i + ps.length
  | [], i, s => ⟨rfl, [], by rw [List.append_nil]; rfl, fun q hq => by simp at hq⟩
  | p :: ps, i, s => by
    have h1 : (s.wr (i : Int) p).2.L = s.L ∧ ∃ W, (s.wr (i : Int) p).2.Q = s.Q ++ W ∧ ∀ q ∈ W, q.1 = i := by
      unfold SS.wr
      split
      · exact ⟨rfl, [], by simp, fun q hq => by simp at hq⟩
      · split
        · exact ⟨rfl, [], by simp, fun q hq => by simp at hq⟩
        · split
          · exact ⟨rfl, [], by simp, fun q hq => by simp at hq⟩
          · split
            · exact ⟨rfl, [], by simp, fun q hq => by simp at hq⟩
            · exact ⟨rfl, [((i : Int).toNat, p)], rfl, fun q hq => by rw [List.mem_singleton.1 hq]; simp⟩
    obtain ⟨a1, W1, a2, a3⟩ := h1
    unfold apw
    rw [List.length_cons]
    split
    · exact ⟨a1, W1, a2, fun q hq => by have := a3 q hq; omega⟩
    · obtain ⟨b1, W2, b2, b3⟩ := apw_q ps (i + 1) (s.wr (i : Int) p).2
      refine ⟨b1.trans a1, W1 ++ W2, by rw [b2, a2, List.append_assoc], fun q hq => ?_⟩
      rcases List.mem_append.1 hq with h | h
      · have := a3 q h; omega
      · have := b3 q h; omega
theorem ap_q (s : SS) (a c : Nat) (l : LS) (b : List Int) : (s.ap a c l b).2.1.L = s.L ∧ ∃ W, (s.ap a c l b).2.1.Q = s.Q ++ W ∧ ∀ q ∈ W, a ≤ q.1 ∧ q.1 < a + c := by
  have no : ∀ s' : SS, s'.L = s'.L ∧ ∃ W : List Wr, s'.Q = s'.Q ++ W ∧ ∀ q ∈ W, a ≤ q.1 ∧ q.1 < a + c := fun s' => ⟨rfl, [], by simp, fun q hq => by simp at hq⟩
  unfold SS.ap
  split
  · exact no s
  · split
    · exact no s
    · split
      · exact no s
      · rename_i hfull
        obtain ⟨h1, W, h2, h3⟩ := apw_q (rpg l.g l.n true (cut b)) (a + l.n) s
        rw [rpg_len] at h3
        have h4 : ∀ q ∈ W, a ≤ q.1 ∧ q.1 < a + c := fun q hq => by have := h3 q hq; omega
        split
        · exact ⟨h1, W, h2, h4⟩
        · exact ⟨h1, W, h2, h4⟩
theorem wr_ok_d {s : SS} {i : Int} {p : List Int} (hd : s.D = false) (h : (s.wr i p).1 = 0) : (s.wr i p).2.D = false := by
  unfold SS.wr at h ⊢
  rw [if_neg (by rw [hd]; simp)] at h ⊢
  split at h
  · simp at h
  · rename_i h1
    rw [if_neg h1]
    split at h
    · simp at h
    · rename_i h2
      rw [if_neg h2]
      split at h
      · simp at h
      · rename_i h3
        rw [if_neg h3]
theorem apw_ok_d : ∀ (ps : List (List Int)) (i : Nat) (s : SS), s.D = false → (apw s i ps).1 = 0 → (apw s i ps).2.D = false
  | [], i, s, hd, _ => hd
  | p :: ps, i, s, hd, h => by
    unfold apw at h ⊢
    by_cases h0 : (s.wr (i : Int) p).1 ≠ 0
    · rw [if_pos h0] at h
      exact (h0 h).elim
    · rw [if_neg h0] at h ⊢
      exact apw_ok_d ps (i + 1) _ (wr_ok_d hd (by simpa using h0)) h
theorem ap_d {s : SS} {a c : Nat} {l : LS} {b : List Int} (hd : s.D = false) (ho : l.o = false) (h : (s.ap a c l b).1 = 0) : (s.ap a c l b).2.1.D = false := by
  unfold SS.ap at h ⊢
  rw [if_neg (by rw [ho]; simp)] at h ⊢
  split at h
  · simp at h
  · rename_i h1
    rw [if_neg h1]
    split at h
    · simp at h
    · rename_i h2
      rw [if_neg h2]
      split at h
      · rename_i h3
        rw [if_pos h3]
        exact apw_ok_d _ _ _ hd h3
      · rename_i h3
        exact (h3 h).elim
/-- open: the power on, the vault not over -/
structure VU (T S : Nat) (s : SS) (n : Int) (a : Nat) (lam : Int) (l : LS) (all : List (List Int)) (sure : Nat) : Prop where
  len : s.L.length = T
  fit : 2 + 2 * S ≤ T
  a2 : a < 2
  n1 : n ≠ 0
  d : s.D = false
  o : l.o = false
  sc : Sc s 0 n (val9 a lam l.g)
  lg : 1 ≤ lam ∧ lam ≤ l.g ∧ l.g < 4294967296
  wi : ∃ Y N q0 M R A1 A2 P X, WI T (off S a) S lam Y N q0 M R A1 A2 P X s l all sure
  ia : ∀ k, k < S → Cg l.g (s.L[off S (1 - a) + k]?.getD [])
  iq : ∀ q ∈ s.Q, ¬ (off S (1 - a) ≤ q.1 ∧ q.1 < off S (1 - a) + S)
/-- the power is gone: what a restart leaves, whatever is kept -/
def VD (T S : Nat) (s : SS) (nm gm : Int) (all : List (List Int)) (sure : Nat) (other : List (List (List Int))) : Prop :=
  s.D = true ∧ ∀ ls, ∃ n a lam g y, VR T S (s.rs ls) n a lam g y ∧ n ≤ nm ∧ g ≤ gm ∧ ((sure ≤ y.length ∧ ∃ m, y = all.take m) ∨ y ∈ other)
/-- a restart of pages on which a log's writes wait, the slot's page resting -/
theorem rest_of {T S : Nat} {s : SS} {n : Int} {a : Nat} {lam g : Int} {l : LS} {all : List (List Int)} {sure : Nat} {Y N : Nat → List Int} {q0 M : Nat} {R A1 A2 P X : List (List Int)} (hl : s.L.length = T) (hf : 2 + 2 * S ≤ T) (ha : a < 2) (hn : n ≠ 0) (hlg : 1 ≤ lam ∧ lam ≤ g) (hw : WI T (off S a) S lam Y N q0 M R A1 A2 P X s l all sure) (hg : l.g ≤ g)
    (ia : ∀ k, k < S → Cg g (s.L[off S (1 - a) + k]?.getD [])) (iq : ∀ q ∈ s.Q, ¬ (off S (1 - a) ≤ q.1 ∧ q.1 < off S (1 - a) + S)) (ls : List Int) (hs : Sc (s.rs ls) 0 n (val9 a lam g)) :
    ∃ y, VR T S (s.rs ls) n a lam g y ∧ sure ≤ y.length ∧ ∃ m, y = all.take m := by
  obtain ⟨h1, h2, h3⟩ := wi_crash hw ls
  refine ⟨_, ⟨by show (mixs _ _ _ _).length = T; rw [mixs_length]; exact hl, hf, rfl, rfl, ⟨_, hs, .inr ⟨hn, rfl, hlg.2⟩⟩, ha, by omega, fun b hb k hk => ?_, rfl⟩, h1, h2⟩
  by_cases hba : b = a
  · rw [hba]; exact (h3 k hk).more hg
  · have e : b = 1 - a := by omega
    rw [e, lp_noq rfl, rs_far (fun q hq he => iq q hq (by omega)) ls]
    exact ia k hk
theorem VU.rest {T S : Nat} {s : SS} {n : Int} {a : Nat} {lam : Int} {l : LS} {all : List (List Int)} {sure : Nat} (h : VU T S s n a lam l all sure) (ls : List Int) : ∃ y, VR T S (s.rs ls) n a lam l.g y ∧ sure ≤ y.length ∧ ∃ m, y = all.take m := by
  obtain ⟨Y, N, q0, M, R, A1, A2, P, X, hw⟩ := h.wi
  exact rest_of h.len h.fit h.a2 h.n1 ⟨h.lg.1, h.lg.2.1⟩ hw (Int.le_refl _) h.ia h.iq ls (sc_rest h.sc ls)
theorem VU.fuse {T S : Nat} {s : SS} {n : Int} {a : Nat} {lam : Int} {l : LS} {all : List (List Int)} {sure : Nat} (h : VU T S s n a lam l all sure) (F : Int) : VU T S (s.sf F) n a lam l all sure := by
  obtain ⟨Y, N, q0, M, R, A1, A2, P, X, hw⟩ := h.wi
  exact ⟨h.len, h.fit, h.a2, h.n1, h.d, h.o, ⟨h.sc.fit, h.sc.sl, h.sc.no⟩, h.lg, ⟨_, _, _, _, _, _, _, _, _, wi_fuse hw F⟩, h.ia, h.iq⟩
theorem VD.fuse {T S : Nat} {s : SS} {nm gm : Int} {all : List (List Int)} {sure : Nat} {other : List (List (List Int))} (h : VD T S s nm gm all sure other) (F : Int) : VD T S (s.sf F) nm gm all sure other := h
theorem VD.app {T S : Nat} {s : SS} {nm gm : Int} {all : List (List Int)} {sure : Nat} {other : List (List (List Int))} (h : VD T S s nm gm all sure other) (b : List Int) : VD T S s nm gm (all ++ [b]) sure other := ⟨h.1, fun ls => by
  obtain ⟨n, a, lam, g, y, h1, h2, h3, h4⟩ := h.2 ls
  refine ⟨n, a, lam, g, y, h1, h2, h3, ?_⟩
  rcases h4 with ⟨h4, m, h5⟩ | h4
  · refine .inl ⟨h4, min m all.length, ?_⟩
    rw [List.take_append_of_le_length (Nat.min_le_right _ _), h5]
    rcases Nat.le_total m all.length with h | h
    · rw [Nat.min_eq_left h]
    · rw [Nat.min_eq_right h, List.take_of_length_le h, List.take_length]
  · exact .inr h4⟩
theorem VD.more {T S : Nat} {s : SS} {nm gm : Int} {all : List (List Int)} {sure : Nat} {other : List (List (List Int))} (h : VD T S s nm gm all sure other) (r : List (List Int)) : VD T S s nm gm all sure (other ++ [r]) := ⟨h.1, fun ls => by
  obtain ⟨n, a, lam, g, y, h1, h2, h3, h4⟩ := h.2 ls
  exact ⟨n, a, lam, g, y, h1, h2, h3, h4.imp id (fun h => List.mem_append_left _ h)⟩⟩
/-- Append -/
theorem VU.app {T S : Nat} {s : SS} {n : Int} {a : Nat} {lam : Int} {l : LS} {all : List (List Int)} {sure : Nat} (h : VU T S s n a lam l all sure) (h256 : l.g < 256) {b : List Int} (hb : Bs b) (h6 : b.length ≤ 6000) :
    ((s.ap (off S a) S l b).1 = 5 ∧ (s.ap (off S a) S l b).2 = (s, l)) ∨
    ((s.ap (off S a) S l b).1 = 0 ∧ VU T S (s.ap (off S a) S l b).2.1 n a lam (s.ap (off S a) S l b).2.2 (all ++ [b]) sure) ∨
    ((s.ap (off S a) S l b).1 = 6 ∧ VD T S (s.ap (off S a) S l b).2.1 n l.g (all ++ [b]) sure []) := by
  obtain ⟨Y, N, q0, M, R, A1, A2, P, X, hw⟩ := h.wi
  obtain ⟨hL, W, hQ, hWq⟩ := ap_q s (off S a) S l b
  have hlog : (s.ap (off S a) S l b).2.2.g = l.g := by
    unfold SS.ap
    repeat' split
    all_goals rfl
  rcases wi_append2 hw h256 hb h6 with h1 | ⟨h5, ho, N', M', A2', P', X', hw'⟩
  · exact .inl ⟨h1.1, h1.2.1⟩
  · right
    have hsc : Sc (s.ap (off S a) S l b).2.1 0 n (val9 a lam l.g) := ⟨by rw [hL]; exact h.sc.fit, by rw [hL]; exact h.sc.sl, fun q hq => by
      rw [hQ] at hq
      rcases List.mem_append.1 hq with h1 | h1
      · exact h.sc.no q h1
      · have := hWq q h1; have := off_ge S a; omega⟩
    have hia : ∀ k, k < S → Cg l.g ((s.ap (off S a) S l b).2.1.L[off S (1 - a) + k]?.getD []) := by rw [hL]; exact h.ia
    have hiq : ∀ q ∈ (s.ap (off S a) S l b).2.1.Q, ¬ (off S (1 - a) ≤ q.1 ∧ q.1 < off S (1 - a) + S) := fun q hq => by
      rw [hQ] at hq
      rcases List.mem_append.1 hq with h1 | h1
      · exact h.iq q h1
      · exact off_ne h.a2 (hWq q h1)
    rcases ho with ⟨h0, ho⟩ | ⟨h0, ho⟩
    · left
      exact ⟨h0, ⟨hL ▸ h.len, h.fit, h.a2, h.n1, ap_d h.d h.o h0, ho, by rw [hlog]; exact hsc, by rw [hlog]; exact h.lg, ⟨_, _, _, _, _, _, _, _, _, hw'⟩, by rw [hlog]; exact hia, hiq⟩⟩
    · right
      refine ⟨h0, hw'.dn ho, fun ls => ?_⟩
      obtain ⟨y, y1, y2, y3⟩ := rest_of (hL ▸ h.len) h.fit h.a2 h.n1 ⟨h.lg.1, h.lg.2.1⟩ hw' (by rw [hlog]; exact Int.le_refl _) hia hiq ls (sc_rest hsc ls)
      exact ⟨n, a, lam, l.g, y, y1, Int.le_refl _, Int.le_refl _, .inl ⟨y2, y3⟩⟩
/-- Flush -/
theorem VU.flu {T S : Nat} {s : SS} {n : Int} {a : Nat} {lam : Int} {l : LS} {all : List (List Int)} {sure : Nat} (h : VU T S s n a lam l all sure) :
    ((s.lf l).1 = 0 ∧ VU T S (s.lf l).2.1 n a lam (s.lf l).2.2 all all.length) ∨ ((s.lf l).1 = 6 ∧ VD T S (s.lf l).2.1 n l.g all sure []) := by
  obtain ⟨Y, N, q0, M, R, A1, A2, P, X, hw⟩ := h.wi
  have hf := wi_flush hw
  by_cases hF : s.F = 0
  · right
    have e : s.lf l = (6, ⟨s.L, s.Q, 0, true⟩, ⟨l.g, l.n, true⟩) := by
      unfold SS.lf SS.fl
      rw [if_neg (by rw [h.o]; simp), if_neg (by rw [h.d]; simp), if_pos hF]
      simp
    rw [e] at hf ⊢
    obtain ⟨A1', A2', X', hw'⟩ := hf
    rw [if_neg (by simp)] at hw'
    refine ⟨rfl, rfl, fun ls => ?_⟩
    obtain ⟨y, y1, y2, y3⟩ := rest_of (s := ⟨s.L, s.Q, 0, true⟩) h.len h.fit h.a2 h.n1 ⟨h.lg.1, h.lg.2.1⟩ hw' (Int.le_refl _) h.ia h.iq ls (sc_rest (h.sc.state 0 true) ls)
    exact ⟨n, a, lam, l.g, y, y1, Int.le_refl _, Int.le_refl _, .inl ⟨y2, y3⟩⟩
  · left
    have e : s.lf l = (0, ⟨pg s.L s.Q, [], bn s.F, false⟩, ⟨l.g, l.n, false⟩) := by
      unfold SS.lf SS.fl
      rw [if_neg (by rw [h.o]; simp), if_neg (by rw [h.d]; simp), if_neg hF]
      simp
    rw [e] at hf ⊢
    obtain ⟨A1', A2', X', hw'⟩ := hf
    rw [if_pos rfl] at hw'
    have hp := pg_t h.sc.no
    refine ⟨rfl, ⟨by rw [pg_length]; exact h.len, h.fit, h.a2, h.n1, rfl, rfl, ⟨by simp only; rw [pg_length]; exact h.sc.fit, by simp only; rw [hp.1, hp.2]; exact h.sc.sl, fun q hq => by simp at hq⟩, h.lg, ⟨_, _, _, _, _, _, _, _, _, hw'⟩, fun k hk => ?_, fun q hq => by simp at hq⟩⟩
    simp only
    rw [pg_far _ _ _ (fun q hq he => h.iq q hq (by omega))]
    exact h.ia k hk
end Go.Proofs.Ythfkooancgkjaaa
/-
  What this file is for: records that are put in the place of all, step by step. Nothing of the program is walked here.
-/
namespace Go.Proofs.Ythfkooancgkjaaa
open Go.ChangeShapes Go.WideShapes Go.ChangeAt Go.RowKit
set_option linter.unusedVariables false
set_option maxRecDepth 20000

theorem pg_app : ∀ (Q R : List Wr) (L : List (List Int)), pg L (Q ++ R) = pg (pg L Q) R
  | [], R, L => rfl
  | q :: Q, R, L => pg_app Q R (L.set q.1 q.2)
theorem pg_at_same : ∀ (Q : List Wr) (L L' : List (List Int)) (i : Nat), L'.length = L.length → L'[i]? = L[i]? → (pg L' Q)[i]? = (pg L Q)[i]?
  | [], L, L', i, _, h => h
  | q :: Q, L, L', i, hl, h => by
    show (pg (L'.set q.1 q.2) Q)[i]? = (pg (L.set q.1 q.2) Q)[i]?
    refine pg_at_same Q _ _ i (by rw [List.length_set, List.length_set, hl]) ?_
    rw [List.getElem?_set, List.getElem?_set, hl, h]
section
variable {T a c : Nat} {lam : Int} {Y N : Nat → List Int} {q0 M : Nat} {R A1 A2 P X : List (List Int)} {s s' : SS} {l : LS} {all : List (List Int)} {sure : Nat}
/-- the log's own pages and writes alone tell -/
theorem wi_same (h : WI T a c lam Y N q0 M R A1 A2 P X s l all sure) (hl : s'.L.length = s.L.length) (hL : ∀ k, k < c → s'.L[a + k]? = s.L[a + k]?) {W : List Wr} (hQ : s'.Q = s.Q ++ W) (hW : ∀ q ∈ W, ¬ (a ≤ q.1 ∧ q.1 < a + c)) (hd : l.o = true → s'.D = true) : WI T a c lam Y N q0 M R A1 A2 P X s' l all sure := by
  refine ⟨h.hg, h.h2, h.cy, h.q, h.r, h.ra, h.bs, h.m1, h.m2, h.m3, h.al, h.su, ⟨hl.trans h.pi.len, h.pi.fit, fun k hk => by rw [hL k hk]; exact h.pi.lo k hk, fun r hr h1 h2 => ?_, fun k hk => ?_⟩, h.up, hd⟩
  · rw [hQ] at hr
    rcases List.mem_append.1 hr with h3 | h3
    · exact h.pi.wq r h3 h1 h2
    · exact (hW r h3 ⟨h1, h2⟩).elim
  · have e : (pg s'.L s'.Q)[a + k]? = (pg s.L s.Q)[a + k]? := by
      rw [hQ, pg_app, pg_far W _ _ (fun q hq e => hW q hq (by omega))]
      exact pg_at_same _ _ _ _ hl (hL k hk)
    rw [e]
    exact h.pi.pq k hk
end

/-- records appended in turn, till one isn't -/
def SS.aps (a c : Nat) : SS → LS → List (List Int) → Int × SS × LS
  | s, l, [] => (0, s, l)
  | s, l, b :: bs => if (s.ap a c l b).1 ≠ 0 then s.ap a c l b else SS.aps a c (s.ap a c l b).2.1 (s.ap a c l b).2.2 bs
/-- Replace, behind its checks, from stage to stage: what ends it, or what stands ahead of the next one -/
structure R1 (T S : Nat) (s1 : SS) (n1 : Int) (a : Nat) (lam g : Int) (all : List (List Int)) : Prop where
  vr : VR T S s1 n1 a lam g all
  sc : Sc s1 0 n1 (val9 a lam g)
  n0 : n1 ≠ 0
  lg : lam ≤ g
  cg : ∀ k, k < S → Cg (g - 1) (s1.lp (off S (1 - a)) k)
/-- the first Save -/
theorem VU.one {T S : Nat} {s : SS} {n : Int} {a : Nat} {lam : Int} {l : LS} {all : List (List Int)} {sure : Nat} (h : VU T S s n a lam l all sure) (hn : n + 1 < 18446744073709551616) :
    ((s.sv 0 (val9 a lam (l.g + 1))).1 = 6 ∧ VD T S (s.sv 0 (val9 a lam (l.g + 1))).2.2 (n + 1) (l.g + 1) all sure []) ∨
    ((s.sv 0 (val9 a lam (l.g + 1))).1 = 0 ∧ R1 T S (s.sv 0 (val9 a lam (l.g + 1))).2.2 (n + 1) a lam (l.g + 1) all ∧ (s.sv 0 (val9 a lam (l.g + 1))).2.2.F = bn (bn s.F)) := by
  obtain ⟨Y, N, q0, M, R, A1, A2, P, X, hw⟩ := h.wi
  have hB : (val9 a lam (l.g + 1)).length ≤ 110 := by rw [val9_len]; decide
  have bB := val9_bs h.a2 lam (l.g + 1)
  have hn0 := h.sc.n0
  have hsd := sd_le n
  have hlg := h.lg
  have hoff := off_ge S a
  have hoff' := off_ge S (1 - a)
  have hsv := sc_save h.sc h.d hB bB hn
  rw [show ((0 : Nat) : Int) = 0 from rfl] at hsv
  rcases hsv with ⟨e1, e2, e3, e4⟩ | ⟨e1, e2, e3, e4, e6, e5⟩
  · left
    refine ⟨e1, e2, fun ls => ?_⟩
    generalize (s.sv 0 (val9 a lam (l.g + 1))).2.2 = s' at e2 e3 e4
    have mk : ∀ W : List Wr, s'.Q = s.Q ++ W → (∀ q ∈ W, q.1 < 2) → ∀ g', l.g ≤ g' → ∀ n', n' ≠ 0 → Sc (s'.rs ls) 0 n' (val9 a lam g') → ∃ y, VR T S (s'.rs ls) n' a lam g' y ∧ sure ≤ y.length ∧ ∃ m, y = all.take m := fun W hQ hW g' hg' n' hn' hs' =>
      rest_of (by rw [e3]; exact h.len) h.fit h.a2 hn' ⟨hlg.1, by omega⟩ (wi_same hw (by rw [e3]) (fun k _ => by rw [e3]) hQ (fun q hq hh => by have := hW q hq; omega) (fun ho => e2)) hg' (fun k hk => by rw [e3]; exact (h.ia k hk).more hg') (fun q hq hh => by
        rw [hQ] at hq
        rcases List.mem_append.1 hq with h1 | h1
        · exact h.iq q h1 hh
        · have := hW q h1; omega) ls hs'
    rcases e4 with e4 | e4
    · have hs : Sc s' 0 n (val9 a lam l.g) := ⟨by rw [e3]; exact h.sc.fit, by rw [e3]; exact h.sc.sl, by rw [e4]; exact h.sc.no⟩
      obtain ⟨y, y1, y2, y3⟩ := mk [] (by rw [e4, List.append_nil]) (fun q hq => by simp at hq) l.g (Int.le_refl _) n h.n1 (sc_rest hs ls)
      exact ⟨n, a, lam, l.g, y, y1, by omega, by omega, .inl ⟨y2, y3⟩⟩
    · have hW : ∀ q ∈ [((0 + sd n : Nat), pgl (n + 1) (val9 a lam (l.g + 1)))], q.1 < 2 := fun q hq => by rw [List.mem_singleton.1 hq]; simp only; omega
      rcases sc_half h.sc e3 e4 hB bB hn ls with hs | hs
      · obtain ⟨y, y1, y2, y3⟩ := mk _ e4 hW l.g (Int.le_refl _) n h.n1 hs
        exact ⟨n, a, lam, l.g, y, y1, by omega, by omega, .inl ⟨y2, y3⟩⟩
      · obtain ⟨y, y1, y2, y3⟩ := mk _ e4 hW (l.g + 1) (by omega) (n + 1) (by omega) hs
        exact ⟨n + 1, a, lam, l.g + 1, y, y1, Int.le_refl _, Int.le_refl _, .inl ⟨y2, y3⟩⟩
  · right
    obtain ⟨f1, f2, f3⟩ := wi_found hw h.o
    generalize (s.sv 0 (val9 a lam (l.g + 1))).2.2 = s' at e2 e3 e4 e5 e6
    have hlp : ∀ i, 2 ≤ i → s'.L[i]? = (pg s.L s.Q)[i]? := fun i hi => by rw [e4, List.getElem?_set_ne (by omega)]
    have ha : s'.lp (off S a) = s.lp (off S a) := by
      funext k
      rw [lp_noq e3, hlp _ (by omega)]
      rfl
    have hb : ∀ k, k < S → s'.lp (off S (1 - a)) k = s.L[off S (1 - a) + k]?.getD [] := fun k hk => by
      rw [lp_noq e3, hlp _ (by omega), pg_far _ _ _ (fun q hq he => h.iq q hq (by omega))]
    refine ⟨e1, ⟨⟨by rw [e4, List.length_set, pg_length]; exact h.len, h.fit, e3, e2, ⟨_, e5, .inr ⟨by omega, rfl, by omega⟩⟩, h.a2, by omega, fun b hb2 k hk => ?_, by rw [ha]; exact f1⟩, e5, by omega, by omega, fun k hk => ?_⟩, e6⟩
    · by_cases hba : b = a
      · rw [hba, ha]; exact (f3 k hk).more (by omega)
      · have e : b = 1 - a := by have := h.a2; omega
        rw [e, hb k hk]; exact (h.ia k hk).more (by omega)
    · rw [hb k hk, Int.add_sub_cancel]; exact h.ia k hk
/-- within the other area -/
structure R2 (T S : Nat) (s1 : SS) (a : Nat) (g : Int) (done : List (List Int)) (sure : Nat) (s2 : SS) (l2 : LS) : Prop where
  L : s2.L.length = s1.L.length ∧ ∀ i, ¬ (off S (1 - a) ≤ i ∧ i < off S (1 - a) + S) → s2.L[i]? = s1.L[i]?
  q : ∀ q ∈ s2.Q, off S (1 - a) ≤ q.1 ∧ q.1 < off S (1 - a) + S
  gg : l2.g = g
  wi : ∃ Y N q0 M A1 A2 P X, WI T (off S (1 - a)) S g Y N q0 M [] A1 A2 P X s2 l2 done sure
theorem r2_begin {T S : Nat} {s1 : SS} {n1 : Int} {a : Nat} {lam g : Int} {all : List (List Int)} (h : R1 T S s1 n1 a lam g all) (hg : 1 ≤ g ∧ g < 4294967296) :
    (scn (s1.lp (off S (1 - a))) S S 0 g) = ([], 0, g) ∧ R2 T S s1 a g [] 0 s1 ⟨g, 0, false⟩ := by
  have hs := scn_low (Z := s1.lp (off S (1 - a))) (n := S) (G := g - 1) (l := g) h.cg (by omega) S 0
  have hw := wi_open (s := s1) (a := off S (1 - a)) (c := S) (lam := g) (g := g) h.vr.len (off_fit h.vr.fit (by have := h.vr.a2; omega)) (fun r hr => by rw [h.vr.q] at hr; simp at hr) h.cg hg (Int.le_refl _)
  rw [hs] at hw
  exact ⟨hs, ⟨⟨rfl, fun _ _ => rfl⟩, fun q hq => by rw [h.vr.q] at hq; simp at hq, rfl, ⟨_, _, _, _, _, _, _, _, hw⟩⟩⟩
/-- what a restart leaves then: all as it was -/
theorem r2_rest {T S : Nat} {s1 : SS} {n1 : Int} {a : Nat} {lam g : Int} {all done : List (List Int)} {sure : Nat} {s2 : SS} {l2 : LS} (h : R1 T S s1 n1 a lam g all) (k : R2 T S s1 a g done sure s2 l2) (ls : List Int) : VR T S (s2.rs ls) n1 a lam g all := by
  obtain ⟨Y, N, q0, M, A1, A2, P, X, hw⟩ := k.wi
  obtain ⟨_, _, h3⟩ := wi_crash hw ls
  have hoff := off_ge S (1 - a)
  have hl : (s2.rs ls).L.length = s1.L.length := by show (mixs _ _ _ _).length = _; rw [mixs_length]; exact k.L.1
  have far : ∀ i, ¬ (off S (1 - a) ≤ i ∧ i < off S (1 - a) + S) → (s2.rs ls).L[i]? = s1.L[i]? := fun i hi => by
    rw [rs_far (fun q hq he => hi (by rw [← he]; exact k.q q hq)) ls]
    exact k.L.2 i hi
  have hfa : ∀ j, j < S → (s2.rs ls).lp (off S a) j = s1.lp (off S a) j := fun j hj => by
    rw [lp_noq rfl, lp_noq h.vr.q, far _ (off_ne h.vr.a2 ⟨by omega, by omega⟩)]
  have e : scn ((s2.rs ls).lp (off S a)) S S 0 lam = scn (s1.lp (off S a)) S S 0 lam := scn_ext hfa S 0 lam
  refine ⟨hl.trans h.vr.len, h.vr.fit, rfl, rfl, ⟨val9 a lam g, ⟨by rw [hl]; exact h.sc.fit, by rw [far 0 (by omega), far (0 + 1) (by omega)]; exact h.sc.sl, fun q hq => by simp [SS.rs] at hq⟩, .inr ⟨h.n0, rfl, h.lg⟩⟩, h.vr.a2, h.vr.lg, fun b hb j hj => ?_, by rw [e]; exact h.vr.al⟩
  by_cases hba : b = a
  · rw [hba, hfa j hj]; exact h.vr.cg a h.vr.a2 j hj
  · have e2 : b = 1 - a := by have := h.vr.a2; omega
    rw [e2]
    have := h3 j hj
    rw [k.gg] at this
    exact this
theorem r2_down {T S : Nat} {s1 : SS} {n1 : Int} {a : Nat} {lam g : Int} {all done : List (List Int)} {sure sure0 : Nat} {s2 : SS} {l2 : LS} (h : R1 T S s1 n1 a lam g all) (hs : sure0 ≤ all.length) (k : R2 T S s1 a g done sure s2 l2) (hd : s2.D = true) (other : List (List (List Int))) : VD T S s2 n1 g all sure0 other :=
  ⟨hd, fun ls => ⟨n1, a, lam, g, all, r2_rest h k ls, Int.le_refl _, Int.le_refl _, .inl ⟨hs, all.length, by rw [List.take_length]⟩⟩⟩
/-- one record more -/
theorem r2_app {T S : Nat} {s1 : SS} {n1 : Int} {a : Nat} {lam g : Int} {all done : List (List Int)} {s2 : SS} {l2 : LS} (h : R1 T S s1 n1 a lam g all) (hg : 1 ≤ g ∧ g < 256) (k : R2 T S s1 a g done 0 s2 l2) (hd : s2.D = false) (ho : l2.o = false) {b : List Int} (hb : Bs b) (h6 : b.length ≤ 6000) (hp : l2.n + (cut b).length ≤ S) :
    ((s2.ap (off S (1 - a)) S l2 b).1 = 0 ∧ (s2.ap (off S (1 - a)) S l2 b).2.1.D = false ∧ (s2.ap (off S (1 - a)) S l2 b).2.2.o = false ∧ (s2.ap (off S (1 - a)) S l2 b).2.2.n = l2.n + (cut b).length ∧ R2 T S s1 a g (done ++ [b]) 0 (s2.ap (off S (1 - a)) S l2 b).2.1 (s2.ap (off S (1 - a)) S l2 b).2.2) ∨
    ((s2.ap (off S (1 - a)) S l2 b).1 = 6 ∧ (s2.ap (off S (1 - a)) S l2 b).2.1.D = true ∧ R2 T S s1 a g (done ++ [b]) 0 (s2.ap (off S (1 - a)) S l2 b).2.1 (s2.ap (off S (1 - a)) S l2 b).2.2) := by
  obtain ⟨Y, N, q0, M, A1, A2, P, X, hw⟩ := k.wi
  obtain ⟨hL, W, hQ, hWq⟩ := ap_q s2 (off S (1 - a)) S l2 b
  have hlog : (s2.ap (off S (1 - a)) S l2 b).2.2.g = l2.g := by
    unfold SS.ap
    repeat' split
    all_goals rfl
  have mk : ∀ N' M' A2' P' X', WI T (off S (1 - a)) S g Y N' q0 M' [] A1 A2' P' X' (s2.ap (off S (1 - a)) S l2 b).2.1 (s2.ap (off S (1 - a)) S l2 b).2.2 (done ++ [b]) 0 → R2 T S s1 a g (done ++ [b]) 0 (s2.ap (off S (1 - a)) S l2 b).2.1 (s2.ap (off S (1 - a)) S l2 b).2.2 := fun N' M' A2' P' X' hw' =>
    ⟨by rw [hL]; exact k.L, fun q hq => by
      rw [hQ] at hq
      rcases List.mem_append.1 hq with h1 | h1
      · exact k.q q h1
      · exact hWq q h1, by rw [hlog]; exact k.gg, ⟨_, _, _, _, _, _, _, _, hw'⟩⟩
  rcases wi_append2 hw (by rw [k.gg]; exact hg.2) hb h6 with h1 | ⟨h5, hor, N', M', A2', P', X', hw'⟩
  · exfalso
    have := h1.2.2
    omega
  · rcases hor with ⟨e0, eo⟩ | ⟨e0, eo⟩
    · refine .inl ⟨e0, ap_d hd ho e0, eo, ?_, mk _ _ _ _ _ hw'⟩
      unfold SS.ap at e0 ⊢
      rw [if_neg (by rw [ho]; simp), if_neg (by omega), if_neg (by omega)] at e0 ⊢
      split at e0
      · rename_i h0
        rw [if_pos h0]
      · rename_i h0
        exact (h0 e0).elim
    · exact .inr ⟨e0, hw'.dn eo, mk _ _ _ _ _ hw'⟩
/-- all records, in turn -/
theorem r2_aps {T S : Nat} {s1 : SS} {n1 : Int} {a : Nat} {lam g : Int} {all : List (List Int)} (h : R1 T S s1 n1 a lam g all) (hg : 1 ≤ g ∧ g < 256) : ∀ (rs done : List (List Int)) (s2 : SS) (l2 : LS), R2 T S s1 a g done 0 s2 l2 → s2.D = false → l2.o = false → (∀ r ∈ rs, Bs r ∧ r.length ≤ 6000) → l2.n + pgs rs ≤ S →
    ((SS.aps (off S (1 - a)) S s2 l2 rs).1 = 0 ∧ (SS.aps (off S (1 - a)) S s2 l2 rs).2.1.D = false ∧ (SS.aps (off S (1 - a)) S s2 l2 rs).2.2.o = false ∧ R2 T S s1 a g (done ++ rs) 0 (SS.aps (off S (1 - a)) S s2 l2 rs).2.1 (SS.aps (off S (1 - a)) S s2 l2 rs).2.2) ∨
    ((SS.aps (off S (1 - a)) S s2 l2 rs).1 = 6 ∧ (SS.aps (off S (1 - a)) S s2 l2 rs).2.1.D = true ∧ ∃ done', R2 T S s1 a g done' 0 (SS.aps (off S (1 - a)) S s2 l2 rs).2.1 (SS.aps (off S (1 - a)) S s2 l2 rs).2.2)
  | [], done, s2, l2, k, hd, ho, _, _ => .inl ⟨rfl, hd, ho, by rw [List.append_nil]; exact k⟩
  | b :: bs, done, s2, l2, k, hd, ho, hb, hp => by
    have hpg : pgs (b :: bs) = (cut b).length + pgs bs := rfl
    obtain ⟨hb1, hb2⟩ := hb b (by simp)
    unfold SS.aps
    rcases r2_app h hg k hd ho hb1 hb2 (by omega) with ⟨e0, e1, e2, e3, e4⟩ | ⟨e0, e1, e2⟩
    · rw [if_neg (by rw [e0]; simp)]
      have := r2_aps h hg bs (done ++ [b]) _ _ e4 e1 e2 (fun r hr => hb r (List.mem_cons_of_mem _ hr)) (by rw [e3]; omega)
      rw [List.append_assoc] at this
      exact this
    · rw [if_pos (by rw [e0]; simp)]
      exact .inr ⟨e0, e1, _, e2⟩
/-- they are flushed -/
theorem r2_flush {T S : Nat} {s1 : SS} {n1 : Int} {a : Nat} {lam g : Int} {all done : List (List Int)} {s2 : SS} {l2 : LS} (h : R1 T S s1 n1 a lam g all) (k : R2 T S s1 a g done 0 s2 l2) (hd : s2.D = false) (ho : l2.o = false) :
    ((s2.lf l2).1 = 0 ∧ (s2.lf l2).2.1.D = false ∧ (s2.lf l2).2.2.o = false ∧ (s2.lf l2).2.1.Q = [] ∧ R2 T S s1 a g done done.length (s2.lf l2).2.1 (s2.lf l2).2.2) ∨
    ((s2.lf l2).1 = 6 ∧ (s2.lf l2).2.1.D = true ∧ ∃ sure', R2 T S s1 a g done sure' (s2.lf l2).2.1 (s2.lf l2).2.2) := by
  obtain ⟨Y, N, q0, M, A1, A2, P, X, hw⟩ := k.wi
  have hf := wi_flush hw
  by_cases hF : s2.F = 0
  · right
    have e : s2.lf l2 = (6, ⟨s2.L, s2.Q, 0, true⟩, ⟨l2.g, l2.n, true⟩) := by
      unfold SS.lf SS.fl
      rw [if_neg (by rw [ho]; simp), if_neg (by rw [hd]; simp), if_pos hF]
      simp
    rw [e] at hf ⊢
    obtain ⟨A1', A2', X', hw'⟩ := hf
    exact ⟨rfl, rfl, _, ⟨k.L, k.q, k.gg, ⟨_, _, _, _, _, _, _, _, hw'⟩⟩⟩
  · left
    have e : s2.lf l2 = (0, ⟨pg s2.L s2.Q, [], bn s2.F, false⟩, ⟨l2.g, l2.n, false⟩) := by
      unfold SS.lf SS.fl
      rw [if_neg (by rw [ho]; simp), if_neg (by rw [hd]; simp), if_neg hF]
      simp
    rw [e] at hf ⊢
    obtain ⟨A1', A2', X', hw'⟩ := hf
    rw [if_pos rfl] at hw'
    refine ⟨rfl, rfl, rfl, rfl, ⟨⟨by simp only; rw [pg_length]; exact k.L.1, fun i hi => ?_⟩, fun q hq => by simp at hq, k.gg, ⟨_, _, _, _, _, _, _, _, hw'⟩⟩⟩
    simp only
    rw [pg_far _ _ _ (fun q hq he => hi (by rw [← he]; exact k.q q hq))]
    exact k.L.2 i hi
/-- the second Save: the other area is the active one -/
theorem r2_save {T S : Nat} {s1 : SS} {n1 : Int} {a : Nat} {lam g : Int} {all rs : List (List Int)} {sure0 : Nat} {s3 : SS} {l3 : LS} (h : R1 T S s1 n1 a lam g all) (hs0 : sure0 ≤ all.length) (hg : 1 ≤ g ∧ g < 256) (k : R2 T S s1 a g rs rs.length s3 l3) (hd : s3.D = false) (ho : l3.o = false) (hQ : s3.Q = []) (hn : n1 + 1 < 18446744073709551616) :
    ((s3.sv 0 (val9 (1 - a) g g)).1 = 0 ∧ VU T S (s3.sv 0 (val9 (1 - a) g g)).2.2 (n1 + 1) (1 - a) g l3 rs rs.length) ∨
    ((s3.sv 0 (val9 (1 - a) g g)).1 = 6 ∧ VD T S (s3.sv 0 (val9 (1 - a) g g)).2.2 (n1 + 1) g all sure0 [rs]) := by
  obtain ⟨Y, N, q0, M, A1, A2, P, X, hw⟩ := k.wi
  have ha2 := h.vr.a2
  have hoff := off_ge S a
  have hoff' := off_ge S (1 - a)
  have hB : (val9 (1 - a) g g).length ≤ 110 := by rw [val9_len]; decide
  have bB := val9_bs (a := 1 - a) (by omega) g g
  have hsc : Sc s3 0 n1 (val9 a lam g) := ⟨by rw [k.L.1]; exact h.sc.fit, by rw [k.L.2 0 (by omega), k.L.2 (0 + 1) (by omega)]; exact h.sc.sl, fun q hq => by rw [hQ] at hq; simp at hq⟩
  have hn0 := hsc.n0
  have hsd := sd_le n1
  obtain ⟨f1, f2, f3⟩ := wi_found hw ho
  rw [k.gg] at f3
  have hact : ∀ i, ¬ (off S (1 - a) ≤ i ∧ i < off S (1 - a) + S) → s3.L[i]? = s1.L[i]? := k.L.2
  -- the pages of the elder area, wherever they are looked at
  have elder : ∀ j, j < S → s3.L[off S a + j]?.getD [] = s1.lp (off S a) j := fun j hj => by rw [lp_noq h.vr.q, hact _ (off_ne ha2 ⟨by omega, by omega⟩)]
  have hsv := sc_save hsc hd hB bB hn
  rw [show ((0 : Nat) : Int) = 0 from rfl] at hsv
  rcases hsv with ⟨e1, e2, e3, e4⟩ | ⟨e1, e2, e3, e4, e6, e5⟩
  · right
    refine ⟨e1, e2, fun ls => ?_⟩
    generalize (s3.sv 0 (val9 (1 - a) g g)).2.2 = s' at e2 e3 e4
    have far : ∀ i, 2 ≤ i → (s'.rs ls).L[i]? = s3.L[i]? := fun i hi => by
      rw [rs_far (fun q hq => ?_) ls, e3]
      rcases e4 with e4 | e4
      · rw [e4, hQ] at hq; simp at hq
      · rw [e4, hQ] at hq
        simp only [List.nil_append, List.mem_singleton] at hq
        rw [hq]
        simp only
        omega
    have hl : (s'.rs ls).L.length = s3.L.length := by show (mixs _ _ _ _).length = _; rw [mixs_length, e3]
    have lpA : ∀ j, j < S → (s'.rs ls).lp (off S a) j = s1.lp (off S a) j := fun j hj => by rw [lp_noq rfl, far _ (by omega)]; exact elder j hj
    have lpB : (s'.rs ls).lp (off S (1 - a)) = s3.lp (off S (1 - a)) := by funext j; rw [lp_noq rfl, lp_noq hQ, far _ (by omega)]
    have cgs : ∀ b, b < 2 → ∀ j, j < S → Cg g ((s'.rs ls).lp (off S b) j) := fun b hb j hj => by
      by_cases hba : b = a
      · rw [hba, lpA j hj]; exact h.vr.cg a ha2 j hj
      · have e : b = 1 - a := by omega
        rw [e, lpB]; exact f3 j hj
    have lenT : (s'.rs ls).L.length = T := by rw [hl, k.L.1]; exact h.vr.len
    have old : Sc (s'.rs ls) 0 n1 (val9 a lam g) → ∃ n a' lam' g' y, VR T S (s'.rs ls) n a' lam' g' y ∧ n ≤ n1 + 1 ∧ g' ≤ g ∧ ((sure0 ≤ y.length ∧ ∃ m, y = all.take m) ∨ y ∈ [rs]) := fun hs' =>
      ⟨n1, a, lam, g, all, ⟨lenT, h.vr.fit, rfl, rfl, ⟨_, hs', .inr ⟨h.n0, rfl, h.lg⟩⟩, ha2, h.vr.lg, cgs, by rw [scn_ext lpA S 0 lam]; exact h.vr.al⟩, by omega, Int.le_refl _, .inl ⟨hs0, all.length, by rw [List.take_length]⟩⟩
    rcases e4 with e4 | e4
    · have hs : Sc s' 0 n1 (val9 a lam g) := ⟨by rw [e3]; exact hsc.fit, by rw [e3]; exact hsc.sl, by rw [e4]; exact hsc.no⟩
      exact old (sc_rest hs ls)
    · rcases sc_half hsc e3 e4 hB bB hn ls with hs | hs
      · exact old hs
      · exact ⟨n1 + 1, 1 - a, g, g, rs, ⟨lenT, h.vr.fit, rfl, rfl, ⟨_, hs, .inr ⟨by omega, rfl, Int.le_refl _⟩⟩, by omega, by omega, cgs, by rw [lpB]; exact f1⟩, Int.le_refl _, Int.le_refl _, .inr (by simp)⟩
  · left
    generalize (s3.sv 0 (val9 (1 - a) g g)).2.2 = s' at e2 e3 e4 e5 e6
    have hlp : ∀ i, 2 ≤ i → s'.L[i]? = s3.L[i]? := fun i hi => by rw [e4, List.getElem?_set_ne (by omega), hQ]; rfl
    have hl : s'.L.length = s3.L.length := by rw [e4, List.length_set, pg_length]
    have h1a : 1 - (1 - a) = a := by omega
    refine ⟨e1, ⟨hl.trans (k.L.1.trans h.vr.len), h.vr.fit, by omega, by omega, e2, ho, by rw [k.gg]; exact e5, by rw [k.gg]; omega, ⟨Y, N, q0, M, [], A1, A2, P, X, wi_same hw hl (fun j _ => hlp _ (by omega)) (W := []) (by rw [e3, hQ]; rfl) (fun q hq => by simp at hq) (fun hh => by rw [ho] at hh; cases hh)⟩, fun j hj => ?_, fun q hq => by rw [e3] at hq; simp at hq⟩⟩
    rw [h1a, k.gg, hlp _ (by omega), elder j hj]
    exact h.vr.cg a ha2 j hj
end Go.Proofs.Ythfkooancgkjaaa
/-
  What this file is for: a vault's calls in one word each: openings, also those within which the power goes; records in the place of all. Nothing of the program is walked here.
-/
namespace Go.Proofs.Ythfkooancgkjaaa
open Go.ChangeShapes Go.WideShapes Go.ChangeAt Go.RowKit
set_option linter.unusedVariables false
set_option maxRecDepth 20000

/-! With the power on. -/
theorem fl_on {s : SS} (hF : s.F = -1) (hd : s.D = false) : s.fl.2.F = -1 ∧ s.fl.2.D = false ∧ s.fl.1 = 0 := by
  unfold SS.fl
  rw [if_neg (by rw [hd]; simp), if_neg (by rw [hF]; decide)]
  exact ⟨by simp only [hF]; rfl, rfl, rfl⟩
theorem sv_on {s : SS} (hF : s.F = -1) (hd : s.D = false) (t : Int) (B : List Int) : (s.sv t B).2.2.F = -1 ∧ (s.sv t B).2.2.D = false := by
  have h1 : ∀ j x, (s.wr j x).2.F = -1 ∧ (s.wr j x).2.D = false := fun j x => wr_on hF hd j x
  have h2 : ∀ j x, (s.wr j x).2.fl.2.F = -1 ∧ (s.wr j x).2.fl.2.D = false := fun j x => ⟨(fl_on (h1 j x).1 (h1 j x).2).1, (fl_on (h1 j x).1 (h1 j x).2).2.1⟩
  unfold SS.sv
  split
  · exact ⟨hF, hd⟩
  · split
    · exact ⟨hF, hd⟩
    · split
      · exact ⟨hF, hd⟩
      · split
        · exact h1 _ _
        · split
          · exact h2 _ _
          · exact h2 _ _
theorem lf_on {s : SS} (hF : s.F = -1) (hd : s.D = false) (l : LS) : (s.lf l).2.1.F = -1 ∧ (s.lf l).2.1.D = false := by
  unfold SS.lf
  split
  · exact ⟨hF, hd⟩
  · exact ⟨(fl_on hF hd).1, (fl_on hF hd).2.1⟩
theorem ap_on {s : SS} (hF : s.F = -1) (hd : s.D = false) (a c : Nat) (l : LS) (b : List Int) : (s.ap a c l b).2.1.F = -1 ∧ (s.ap a c l b).2.1.D = false := by
  have h1 := apw_on (rpg l.g l.n true (cut b)) s (a + l.n) hF hd
  unfold SS.ap
  split
  · exact ⟨hF, hd⟩
  · split
    · exact ⟨hF, hd⟩
    · split
      · exact ⟨hF, hd⟩
      · split
        · exact h1
        · exact h1
theorem aps_on (a c : Nat) : ∀ (rs : List (List Int)) (s : SS) (l : LS), s.F = -1 → s.D = false → (SS.aps a c s l rs).2.1.F = -1 ∧ (SS.aps a c s l rs).2.1.D = false
  | [], s, l, hF, hd => ⟨hF, hd⟩
  | b :: bs, s, l, hF, hd => by
    have h := ap_on hF hd a c l b
    unfold SS.aps
    split
    · exact h
    · exact aps_on a c bs _ _ h.1 h.2

/-! Openings. -/
section
variable {T S : Nat} {s : SS} {n : Int} {a : Nat} {lam gm : Int} {all : List (List Int)}
/-- an opening whose Save was answered OK -/
theorem vr_up (h : VR T S s n a lam gm all) (hn : n + 1 < 18446744073709551616) (hg : gm + 1 < 4294967296) (he : (s.sv 0 (val9 a lam (gm + 1))).1 = 0) :
    VR T S (s.sv 0 (val9 a lam (gm + 1))).2.2 (n + 1) a lam (gm + 1) all ∧
    VU T S (s.sv 0 (val9 a lam (gm + 1))).2.2 (n + 1) a lam ⟨gm + 1, (scn ((s.sv 0 (val9 a lam (gm + 1))).2.2.lp (off S a)) S S 0 lam).2.1, false⟩ all all.length := by
  obtain ⟨v, h1, h2⟩ := h.sc
  have hn0 := h1.n0
  have hlg := h.lg
  have hB : (val9 a lam (gm + 1)).length ≤ 110 := by rw [val9_len]; decide
  have bB := val9_bs h.a2 lam (gm + 1)
  have hsd := sd_le n
  have hsv := sc_save h1 h.d hB bB hn
  rw [show ((0 : Nat) : Int) = 0 from rfl] at hsv
  rcases hsv with ⟨e1, _⟩ | ⟨e1, e2, e3, e4, _, e5⟩
  · rw [he] at e1; cases e1
  · have ht : Tel (n + 1) (val9 a lam (gm + 1)) a lam (gm + 1) := .inr ⟨by omega, rfl, by omega⟩
    generalize (s.sv 0 (val9 a lam (gm + 1))).2.2 = s' at e2 e3 e4 e5 ⊢
    have hlp : ∀ i, 2 ≤ i → s'.L[i]? = s.L[i]? := fun i hi => by rw [e4, List.getElem?_set_ne (by omega), h.q]; rfl
    have hl : s'.L.length = s.L.length := by rw [e4, List.length_set, pg_length]
    have hv : VR T S s' (n + 1) a lam (gm + 1) all := vr_same h hl e3 e2 e5 ht (by omega) hlp
    have hcg : ∀ b, b < 2 → ∀ k, k < S → Cg gm (s'.lp (off S b) k) := fun b hb k hk => by
      rw [lp_noq e3, hlp _ (by have := off_ge S b; omega), ← lp_noq h.q]
      exact h.cg b hb k hk
    refine ⟨hv, ⟨hv.len, hv.fit, hv.a2, by omega, e2, rfl, e5, by simp only; omega, ⟨_, _, _, _, _, _, _, _, _, hv.log (by omega) (by omega) (fun k hk => by rw [Int.add_sub_cancel]; exact hcg a h.a2 k hk)⟩, fun k hk => ?_, fun q hq => by rw [e3] at hq; simp at hq⟩⟩
    have := hv.cg (1 - a) (by have := h.a2; omega) k hk
    rw [lp_noq e3] at this
    exact this
/-- with the power on it is answered OK -/
theorem vr_on (h : VR T S s n a lam gm all) (hn : n + 1 < 18446744073709551616) (hF : s.F = -1) : (s.sv 0 (val9 a lam (gm + 1))).1 = 0 := by
  rcases vr_save h hn with ⟨_, h2, _⟩ | h1
  · rw [(sv_on hF h.d 0 (val9 a lam (gm + 1))).2] at h2; cases h2
  · exact h1.1
/-- an opening within which the power may go, and a restart -/
theorem vr_try (h : VR T S s n a lam gm all) (hn : n + 1 < 18446744073709551616) (F : Int) (ls : List Int) :
    VR T S (((s.sf F).sv 0 (val9 a lam (gm + 1))).2.2.rs ls) n a lam gm all ∨ VR T S (((s.sf F).sv 0 (val9 a lam (gm + 1))).2.2.rs ls) (n + 1) a lam (gm + 1) all := by
  rcases vr_save (h.fuse F) hn with ⟨_, _, h3⟩ | ⟨_, h2⟩
  · exact h3 ls
  · exact .inr (h2.rest ls)
/-- a new device -/
theorem vr_new {T S : Nat} (hf : 2 + 2 * S ≤ T) (hs : 0 < S) : VR T S ⟨List.replicate T zpg, [], -1, false⟩ 0 0 1 0 [] := by
  refine ⟨by simp, hf, rfl, rfl, ⟨[], sc_new (by omega), .inl ⟨rfl, rfl, rfl, rfl⟩⟩, by decide, by decide, fun b hb k hk => ?_, ?_⟩
  · have := off_fit hf hb
    rw [lp_new this k hk]; exact cg_zpg (Int.le_refl _)
  · have := off_fit (a := 0) hf (by decide)
    rw [scn_low (G := 0) (fun k hk => by rw [lp_new this k hk]; exact cg_zpg (Int.le_refl _)) (by decide) S 0]
end

/-! Records in the place of all. -/
/-- Replace, behind its checks: the error, the device, the log that is the active one then (if all went well) -/
def SS.rp (s : SS) (S a : Nat) (lam : Int) (l : LS) (rs : List (List Int)) : Int × SS × LS :=
  let y1 := s.sv 0 (val9 a lam (l.g + 1))
  if y1.1 ≠ 0 then (y1.1, y1.2.2, l) else
    let y2 := SS.aps (off S (1 - a)) S y1.2.2 ⟨l.g + 1, (scn (y1.2.2.lp (off S (1 - a))) S S 0 (l.g + 1)).2.1, false⟩ rs
    if y2.1 ≠ 0 then y2 else
      let y3 := y2.2.1.lf y2.2.2
      if y3.1 ≠ 0 then y3 else
        let y4 := y3.2.1.sv 0 (val9 (1 - a) (l.g + 1) (l.g + 1))
        (y4.1, y4.2.2, y3.2.2)
theorem VD.wide {T S : Nat} {s : SS} {nm nm' gm gm' : Int} {all : List (List Int)} {sure : Nat} {other other' : List (List (List Int))} (h : VD T S s nm gm all sure other) (hn : nm ≤ nm') (hg : gm ≤ gm') (ho : ∀ x ∈ other, x ∈ other') : VD T S s nm' gm' all sure other' := ⟨h.1, fun ls => by
  obtain ⟨n, a, lam, g, y, h1, h2, h3, h4⟩ := h.2 ls
  exact ⟨n, a, lam, g, y, h1, by omega, by omega, h4.imp id (fun h => ho _ h)⟩⟩
theorem VU.rp {T S : Nat} {s : SS} {n : Int} {a : Nat} {lam : Int} {l : LS} {all : List (List Int)} {sure : Nat} (h : VU T S s n a lam l all sure) (h256 : l.g + 1 < 256) (hn : n + 2 < 18446744073709551616) {rs : List (List Int)} (hb : ∀ r ∈ rs, Bs r ∧ r.length ≤ 6000) (hp : pgs rs ≤ S) :
    ((s.rp S a lam l rs).1 = 0 ∧ VU T S (s.rp S a lam l rs).2.1 (n + 2) (1 - a) (l.g + 1) (s.rp S a lam l rs).2.2 rs rs.length ∧ (s.rp S a lam l rs).2.2.g = l.g + 1) ∨
    ((s.rp S a lam l rs).1 = 6 ∧ VD T S (s.rp S a lam l rs).2.1 (n + 2) (l.g + 1) all sure [rs]) := by
  have hsure : sure ≤ all.length := by
    obtain ⟨Y, N, q0, M, R, A1, A2, P, X, hw⟩ := h.wi
    have h1 := hw.su
    have h2 := congrArg List.length hw.al
    simp only [List.length_append] at h2
    omega
  have hg : 1 ≤ l.g + 1 ∧ l.g + 1 < 256 := by have := h.lg; omega
  unfold SS.rp
  rcases VU.one h (by omega) with ⟨e, hd⟩ | ⟨e, h1, _⟩
  · right
    simp only
    rw [if_pos (by rw [e]; simp)]
    exact ⟨e, hd.wide (by omega) (Int.le_refl _) (fun x hx => by simp at hx)⟩
  · obtain ⟨hs, hb0⟩ := r2_begin h1 (by omega)
    simp only
    rw [if_neg (by rw [e]; simp), hs]
    generalize (s.sv 0 (val9 a lam (l.g + 1))).2.2 = s1 at h1 hb0 ⊢
    simp only
    rcases r2_aps h1 hg rs [] s1 _ hb0 h1.vr.d rfl hb (by simpa using hp) with ⟨f1, f2, f3, f4⟩ | ⟨f1, f2, done', f3⟩
    · rw [if_neg (by rw [f1]; simp)]
      rw [List.nil_append] at f4
      generalize SS.aps (off S (1 - a)) S s1 ⟨l.g + 1, 0, false⟩ rs = y2 at f1 f2 f3 f4 ⊢
      rcases r2_flush h1 f4 f2 f3 with ⟨g1, g2, g3, g4, g5⟩ | ⟨g1, g2, sure', g3⟩
      · rw [if_neg (by rw [g1]; simp)]
        generalize y2.2.1.lf y2.2.2 = y3 at g1 g2 g3 g4 g5 ⊢
        rcases r2_save h1 hsure hg g5 g2 g3 g4 (by omega) with ⟨k1, k2⟩ | ⟨k1, k2⟩
        · left
          rw [show n + 2 = n + 1 + 1 by omega]
          exact ⟨k1, k2, g5.gg⟩
        · right
          rw [show n + 2 = n + 1 + 1 by omega]
          exact ⟨k1, k2⟩
      · right
        rw [if_pos (by rw [g1]; simp)]
        exact ⟨g1, (r2_down h1 hsure g3 g2 [rs]).wide (by omega) (Int.le_refl _) (fun x hx => hx)⟩
    · right
      rw [if_pos (by rw [f1]; simp)]
      exact ⟨f1, (r2_down h1 hsure f3 f2 [rs]).wide (by omega) (Int.le_refl _) (fun x hx => hx)⟩
/-- with the power on -/
theorem rp_on {s : SS} (hF : s.F = -1) (hd : s.D = false) (S a : Nat) (lam : Int) (l : LS) (rs : List (List Int)) : (s.rp S a lam l rs).2.1.F = -1 ∧ (s.rp S a lam l rs).2.1.D = false := by
  have h1 := sv_on hF hd 0 (val9 a lam (l.g + 1))
  unfold SS.rp
  simp only
  split
  · exact h1
  · have h2 := aps_on (off S (1 - a)) S rs (s.sv 0 (val9 a lam (l.g + 1))).2.2 ⟨l.g + 1, (scn ((s.sv 0 (val9 a lam (l.g + 1))).2.2.lp (off S (1 - a))) S S 0 (l.g + 1)).2.1, false⟩ h1.1 h1.2
    split
    · exact h2
    · have h3 := lf_on h2.1 h2.2 (SS.aps (off S (1 - a)) S (s.sv 0 (val9 a lam (l.g + 1))).2.2 ⟨l.g + 1, (scn ((s.sv 0 (val9 a lam (l.g + 1))).2.2.lp (off S (1 - a))) S S 0 (l.g + 1)).2.1, false⟩ rs).2.2
      split
      · exact h3
      · exact sv_on h3.1 h3.2 0 _
end Go.Proofs.Ythfkooancgkjaaa
/-
  What this file is for: bytes stay bytes, pages stay as many, and how much waits, through a vault's calls. Nothing of the program is walked here.
-/
namespace Go.Proofs.Ythfkooancgkjaaa
open Go.ChangeShapes Go.WideShapes Go.ChangeAt Go.RowKit
set_option linter.unusedVariables false
set_option maxRecDepth 20000

theorem ap_g (s : SS) (a c : Nat) (l : LS) (b : List Int) : (s.ap a c l b).2.2.g = l.g := by
  unfold SS.ap
  repeat' split
  all_goals rfl
theorem ap_n (s : SS) (a c : Nat) (l : LS) (b : List Int) (h : l.n ≤ c) : (s.ap a c l b).2.2.n ≤ c := (ap_log s a c l b h).2
theorem aps_g (a c : Nat) : ∀ (rs : List (List Int)) (s : SS) (l : LS), (SS.aps a c s l rs).2.2.g = l.g
  | [], s, l => rfl
  | b :: bs, s, l => by
    unfold SS.aps
    split
    · exact ap_g s a c l b
    · rw [aps_g a c bs, ap_g]
theorem aps_n (a c : Nat) : ∀ (rs : List (List Int)) (s : SS) (l : LS), l.n ≤ c → (SS.aps a c s l rs).2.2.n ≤ c
  | [], s, l, h => h
  | b :: bs, s, l, h => by
    unfold SS.aps
    split
    · exact ap_n s a c l b h
    · exact aps_n a c bs _ _ (ap_n s a c l b h)
theorem aps_bs (a c : Nat) : ∀ (rs : List (List Int)) (s : SS) (l : LS), s.bs → (0 ≤ l.g ∧ l.g < 4294967296) → (∀ r ∈ rs, Bs r) → (SS.aps a c s l rs).2.1.bs
  | [], s, l, h, _, _ => h
  | b :: bs, s, l, h, hg, hb => by
    have h1 := ap_bs h a c hg (hb b (by simp))
    unfold SS.aps
    split
    · exact h1
    · exact aps_bs a c bs _ _ h1 (by rw [ap_g]; exact hg) (fun r hr => hb r (List.mem_cons_of_mem _ hr))
theorem aps_len (a c : Nat) : ∀ (rs : List (List Int)) (s : SS) (l : LS), (SS.aps a c s l rs).2.1.L.length = s.L.length ∧ (SS.aps a c s l rs).2.1.Q.length ≤ s.Q.length + 55 * rs.length
  | [], s, l => ⟨rfl, by show s.Q.length ≤ _; omega⟩
  | b :: bs, s, l => by
    have h1 := ap_len s a c l b
    unfold SS.aps
    rw [List.length_cons]
    split
    · exact ⟨h1.1, by omega⟩
    · have h2 := aps_len a c bs (s.ap a c l b).2.1 (s.ap a c l b).2.2
      exact ⟨h2.1.trans h1.1, by omega⟩
theorem rp_bs {s : SS} (h : s.bs) (S a : Nat) (ha : a < 2) (lam : Int) {l : LS} (hg : 0 ≤ l.g ∧ l.g + 1 < 4294967296) {rs : List (List Int)} (hb : ∀ r ∈ rs, Bs r) : (s.rp S a lam l rs).2.1.bs := by
  have h1 := SS.sv_bs h 0 _ (val9_bs ha lam (l.g + 1))
  have h2 := aps_bs (off S (1 - a)) S rs _ ⟨l.g + 1, (scn ((s.sv 0 (val9 a lam (l.g + 1))).2.2.lp (off S (1 - a))) S S 0 (l.g + 1)).2.1, false⟩ h1 (by simp only; omega) hb
  unfold SS.rp
  simp only
  split
  · exact h1
  · split
    · exact h2
    · have h3 := lf_bs h2 (SS.aps (off S (1 - a)) S (s.sv 0 (val9 a lam (l.g + 1))).2.2 ⟨l.g + 1, (scn ((s.sv 0 (val9 a lam (l.g + 1))).2.2.lp (off S (1 - a))) S S 0 (l.g + 1)).2.1, false⟩ rs).2.2
      split
      · exact h3
      · exact SS.sv_bs h3 0 _ (val9_bs (a := 1 - a) (by omega) _ _)
theorem rp_len (s : SS) (S a : Nat) (lam : Int) (l : LS) (rs : List (List Int)) : (s.rp S a lam l rs).2.1.L.length = s.L.length ∧ (s.rp S a lam l rs).2.1.Q.length ≤ s.Q.length + 55 * rs.length + 3 := by
  have h1 := s.sv_len 0 (val9 a lam (l.g + 1))
  have h2 := aps_len (off S (1 - a)) S rs (s.sv 0 (val9 a lam (l.g + 1))).2.2 ⟨l.g + 1, (scn ((s.sv 0 (val9 a lam (l.g + 1))).2.2.lp (off S (1 - a))) S S 0 (l.g + 1)).2.1, false⟩
  unfold SS.rp
  simp only
  split
  · exact ⟨h1.1, by show (s.sv 0 (val9 a lam (l.g + 1))).2.2.Q.length ≤ _; omega⟩
  · split
    · exact ⟨h2.1.trans h1.1, by omega⟩
    · have h3 := lf_len (SS.aps (off S (1 - a)) S (s.sv 0 (val9 a lam (l.g + 1))).2.2 ⟨l.g + 1, (scn ((s.sv 0 (val9 a lam (l.g + 1))).2.2.lp (off S (1 - a))) S S 0 (l.g + 1)).2.1, false⟩ rs).2.1 (SS.aps (off S (1 - a)) S (s.sv 0 (val9 a lam (l.g + 1))).2.2 ⟨l.g + 1, (scn ((s.sv 0 (val9 a lam (l.g + 1))).2.2.lp (off S (1 - a))) S S 0 (l.g + 1)).2.1, false⟩ rs).2.2
      split
      · exact ⟨h3.1.trans (h2.1.trans h1.1), by omega⟩
      · have h4 := ((SS.aps (off S (1 - a)) S (s.sv 0 (val9 a lam (l.g + 1))).2.2 ⟨l.g + 1, (scn ((s.sv 0 (val9 a lam (l.g + 1))).2.2.lp (off S (1 - a))) S S 0 (l.g + 1)).2.1, false⟩ rs).2.1.lf (SS.aps (off S (1 - a)) S (s.sv 0 (val9 a lam (l.g + 1))).2.2 ⟨l.g + 1, (scn ((s.sv 0 (val9 a lam (l.g + 1))).2.2.lp (off S (1 - a))) S S 0 (l.g + 1)).2.1, false⟩ rs).2.2).2.1.sv_len 0 (val9 (1 - a) (l.g + 1) (l.g + 1))
        refine ⟨h4.1.trans (h3.1.trans (h2.1.trans h1.1)), ?_⟩
        show (SS.sv _ _ _).2.2.Q.length ≤ _
        omega
end Go.Proofs.Ythfkooancgkjaaa
/-
  What this file is for: a vault of 120 pages, call by call, whatever the power does. Nothing of the program is walked here.
-/
namespace Go.Proofs.Ythfkooancgkjaaa
open Go.ChangeShapes Go.WideShapes Go.ChangeAt Go.RowKit
set_option linter.unusedVariables false
set_option maxRecDepth 20000

/-- k calls behind: the vault is open, or it is over -/
structure VC (k : Nat) (all : List (List Int)) (sure : Nat) (other : List (List (List Int))) (s : SS) (n : Int) (a : Nat) (lam : Int) (l : LS) (ov : Bool) : Prop where
  bs : s.bs
  ln : s.L.length = 120
  ql : s.Q.length ≤ 600 * k
  a2 : a < 2
  n2 : l.n ≤ 59
  nb : 0 ≤ n ∧ n ≤ 1 + 9 * (k : Int)
  gb : 1 ≤ l.g ∧ l.g ≤ 1 + 9 * (k : Int)
  al : all.length ≤ 10 * k ∧ ∀ f ∈ all, f.length ≤ 6000
  up : ov = false → VU 120 59 s n a lam l all sure ∧ other = []
  dn : ov = true → VD 120 59 s (1 + 9 * (k : Int)) (1 + 9 * (k : Int)) all sure other
theorem VU.sure {T S : Nat} {s : SS} {n : Int} {a : Nat} {lam : Int} {l : LS} {all : List (List Int)} {sure : Nat} (h : VU T S s n a lam l all sure) : sure ≤ all.length := by
  obtain ⟨Y, N, q0, M, R, A1, A2, P, X, hw⟩ := h.wi
  have h1 := hw.su
  have h2 := congrArg List.length hw.al
  simp only [List.length_append] at h2
  omega
theorem VU.n2 {T S : Nat} {s : SS} {n : Int} {a : Nat} {lam : Int} {l : LS} {all : List (List Int)} {sure : Nat} (h : VU T S s n a lam l all sure) : l.n ≤ S := by
  obtain ⟨Y, N, q0, M, R, A1, A2, P, X, hw⟩ := h.wi
  obtain ⟨hP, hX, hn⟩ := hw.up h.o
  have h2 := hw.m2
  have h3 := hw.m3
  omega
section
variable {k : Nat} {all : List (List Int)} {sure : Nat} {other : List (List (List Int))} {s : SS} {n : Int} {a : Nat} {lam : Int} {l : LS} {ov : Bool}
theorem VC.more (h : VC k all sure other s n a lam l ov) : VC (k + 1) all sure other s n a lam l ov :=
  ⟨h.bs, h.ln, by have := h.ql; omega, h.a2, h.n2, by have := h.nb; omega, by have := h.gb; omega, ⟨by have := h.al.1; omega, h.al.2⟩, h.up, fun ho => (h.dn ho).wide (by omega) (by omega) (fun x hx => hx)⟩
theorem VC.fus (h : VC k all sure other s n a lam l ov) (F : Int) : VC (k + 1) all sure other (s.sf F) n a lam l ov := by
  have m := h.more
  exact ⟨SS.sf_bs m.bs F, m.ln, m.ql, m.a2, m.n2, m.nb, m.gb, m.al, fun ho => ⟨(m.up ho).1.fuse F, (m.up ho).2⟩, fun ho => (m.dn ho).fuse F⟩
/-- Append, not over -/
theorem VC.app (h : VC k all sure other s n a lam l false) (hk : k ≤ 28) {b : List Int} (hb : Bs b) (h6 : b.length ≤ 6000) :
    ((s.ap (off 59 a) 59 l b).1 = 5 → VC (k + 1) all sure other (s.ap (off 59 a) 59 l b).2.1 n a lam (s.ap (off 59 a) 59 l b).2.2 false) ∧
    ((s.ap (off 59 a) 59 l b).1 ≠ 5 → VC (k + 1) (all ++ [b]) sure other (s.ap (off 59 a) 59 l b).2.1 n a lam (s.ap (off 59 a) 59 l b).2.2 (decide ((s.ap (off 59 a) 59 l b).1 = 6))) := by
  obtain ⟨hu, hoth⟩ := h.up rfl
  have m := h.more
  have h1 := ap_len s (off 59 a) 59 l b
  have h2 := ap_bs h.bs (off 59 a) 59 (l := l) (by have := h.gb; omega) hb
  have h3 := ap_log s (off 59 a) 59 l b h.n2
  have hal : (all ++ [b]).length ≤ 10 * (k + 1) ∧ ∀ f ∈ all ++ [b], f.length ≤ 6000 := by
    refine ⟨by rw [List.length_append, List.length_singleton]; have := h.al.1; omega, fun f hf => ?_⟩
    rcases List.mem_append.1 hf with h9 | h9
    · exact h.al.2 f h9
    · rw [List.mem_singleton.1 h9]; exact h6
  have hql := h.ql
  rcases hu.app (by have := h.gb; omega) hb h6 with ⟨e1, e2⟩ | ⟨e1, e2⟩ | ⟨e1, e2⟩
  · refine ⟨fun _ => ?_, fun hne => (hne e1).elim⟩
    rw [e2]
    exact m
  · refine ⟨(fun he => by rw [e1] at he; cases he), fun _ => ?_⟩
    rw [e1]
    exact ⟨h2, h1.1.trans h.ln, by omega, h.a2, h3.2, m.nb, by rw [h3.1]; exact m.gb, hal, fun _ => ⟨e2, hoth⟩, fun ho => by cases ho⟩
  · refine ⟨(fun he => by rw [e1] at he; cases he), fun _ => ?_⟩
    rw [e1]
    exact ⟨h2, h1.1.trans h.ln, by omega, h.a2, h3.2, m.nb, by rw [h3.1]; exact m.gb, hal, fun ho => (by cases ho), fun _ => e2.wide (by have := m.nb; omega) (by have := m.gb; omega) (fun x hx => by simp at hx)⟩
/-- Append, over -/
theorem VC.app_over (h : VC k all sure other s n a lam l true) {b : List Int} (h6 : b.length ≤ 6000) : VC (k + 1) (all ++ [b]) sure other s n a lam l true := by
  have m := h.more
  refine ⟨m.bs, m.ln, m.ql, m.a2, m.n2, m.nb, m.gb, ⟨by rw [List.length_append, List.length_singleton]; have := h.al.1; omega, fun f hf => ?_⟩, fun ho => (by cases ho), fun _ => (m.dn rfl).app b⟩
  rcases List.mem_append.1 hf with h9 | h9
  · exact h.al.2 f h9
  · rw [List.mem_singleton.1 h9]; exact h6
/-- Flush, not over -/
theorem VC.flu (h : VC k all sure other s n a lam l false) : VC (k + 1) all (if (s.lf l).1 = 0 then all.length else sure) other (s.lf l).2.1 n a lam (s.lf l).2.2 (decide ((s.lf l).1 = 6)) := by
  obtain ⟨hu, hoth⟩ := h.up rfl
  have m := h.more
  have h1 := lf_len s l
  have h3 := lf_log s l
  have hql := h.ql
  rcases hu.flu with ⟨e1, e2⟩ | ⟨e1, e2⟩
  · rw [e1, if_pos rfl]
    exact ⟨lf_bs h.bs l, h1.1.trans h.ln, by omega, h.a2, by rw [h3.2]; exact h.n2, m.nb, by rw [h3.1]; exact m.gb, m.al, fun _ => ⟨e2, hoth⟩, fun ho => by cases ho⟩
  · rw [e1, if_neg (by decide)]
    exact ⟨lf_bs h.bs l, h1.1.trans h.ln, by omega, h.a2, by rw [h3.2]; exact h.n2, m.nb, by rw [h3.1]; exact m.gb, m.al, fun ho => (by cases ho), fun _ => e2.wide (by have := m.nb; omega) (by have := m.gb; omega) (fun x hx => by simp at hx)⟩
/-- Replace, not over, behind its checks: answered OK -/
theorem VC.rep (h : VC k all sure other s n a lam l false) (hk : k ≤ 28) {rs : List (List Int)} (hb : ∀ r ∈ rs, Bs r ∧ r.length ≤ 6000) (hp : pgs rs ≤ 59) (h10 : rs.length ≤ 10) :
    ((s.rp 59 a lam l rs).1 = 0 ∧ VC (k + 1) rs rs.length [] (s.rp 59 a lam l rs).2.1 (n + 2) (1 - a) (l.g + 1) (s.rp 59 a lam l rs).2.2 false) ∨
    ((s.rp 59 a lam l rs).1 = 6 ∧ ∀ l', l'.n ≤ 59 → 1 ≤ l'.g → l'.g ≤ l.g + 1 → ∀ n', 0 ≤ n' → n' ≤ n + 2 → ∀ a', a' < 2 → ∀ lam', VC (k + 1) all sure (other ++ [rs]) (s.rp 59 a lam l rs).2.1 n' a' lam' l' true) := by
  obtain ⟨hu, hoth⟩ := h.up rfl
  have m := h.more
  have h1 := rp_len s 59 a lam l rs
  have hgb := h.gb
  have hnb := h.nb
  have h2 := rp_bs h.bs 59 a h.a2 lam (l := l) (by omega) (rs := rs) (fun r hr => (hb r hr).1)
  have hql := h.ql
  rcases hu.rp (by omega) (by omega) hb hp with ⟨e1, e2, e3⟩ | ⟨e1, e2⟩
  · left
    exact ⟨e1, ⟨h2, h1.1.trans h.ln, by omega, by omega, e2.n2, by omega, by rw [e3]; omega, ⟨by omega, fun f hf => (hb f hf).2⟩, fun _ => ⟨e2, rfl⟩, fun ho => by cases ho⟩⟩
  · right
    refine ⟨e1, fun l' q1 q2 q3 n' q4 q5 a' q6 lam' => ⟨h2, h1.1.trans h.ln, by omega, q6, q1, by omega, by omega, m.al, fun ho => (by cases ho), fun _ => e2.wide (by omega) (by omega) (fun x hx => ?_)⟩⟩
    exact List.mem_append_right _ hx
/-- Replace, over -/
theorem VC.rep_over (h : VC k all sure other s n a lam l true) (rs : List (List Int)) : VC (k + 1) all sure (other ++ [rs]) s n a lam l true := by
  have m := h.more
  exact ⟨m.bs, m.ln, m.ql, m.a2, m.n2, m.nb, m.gb, m.al, fun ho => (by cases ho), fun _ => (m.dn rfl).more rs⟩
/-- a restart -/
theorem VC.rst (h : VC k all sure other s n a lam l ov) (ls : List Int) : ∃ n' a' lam' g y, VR 120 59 (s.rs ls) n' a' lam' g y ∧ n' ≤ 1 + 9 * (k : Int) ∧ g ≤ 1 + 9 * (k : Int) ∧ (s.rs ls).bs ∧ ((sure ≤ y.length ∧ ∃ m, y = all.take m) ∨ y ∈ other) := by
  have hbs := SS.rs_bs h.bs ls
  cases ov with
  | false =>
    obtain ⟨hu, _⟩ := h.up rfl
    obtain ⟨y, y1, y2, y3⟩ := hu.rest ls
    exact ⟨n, a, lam, l.g, y, y1, h.nb.2, h.gb.2, hbs, .inl ⟨y2, y3⟩⟩
  | true =>
    obtain ⟨n', a', lam', g, y, y1, y2, y3, y4⟩ := (h.dn rfl).2 ls
    exact ⟨n', a', lam', g, y, y1, y2, y3, hbs, y4⟩
end
/-- the vault that is opened behind a restart -/
theorem vc_open {k : Nat} {s : SS} {n : Int} {a : Nat} {lam g : Int} {y : List (List Int)} (h : VR 120 59 s n a lam g y) (hbs : s.bs) (hF : s.F = -1) (hn : n ≤ 9 * ((k : Int) + 1)) (hg : g ≤ 9 * ((k : Int) + 1)) (hk : k ≤ 100) (hy : y.length ≤ 10 * (k + 1)) (hy6 : ∀ f ∈ y, f.length ≤ 6000) :
    (s.sv 0 (val9 a lam (g + 1))).1 = 0 ∧ VC (k + 1) y y.length [] (s.sv 0 (val9 a lam (g + 1))).2.2 (n + 1) a lam ⟨g + 1, (scn ((s.sv 0 (val9 a lam (g + 1))).2.2.lp (off 59 a)) 59 59 0 lam).2.1, false⟩ false := by
  obtain ⟨v, h1, _⟩ := h.sc
  have hn0 := h1.n0
  have hlg := h.lg
  have h0 := vr_on h (by omega) hF
  obtain ⟨u1, u2⟩ := vr_up h (by omega) (by omega) h0
  exact ⟨h0, ⟨SS.sv_bs hbs 0 _ (val9_bs h.a2 _ _), u1.len, by rw [u1.q]; simp, h.a2, u2.n2, by omega, by simp only; omega, ⟨hy, hy6⟩, fun _ => ⟨u2, rfl⟩, fun ho => by cases ho⟩⟩
end Go.Proofs.Ythfkooancgkjaaa
