/-
  What this file is for: what stays, call by call, of a log whose power may go (c pages from a on, of T pages). Nothing of the program is walked here.
-/
import Derived.Test.YthfkooancgkjaaaMWlE
import Derived.Test.YthfkooancgkjaaaMDyM
set_option linter.unusedSimpArgs false
set_option linter.unusedVariables false
namespace Go.Proofs.Ythfkooancgkjaaa
open Go.ChangeShapes Go.WideShapes Go.ChangeAt Go.RowKit
set_option linter.unusedVariables false
set_option maxRecDepth 20000

/-- the log's pages, as they last and as they wait: Y is what stood there, N what is written from q0 on, up to M; up to f it lasts -/
structure PI (T a c : Nat) (Y N : Nat → List Int) (q0 f M : Nat) (s : SS) : Prop where
  len : s.L.length = T
  fit : a + c ≤ T
  lo : ∀ k, k < c → s.L[a + k]?.getD [] = if q0 ≤ k ∧ k < f then N k else Y k
  wq : ∀ r ∈ s.Q, a ≤ r.1 → r.1 < a + c → f + a ≤ r.1 ∧ r.1 < a + M ∧ r.2 = N (r.1 - a)
  pq : ∀ k, k < c → (pg s.L s.Q)[a + k]?.getD [] = if q0 ≤ k ∧ k < M then N k else Y k
theorem PI.state {T a c : Nat} {Y N : Nat → List Int} {q0 f M : Nat} {s : SS} (h : PI T a c Y N q0 f M s) (F : Int) (D : Bool) : PI T a c Y N q0 f M ⟨s.L, s.Q, F, D⟩ := ⟨h.len, h.fit, h.lo, h.wq, h.pq⟩
theorem pi_write {T a c : Nat} {Y N : Nat → List Int} {q0 f M : Nat} {s : SS} (h : PI T a c Y N q0 f M s) (hq : q0 ≤ f) (hf : f ≤ M) (hM : M < c) (hN : (N M).length = 128) :
    ((s.wr ((a + M : Nat) : Int) (N M)).1 = 0 ∧ PI T a c Y N q0 f (M + 1) (s.wr ((a + M : Nat) : Int) (N M)).2 ∧ (s.wr ((a + M : Nat) : Int) (N M)).2.D = false) ∨
    ((s.wr ((a + M : Nat) : Int) (N M)).1 = 6 ∧ PI T a c Y N q0 f M (s.wr ((a + M : Nat) : Int) (N M)).2 ∧ (s.wr ((a + M : Nat) : Int) (N M)).2.D = true) := by
  unfold SS.wr
  by_cases hd : s.D = true
  · right; rw [if_pos hd]; exact ⟨rfl, h, hd⟩
  · rw [if_neg hd, if_neg (by have := h.fit; rw [h.len]; omega), if_neg (by omega)]
    by_cases hF : s.F = 0
    · right; rw [if_pos hF]; exact ⟨rfl, h.state 0 true, rfl⟩
    · left
      rw [if_neg hF, Int.toNat_natCast]
      refine ⟨rfl, ⟨h.len, h.fit, h.lo, fun r hr h3 h53 => ?_, fun k hk => ?_⟩, rfl⟩
      · rcases List.mem_append.1 hr with h1 | h1
        · obtain ⟨e1, e2, e3⟩ := h.wq r h1 h3 h53
          exact ⟨e1, by omega, e3⟩
        · rw [List.mem_singleton.1 h1]
          exact ⟨by simp only; omega, by simp only; omega, by simp only; congr 1; omega⟩
      · show (pg s.L (s.Q ++ [(a + M, N M)]))[a + k]?.getD [] = _
        rw [pg_snoc]
        simp only
        by_cases hkM : k = M
        · subst hkM
          rw [List.getElem?_set_self (by rw [pg_length, h.len]; have := h.fit; omega), if_pos (by omega)]; rfl
        · rw [List.getElem?_set_ne (by omega), h.pq k hk]
          by_cases hin : q0 ≤ k ∧ k < M
          · rw [if_pos hin, if_pos (by omega)]
          · rw [if_neg hin, if_neg (by omega)]
/-- pages are written one behind the other, till one isn't -/
def apw : SS → Nat → List (List Int) → Int × SS
  | s, _, [] => (0, s)
  | s, i, p :: ps => if (s.wr (i : Int) p).1 ≠ 0 then s.wr (i : Int) p else apw (s.wr (i : Int) p).2 (i + 1) ps
theorem pi_apw {T a c : Nat} {Y N : Nat → List Int} {q0 f : Nat} : ∀ (ps : List (List Int)) (M : Nat) (s : SS), PI T a c Y N q0 f M s → q0 ≤ f → f ≤ M → M + ps.length ≤ c → (∀ j, j < ps.length → ps[j]?.getD [] = N (M + j) ∧ (N (M + j)).length = 128) →
    ((apw s (a + M) ps).1 = 0 ∧ PI T a c Y N q0 f (M + ps.length) (apw s (a + M) ps).2) ∨ ((apw s (a + M) ps).1 = 6 ∧ ∃ M', M ≤ M' ∧ M' ≤ M + ps.length ∧ PI T a c Y N q0 f M' (apw s (a + M) ps).2 ∧ (apw s (a + M) ps).2.D = true)
  | [], M, s, h, _, _, _, _ => .inl ⟨rfl, h⟩
  | p :: ps, M, s, h, hq, hf, hM, hps => by
    obtain ⟨e0, e1⟩ := hps 0 (by simp)
    have e0' : p = N M := e0
    simp only [List.length_cons] at hM
    have hw := pi_write h hq hf (by omega) e1
    subst e0'
    unfold apw
    rcases hw with ⟨h1, h2, h3⟩ | ⟨h1, h2, h3⟩
    · rw [if_neg (by rw [h1]; simp)]
      have ih := pi_apw ps (M + 1) _ h2 hq (by omega) (by omega) (fun j hj => by
        have := hps (j + 1) (by simpa using hj)
        rw [show M + 1 + j = M + (j + 1) by omega]
        exact this)
      rw [show a + (M + 1) = a + M + 1 by omega] at ih
      rw [List.length_cons, show M + (ps.length + 1) = M + 1 + ps.length by omega]
      rcases ih with ih | ⟨d1, M', d2, d3, d4⟩
      · exact .inl ih
      · exact .inr ⟨d1, M', by omega, d3, d4⟩
    · rw [if_pos (by rw [h1]; simp)]
      exact .inr ⟨h1, M, Nat.le_refl _, by simp, h2, h3⟩
/-- what a log is: its generation, how many of its pages are used, whether it is over -/
structure LS where
  g : Int
  n : Nat
  o : Bool
/-- Append, of a log in the pages from a on, c of them: the error, the device, the log -/
def SS.ap (s : SS) (a c : Nat) (l : LS) (b : List Int) : Int × SS × LS :=
  if l.o = true then (6, s, l) else if 6000 < b.length then (3, s, l) else if c < l.n + (cut b).length then (5, s, l)
  else if (apw s (a + l.n) (rpg l.g l.n true (cut b))).1 = 0 then (0, (apw s (a + l.n) (rpg l.g l.n true (cut b))).2, ⟨l.g, l.n + (cut b).length, false⟩)
  else ((apw s (a + l.n) (rpg l.g l.n true (cut b))).1, (apw s (a + l.n) (rpg l.g l.n true (cut b))).2, ⟨l.g, l.n, decide ((apw s (a + l.n) (rpg l.g l.n true (cut b))).1 = 6)⟩)
/-- Flush -/
def SS.lf (s : SS) (l : LS) : Int × SS × LS := if l.o = true then (6, s, l) else (s.fl.1, s.fl.2, ⟨l.g, l.n, decide (s.fl.1 = 6)⟩)
/-- what is read of a log -/
def SS.lp (s : SS) (a : Nat) (k : Nat) : List Int := (pg s.L s.Q)[a + k]?.getD []
/-- call by call: R was there at the opening; A1 lasts, A2 waits, P is half written, X wasn't written -/
structure WI (T a c : Nat) (lam : Int) (Y N : Nat → List Int) (q0 M : Nat) (R A1 A2 P X : List (List Int)) (s : SS) (l : LS) (all : List (List Int)) (sure : Nat) : Prop where
  hg : (1 ≤ l.g ∧ l.g < 4294967296) ∧ lam ≤ l.g
  h2 : l.g < 256 ∨ A1 ++ (A2 ++ P) = []
  cy : ∀ k, k < c → Cg (l.g - 1) (Y k)
  q : q0 = (scn Y c c 0 lam).2.1
  r : R = (scn Y c c 0 lam).1
  ra : RecsAt N l.g q0 (A1 ++ (A2 ++ P))
  bs : ∀ r ∈ A1 ++ (A2 ++ P), Bs r
  m1 : q0 + pgs (A1 ++ A2) ≤ M
  m2 : M ≤ q0 + pgs (A1 ++ (A2 ++ P))
  m3 : q0 + pgs (A1 ++ (A2 ++ P)) ≤ c
  al : all = R ++ ((A1 ++ (A2 ++ P)) ++ X)
  su : sure ≤ R.length + A1.length
  pi : PI T a c Y N q0 (q0 + pgs A1) M s
  up : l.o = false → P = [] ∧ X = [] ∧ l.n = M
  dn : l.o = true → s.D = true
section
variable {T a c : Nat} {lam : Int} {Y N : Nat → List Int} {q0 M : Nat} {R A1 A2 P X : List (List Int)} {s : SS} {l : LS} {all : List (List Int)} {sure : Nat}
theorem WI.f1 (h : WI T a c lam Y N q0 M R A1 A2 P X s l all sure) : q0 + pgs A1 ≤ M := by have := h.m1; rw [pgs_app] at this; omega
/-- N with a record's pages from M on -/
def putN (N : Nat → List Int) (M : Nat) (ps : List (List Int)) : Nat → List Int := fun k => if M ≤ k ∧ k < M + ps.length then ps[k - M]?.getD [] else N k
theorem wi_append2 (h : WI T a c lam Y N q0 M R A1 A2 P X s l all sure) (h256 : l.g < 256) {b : List Int} (hb : Bs b) (h6 : b.length ≤ 6000) :
    ((s.ap a c l b).1 = 5 ∧ (s.ap a c l b).2 = (s, l) ∧ c < l.n + (cut b).length) ∨ ((s.ap a c l b).1 ≠ 5 ∧ (((s.ap a c l b).1 = 0 ∧ (s.ap a c l b).2.2.o = false) ∨ ((s.ap a c l b).1 = 6 ∧ (s.ap a c l b).2.2.o = true)) ∧ ∃ N' M' A2' P' X', WI T a c lam Y N' q0 M' R A1 A2' P' X' (s.ap a c l b).2.1 (s.ap a c l b).2.2 (all ++ [b]) sure) := by
  unfold SS.ap
  by_cases ho : l.o = true
  · right
    rw [if_pos ho]
    refine ⟨by simp, .inr ⟨rfl, ho⟩, N, M, A2, P, X ++ [b], ⟨h.hg, .inl h256, h.cy, h.q, h.r, h.ra, h.bs, h.m1, h.m2, h.m3, ?_, h.su, h.pi, ?_, h.dn⟩⟩
    · rw [h.al]; simp [List.append_assoc]
    · intro h1; rw [ho] at h1; cases h1
  · rw [if_neg ho, if_neg (by omega)]
    obtain ⟨hP, hX, hn⟩ := h.up (by simpa using ho)
    subst hP; subst hX
    by_cases hfull : c < l.n + (cut b).length
    · left; rw [if_pos hfull]; exact ⟨rfl, rfl, hfull⟩
    · right
      rw [if_neg hfull]
      have hm1 := h.m1
      have hm2 := h.m2
      rw [List.append_nil] at hm2
      have hM : M = q0 + pgs (A1 ++ A2) := by omega
      have hps : (rpg l.g M true (cut b)).length = (cut b).length := rpg_len _ _ _ _
      have hN' : ∀ k, k < M → putN N M (rpg l.g M true (cut b)) k = N k := fun k hk => by unfold putN; rw [if_neg (by omega)]
      have hNew : ∀ j, j < (cut b).length → putN N M (rpg l.g M true (cut b)) (M + j) = (rpg l.g M true (cut b))[j]?.getD [] := fun j hj => by
        unfold putN; rw [if_pos (by omega), Nat.add_sub_cancel_left]
      have hra : RecsAt (putN N M (rpg l.g M true (cut b))) l.g q0 (A1 ++ (A2 ++ [b])) := by
        have h0 := h.ra
        rw [List.append_nil] at h0
        rw [← List.append_assoc]
        refine (recs_app _ _ _).2 ⟨recs_same _ _ h0 (fun k _ hk => hN' k (by omega)), ?_⟩
        rw [← hM]
        exact ⟨hNew, h6, trivial⟩
      have hbs : ∀ r ∈ A1 ++ (A2 ++ [b]), Bs r := fun r hr => by
        rw [← List.append_assoc] at hr
        rcases List.mem_append.1 hr with h1 | h1
        · exact h.bs r (by rw [List.append_nil]; exact h1)
        · rw [List.mem_singleton.1 h1]; exact hb
      have hp3 : pgs (A1 ++ (A2 ++ [b])) = pgs (A1 ++ A2) + (cut b).length := by rw [← List.append_assoc, pgs_app]; rfl
      have hf1 := h.f1
      have hpi : PI T a c Y (putN N M (rpg l.g M true (cut b))) q0 (q0 + pgs A1) M s := by
        refine ⟨h.pi.len, h.pi.fit, fun k hk => ?_, fun r hr h3 h53 => ?_, fun k hk => ?_⟩
        · rw [h.pi.lo k hk]
          by_cases hc : q0 ≤ k ∧ k < q0 + pgs A1
          · rw [if_pos hc, if_pos hc, hN' k (by omega)]
          · rw [if_neg hc, if_neg hc]
        · obtain ⟨d1, d2, d3⟩ := h.pi.wq r hr h3 h53
          exact ⟨d1, d2, by rw [hN' _ (by omega)]; exact d3⟩
        · rw [h.pi.pq k hk]
          by_cases hc : q0 ≤ k ∧ k < M
          · rw [if_pos hc, if_pos hc, hN' k hc.2]
          · rw [if_neg hc, if_neg hc]
      have hlen : ∀ j, j < (rpg l.g M true (cut b)).length → (rpg l.g M true (cut b))[j]?.getD [] = putN N M (rpg l.g M true (cut b)) (M + j) ∧ (putN N M (rpg l.g M true (cut b)) (M + j)).length = 128 := fun j hj => by
        rw [hps] at hj
        obtain ⟨kd, b', e1, e2, e3, e4⟩ := rpg_at l.g (cut b) M true (cut_ok b).1 (cutf_bs _ _ hb) j hj
        refine ⟨(hNew j hj).symm, ?_⟩
        rw [hNew j hj, e1]
        exact wpg_len e3
      have hw := pi_apw (rpg l.g M true (cut b)) M s hpi (by omega) hf1 (by rw [hps]; omega) hlen
      rw [hn]
      rcases hw with ⟨w1, w2⟩ | ⟨w1, M', w2, w3, w4, w5⟩
      · rw [if_pos w1]
        refine ⟨by simp, .inl ⟨rfl, rfl⟩, _, M + (cut b).length, A2 ++ [b], [], [], ⟨h.hg, .inl h256, h.cy, h.q, h.r, by rw [List.append_nil]; exact hra, by rw [List.append_nil]; exact hbs, ?_, ?_, ?_, ?_, h.su, by rw [hps] at w2; exact w2, fun _ => ⟨rfl, rfl, rfl⟩, fun h1 => by cases h1⟩⟩
        · rw [hp3]; omega
        · rw [List.append_nil, hp3]; omega
        · rw [List.append_nil, hp3]; omega
        · rw [h.al]; simp [List.append_assoc]
      · rw [if_neg (by rw [w1]; simp), w1]
        refine ⟨by simp, .inr ⟨rfl, by simp⟩, _, M', A2, [b], [], ⟨h.hg, .inl h256, h.cy, h.q, h.r, hra, hbs, by omega, by rw [hp3]; rw [hps] at w3; omega, by rw [hp3]; omega, ?_, h.su, w4, fun h1 => by simp at h1, fun _ => w5⟩⟩
        rw [h.al]; simp [List.append_assoc]
theorem wi_append (h : WI T a c lam Y N q0 M R A1 A2 P X s l all sure) (h256 : l.g < 256) {b : List Int} (hb : Bs b) (h6 : b.length ≤ 6000) :
    ((s.ap a c l b).1 = 5 ∧ (s.ap a c l b).2 = (s, l)) ∨ ((s.ap a c l b).1 ≠ 5 ∧ ∃ N' M' A2' P' X', WI T a c lam Y N' q0 M' R A1 A2' P' X' (s.ap a c l b).2.1 (s.ap a c l b).2.2 (all ++ [b]) sure) := by
  rcases wi_append2 h h256 hb h6 with h1 | ⟨h1, _, h2⟩
  · exact .inl ⟨h1.1, h1.2.1⟩
  · exact .inr ⟨h1, h2⟩
theorem wi_flush (h : WI T a c lam Y N q0 M R A1 A2 P X s l all sure) : ∃ A1' A2' X', WI T a c lam Y N q0 M R A1' A2' P X' (s.lf l).2.1 (s.lf l).2.2 all (if (s.lf l).1 = 0 then all.length else sure) := by
  unfold SS.lf
  by_cases ho : l.o = true
  · rw [if_pos ho]
    exact ⟨A1, A2, X, h⟩
  · rw [if_neg ho]
    obtain ⟨hP, hX, hn⟩ := h.up (by simpa using ho)
    subst hP; subst hX
    unfold SS.fl
    by_cases hd : s.D = true
    · rw [if_pos hd]
      exact ⟨A1, A2, [], ⟨h.hg, h.h2, h.cy, h.q, h.r, h.ra, h.bs, h.m1, h.m2, h.m3, h.al, h.su, h.pi, fun h1 => by simp at h1, fun _ => hd⟩⟩
    · rw [if_neg hd]
      by_cases hF : s.F = 0
      · rw [if_pos hF]
        exact ⟨A1, A2, [], ⟨h.hg, h.h2, h.cy, h.q, h.r, h.ra, h.bs, h.m1, h.m2, h.m3, h.al, h.su, h.pi.state 0 true, fun h1 => by simp at h1, fun _ => rfl⟩⟩
      · rw [if_neg hF]
        have hm1 := h.m1
        have hm2 := h.m2
        rw [List.append_nil] at hm2
        have hM : M = q0 + pgs (A1 ++ A2) := by omega
        have hall := h.al
        simp only [List.append_nil] at hall
        refine ⟨A1 ++ A2, [], [], ⟨h.hg, by simpa using h.h2, h.cy, h.q, h.r, by simpa using h.ra, by simpa using h.bs, by simpa using hm1, by simpa using hm2, by simpa using h.m3, by simpa using hall, ?_, ⟨by rw [pg_length]; exact h.pi.len, h.pi.fit, fun k hk => ?_, fun r hr => by simp at hr, fun k hk => ?_⟩, fun _ => ⟨rfl, rfl, hn⟩, fun h1 => by simp at h1⟩⟩
        · rw [if_pos rfl, hall, List.length_append]; omega
        · rw [h.pi.pq k hk, ← hM]
        · exact h.pi.pq k hk
theorem wi_fuse (h : WI T a c lam Y N q0 M R A1 A2 P X s l all sure) (n : Int) : WI T a c lam Y N q0 M R A1 A2 P X (s.sf n) l all sure :=
  ⟨h.hg, h.h2, h.cy, h.q, h.r, h.ra, h.bs, h.m1, h.m2, h.m3, h.al, h.su, h.pi.state _ _, h.up, h.dn⟩
theorem wi_other (h : WI T a c lam Y N q0 M R A1 A2 P X s l all sure) {i : Int} (hi : i < a ∨ (a + c : Nat) ≤ i) (b : List Int) : WI T a c lam Y N q0 M R A1 A2 P X (s.wr i b).2 l all sure := by
  have mk : ∀ s', PI T a c Y N q0 (q0 + pgs A1) M s' → (l.o = true → s'.D = true) → WI T a c lam Y N q0 M R A1 A2 P X s' l all sure := fun s' hp hd => ⟨h.hg, h.h2, h.cy, h.q, h.r, h.ra, h.bs, h.m1, h.m2, h.m3, h.al, h.su, hp, h.up, hd⟩
  unfold SS.wr
  split
  · exact h
  · rename_i hd
    split
    · exact h
    · rename_i hr
      split
      · exact h
      · split
        · exact mk _ (h.pi.state 0 true) (fun _ => rfl)
        · refine mk _ ⟨h.pi.len, h.pi.fit, h.pi.lo, fun r hr2 h3 h53 => ?_, fun k hk => ?_⟩ (fun ho => absurd (h.dn ho) hd)
          · rcases List.mem_append.1 hr2 with h1 | h1
            · exact h.pi.wq r h1 h3 h53
            · rw [List.mem_singleton.1 h1] at h3 h53
              simp only at h3 h53
              omega
          · show (pg s.L (s.Q ++ [(i.toNat, b)]))[a + k]?.getD [] = _
            rw [pg_snoc]
            simp only
            rw [List.getElem?_set_ne (by omega)]
            exact h.pi.pq k hk
theorem mx_mx {O b : List Int} (ho : O.length = 128) (hb : b.length = 128) (t u : Nat) : mx (mx O b t) b u = mx O b (max u t) := by
  apply List.ext_getElem?
  intro j
  have h1 : ∀ t, mx O b t = b.take t ++ O.drop t := fun _ => rfl
  have hl : (mx O b t).length = b.length := by rw [h1, cat_len _ _ (by omega)]
  rw [show mx (mx O b t) b u = b.take u ++ (mx O b t).drop u from rfl, cat_at _ _ (by omega), h1, h1, cat_at _ _ (by omega), cat_at _ _ (by omega)]
  by_cases ha : j < u
  · rw [if_pos ha, if_pos (by omega)]
  · rw [if_neg ha]
    by_cases hc : j < t
    · rw [if_pos hc, if_pos (by omega)]
    · rw [if_neg hc, if_neg (by omega)]
/-- a page all of whose writes are one -/
theorem mixs_one {T : Nat → Nat} (hT : ∀ k, T k ≤ 128) {L : List (List Int)} {Q : List Wr} {i : Nat} {b : List Int} (hi : i < L.length) (ho : (L[i]?.getD []).length = 128) (hb : b.length = 128) (h : ∀ q ∈ Q, q.1 = i → q.2 = b) :
    ∀ k, ∃ t, t ≤ 128 ∧ (mixs T L Q k)[i]?.getD [] = mx (L[i]?.getD []) b t
  | 0 => ⟨0, by omega, by show L[i]?.getD [] = _; unfold mx; simp⟩
  | k + 1 => by
    obtain ⟨t, ht, e⟩ := mixs_one hT hi ho hb h k
    cases hk : Q[k]? with
    | none => exact ⟨t, ht, by unfold mixs; rw [hk]; exact e⟩
    | some q =>
      rw [mixs_succ hk]
      by_cases hq : q.1 = i
      · have hq2 := h q (List.mem_of_getElem? hk) hq
        refine ⟨max (T k) t, by have := hT k; omega, ?_⟩
        rw [hq, List.getElem?_set_self (by rw [mixs_length]; exact hi), Option.getD_some, e, hq2, mx_mx ho hb]
      · exact ⟨t, ht, by rw [List.getElem?_set_ne hq]; exact e⟩
end
end Go.Proofs.Ythfkooancgkjaaa
