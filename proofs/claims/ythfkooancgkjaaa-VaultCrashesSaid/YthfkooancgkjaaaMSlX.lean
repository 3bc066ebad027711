/-
  What this file is for: what stays, call by call, of a slot whose power may go. Nothing of the program is walked here.
-/
import Derived.Test.YthfkooancgkjaaaMSlW
import Derived.Test.YthfkooancgkjaaaMDyM
set_option linter.unusedSimpArgs false
set_option linter.unusedVariables false
namespace Go.Proofs.Ythfkooancgkjaaa
open Go.ChangeShapes Go.WideShapes Go.ChangeAt Go.RowKit
set_option linter.unusedVariables false
set_option maxRecDepth 20000

/-- no write to the slot's pages -/
def NoSl (Q : List Wr) : Prop := ∀ q ∈ Q, q.1 ≠ 2 ∧ q.1 ≠ 3
/-- a value that was begun waits, and the power is gone -/
def Half (s : SS) (M : List (List Int)) (n : Int) : Prop := s.D = true ∧ ∃ Q B, s.Q = Q ++ [(2 + sd n, pgl (n + 1) B)] ∧ NoSl Q ∧ B ∈ M ∧ B.length ≤ 110 ∧ Bs B ∧ n + 1 < 18446744073709551616
/-- the slot at 2 of five pages; M: what may be told behind a restart -/
structure Wh (s : SS) (M : List (List Int)) : Prop where
  l5 : s.L.length = 5
  sl : ∃ n v, SlI n v (s.L[2]?.getD []) (s.L[3]?.getD []) ∧ v ∈ M ∧ (NoSl s.Q ∨ Half s M n)
theorem Wh.more {s : SS} {M : List (List Int)} (h : Wh s M) (B : List Int) : Wh s (M ++ [B]) := by
  obtain ⟨h1, n, v, h2, h3, h4⟩ := h
  refine ⟨h1, n, v, h2, List.mem_append_left _ h3, ?_⟩
  rcases h4 with h4 | ⟨hd, Q, B', h5, h6, h7, h8⟩
  · exact .inl h4
  · exact .inr ⟨hd, Q, B', h5, h6, List.mem_append_left _ h7, h8⟩
theorem NoSl.snoc {Q : List Wr} (h : NoSl Q) {q : Wr} (h2 : q.1 ≠ 2) (h3 : q.1 ≠ 3) : NoSl (Q ++ [q]) := fun x hx => by
  rcases List.mem_append.1 hx with h1 | h1
  · exact h x h1
  · rw [List.mem_singleton.1 h1]; exact ⟨h2, h3⟩
theorem wh_same {s : SS} {M : List (List Int)} (h : Wh s M) (hn : NoSl s.Q) (F : Int) (D : Bool) : Wh ⟨s.L, s.Q, F, D⟩ M := by
  obtain ⟨h1, n, v, h2, h3, h4⟩ := h
  exact ⟨h1, n, v, h2, h3, .inl hn⟩
theorem wh_up {s : SS} {M : List (List Int)} (h : Wh s M) (hd : s.D = false) : NoSl s.Q := by
  obtain ⟨h1, n, v, h2, h3, h4⟩ := h
  rcases h4 with h4 | h4
  · exact h4
  · exact absurd h4.1 (by rw [hd]; simp)
theorem wh_write {s : SS} {M : List (List Int)} (h : Wh s M) {i : Int} (hi2 : i ≠ 2) (hi3 : i ≠ 3) (b : List Int) : Wh (s.wr i b).2 M := by
  unfold SS.wr
  by_cases hd : s.D = true
  · rw [if_pos hd]; exact h
  · have hd' : s.D = false := by simpa using hd
    have hn := wh_up h hd'
    rw [if_neg hd]
    split
    · exact h
    · split
      · exact h
      · split
        · exact wh_same h hn 0 true
        · obtain ⟨h1, n, v, h2, h3, h4⟩ := h
          exact ⟨h1, n, v, h2, h3, .inl (hn.snoc (by simp only; omega) (by simp only; omega))⟩
theorem wh_fuse {s : SS} {M : List (List Int)} (h : Wh s M) (n : Int) : Wh (s.sf n) M := by
  obtain ⟨h1, n, v, h2, h3, h4⟩ := h
  exact ⟨h1, n, v, h2, h3, h4⟩
theorem pg_2 {s : SS} (h : NoSl s.Q) : (pg s.L s.Q)[2]? = s.L[2]? ∧ (pg s.L s.Q)[3]? = s.L[3]? := ⟨pg_far _ _ _ (fun q hq => (h q hq).1), pg_far _ _ _ (fun q hq => (h q hq).2)⟩
theorem ld_up {s : SS} (h5 : s.L.length = 5) (hd : s.D = false) (hn : NoSl s.Q) : s.ld 2 = (0, slv (s.L[2]?.getD []) (s.L[3]?.getD [])) := by
  have hp := pg_2 hn
  have r2 : s.rd 2 = (0, s.L[2]?.getD []) := by
    unfold SS.rd
    rw [if_neg (by rw [hd]; simp), if_neg (by omega), show (2 : Int).toNat = 2 from rfl, hp.1]
  have r3 : s.rd (2 + 1) = (0, s.L[3]?.getD []) := by
    unfold SS.rd
    rw [if_neg (by rw [hd]; simp), if_neg (by omega), show ((2 : Int) + 1).toNat = 3 from rfl, hp.2]
  rw [ld_ok (by rw [r2]) (by rw [r3]), r2, r3]
theorem wh_ld {s : SS} {M : List (List Int)} (h : Wh s M) (hd : s.D = false) : ∃ n v, SlI n v (s.L[2]?.getD []) (s.L[3]?.getD []) ∧ v ∈ M ∧ s.ld 2 = (0, n, v) := by
  have hn := wh_up h hd
  obtain ⟨h1, n, v, h2, h3, h4⟩ := h
  exact ⟨n, v, h2, h3, by rw [ld_up h1 hd hn, sli_slv h2]⟩
/-- what may be told behind a Save -/
def after (M : List (List Int)) (e : Int) (B : List Int) : List (List Int) := (if e = 0 then [] else M) ++ [B]
theorem sd_lt (n : Int) : sd n ≤ 1 := by unfold sd; omega
theorem wh_save {s : SS} {M : List (List Int)} (h : Wh s M) {B : List Int} (hB : B.length ≤ 110) (bB : Bs B) : Wh (s.sv 2 B).2.2 (after M (s.sv 2 B).1 B) := by
  by_cases hd : s.D = true
  · have hl : s.ld 2 = (6, 0, []) := by
      have hr : s.rd 2 = (6, []) := by unfold SS.rd; rw [if_pos hd]
      rw [ld_0 (by rw [hr]; simp), hr]
    rw [sv_ld hB (by rw [hl]; simp), hl]
    exact h.more B
  · have hd' : s.D = false := by simpa using hd
    have hn := wh_up h hd'
    obtain ⟨n, v, hs, hv, hl⟩ := wh_ld h hd'
    have h5 := h.l5
    by_cases hf : n = 18446744073709551615
    · rw [sv_full hB (by rw [hl]) (by rw [hl]; exact hf)]
      exact h.more B
    · have hn1 : n + 1 < 18446744073709551616 := by have := hs.1.2; omega
      have h0 := hs.1.1
      have hsd : ((2 : Int) + (n + 1) % 2) = ((2 + sd n : Nat) : Int) := by unfold sd; omega
      have hlt := sd_lt n
      by_cases hF : s.F = 0
      · have hw : s.wr ((2 : Int) + (n + 1) % 2) (pgl (n + 1) B) = (6, ⟨s.L, s.Q, 0, true⟩) := by
          unfold SS.wr
          rw [if_neg hd, hsd, if_neg (by omega), if_neg (by rw [pgl_len _ _ hB]; simp), if_pos hF]
        rw [sv_wr (x := n) hB (by rw [hl]) (by rw [hl]) hf (by rw [hw]; simp), hw]
        exact (wh_same h hn 0 true).more B
      · have hw : s.wr ((2 : Int) + (n + 1) % 2) (pgl (n + 1) B) = (0, ⟨s.L, s.Q ++ [(2 + sd n, pgl (n + 1) B)], bn s.F, false⟩) := by
          unfold SS.wr
          rw [if_neg hd, hsd, if_neg (by omega), if_neg (by rw [pgl_len _ _ hB]; simp), if_neg hF, Int.toNat_natCast]
        by_cases hF2 : bn s.F = 0
        · have hfl : (⟨s.L, s.Q ++ [(2 + sd n, pgl (n + 1) B)], bn s.F, false⟩ : SS).fl = (6, ⟨s.L, s.Q ++ [(2 + sd n, pgl (n + 1) B)], 0, true⟩) := by
            unfold SS.fl
            rw [if_neg (by simp), if_pos hF2]
          rw [sv_fl (x := n) hB (by rw [hl]) (by rw [hl]) hf (by rw [hw]) (by rw [hw]; simp only; rw [hfl]; simp), hw]
          simp only
          rw [hfl]
          exact ⟨h5, n, v, hs, List.mem_append_left _ (by simpa using hv), .inr ⟨rfl, s.Q, B, rfl, hn, by unfold after; simp, hB, bB, hn1⟩⟩
        · have hfl : (⟨s.L, s.Q ++ [(2 + sd n, pgl (n + 1) B)], bn s.F, false⟩ : SS).fl = (0, ⟨(pg s.L s.Q).set (2 + sd n) (pgl (n + 1) B), [], bn (bn s.F), false⟩) := by
            unfold SS.fl
            rw [if_neg (by simp), if_neg hF2, pg_snoc]
          rw [sv_ok (x := n) hB (by rw [hl]) (by rw [hl]) hf (by rw [hw]) (by rw [hw]; simp only; rw [hfl]), hw]
          simp only
          rw [hfl]
          have hp := pg_2 hn
          have hpl : (pg s.L s.Q).length = 5 := by rw [pg_length]; exact h5
          have hx := sli_next hs hn1 hB bB
          refine ⟨by simp only [List.length_set]; exact hpl, n + 1, B, ?_, by unfold after; simp, .inl (fun q hq => by simp at hq)⟩
          simp only
          have hpar : n % 2 = 0 ∨ n % 2 = 1 := by omega
          rcases hpar with hpar | hpar
          · have e : 2 + sd n = 3 := by unfold sd; omega
            rw [e, List.getElem?_set_self (by omega), List.getElem?_set_ne (by omega), hp.1, Option.getD_some]
            exact hx.1 hpar
          · have e : 2 + sd n = 2 := by unfold sd; omega
            rw [e, List.getElem?_set_self (by omega), List.getElem?_set_ne (by omega), hp.2, Option.getD_some]
            exact hx.2 hpar
theorem mixs_near {T : Nat → Nat} {L : List (List Int)} {Q : List Wr} {i : Nat} : ∀ k, (∀ j q, j < k → Q[j]? = some q → q.1 ≠ i) → (mixs T L Q k)[i]? = L[i]?
  | 0, _ => rfl
  | k + 1, h => by
    cases hk : Q[k]? with
    | none => unfold mixs; rw [hk]; exact mixs_near k (fun j q hj hq => h j q (by omega) hq)
    | some q => rw [mixs_succ hk, List.getElem?_set_ne (h k q (by omega) hk), mixs_near k (fun j q hj hq => h j q (by omega) hq)]
/-- behind a restart -/
theorem wh_restart {s : SS} {M : List (List Int)} (h : Wh s M) (l : List Int) : ∃ n v, (s.rs l).ld 2 = (0, n, v) ∧ v ∈ M ∧ Wh (s.rs l) [v] := by
  obtain ⟨h5, n, v, hs, hv, h4⟩ := h
  have key : ∀ n' v', SlI n' v' ((s.rs l).L[2]?.getD []) ((s.rs l).L[3]?.getD []) → v' ∈ M → ∃ n v, (s.rs l).ld 2 = (0, n, v) ∧ v ∈ M ∧ Wh (s.rs l) [v] := fun n' v' hs' hv' => by
    have hl5 : (s.rs l).L.length = 5 := by show (mixs _ _ _ _).length = 5; rw [mixs_length]; exact h5
    have hnq : NoSl (s.rs l).Q := fun q hq => by simp [SS.rs] at hq
    exact ⟨n', v', by rw [ld_up hl5 rfl hnq, sli_slv hs'], hv', hl5, n', v', hs', by simp, .inl hnq⟩
  rcases h4 with hq | ⟨hd, Q, B, hQ, hq, hBM, hB, bB, hn1⟩
  · refine key n v ?_ hv
    show SlI n v ((mixs (keep l) s.L s.Q s.Q.length)[2]?.getD []) ((mixs (keep l) s.L s.Q s.Q.length)[3]?.getD [])
    rw [mixs_far (fun q hq' => (hq q hq').1), mixs_far (fun q hq' => (hq q hq').2)]
    exact hs
  · obtain ⟨m, hm⟩ : ∃ m, m = Q.length := ⟨_, rfl⟩
    have hat : (Q ++ [(2 + sd n, pgl (n + 1) B)])[m]? = some (2 + sd n, pgl (n + 1) B) := by rw [hm, List.getElem?_append_right (Nat.le_refl _), Nat.sub_self]; rfl
    have hlen : (Q ++ [(2 + sd n, pgl (n + 1) B)]).length = m + 1 := by rw [List.length_append, hm]; rfl
    have near : ∀ j q, j < m → (Q ++ [(2 + sd n, pgl (n + 1) B)])[j]? = some q → q.1 ≠ 2 ∧ q.1 ≠ 3 := fun j q hj hjq => by
      rw [List.getElem?_append_left (by omega)] at hjq
      exact hq q (List.mem_of_getElem? hjq)
    have n2 := mixs_near (T := keep l) (L := s.L) (Q := Q ++ [(2 + sd n, pgl (n + 1) B)]) (i := 2) m (fun j q h1 h2 => (near j q h1 h2).1)
    have n3 := mixs_near (T := keep l) (L := s.L) (Q := Q ++ [(2 + sd n, pgl (n + 1) B)]) (i := 3) m (fun j q h1 h2 => (near j q h1 h2).2)
    have e : (s.rs l).L = (mixs (keep l) s.L (Q ++ [(2 + sd n, pgl (n + 1) B)]) m).set (2 + sd n) (mx ((mixs (keep l) s.L (Q ++ [(2 + sd n, pgl (n + 1) B)]) m)[2 + sd n]?.getD []) (pgl (n + 1) B) (keep l m)) := by
      show mixs (keep l) s.L s.Q s.Q.length = _
      rw [hQ, hlen, mixs_succ hat]
    have hml : (mixs (keep l) s.L (Q ++ [(2 + sd n, pgl (n + 1) B)]) m).length = 5 := by rw [mixs_length]; exact h5
    have ht := sli_torn hs hn1 hB bB (keep_le l m)
    have hpar : n % 2 = 0 ∨ n % 2 = 1 := by have := hs.1; omega
    rcases hpar with hpar | hpar
    · have e3 : 2 + sd n = 3 := by unfold sd; omega
      rw [e3] at e n2 n3 hml
      have a2 : (s.rs l).L[2]? = s.L[2]? := by rw [e, List.getElem?_set_ne (by omega), n2]
      have a3 : (s.rs l).L[3]?.getD [] = mx (s.L[3]?.getD []) (pgl (n + 1) B) (keep l m) := by rw [e, List.getElem?_set_self (by omega), n3]; rfl
      rcases ht.1 hpar with hx | hx
      · exact key n v (by rw [a2, a3]; exact hx) hv
      · exact key (n + 1) B (by rw [a2, a3]; exact hx) hBM
    · have e3 : 2 + sd n = 2 := by unfold sd; omega
      rw [e3] at e n2 n3 hml
      have a3 : (s.rs l).L[3]? = s.L[3]? := by rw [e, List.getElem?_set_ne (by omega), n3]
      have a2 : (s.rs l).L[2]?.getD [] = mx (s.L[2]?.getD []) (pgl (n + 1) B) (keep l m) := by rw [e, List.getElem?_set_self (by omega), n2]; rfl
      rcases ht.2 hpar with hx | hx
      · exact key n v (by rw [a2, a3]; exact hx) hv
      · exact key (n + 1) B (by rw [a2, a3]; exact hx) hBM
theorem wh_new : Wh ⟨List.replicate 5 zpg, [], -1, false⟩ [[]] := ⟨rfl, 0, [], sli_new, by simp, .inl (fun q hq => by simp at hq)⟩
end Go.Proofs.Ythfkooancgkjaaa
