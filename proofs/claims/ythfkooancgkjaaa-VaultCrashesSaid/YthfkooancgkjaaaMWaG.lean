/-
  What this file is for: a log while the power is on, call by call. Nothing of the program is walked here.
-/
import Derived.Test.YthfkooancgkjaaaMWaF
set_option linter.unusedSimpArgs false
set_option linter.unusedVariables false
namespace Go.Proofs.Ythfkooancgkjaaa
open Go.ChangeShapes Go.WideShapes Go.ChangeAt Go.RowKit
set_option linter.unusedVariables false
set_option maxRecDepth 20000

theorem Dy.mono2 {n0 n1 : Nat} {w : World} {b : Nat} {s : SS} (h : Dy n1 w b s) (hn : n0 ≤ n1) : Dy n0 w b s := by
  obtain ⟨R, k1, k2⟩ := h
  exact ⟨R, k1, fun k hk => ⟨Nat.le_trans hn (k2 k hk).1, (k2 k hk).2⟩⟩
theorem AllM.ral_at {m n0 : Nat} {w : World} {M : List (List Int)} {A : Option Addr} {c lm : Nat} (h : AllM m n0 w M (.slice A lm c)) : RAl w A M := fun j hj => by
  obtain ⟨_, g, B, d, e, h1, h2⟩ := h.at hj
  exact ⟨g, 0, B, d, e, by rw [Nat.zero_add]; exact h1, h2.1⟩
theorem WI.le {T a c : Nat} {lam : Int} {Y N : Nat → List Int} {q0 M : Nat} {R A1 A2 P X : List (List Int)} {s : SS} {l : LS} {all : List (List Int)} {sure : Nat} (h : WI T a c lam Y N q0 M R A1 A2 P X s l all sure) (ho : l.o = false) : l.n ≤ c := by
  obtain ⟨hP, hX, hn⟩ := h.up ho
  have h2 := h.m2
  have h3 := h.m3
  omega
/-- a log in c pages of a device of T, its power on, k calls behind its opening -/
structure FP (T c : Nat) (G : Int) (k : Nat) (all : List (List Int)) (s : SS) (l : LS) : Prop where
  bs : s.bs
  ln : s.L.length = T
  ql : s.Q.length ≤ 55 * k
  on : s.F = -1 ∧ s.D = false ∧ l.o = false
  g : l.g = G ∧ 1 ≤ G ∧ G < 256
  wi : ∃ N M A2 P X, WI T 0 c 1 (fun _ => zpg) N 0 M [] [] A2 P X s l all 0
  al : all.length ≤ k ∧ ∀ f ∈ all, f.length ≤ 6000
theorem FP.le {T c : Nat} {G : Int} {k : Nat} {all : List (List Int)} {s : SS} {l : LS} (h : FP T c G k all s l) : l.n ≤ c := by
  obtain ⟨N, M, A2, P, X, hw⟩ := h.wi
  exact hw.le h.on.2.2
theorem fp_new {T c : Nat} (hf : c ≤ T) {G : Int} (hg : 1 ≤ G ∧ G < 256) : FP T c G 0 [] ⟨List.replicate T zpg, [], -1, false⟩ ⟨G, 0, false⟩ :=
  ⟨new_bs T, by simp, by simp, ⟨rfl, rfl, rfl⟩, ⟨rfl, hg⟩, ⟨_, _, _, _, _, wi_new (by omega) hg ⟨by decide, hg.1⟩⟩, by simp, by simp⟩
theorem FP.step {T c : Nat} {G : Int} {k : Nat} {all : List (List Int)} {s : SS} {l : LS} (h : FP T c G k all s l) {r : List Int} (hb : Bs r) :
    (6000 < r.length ∧ (s.ap 0 c l r).1 = 3 ∧ FP T c G (k + 1) all (s.ap 0 c l r).2.1 (s.ap 0 c l r).2.2 ∧ (s.ap 0 c l r).2.2.n = l.n) ∨
    (r.length ≤ 6000 ∧ c < l.n + np r.length ∧ (s.ap 0 c l r).1 = 5 ∧ FP T c G (k + 1) all (s.ap 0 c l r).2.1 (s.ap 0 c l r).2.2 ∧ (s.ap 0 c l r).2.2.n = l.n) ∨
    (r.length ≤ 6000 ∧ l.n + np r.length ≤ c ∧ (s.ap 0 c l r).1 = 0 ∧ FP T c G (k + 1) (all ++ [r]) (s.ap 0 c l r).2.1 (s.ap 0 c l r).2.2 ∧ (s.ap 0 c l r).2.2.n = l.n + np r.length) := by
  obtain ⟨N, M, A2, P, X, hw⟩ := h.wi
  have h1 := ap_len s 0 c l r
  have h2 := ap_bs h.bs 0 c (l := l) (by have := h.g; omega) hb
  have hql := h.ql
  have more : FP T c G (k + 1) all s l := ⟨h.bs, h.ln, by omega, h.on, h.g, h.wi, Nat.le_succ_of_le h.al.1, h.al.2⟩
  rcases wi_on hw (by have := h.g; omega) h.on.1 h.on.2.1 h.on.2.2 hb with ⟨k1, k2⟩ | ⟨k1, k2, k3⟩ | ⟨k1, k2, k3, k4, k5, k6, N', M', A2', P', X', hw'⟩
  · left
    rw [k2]
    exact ⟨k1, rfl, more, rfl⟩
  · right; left
    rw [cut_len] at k2
    rw [k3]
    exact ⟨k1, k2, rfl, more, rfl⟩
  · right; right
    rw [cut_len] at k2
    refine ⟨k1, k2, k3, ⟨h2, h1.1.trans h.ln, by omega, ⟨k5, k6, by rw [k4]⟩, by rw [k4]; exact h.g, ⟨_, _, _, _, _, hw'⟩, ?_, ?_⟩, by rw [k4, cut_len]⟩
    · rw [List.length_append, List.length_singleton]; have := h.al.1; omega
    · intro f hf
      rcases List.mem_append.1 hf with h9 | h9
      · exact h.al.2 f h9
      · rw [List.mem_singleton.1 h9]; exact k1
end Go.Proofs.Ythfkooancgkjaaa
