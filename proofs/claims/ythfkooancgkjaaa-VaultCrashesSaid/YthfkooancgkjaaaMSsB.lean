/-
  What this file is for: a device all of whose bytes are bytes. Nothing of the program is walked here.
-/
import Derived.Test.YthfkooancgkjaaaMValM
import Derived.Test.YthfkooancgkjaaaMDyL
set_option linter.unusedSimpArgs false
set_option linter.unusedVariables false
namespace Go.Proofs.Ythfkooancgkjaaa
open Go.ChangeShapes Go.WideShapes Go.ChangeAt Go.RowKit
set_option linter.unusedVariables false
set_option maxRecDepth 20000
/-- all bytes are bytes -/
def SS.bs (s : SS) : Prop := (∀ p ∈ s.L, Bs p) ∧ ∀ q ∈ s.Q, Bs q.2
theorem pg_bs : ∀ (Q : List Wr) (L : List (List Int)), (∀ p ∈ L, Bs p) → (∀ q ∈ Q, Bs q.2) → ∀ p ∈ pg L Q, Bs p
  | [], L, h, _ => h
  | q :: Q, L, h, hq => pg_bs Q _ (fun p hp => by
      rcases List.mem_or_eq_of_mem_set hp with h1 | h1
      · exact h p h1
      · rw [h1]; exact hq q (by simp)) (fun r hr => hq r (List.mem_cons_of_mem _ hr))
theorem bs_at {L : List (List Int)} (h : ∀ p ∈ L, Bs p) (i : Nat) : Bs (L[i]?.getD []) := by
  rcases Nat.lt_or_ge i L.length with h1 | h1
  · rw [List.getElem?_eq_getElem h1]; exact h _ (List.getElem_mem h1)
  · rw [List.getElem?_eq_none h1]; intro y hy; simp at hy
theorem SS.rd_bs {s : SS} (h : s.bs) (i : Int) : Bs (s.rd i).2 := by
  unfold SS.rd
  split
  · intro y hy; simp at hy
  · split
    · intro y hy; simp at hy
    · exact bs_at (pg_bs _ _ h.1 h.2) _
theorem SS.rd_len {s : SS} (h1 : PgOk s.L) (h2 : QOk s.L.length s.Q) (i : Int) (h : (s.rd i).1 = 0) : (s.rd i).2.length = 128 := by
  unfold SS.rd at h ⊢
  split
  · rename_i h3; rw [if_pos h3] at h; simp at h
  · rename_i h3
    rw [if_neg h3] at h
    split
    · rename_i h4; rw [if_pos h4] at h; simp at h
    · rename_i h4; exact (pg_ok _ _ h1 h2).at (by rw [pg_length]; omega)
theorem SS.wr_bs {s : SS} (h : s.bs) (i : Int) (b : List Int) (hb : Bs b) : (s.wr i b).2.bs := by
  unfold SS.wr
  split
  · exact h
  · split
    · exact h
    · split
      · exact h
      · split
        · exact h
        · exact ⟨h.1, fun q hq => by
            rcases List.mem_append.1 hq with h1 | h1
            · exact h.2 q h1
            · rw [List.mem_singleton.1 h1]; exact hb⟩
theorem SS.fl_bs {s : SS} (h : s.bs) : s.fl.2.bs := by
  unfold SS.fl
  split
  · exact h
  · split
    · exact h
    · exact ⟨pg_bs _ _ h.1 h.2, fun q hq => by simp at hq⟩
theorem mixs_bs (T : Nat → Nat) {L : List (List Int)} {Q : List Wr} (h : ∀ p ∈ L, Bs p) (hq : ∀ q ∈ Q, Bs q.2) : ∀ k, ∀ p ∈ mixs T L Q k, Bs p
  | 0 => h
  | k + 1 => by
    unfold mixs
    cases hk : Q[k]? with
    | none => exact mixs_bs T h hq k
    | some q =>
      intro p hp
      rcases List.mem_or_eq_of_mem_set hp with h1 | h1
      · exact mixs_bs T h hq k p h1
      · rw [h1]
        intro y hy
        unfold mx at hy
        rcases List.mem_append.1 hy with h2 | h2
        · exact hq q (List.mem_of_getElem? hk) y (List.mem_of_mem_take h2)
        · exact bs_at (mixs_bs T h hq k) q.1 y (List.mem_of_mem_drop h2)
theorem SS.rs_bs {s : SS} (h : s.bs) (l : List Int) : (s.rs l).bs := ⟨mixs_bs _ h.1 h.2 _, fun q hq => by simp [SS.rs] at hq⟩
theorem SS.sf_bs {s : SS} (h : s.bs) (n : Int) : (s.sf n).bs := h
end Go.Proofs.Ythfkooancgkjaaa
