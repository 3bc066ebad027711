/-
  What this file is for: what the statement on pages to which no write waits says, as lists; lists of bytes that are kept. Nothing of the program is walked here.
-/
import Derived.Test.YthfkooancgkjaaaMDyL
import Derived.Test.YthfkooancgkjaaaMA1
set_option linter.unusedSimpArgs false
set_option linter.unusedVariables false
namespace Go.Proofs.Ythfkooancgkjaaa
open Go.ChangeShapes Go.WideShapes Go.ChangeAt Go.RowKit
set_option linter.unusedVariables false
set_option maxRecDepth 20000

theorem bel_of {n0 : Nat} {w w' : World} (h : Below n0 w w') (e : n0 = w.heap.size) : Below w.heap.size w w' := by rw [← e]; exact h
/-- what a call answers -/
def DoA (n0 b : Nat) (r : Int) (xs : List Int) (s' : SS) (w : World) (e : Ending) (w' : World) : Prop :=
  ∃ X q c, e = .returned (.tuple #[.slice X q c, .int .i64 r]) ∧ q = xs.length ∧ Fresh w w' X xs ∧ Lf n0 b s' w w'
theorem pg_far : ∀ (Q : List Wr) (L : List (List Int)) (i : Nat), (∀ q ∈ Q, q.1 ≠ i) → (pg L Q)[i]? = L[i]?
  | [], L, i, _ => rfl
  | q :: Q, L, i, h => by
    show (pg (L.set q.1 q.2) Q)[i]? = _
    rw [pg_far Q _ i (fun r hr => h r (List.mem_cons_of_mem _ hr)), List.getElem?_set_ne (h q (by simp))]
theorem mixs_far {T : Nat → Nat} {L : List (List Int)} {Q : List Wr} {i : Nat} (h : ∀ q ∈ Q, q.1 ≠ i) : ∀ k, (mixs T L Q k)[i]? = L[i]?
  | 0 => rfl
  | k + 1 => by
    cases hk : Q[k]? with
    | none => unfold mixs; rw [hk]; exact mixs_far h k
    | some q => rw [mixs_succ hk, List.getElem?_set_ne (h q (List.mem_of_getElem? hk)), mixs_far h k]
/-- lists of bytes, kept one by one in memory that is new since w -/
structure AllI (n0 : Nat) (w : World) (P : List (List Int)) (k : Nat) (A : Option Addr) (c : Nat) (w' : World) : Prop where
  ex : ∃ rows, w'.ownsRow n0 23 1 (.slice A k c) k rows ∧ ∀ j, j < k → ∃ B d, rows[j]? = some (.slice B 128 d) ∧ Fresh w w' B (P[j]?.getD [])
theorem Fresh.kt {w w1 w' : World} {A : Option Addr} {xs : List Int} (h : Fresh w w1 A xs) (hk : Kt w1 w') : Fresh w w' A xs := fun hx => by
  obtain ⟨g, cur, e, hg, hb, hc⟩ := h hx
  exact ⟨g, cur, e, hg, hk.blk hb (by decide), hc⟩
theorem AllI.kt {n0 : Nat} {w : World} {P : List (List Int)} {k : Nat} {A : Option Addr} {c : Nat} {w1 w' : World} (h : AllI n0 w P k A c w1) (hk : Kt w1 w') : AllI n0 w P k A c w' := by
  obtain ⟨rows, h1, h2⟩ := h
  exact ⟨rows, hk.own h1 (by decide), fun j hj => by
    obtain ⟨B, d, h3, h4⟩ := h2 j hj
    exact ⟨B, d, h3, h4.kt hk⟩⟩
theorem AllI.below {n0 : Nat} {w : World} {P : List (List Int)} {k : Nat} {A : Option Addr} {c : Nat} {w1 w' : World} (h : AllI n0 w P k A c w1) (hb : Below w1.heap.size w1 w') : AllI n0 w P k A c w' := h.kt (Kt.below hb)
theorem info_row1 : (Try.prog.info? 23).map (fun i => (i.zero, i.size, i.bytes)) = some (some (.slice none 0 0), 1, 24) := by kernel_rfl
theorem own_ne_t {w : World} {base e size n g : Nat} {t : TypeId} {v : Value} {xs : List Value} {cs : Array Value} (h : w.ownsRow base e size v n xs) (hb : Blk w g t cs) (hne : t ≠ e) : v.ownBlock ≠ some g := fun h1 => by
  rcases h.2 with ⟨rfl, _⟩ | ⟨k, cap, cur, rfl, _, hh, _⟩
  · cases h1
  · injection h1 with h1
    have e' : k = g := h1
    subst e'
    exact hb.ne (show Blk w k e cur from hh) hne rfl
/-- one more is kept -/
theorem AllI.push {n0 : Nat} {w : World} {P : List (List Int)} {k : Nat} {A A' : Option Addr} {c c' : Nat} {w1 w' : World} {rows : List Value} {B : Option Addr} {d : Nat} (hj : ∀ j, j < k → ∃ B d, rows[j]? = some (.slice B 128 d) ∧ Fresh w w1 B (P[j]?.getD [])) (hl : rows.length = k)
    (hf : Fresh w w1 B (P[k]?.getD [])) (ho : w'.ownsRow n0 23 1 (.slice A' (k + 1) c') (k + 1) (rows ++ [.slice B 128 d])) (hs : ∀ g cs, Blk w1 g 5 cs → w'.heap[g]? = w1.heap[g]?) : AllI n0 w P (k + 1) A' c' w' := by
  have key : ∀ {B : Option Addr} {xs : List Int}, Fresh w w1 B xs → Fresh w w' B xs := fun h hx => by
    obtain ⟨g, cur, e, hg, hb, hc⟩ := h hx
    exact ⟨g, cur, e, hg, hb.same (hs g cur hb), hc⟩
  refine ⟨_, ho, fun j hjk => ?_⟩
  by_cases h : j < k
  · obtain ⟨B', d', h3, h4⟩ := hj j h
    exact ⟨B', d', by rw [List.getElem?_append_left (by omega)]; exact h3, key h4⟩
  · obtain rfl : j = k := by omega
    exact ⟨B, d, by rw [List.getElem?_append_right (by omega), hl, Nat.sub_self]; rfl, key hf⟩
theorem one_row (u : World) (v : Value) : ∀ j x, [v][j]? = some x → (u.alloc (.cells #[v] 23)).cell? ((⟨u.heap.size, 0, none⟩ : Addr).add j) = some x := by
  intro j x h
  match j, h with
  | 0, h => rw [Addr.add_lit, (Blk.new u 23 #[v]).cell]; exact h
  | j + 1, h => simp at h
theorem rp_lt {w : World} {A : Option Addr} {xs : List Int} (h : Rp w none A xs) : 0 < xs.length → ∀ a, A = some a → a.block < w.heap.size := fun hx a ha => by
  obtain ⟨ad, e, hc⟩ := h.get hx
  rw [ha] at e
  injection e with e
  subst e
  have := block_lt_of_cell (hc 0 hx)
  rwa [add_block] at this
theorem ip_lt {w : World} {A : Option Addr} {xs : List Int} (h : Ip w A xs) : 0 < xs.length → ∀ a, A = some a → a.block < w.heap.size := fun hx a ha => by
  obtain ⟨ad, e, hc⟩ := h hx
  rw [ha] at e
  injection e with e
  subst e
  have := block_lt_of_cell (hc 0 hx)
  rwa [add_block] at this
end Go.Proofs.Ythfkooancgkjaaa
