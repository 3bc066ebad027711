/-
  What this file is for: which records a log has behind a crash: the first ones of those that were begun, and at least those that were flushed. Nothing of the program is walked here.
-/
import Derived.Test.YthfkooancgkjaaaMWlC
set_option linter.unusedSimpArgs false
set_option linter.unusedVariables false
namespace Go.Proofs.Ythfkooancgkjaaa
open Go.ChangeShapes Go.WideShapes Go.ChangeAt Go.RowKit
set_option linter.unusedVariables false
set_option maxRecDepth 20000

/-- a record's parts -/
def cutf : Nat → List Int → List (List Int)
  | 0, b => [b]
  | k + 1, b => if b.length ≤ 110 then [b] else b.take 110 :: cutf k (b.drop 110)
def cut (b : List Int) : List (List Int) := cutf b.length b
theorem cutf_ok : ∀ (k : Nat) (b : List Int), b.length ≤ 110 + 110 * k → PtOk (cutf k b) ∧ (cutf k b).flatten = b ∧ 0 < (cutf k b).length
  | 0, b, h => ⟨h, by simp [cutf], by simp [cutf]⟩
  | k + 1, b, h => by
    unfold cutf
    split
    · rename_i h1; exact ⟨h1, by simp, by simp⟩
    · rename_i h1
      obtain ⟨h2, h3, h4⟩ := cutf_ok k (b.drop 110) (by rw [List.length_drop]; omega)
      refine ⟨?_, by simp [h3], by simp⟩
      cases hc : cutf k (b.drop 110) with
      | nil => rw [hc] at h4; simp at h4
      | cons c r =>
        rw [hc] at h2
        exact ⟨by rw [List.length_take]; omega, h2⟩
theorem cut_ok (b : List Int) : PtOk (cut b) ∧ (cut b).flatten = b ∧ 0 < (cut b).length := cutf_ok _ _ (by omega)
theorem cutf_bs : ∀ (k : Nat) (b : List Int), Bs b → ∀ p ∈ cutf k b, Bs p
  | 0, b, h, p, hp => by
    have : p = b := by simpa [cutf] using hp
    rw [this]; exact h
  | k + 1, b, h, p, hp => by
    unfold cutf at hp
    split at hp
    · have : p = b := by simpa using hp
      rw [this]; exact h
    · rcases List.mem_cons.1 hp with h1 | h1
      · rw [h1]; exact h.take 110
      · exact cutf_bs k _ (h.drop 110) p h1
/-- the pages N from i on are those of the records A -/
def RecsAt (N : Nat → List Int) (g : Int) : Nat → List (List Int) → Prop
  | _, [] => True
  | i, r :: A => (∀ j, j < (cut r).length → N (i + j) = (rpg g i true (cut r))[j]?.getD []) ∧ r.length ≤ 6000 ∧ RecsAt N g (i + (cut r).length) A
/-- how many pages records have -/
def pgs : List (List Int) → Nat
  | [] => 0
  | r :: A => (cut r).length + pgs A
theorem pgs_app : ∀ (A B : List (List Int)), pgs (A ++ B) = pgs A + pgs B
  | [], B => by simp [pgs]
  | r :: A, B => by show (cut r).length + pgs (A ++ B) = (cut r).length + pgs A + pgs B; rw [pgs_app A B]; omega
theorem recs_app {N : Nat → List Int} {g : Int} : ∀ (A B : List (List Int)) (i : Nat), RecsAt N g i (A ++ B) ↔ RecsAt N g i A ∧ RecsAt N g (i + pgs A) B
  | [], B, i => by simp [RecsAt, pgs]
  | r :: A, B, i => by
    show (_ ∧ _ ∧ RecsAt N g (i + (cut r).length) (A ++ B)) ↔ (_ ∧ _ ∧ RecsAt N g (i + (cut r).length) A) ∧ RecsAt N g (i + ((cut r).length + pgs A)) B
    rw [recs_app A B, ← Nat.add_assoc]
    constructor
    · rintro ⟨h1, h2, h3, h4⟩; exact ⟨⟨h1, h2, h3⟩, h4⟩
    · rintro ⟨⟨h1, h2, h3⟩, h4⟩; exact ⟨h1, h2, h3, h4⟩
theorem recs_same {N N' : Nat → List Int} {g : Int} : ∀ (A : List (List Int)) (i : Nat), RecsAt N g i A → (∀ k, i ≤ k → k < i + pgs A → N' k = N k) → RecsAt N' g i A
  | [], i, _, _ => trivial
  | r :: A, i, h, hs => by
    obtain ⟨h1, h2, h3⟩ := h
    have e : pgs (r :: A) = (cut r).length + pgs A := rfl
    refine ⟨fun j hj => ?_, h2, recs_same A _ h3 (fun k hk1 hk2 => hs k (by omega) (by omega))⟩
    rw [hs (i + j) (by omega) (by omega)]
    exact h1 j hj

section
variable {Z : Nat → List Int} {n : Nat} {g : Int}
theorem nx_out (i : Nat) (l : Int) (first : Bool) (acc : List Int) (h : n ≤ i) : nx Z (n - i) i l first acc = none := by
  rw [Nat.sub_eq_zero_of_le h]; rfl
theorem nx_dead {f i : Nat} {l : Int} {first : Bool} {acc : List Int} (h : Dead g Z i) (hl : g ≤ l) : nx Z f i l first acc = none := by
  cases f with
  | zero => rfl
  | succ f => unfold nx; rw [h l hl]
/-- from where the generation is g on: the first ones of the records -/
theorem scn_new (hg : 0 ≤ g ∧ g < 4294967296) {N : Nat → List Int} : ∀ (A : List (List Int)) (i f : Nat), RecsAt N g i A → i + pgs A ≤ n → (∀ k, i ≤ k → k < i + pgs A → Z k = N k ∨ Dead g Z k) → (∀ k, i + pgs A ≤ k → k < n → Dead g Z k) → ∃ j, j ≤ A.length ∧ (scn Z n f i g).1 = A.take j
  | A, i, 0, _, _, _, _ => ⟨0, Nat.zero_le _, rfl⟩
  | [], i, f + 1, _, _, _, hd => by
    refine ⟨0, Nat.le_refl _, ?_⟩
    unfold scn
    have : nx Z (n - i) i g true [] = none := by
      rcases Nat.lt_or_ge i n with h | h
      · exact nx_dead (hd i (by simp [pgs]) h) (Int.le_refl _)
      · exact nx_out i g true [] h
    rw [this]; rfl
  | r :: A, i, f + 1, hA, he, hw, hd => by
    obtain ⟨h1, h2, h3⟩ := hA
    have e : pgs (r :: A) = (cut r).length + pgs A := rfl
    have hc := cut_ok r
    have hx := (nx_rpg hg (Z := Z) (cut r) i (n - i) g true [] hc.1 (Int.le_refl _) (fun h => by cases h) (by omega) (by rw [List.nil_append, hc.2.1]; exact h2)).2 rfl (fun j hj => by
      rcases hw (i + j) (by omega) (by omega) with h | h
      · left; rw [h]; exact h1 j hj
      · exact .inr h)
    rcases hx with hx | hx
    · rw [List.nil_append, hc.2.1] at hx
      obtain ⟨j, hj, hs⟩ := scn_new hg A (i + (cut r).length) f h3 (by omega) (fun k hk1 hk2 => hw k (by omega) (by omega)) (fun k hk1 hk2 => hd k (by omega) hk2)
      refine ⟨j + 1, by simp only [List.length_cons]; omega, ?_⟩
      unfold scn
      rw [hx]
      simp only
      rw [hs, List.take_succ_cons]
    · refine ⟨0, Nat.zero_le _, ?_⟩
      unfold scn
      rw [hx]; rfl
/-- records that are there whole are found -/
theorem scn_whole (hg : 0 ≤ g ∧ g < 4294967296) {N : Nat → List Int} : ∀ (A : List (List Int)) (i f : Nat) (l : Int), RecsAt N g i A → i + pgs A ≤ n → l ≤ g → (∀ k, i ≤ k → k < i + pgs A → Z k = N k) → A.length ≤ f →
    scn Z n f i l = (A ++ (scn Z n (f - A.length) (i + pgs A) (if A = [] then l else g)).1, (scn Z n (f - A.length) (i + pgs A) (if A = [] then l else g)).2)
  | [], i, f, l, _, _, _, _, _ => by simp [pgs]
  | r :: A, i, 0, l, _, _, _, _, hf => by simp at hf
  | r :: A, i, f + 1, l, hA, he, hl, hw, hf => by
    obtain ⟨h1, h2, h3⟩ := hA
    have e : pgs (r :: A) = (cut r).length + pgs A := rfl
    have hc := cut_ok r
    have hx := (nx_rpg hg (Z := Z) (cut r) i (n - i) l true [] hc.1 hl (fun h => by cases h) (by omega) (by rw [List.nil_append, hc.2.1]; exact h2)).1 (fun j hj => by
      rw [hw (i + j) (by omega) (by omega)]; exact h1 j hj)
    rw [List.nil_append, hc.2.1] at hx
    have ih := scn_whole hg A (i + (cut r).length) f g h3 (by omega) (Int.le_refl _) (fun k hk1 hk2 => hw k (by omega) (by omega)) (by simpa using hf)
    have e2 : f + 1 - (r :: A).length = f - A.length := by simp
    have e3 : (if A = [] then g else g) = g := by split <;> rfl
    rw [e3] at ih
    conv => lhs; unfold scn
    rw [hx]
    simp only
    rw [ih, if_neg (by simp), e2, e, Nat.add_assoc]
    rfl
/-- fuel that is enough -/
theorem scn_fuel : ∀ (f f' i : Nat) (l : Int), n ≤ i + f → n ≤ i + f' → scn Z n f i l = scn Z n f' i l
  | 0, 0, i, l, _, _ => rfl
  | 0, f' + 1, i, l, h, _ => by
    conv => rhs; unfold scn
    rw [nx_out i l true [] (by omega)]; rfl
  | f + 1, 0, i, l, _, h => by
    conv => lhs; unfold scn
    rw [nx_out i l true [] (by omega)]; rfl
  | f + 1, f' + 1, i, l, h1, h2 => by
    unfold scn
    cases hx : nx Z (n - i) i l true [] with
    | none => rfl
    | some y =>
      obtain ⟨r, j, g'⟩ := y
      have := (nx_more _ _ _ _ _ _ _ _ hx).1
      simp only
      rw [scn_fuel f f' j g' (by omega) (by omega)]
/-- behind the last record none begins -/
theorem scn_stop : ∀ (f i : Nat) (l : Int), n ≤ i + f → nx Z (n - (scn Z n f i l).2.1) (scn Z n f i l).2.1 (scn Z n f i l).2.2 true [] = none ∧ i ≤ (scn Z n f i l).2.1 ∧ l ≤ (scn Z n f i l).2.2
  | 0, i, l, h => ⟨nx_out i l true [] (by omega), Nat.le_refl _, Int.le_refl _⟩
  | f + 1, i, l, h => by
    unfold scn
    cases hx : nx Z (n - i) i l true [] with
    | none => exact ⟨hx, Nat.le_refl _, Int.le_refl _⟩
    | some y =>
      obtain ⟨r, j, g'⟩ := y
      have hm := nx_more _ _ _ _ _ _ _ _ hx
      obtain ⟨h1, h2, h3⟩ := scn_stop f j g' (by omega)
      exact ⟨h1, by simp only; omega, by simp only; omega⟩
theorem scn_none {P : Nat → List Int} {f i : Nat} {l : Int} (h : nx P (n - i) i l true [] = none) : scn P n (f + 1) i l = ([], i, l) := by
  unfold scn; rw [h]
theorem scn_some {P : Nat → List Int} {f i : Nat} {l : Int} {r : List Int} {j : Nat} {g' : Int} (h : nx P (n - i) i l true [] = some (r, j, g')) : scn P n (f + 1) i l = (r :: (scn P n f j g').1, (scn P n f j g').2) := by
  conv => lhs; unfold scn
  rw [h]
/-- the records ahead are found again -/
theorem scn_again {Y : Nat → List Int} : ∀ (f i : Nat) (l : Int), (∀ k, i ≤ k → k < (scn Y n f i l).2.1 → Z k = Y k) → n ≤ i + f →
    scn Z n f i l = ((scn Y n f i l).1 ++ (scn Z n n (scn Y n f i l).2.1 (scn Y n f i l).2.2).1, (scn Z n n (scn Y n f i l).2.1 (scn Y n f i l).2.2).2)
  | 0, i, l, _, h => by
    show scn Z n 0 i l = ([] ++ (scn Z n n i l).1, (scn Z n n i l).2)
    rw [List.nil_append]
    exact scn_fuel 0 n i l h (by omega)
  | f + 1, i, l, hs, h => by
    cases hx : nx Y (n - i) i l true [] with
    | none =>
      rw [scn_none hx, List.nil_append]
      exact scn_fuel (f + 1) n i l h (by omega)
    | some y =>
      obtain ⟨r, j, g'⟩ := y
      rw [scn_some hx] at hs ⊢
      simp only at hs ⊢
      have hm := nx_more _ _ _ _ _ _ _ _ hx
      have hst := scn_stop (Z := Y) (n := n) f j g' (by omega)
      have hx2 := nx_same (R := Z) (n - i) (n - i) i l true [] r j g' hx (fun k h1 h2 => hs k h1 (by omega)) (by omega)
      have ih := scn_again (Y := Y) f j g' (fun k h1 h2 => hs k (by omega) h2) (by omega)
      rw [scn_some hx2, ih]
      rfl
end
end Go.Proofs.Ythfkooancgkjaaa
