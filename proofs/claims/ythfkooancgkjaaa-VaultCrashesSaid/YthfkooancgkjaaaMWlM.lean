/-
  What this file is for: a log's pages, as lists: what a page holds, which page is right at a place, which records a log has, as the chapter says it. Nothing of the program is walked here.
-/
import Derived.Test.YthfkooancgkjaaaMValM
import Derived.Test.YthfkooancgkjaaaMA1
set_option linter.unusedSimpArgs false
set_option linter.unusedVariables false
namespace Go.Proofs.Ythfkooancgkjaaa
open Go.ChangeShapes Go.WideShapes Go.ChangeAt Go.RowKit
set_option linter.unusedVariables false
set_option maxRecDepth 20000

/-- a mark -/
def mk (g p : Int) : List Int := be g 4 ++ be p 4
theorem mk_len (g p : Int) : (mk g p).length = 8 := by unfold mk; rw [List.length_append, be_length, be_length]
/-- a part's page -/
def wpg (g p kd : Int) (b : List Int) : List Int := mk g p ++ [kd, (b.length : Int)] ++ b ++ List.replicate (110 - b.length) 0 ++ mk g p
theorem wpg_len {g p kd : Int} {b : List Int} (h : b.length ≤ 110) : (wpg g p kd b).length = 128 := by
  unfold wpg; simp only [List.length_append, mk_len, List.length_replicate, List.length_cons, List.length_nil]; omega
theorem wpg_bs {g p kd : Int} {b : List Int} (hk : 0 ≤ kd ∧ kd < 256) (hl : b.length ≤ 110) (h : Bs b) : Bs (wpg g p kd b) := by
  intro y hy
  unfold wpg mk at hy
  simp only [List.mem_append, List.mem_cons, List.not_mem_nil, or_false] at hy
  rcases hy with ((((h1 | h1) | (h1 | h1)) | h1) | h1) | (h1 | h1)
  · exact be_bs _ _ y h1
  · exact be_bs _ _ y h1
  · rw [h1]; exact hk
  · rw [h1]; omega
  · exact h y h1
  · rw [List.eq_of_mem_replicate h1]; omega
  · exact be_bs _ _ y h1
  · exact be_bs _ _ y h1
theorem wpg_front (g p kd : Int) (b : List Int) : (wpg g p kd b).take 8 = mk g p := by
  unfold wpg
  simp only [List.append_assoc]
  rw [List.take_append_of_le_length (by rw [mk_len]; omega), List.take_of_length_le (by rw [mk_len]; omega)]
theorem wpg_gen (g p kd : Int) (b : List Int) : (wpg g p kd b).take 4 = be g 4 := by
  have := congrArg (List.take 4) (wpg_front g p kd b)
  rw [List.take_take] at this
  rw [show min 4 8 = 4 by decide] at this
  rw [this]
  unfold mk
  rw [List.take_append_of_le_length (by rw [be_length]; omega), List.take_of_length_le (by rw [be_length]; omega)]
theorem wpg_back {g p kd : Int} {b : List Int} (h : b.length ≤ 110) : (wpg g p kd b).drop 120 = mk g p := by
  have : wpg g p kd b = (mk g p ++ [kd, (b.length : Int)] ++ b ++ List.replicate (110 - b.length) 0) ++ mk g p := rfl
  rw [this]
  have hl : (mk g p ++ [kd, (b.length : Int)] ++ b ++ List.replicate (110 - b.length) (0 : Int)).length = 120 := by simp only [List.length_append, mk_len, List.length_replicate, List.length_cons, List.length_nil]; omega
  rw [← hl, List.drop_left]
/-- the bytes 8 and 9 -/
def b8 (X : List Int) : Int := X[8]?.getD 0
def b9 (X : List Int) : Int := X[9]?.getD 0
theorem wpg_kind (g p kd : Int) (b : List Int) : b8 (wpg g p kd b) = kd ∧ b9 (wpg g p kd b) = (b.length : Int) := by
  have e : wpg g p kd b = mk g p ++ (kd :: (b.length : Int) :: (b ++ (List.replicate (110 - b.length) 0 ++ mk g p))) := by unfold wpg; simp
  unfold b8 b9
  rw [e]
  refine ⟨?_, ?_⟩
  · rw [List.getElem?_append_right (by rw [mk_len]; omega), mk_len]; rfl
  · rw [List.getElem?_append_right (by rw [mk_len]; omega), mk_len]; rfl
theorem wpg_part (g p kd : Int) (b : List Int) : ((wpg g p kd b).drop 10).take b.length = b := by
  have : wpg g p kd b = (mk g p ++ [kd, (b.length : Int)]) ++ (b ++ (List.replicate (110 - b.length) 0 ++ mk g p)) := by unfold wpg; simp only [List.append_assoc]
  rw [this, List.drop_append_of_le_length (by rw [List.length_append, mk_len]; simp), List.drop_of_length_le (by rw [List.length_append, mk_len]; simp), List.nil_append, List.take_left]
/-- what a page tells that is right at a place: its generation, its kind, its part -/
def rt (X : List Int) (p l : Int) : Option (Int × Int × List Int) :=
  if l ≤ val (X.take 4) ∧ (0 ≤ b8 X ∧ b8 X ≤ 3) ∧ (0 ≤ b9 X ∧ b9 X ≤ 110) ∧ (b9 X < 110 → 2 ≤ b8 X) ∧ X = wpg (val (X.take 4)) p (b8 X) ((X.drop 10).take (b9 X).toNat)
  then some (val (X.take 4), b8 X, (X.drop 10).take (b9 X).toNat) else none
theorem val_be4' (g : Int) (h : 0 ≤ g ∧ g < 4294967296) : val (be g 4) = g := by
  rw [val_be' g 4 h.1]
  have : (256 : Int) ^ 4 = 4294967296 := by decide
  rw [this]; omega
theorem rt_wpg {g p kd l : Int} {b : List Int} (hg : 0 ≤ g ∧ g < 4294967296) (hl : l ≤ g) (hk : 0 ≤ kd ∧ kd ≤ 3) (hb : b.length ≤ 110) (hf : b.length < 110 → 2 ≤ kd) : rt (wpg g p kd b) p l = some (g, kd, b) := by
  unfold rt
  rw [wpg_gen, (wpg_kind g p kd b).1, (wpg_kind g p kd b).2, val_be4' g hg, Int.toNat_natCast, wpg_part, if_pos ⟨hl, hk, by omega, fun h => hf (by omega), rfl⟩]
theorem rt_some {X : List Int} {p l g kd : Int} {b : List Int} (h : rt X p l = some (g, kd, b)) : l ≤ g ∧ g = val (X.take 4) ∧ (0 ≤ kd ∧ kd ≤ 3) ∧ b.length ≤ 110 ∧ X = wpg g p kd b := by
  unfold rt at h
  split at h
  · rename_i hc
    injection h with h
    injection h with h1 h2
    injection h2 with h2 h3
    subst h1; subst h2; subst h3
    exact ⟨hc.1, rfl, hc.2.1, by rw [List.length_take]; omega, hc.2.2.2.2⟩
  · cases h
/-- the same page, by another least generation -/
theorem rt_least {X : List Int} {p l l' g kd : Int} {b : List Int} (h : rt X p l = some (g, kd, b)) (hl : l' ≤ g) : rt X p l' = some (g, kd, b) := by
  unfold rt at h ⊢
  split at h
  · rename_i hc
    injection h with h
    have h1 : val (X.take 4) = g := congrArg Prod.fst h
    rw [if_pos ⟨by rw [h1]; exact hl, hc.2⟩, h]
  · cases h

/-! Which records there are. -/
/-- from page i on, of f pages: what is left of a record whose parts ahead are acc (first: none yet), by the least generation l; behind which page, and its generation -/
def nx (P : Nat → List Int) : Nat → Nat → Int → Bool → List Int → Option (List Int × Nat × Int)
  | 0, _, _, _, _ => none
  | f + 1, i, l, first, acc =>
    match rt (P i) ((i : Int) + 1) l with
    | none => none
    | some (g, kd, b) =>
      if decide (kd % 2 = 1) ≠ first ∨ (first = false ∧ g ≠ l) ∨ 6000 < (acc ++ b).length then none
      else if 2 ≤ kd then some (acc ++ b, i + 1, g) else nx P f (i + 1) g false (acc ++ b)
/-- the records from page i on, of n pages in all; behind which page they end, and the last one's generation -/
def scn (P : Nat → List Int) (n : Nat) : Nat → Nat → Int → List (List Int) × Nat × Int
  | 0, i, l => ([], i, l)
  | f + 1, i, l =>
    match nx P (n - i) i l true [] with
    | none => ([], i, l)
    | some (r, j, g) => (r :: (scn P n f j g).1, (scn P n f j g).2)
theorem nx_more {P : Nat → List Int} : ∀ (f i : Nat) (l : Int) (first : Bool) (acc r : List Int) (j : Nat) (g : Int), nx P f i l first acc = some (r, j, g) → i < j ∧ j ≤ i + f ∧ l ≤ g ∧ (first = false → g = l)
  | 0, i, l, first, acc, r, j, g, h => by cases h
  | f + 1, i, l, first, acc, r, j, g, h => by
    unfold nx at h
    cases hr : rt (P i) ((i : Int) + 1) l with
    | none => rw [hr] at h; cases h
    | some y =>
      obtain ⟨g1, kd, b⟩ := y
      rw [hr] at h
      simp only at h
      have hs := rt_some hr
      split at h
      · cases h
      · rename_i hc
        have hfl : first = false → g1 = l := fun hf => Decidable.byContradiction fun hn => hc (.inr (.inl ⟨hf, hn⟩))
        split at h
        · injection h with h
          injection h with h1 h2
          injection h2 with h2 h3
          subst h2; subst h3
          exact ⟨by omega, by omega, hs.1, hfl⟩
        · obtain ⟨h1, h2, h3, h4⟩ := nx_more f (i + 1) g1 false (acc ++ b) r j g h
          have := h4 rfl
          refine ⟨by omega, by omega, by have := hs.1; omega, fun hf => ?_⟩
          have := hfl hf
          omega
/-- what is found hangs on the pages ahead of its end alone -/
theorem nx_same {P R : Nat → List Int} : ∀ (f f' i : Nat) (l : Int) (first : Bool) (acc r : List Int) (j : Nat) (g : Int), nx P f i l first acc = some (r, j, g) → (∀ k, i ≤ k → k < j → R k = P k) → j ≤ i + f' → nx R f' i l first acc = some (r, j, g)
  | 0, f', i, l, first, acc, r, j, g, h, _, _ => by cases h
  | f + 1, 0, i, l, first, acc, r, j, g, h, _, hj => by have := (nx_more _ _ _ _ _ _ _ _ h).1; omega
  | f + 1, f' + 1, i, l, first, acc, r, j, g, h, hs, hj => by
    have hij := (nx_more _ _ _ _ _ _ _ _ h).1
    unfold nx at h ⊢
    rw [hs i (Nat.le_refl _) hij]
    cases hr : rt (P i) ((i : Int) + 1) l with
    | none => rw [hr] at h; cases h
    | some y =>
      obtain ⟨g1, kd, b⟩ := y
      rw [hr] at h
      simp only at h ⊢
      split at h
      · cases h
      · rename_i hc
        rw [if_neg hc]
        split at h
        · rename_i hk; rw [if_pos hk]; exact h
        · rename_i hk
          rw [if_neg hk]
          exact nx_same f f' (i + 1) g1 false (acc ++ b) r j g h (fun k h1 h2 => hs k (by omega) h2) (by omega)
end Go.Proofs.Ythfkooancgkjaaa
