/-
  What this file is for: a log's pages as the code reads and writes them, as lists: marks as numbers, what a page tells by its fields, a record's parts one by one. Nothing of the program is walked here.
-/
import Derived.Test.YthfkooancgkjaaaMWlW
set_option linter.unusedSimpArgs false
set_option linter.unusedVariables false
namespace Go.Proofs.Ythfkooancgkjaaa
open Go.ChangeShapes Go.WideShapes Go.ChangeAt Go.RowKit
set_option linter.unusedVariables false
set_option maxRecDepth 20000

theorem mk_bs (g p : Int) : Bs (mk g p) := fun y hy => by
  unfold mk at hy
  rcases List.mem_append.1 hy with h | h
  · exact be_bs _ _ y h
  · exact be_bs _ _ y h
theorem mk_val (g p : Int) (hg : 0 ≤ g ∧ g < 4294967296) (hp : 0 ≤ p ∧ p < 4294967296) : val (mk g p) = g * 4294967296 + p := by
  unfold mk
  rw [val_app, val_be4' g hg, val_be4' p hp, be_length]
  have : (256 : Int) ^ 4 = 4294967296 := by decide
  rw [this]
theorem be_mk (g p : Int) (hg : 0 ≤ g ∧ g < 4294967296) (hp : 0 ≤ p ∧ p < 4294967296) : mk g p = be (g * 4294967296 + p) 8 := by
  refine val_inj _ _ (by rw [mk_len, be_length]) (mk_bs _ _) (be_bs _ _) ?_
  rw [mk_val g p hg hp, val_be8 _ (by omega)]
theorem mk_iff {Y : List Int} (hl : Y.length = 8) (hb : Bs Y) {g p : Int} (hg : 0 ≤ g ∧ g < 4294967296) (hp : 0 ≤ p ∧ p < 4294967296) : Y = mk g p ↔ val Y = g * 4294967296 + p := by
  constructor
  · intro h; rw [h, mk_val g p hg hp]
  · intro h
    refine val_inj _ _ (by rw [mk_len, hl]) hb (mk_bs _ _) ?_
    rw [mk_val g p hg hp, h]
theorem five {A A' m b r r' z z' : List Int} (h2 : r.length = r'.length) (h3 : z.length = z'.length) : A ++ m ++ b ++ r ++ z = A' ++ m ++ b ++ r' ++ z' ↔ A = A' ∧ r = r' ∧ z = z' := by
  constructor
  · intro h
    obtain ⟨h4, h5⟩ := List.append_inj' h h3
    obtain ⟨h6, h7⟩ := List.append_inj' h4 h2
    exact ⟨List.append_cancel_right (List.append_cancel_right h6), h7, h5⟩
  · rintro ⟨rfl, rfl, rfl⟩; rfl
theorem page_parts {X : List Int} (hX : X.length = 128) {k : Nat} (hk : k ≤ 110) : X = X.take 8 ++ [b8 X, b9 X] ++ (X.drop 10).take k ++ (X.drop (10 + k)).take (110 - k) ++ X.drop 120 := by
  have e1 : X = X.take 8 ++ X.drop 8 := (List.take_append_drop 8 X).symm
  have e2 : X.drop 8 = [b8 X, b9 X] ++ X.drop 10 := by
    have h8 : 8 < X.length := by omega
    have h9 : 9 < X.length := by omega
    rw [List.drop_eq_getElem_cons h8, List.drop_eq_getElem_cons h9]
    unfold b8 b9
    rw [List.getElem?_eq_getElem h8, List.getElem?_eq_getElem h9]
    rfl
  have e3 : X.drop 10 = (X.drop 10).take k ++ X.drop (10 + k) := by
    have := (List.take_append_drop k (X.drop 10)).symm
    rwa [List.drop_drop] at this
  have e4 : X.drop (10 + k) = (X.drop (10 + k)).take (110 - k) ++ X.drop 120 := by
    have := (List.take_append_drop (110 - k) (X.drop (10 + k))).symm
    rwa [List.drop_drop, show 10 + k + (110 - k) = 120 by omega] at this
  calc X = X.take 8 ++ X.drop 8 := e1
    _ = X.take 8 ++ ([b8 X, b9 X] ++ ((X.drop 10).take k ++ ((X.drop (10 + k)).take (110 - k) ++ X.drop 120))) := by rw [← e4, ← e3, ← e2]
    _ = _ := by simp only [List.append_assoc]
/-- what a page's fields tell: place, generation, kind, part; nothing, if it isn't formed as a record's page is -/
def tkw (X : List Int) : Option (Int × Int × Int × List Int) :=
  if val (X.take 8) = val (X.drop 120) ∧ b8 X ≤ 3 ∧ b9 X ≤ 110 ∧ (∀ y ∈ (X.drop (10 + (b9 X).toNat)).take (110 - (b9 X).toNat), y = 0) ∧ (b9 X = 110 ∨ 2 ≤ b8 X)
  then some (val (X.take 8) % 4294967296, val (X.take 8) / 4294967296, b8 X, (X.drop 10).take (b9 X).toNat) else none
theorem b8_bs {X : List Int} (hb : Bs X) : (0 ≤ b8 X ∧ b8 X < 256) ∧ (0 ≤ b9 X ∧ b9 X < 256) := ⟨hb.at 8, hb.at 9⟩
theorem val8 {X : List Int} (hX : X.length = 128) (hb : Bs X) : (0 ≤ val (X.take 8) ∧ val (X.take 8) < 18446744073709551616) ∧ (0 ≤ val (X.drop 120) ∧ val (X.drop 120) < 18446744073709551616) := by
  have h1 := val_bound (X.take 8) (hb.take 8)
  have h2 := val_bound (X.drop 120) (hb.drop 120)
  rw [List.length_take, hX] at h1
  rw [List.length_drop, hX] at h2
  have e : (256 : Int) ^ (min 8 128) = 18446744073709551616 := by decide
  have e2 : (256 : Int) ^ (128 - 120) = 18446744073709551616 := by decide
  rw [e] at h1; rw [e2] at h2
  exact ⟨h1, h2⟩
theorem val4 {X : List Int} (hX : X.length = 128) (hb : Bs X) : val (X.take 4) = val (X.take 8) / 4294967296 := by
  have e : X.take 8 = X.take 4 ++ (X.drop 4).take 4 := by
    rw [show (8 : Nat) = 4 + 4 by rfl, List.take_add]
  have h4 := val_bound ((X.drop 4).take 4) ((hb.drop 4).take 4)
  rw [List.length_take, List.length_drop, hX] at h4
  have e4 : (256 : Int) ^ (min 4 (128 - 4)) = 4294967296 := by decide
  have e5 : (256 : Int) ^ 4 = 4294967296 := by decide
  rw [e4] at h4
  rw [e, val_app, List.length_take, List.length_drop, hX, show min 4 (128 - 4) = 4 by decide, e5]
  omega
/-- what is right at a place is so by its fields -/
theorem rt_tkw {X : List Int} (hX : X.length = 128) (hb : Bs X) {p l : Int} (hp : 0 ≤ p ∧ p < 4294967296) :
    rt X p l = (match tkw X with | none => none | some (q, g, kd, b) => if q = p ∧ l ≤ g then some (g, kd, b) else none) := by
  obtain ⟨hv, hz⟩ := val8 hX hb
  have hg := val4 hX hb
  obtain ⟨h8, h9⟩ := b8_bs hb
  have hl8 : (X.take 8).length = 8 := by rw [List.length_take, hX]; decide
  have hl120 : (X.drop 120).length = 8 := by rw [List.length_drop, hX]
  unfold rt tkw
  rw [hg]
  by_cases h110 : b9 X ≤ 110
  · have hn : (b9 X).toNat ≤ 110 := by omega
    have hpl : ((X.drop 10).take (b9 X).toNat).length = (b9 X).toNat := by rw [List.length_take, List.length_drop, hX]; omega
    have hrl : ((X.drop (10 + (b9 X).toNat)).take (110 - (b9 X).toNat)).length = 110 - (b9 X).toNat := by rw [List.length_take, List.length_drop, hX]; omega
    have hw : X = wpg (val (X.take 8) / 4294967296) p (b8 X) ((X.drop 10).take (b9 X).toNat) ↔ X.take 8 = mk (val (X.take 8) / 4294967296) p ∧ (X.drop (10 + (b9 X).toNat)).take (110 - (b9 X).toNat) = List.replicate (110 - (b9 X).toNat) 0 ∧ X.drop 120 = mk (val (X.take 8) / 4294967296) p := by
      have e9 : ((((X.drop 10).take (b9 X).toNat).length : Nat) : Int) = b9 X := by rw [hpl]; omega
      have hq := page_parts hX hn
      constructor
      · intro h
        rw [hq] at h
        have h' : X.take 8 ++ [b8 X, b9 X] ++ (X.drop 10).take (b9 X).toNat ++ (X.drop (10 + (b9 X).toNat)).take (110 - (b9 X).toNat) ++ X.drop 120 = mk (val (X.take 8) / 4294967296) p ++ [b8 X, b9 X] ++ (X.drop 10).take (b9 X).toNat ++ List.replicate (110 - (b9 X).toNat) 0 ++ mk (val (X.take 8) / 4294967296) p := by
          rw [← hq] at h ⊢
          unfold wpg at h
          rw [e9, hpl] at h
          exact h
        exact (five (by rw [hrl, List.length_replicate]) (by rw [hl120, mk_len])).1 h'
      · rintro ⟨h1, h2, h3⟩
        have h' := (five (m := [b8 X, b9 X]) (b := (X.drop 10).take (b9 X).toNat) (by rw [hrl, List.length_replicate]) (by rw [hl120, mk_len])).2 ⟨h1, h2, h3⟩
        rw [← hq] at h'
        unfold wpg
        rw [e9, hpl]
        exact h'
    have hgb : 0 ≤ val (X.take 8) / 4294967296 ∧ val (X.take 8) / 4294967296 < 4294967296 := by omega
    rw [mk_iff hl8 (hb.take 8) hgb hp, mk_iff hl120 (hb.drop 120) hgb hp] at hw
    have hr0 : (X.drop (10 + (b9 X).toNat)).take (110 - (b9 X).toNat) = List.replicate (110 - (b9 X).toNat) 0 ↔ ∀ y ∈ (X.drop (10 + (b9 X).toNat)).take (110 - (b9 X).toNat), y = 0 := by
      rw [List.eq_replicate_iff, hrl]
      exact ⟨fun h => h.2, fun h => ⟨rfl, h⟩⟩
    rw [hr0] at hw
    by_cases hc : val (X.take 8) = val (X.drop 120) ∧ b8 X ≤ 3 ∧ b9 X ≤ 110 ∧ (∀ y ∈ (X.drop (10 + (b9 X).toNat)).take (110 - (b9 X).toNat), y = 0) ∧ (b9 X = 110 ∨ 2 ≤ b8 X)
    · rw [if_pos hc]
      simp only
      by_cases hd : val (X.take 8) % 4294967296 = p ∧ l ≤ val (X.take 8) / 4294967296
      · rw [if_pos hd, if_pos]
        exact ⟨hd.2, ⟨h8.1, hc.2.1⟩, ⟨h9.1, h110⟩, fun h => by omega, hw.2 ⟨by omega, hc.2.2.2.1, by omega⟩⟩
      · rw [if_neg hd, if_neg]
        rintro ⟨k1, _, _, _, k5⟩
        have k2 := (hw.1 k5).1
        exact hd ⟨by omega, k1⟩
    · rw [if_neg hc, if_neg]
      rintro ⟨k1, k2, k3, k4, k8⟩
      obtain ⟨k5, k6, k7⟩ := hw.1 k8
      exact hc ⟨by omega, k2.2, k3.2, k6, by omega⟩
  · rw [if_neg (by rintro ⟨_, _, h, _⟩; exact h110 h.2), if_neg (by rintro ⟨_, _, h, _⟩; exact h110 h)]
theorem tkw_some {X : List Int} (hX : X.length = 128) (hb : Bs X) {q g kd : Int} {b : List Int} (h : tkw X = some (q, g, kd, b)) : (0 ≤ q ∧ q < 4294967296) ∧ (0 ≤ g ∧ g < 4294967296) ∧ (0 ≤ kd ∧ kd ≤ 3) ∧ b.length ≤ 110 ∧ Bs b := by
  obtain ⟨hv, hz⟩ := val8 hX hb
  obtain ⟨h8, h9⟩ := b8_bs hb
  unfold tkw at h
  split at h
  · rename_i hc
    injection h with h
    injection h with h1 h
    injection h with h2 h
    injection h with h3 h4
    subst h1; subst h2; subst h3; subst h4
    exact ⟨by omega, by omega, ⟨h8.1, hc.2.1⟩, by rw [List.length_take]; omega, (hb.drop _).take _⟩
  · cases h

/-! Parts. -/
def np (n : Nat) : Nat := (max n 1 - 1) / 110 + 1
theorem np_max (n : Nat) (h : n ≤ 6000) : 1 ≤ np n ∧ np n ≤ 55 := by unfold np; omega
theorem cutf_at : ∀ (k : Nat) (b : List Int), b.length ≤ 110 + 110 * k → (cutf k b).length = np b.length ∧ ∀ i, i < (cutf k b).length → (cutf k b)[i]?.getD [] = (b.drop (110 * i)).take 110
  | 0, b, h => by
    refine ⟨by unfold cutf np; simp only [List.length_singleton]; omega, fun i hi => ?_⟩
    unfold cutf at hi ⊢
    simp only [List.length_singleton] at hi
    obtain rfl : i = 0 := by omega
    simp only [List.getElem?_cons_zero, Option.getD_some, Nat.mul_zero, List.drop_zero]
    rw [List.take_of_length_le (by omega)]
  | k + 1, b, h => by
    unfold cutf
    split
    · rename_i h1
      refine ⟨by unfold np; simp only [List.length_singleton]; omega, fun i hi => ?_⟩
      simp only [List.length_singleton] at hi
      obtain rfl : i = 0 := by omega
      simp only [List.getElem?_cons_zero, Option.getD_some, Nat.mul_zero, List.drop_zero]
      rw [List.take_of_length_le (by omega)]
    · rename_i h1
      obtain ⟨h2, h3⟩ := cutf_at k (b.drop 110) (by rw [List.length_drop]; omega)
      refine ⟨by rw [List.length_cons, h2, List.length_drop]; unfold np; omega, fun i hi => ?_⟩
      cases i with
      | zero => simp
      | succ i =>
        rw [List.length_cons] at hi
        rw [List.getElem?_cons_succ, h3 i (by omega), List.drop_drop]
        congr 2
        omega
theorem cut_len (b : List Int) : (cut b).length = np b.length := (cutf_at _ b (by omega)).1
theorem cut_at2 (b : List Int) {i : Nat} (h : i < np b.length) : (cut b)[i]?.getD [] = (b.drop (110 * i)).take 110 := (cutf_at _ b (by omega)).2 i (by rw [show (cutf b.length b).length = (cut b).length from rfl, cut_len]; exact h)
/-- what a part is of its record -/
def kdI (j n : Nat) : Int := (if j = 0 then 1 else 0) + (if j + 1 = n then 2 else 0)
theorem kdI_bound (j n : Nat) : 0 ≤ kdI j n ∧ kdI j n ≤ 3 := by unfold kdI; split <;> split <;> omega
theorem rpg_kd (g : Int) : ∀ (parts : List (List Int)) (i : Nat) (first : Bool) (j : Nat), j < parts.length → (rpg g i first parts)[j]?.getD [] = wpg g (((i + j : Nat) : Int) + 1) ((if j = 0 ∧ first = true then 1 else 0) + (if j + 1 = parts.length then 2 else 0)) (parts[j]?.getD [])
  | [], i, first, j, h => by simp at h
  | [b], i, first, j, h => by
    simp only [List.length_singleton] at h
    obtain rfl : j = 0 := by omega
    unfold rpg
    cases first <;> simp
  | b :: c :: r, i, first, 0, h => by
    unfold rpg
    cases first <;> simp
  | b :: c :: r, i, first, j + 1, h => by
    have := rpg_kd g (c :: r) (i + 1) false j (by simpa using h)
    unfold rpg
    rw [List.getElem?_cons_succ, this, List.getElem?_cons_succ, show i + 1 + j = i + (j + 1) by omega]
    simp
theorem rpg_cut (g : Int) (b : List Int) (i j : Nat) (h : j < np b.length) : (rpg g i true (cut b))[j]?.getD [] = wpg g (((i + j : Nat) : Int) + 1) (kdI j (np b.length)) ((b.drop (110 * j)).take 110) := by
  rw [rpg_kd g (cut b) i true j (by rw [cut_len]; exact h), cut_at2 b h, cut_len]
  unfold kdI
  simp
/-! Writes one behind the other. -/
theorem apw_end (s : SS) (i : Nat) (ps : List (List Int)) {k : Nat} (h : ps.length ≤ k) : apw s i (ps.drop k) = (0, s) := by rw [List.drop_eq_nil_of_le h]; rfl
theorem apw_next (s : SS) (i : Nat) (ps : List (List Int)) {k : Nat} (h : k < ps.length) : apw s i (ps.drop k) = if (s.wr (i : Int) (ps[k]?.getD [])).1 ≠ 0 then s.wr (i : Int) (ps[k]?.getD []) else apw (s.wr (i : Int) (ps[k]?.getD [])).2 (i + 1) (ps.drop (k + 1)) := by
  rw [List.drop_eq_getElem_cons h, List.getElem?_eq_getElem h]
  rfl
/-! Records, page by page. -/
theorem nx_end {P : Nat → List Int} {c j : Nat} (h : c ≤ j) (l : Int) (first : Bool) (acc : List Int) : nx P (c - j) j l first acc = none := by rw [show c - j = 0 by omega]; rfl
theorem nx_no {P : Nat → List Int} {c j : Nat} {l : Int} {first : Bool} {acc : List Int} (h : j < c) (hr : rt (P j) ((j : Int) + 1) l = none) : nx P (c - j) j l first acc = none := by
  rw [show c - j = (c - j - 1) + 1 by omega]
  unfold nx
  rw [hr]
theorem nx_bad {P : Nat → List Int} {c j : Nat} {l : Int} {first : Bool} {acc : List Int} {g kd : Int} {b : List Int} (h : j < c) (hr : rt (P j) ((j : Int) + 1) l = some (g, kd, b)) (hc : decide (kd % 2 = 1) ≠ first ∨ (first = false ∧ g ≠ l) ∨ 6000 < (acc ++ b).length) : nx P (c - j) j l first acc = none := by
  rw [show c - j = (c - j - 1) + 1 by omega]
  unfold nx
  rw [hr]
  simp only
  rw [if_pos hc]
theorem nx_last {P : Nat → List Int} {c j : Nat} {l : Int} {first : Bool} {acc : List Int} {g kd : Int} {b : List Int} (h : j < c) (hr : rt (P j) ((j : Int) + 1) l = some (g, kd, b)) (hc : ¬ (decide (kd % 2 = 1) ≠ first ∨ (first = false ∧ g ≠ l) ∨ 6000 < (acc ++ b).length)) (hk : 2 ≤ kd) : nx P (c - j) j l first acc = some (acc ++ b, j + 1, g) := by
  rw [show c - j = (c - j - 1) + 1 by omega]
  unfold nx
  rw [hr]
  simp only
  rw [if_neg hc, if_pos hk]
theorem nx_go {P : Nat → List Int} {c j : Nat} {l : Int} {first : Bool} {acc : List Int} {g kd : Int} {b : List Int} (h : j < c) (hr : rt (P j) ((j : Int) + 1) l = some (g, kd, b)) (hc : ¬ (decide (kd % 2 = 1) ≠ first ∨ (first = false ∧ g ≠ l) ∨ 6000 < (acc ++ b).length)) (hk : ¬ 2 ≤ kd) : nx P (c - j) j l first acc = nx P (c - (j + 1)) (j + 1) g false (acc ++ b) := by
  rw [show c - j = (c - (j + 1)) + 1 by omega]
  conv => lhs; unfold nx
  rw [hr]
  simp only
  rw [if_neg hc, if_neg hk]
end Go.Proofs.Ythfkooancgkjaaa
