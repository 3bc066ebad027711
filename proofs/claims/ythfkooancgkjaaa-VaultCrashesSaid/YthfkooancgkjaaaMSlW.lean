/-
  What this file is for: why a slot's value is kept whole: what a torn page can be, and what stands behind a restart. Nothing of the program is walked here.
-/
import Derived.Test.YthfkooancgkjaaaMSlC
set_option linter.unusedSimpArgs false
set_option linter.unusedVariables false
namespace Go.Proofs.Ythfkooancgkjaaa
open Go.ChangeShapes Go.WideShapes Go.ChangeAt Go.RowKit
set_option linter.unusedVariables false
set_option maxRecDepth 20000

/-- the page that the next value goes to: however it is torn by that value's page, it doesn't tell a greater serial -/
structure NextOk (O : List Int) (n : Int) : Prop where
  len : O.length = 128
  bs : Bs O
  ne : O.drop 120 ≠ be (n + 1) 8
  low : ∀ k, (be (n + 1) 8).take k ++ (O.take 8).drop k = O.drop 120 → val (O.drop 120) ≤ n
/-- the page that has the value -/
structure CurOk (C : List Int) (n : Int) (v : List Int) : Prop where
  len : C.length = 128
  bs : Bs C
  front : C.take 8 = be n 8
  back : C.drop 120 = be n 8
  tells : tk C (n % 2) = (n, v)
def SlI (n : Int) (v X Y : List Int) : Prop := (0 ≤ n ∧ n < 18446744073709551616) ∧ ((n % 2 = 0 ∧ CurOk X n v ∧ NextOk Y n) ∨ (n % 2 = 1 ∧ CurOk Y n v ∧ NextOk X n))
theorem next_le {O : List Int} {n i : Int} (h : NextOk O n) (h0 : 0 ≤ n) : (tk O i).1 ≤ n := by
  unfold tk
  split
  · rename_i hc
    have he : O.take 8 = O.drop 120 := val_inj _ _ (by rw [List.length_take, List.length_drop, h.len]; omega) (h.bs.take 8) (h.bs.drop 120) hc.1
    have := h.low 0 (by rw [List.take_zero, List.drop_zero, List.nil_append]; exact he)
    simp only
    rw [hc.1]; exact this
  · exact h0
theorem sli_slv {n : Int} {v X Y : List Int} (h : SlI n v X Y) : slv X Y = (n, v) := by
  obtain ⟨⟨h0, h1⟩, h | h⟩ := h
  · obtain ⟨hp, hc, hn⟩ := h
    have ht := hc.tells
    rw [hp] at ht
    have := next_le (i := 1) hn h0
    unfold slv
    rw [ht, if_neg (by simp only; omega)]
  · obtain ⟨hp, hc, hn⟩ := h
    have ht := hc.tells
    rw [hp] at ht
    have h2 := next_le (i := 0) hn h0
    have h3 : (tk X 0).1 ≠ n := fun e => by
      have := tk_side X 0 (by omega)
      omega
    unfold slv
    rw [ht, if_pos (by simp only; omega)]
theorem mx_front {O b : List Int} (ho : O.length = 128) (hb : b.length = 128) (t : Nat) : (mx O b t).take 8 = (b.take 8).take t ++ (O.take 8).drop t := by
  apply List.ext_getElem?
  intro j
  rw [cat_at _ _ (by rw [List.length_take, List.length_take, ho, hb]), List.getElem?_take, show mx O b t = b.take t ++ O.drop t from rfl, cat_at _ _ (by rw [ho, hb]), List.getElem?_take, List.getElem?_take]
  by_cases h1 : j < 8
  · simp only [if_pos h1]
  · simp only [if_neg h1, ite_self]
theorem mx_back {O b : List Int} (ho : O.length = 128) (hb : b.length = 128) {t : Nat} (ht : t ≤ 120) : (mx O b t).drop 120 = O.drop 120 := by
  apply List.ext_getElem?
  intro j
  rw [List.getElem?_drop, show mx O b t = b.take t ++ O.drop t from rfl, cat_at _ _ (by rw [ho, hb]), if_neg (by omega), List.getElem?_drop]
/-- a page torn by the next value's page -/
theorem torn {O : List Int} {n : Int} (h : NextOk O n) {B : List Int} (hB : B.length ≤ 110) (bB : Bs B) {t : Nat} (ht : t ≤ 128) : mx O (pgl (n + 1) B) t = pgl (n + 1) B ∨ NextOk (mx O (pgl (n + 1) B) t) n := by
  have hl := pgl_len (n + 1) B hB
  have hml := mx_length h.len hl ht
  have hmb := mx_bs h.bs (pgl_bs (n + 1) B bB) t
  have hf := mx_front h.len hl t
  rw [pgl_front] at hf
  by_cases h120 : t ≤ 120
  · right
    have hb := mx_back h.len hl h120
    refine ⟨hml, hmb, by rw [hb]; exact h.ne, fun k hk => ?_⟩
    rw [hf, hb, cat_cat _ _ (by rw [be_length, List.length_take, h.len]; rfl)] at hk
    rw [hb]
    exact h.low _ hk
  · have hf2 : (mx O (pgl (n + 1) B) t).take 8 = be (n + 1) 8 := by
      rw [hf, List.take_of_length_le (by rw [be_length]; omega), List.drop_of_length_le (by rw [List.length_take, h.len]; omega), List.append_nil]
    by_cases he : (mx O (pgl (n + 1) B) t).drop 120 = be (n + 1) 8
    · left
      have h1 : (mx O (pgl (n + 1) B) t).take 120 = (pgl (n + 1) B).take 120 := by
        apply List.ext_getElem?
        intro j
        rw [List.getElem?_take, List.getElem?_take]
        by_cases hj : j < 120
        · rw [if_pos hj, if_pos hj, show mx O (pgl (n + 1) B) t = (pgl (n + 1) B).take t ++ O.drop t from rfl, cat_at _ _ (by rw [hl, h.len]), if_pos (by omega)]
        · rw [if_neg hj, if_neg hj]
      rw [← List.take_append_drop 120 (mx O (pgl (n + 1) B) t), h1, he, ← pgl_end (n + 1) B hB, List.take_append_drop]
    · right
      refine ⟨hml, hmb, he, fun k hk => ?_⟩
      rw [hf2, List.take_append_drop] at hk
      exact (he hk.symm).elim
theorem cur_pgl {n : Int} {B : List Int} (h0 : 0 ≤ n) (h1 : n + 1 < 18446744073709551616) (hB : B.length ≤ 110) (bB : Bs B) : CurOk (pgl (n + 1) B) (n + 1) B :=
  ⟨pgl_len _ _ hB, pgl_bs _ _ bB, pgl_front _ _, pgl_end _ _ hB, tk_pgl _ _ hB (by omega)⟩
theorem cur_next {C : List Int} {n : Int} {v : List Int} (h : CurOk C n v) (h0 : 0 ≤ n) (h1 : n + 1 < 18446744073709551616) : NextOk C (n + 1) := by
  have e8 : (256 : Int) ^ 8 = 18446744073709551616 := by decide
  refine ⟨h.len, h.bs, fun he => ?_, fun k _ => ?_⟩
  · rw [h.back] at he
    have := congrArg val he
    rw [val_be' _ _ h0, val_be' _ _ (by omega), e8] at this
    omega
  · rw [h.back, val_be' _ _ h0, e8]
    omega
theorem sli_next {n : Int} {v X Y B : List Int} (h : SlI n v X Y) (h1 : n + 1 < 18446744073709551616) (hB : B.length ≤ 110) (bB : Bs B) :
    (n % 2 = 0 → SlI (n + 1) B X (pgl (n + 1) B)) ∧ (n % 2 = 1 → SlI (n + 1) B (pgl (n + 1) B) Y) := by
  obtain ⟨⟨h0, _⟩, h⟩ := h
  have hc := cur_pgl h0 h1 hB bB
  refine ⟨fun hp => ⟨by omega, .inr ⟨by omega, hc, ?_⟩⟩, fun hp => ⟨by omega, .inl ⟨by omega, hc, ?_⟩⟩⟩
  · rcases h with h | h
    · exact cur_next h.2.1 h0 h1
    · omega
  · rcases h with h | h
    · omega
    · exact cur_next h.2.1 h0 h1
theorem sli_torn {n : Int} {v X Y B : List Int} (h : SlI n v X Y) (h1 : n + 1 < 18446744073709551616) (hB : B.length ≤ 110) (bB : Bs B) {t : Nat} (ht : t ≤ 128) :
    (n % 2 = 0 → SlI n v X (mx Y (pgl (n + 1) B) t) ∨ SlI (n + 1) B X (mx Y (pgl (n + 1) B) t)) ∧ (n % 2 = 1 → SlI n v (mx X (pgl (n + 1) B) t) Y ∨ SlI (n + 1) B (mx X (pgl (n + 1) B) t) Y) := by
  have hs := sli_next h h1 hB bB
  obtain ⟨h0, h⟩ := h
  refine ⟨fun hp => ?_, fun hp => ?_⟩
  · rcases h with h | h
    · rcases torn h.2.2 hB bB ht with h2 | h2
      · right; rw [h2]; exact hs.1 hp
      · exact .inl ⟨h0, .inl ⟨hp, h.2.1, h2⟩⟩
    · omega
  · rcases h with h | h
    · omega
    · rcases torn h.2.2 hB bB ht with h2 | h2
      · right; rw [h2]; exact hs.2 hp
      · exact .inl ⟨h0, .inr ⟨hp, h.2.1, h2⟩⟩
theorem sli_new : SlI 0 [] zpg zpg := by
  have hb : Bs zpg := fun y hy => by
    unfold zpg at hy
    rw [List.eq_of_mem_replicate hy]; decide
  exact ⟨by decide, .inl ⟨by decide, ⟨by decide, hb, by decide, by decide, tk_zpg 0⟩, ⟨by decide, hb, by decide, fun k _ => by decide⟩⟩⟩
end Go.Proofs.Ythfkooancgkjaaa
