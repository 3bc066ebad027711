/-
  What this file is for: bytes of numbers, and the numbers of bytes. Nothing of the program is walked here.
-/
import Derived.Test.YthfkooancgkjaaaMC1
import Derived.Test.YthfkooancgkjaaaMA1
set_option linter.unusedSimpArgs false
set_option linter.unusedVariables false
namespace Go.Proofs.Ythfkooancgkjaaa
open Go.ChangeShapes Go.WideShapes Go.ChangeAt Go.RowKit
set_option linter.unusedVariables false
set_option maxRecDepth 20000

theorem be_bs (x : Int) (n : Nat) : Bs (be x n) := by
  induction n with
  | zero => intro v hv; simp [be] at hv
  | succ n ih =>
    intro v hv
    rw [be] at hv
    rcases List.mem_cons.1 hv with h | h
    · subst h; omega
    · exact ih v h
theorem val_app (a b : List Int) : val (a ++ b) = val a * 256 ^ b.length + val b := by
  induction h : b.length generalizing b with
  | zero => have : b = [] := List.eq_nil_of_length_eq_zero h; subst this; simp [val]
  | succ n ih =>
    have hb : b = b.take n ++ [b[n]?.getD 0] := by
      have := List.take_succ_eq_append_getElem (l := b) (i := n) (by omega)
      rw [List.take_of_length_le (by omega)] at this
      rw [List.getElem?_eq_getElem (by omega)]
      exact this
    have h1 := ih (b.take n) (by simp; omega)
    have h2 := val_snoc (a ++ b.take n) (b[n]?.getD 0)
    have h3 := val_snoc (b.take n) (b[n]?.getD 0)
    rw [List.append_assoc, ← hb] at h2
    rw [← hb] at h3
    rw [h2, h3, h1, Int.pow_succ, Int.add_mul, Int.mul_assoc, Int.add_assoc]
theorem val_be' (x : Int) (n : Nat) (h0 : 0 ≤ x) : val (be x n) = x % 256 ^ n := by
  induction n with
  | zero => simp [be, val]
  | succ n ih =>
    rw [be]
    have e : val ((x / 256 ^ n % 256) :: be x n) = val ([x / 256 ^ n % 256] ++ be x n) := rfl
    rw [e, val_app, be_length, ih]
    have e1 : val [x / 256 ^ n % 256] = x / 256 ^ n % 256 := by simp [val]
    rw [e1, Int.pow_succ]
    have hm : 0 ≤ (256 : Int) ^ n := Int.le_of_lt (Int.pow_pos (by decide))
    generalize (256 : Int) ^ n = m at *
    have hq : x / (m * 256) = x / m / 256 := by rw [Int.ediv_ediv_of_nonneg hm]
    have a1 := Int.emod_def x (m * 256)
    have a2 := Int.emod_def x m
    have a3 := Int.emod_def (x / m) 256
    rw [hq] at a1
    generalize x / m = d at *
    generalize d / 256 = q at *
    rw [a1, a2, a3, Int.sub_mul]
    have b1 : 256 * q * m = m * 256 * q := by rw [Int.mul_comm (256 * q) m, Int.mul_assoc]
    have b2 : d * m = m * d := Int.mul_comm _ _
    omega
theorem val_be8 (x : Int) (h : 0 ≤ x ∧ x < 18446744073709551616) : val (be x 8) = x := by
  rw [val_be' x 8 h.1]
  have : (256 : Int) ^ 8 = 18446744073709551616 := by decide
  rw [this]; omega
theorem val_be2 (x : Int) (h : 0 ≤ x ∧ x < 65536) : val (be x 2) = x := by
  rw [val_be' x 2 h.1]
  have : (256 : Int) ^ 2 = 65536 := by decide
  rw [this]; omega
theorem val_inj : ∀ (a b : List Int), a.length = b.length → Bs a → Bs b → val a = val b → a = b := by
  intro a
  induction h : a.length generalizing a with
  | zero => intro b hb _ _ _; rw [List.eq_nil_of_length_eq_zero h, List.eq_nil_of_length_eq_zero hb.symm]
  | succ n ih =>
    intro b hb ba bb hv
    have h1 := val_take a n (by omega)
    have h2 := val_take b n (by omega)
    have e1 : a.take (n + 1) = a := List.take_of_length_le (by omega)
    have e2 : b.take (n + 1) = b := List.take_of_length_le (by omega)
    rw [e1] at h1
    rw [e2] at h2
    have a1 := ba.at n
    have b1 := bb.at n
    have hx : a[n]?.getD 0 = b[n]?.getD 0 := by omega
    have hy : val (a.take n) = val (b.take n) := by omega
    have h3 := ih (a.take n) (by simp; omega) (b.take n) (by simp; omega) (ba.take n) (bb.take n) hy
    have a2 := List.take_succ_eq_append_getElem (l := a) (i := n) (by omega)
    have b2 := List.take_succ_eq_append_getElem (l := b) (i := n) (by omega)
    rw [e1] at a2
    rw [e2] at b2
    rw [a2, b2, h3]
    congr 2
    have x1 : a[n]?.getD 0 = a[n] := by rw [List.getElem?_eq_getElem (by omega)]; rfl
    have x2 : b[n]?.getD 0 = b[n] := by rw [List.getElem?_eq_getElem (by omega)]; rfl
    rw [← x1, ← x2, hx]

theorem cat_at (P A : List Int) (h : P.length = A.length) (t j : Nat) : (P.take t ++ A.drop t)[j]? = if j < t then P[j]? else A[j]? := by
  by_cases ht : t ≤ P.length
  · by_cases hj : j < t
    · rw [if_pos hj, List.getElem?_append_left (by rw [List.length_take]; omega), List.getElem?_take, if_pos hj]
    · rw [if_neg hj, List.getElem?_append_right (by rw [List.length_take]; omega), List.length_take, Nat.min_eq_left ht, List.getElem?_drop]
      congr 1; omega
  · rw [List.take_of_length_le (by omega), List.drop_of_length_le (by omega), List.append_nil]
    by_cases hj : j < t
    · rw [if_pos hj]
    · rw [if_neg hj, List.getElem?_eq_none (by omega), List.getElem?_eq_none (by omega)]
theorem cat_len (P A : List Int) (h : P.length = A.length) (t : Nat) : (P.take t ++ A.drop t).length = P.length := by
  rw [List.length_append, List.length_take, List.length_drop]; omega
theorem cat_cat (P A : List Int) (h : P.length = A.length) (k t : Nat) : P.take k ++ (P.take t ++ A.drop t).drop k = P.take (max k t) ++ A.drop (max k t) := by
  apply List.ext_getElem?
  intro j
  rw [cat_at _ _ (by rw [cat_len _ _ h]), cat_at _ _ h, cat_at _ _ h]
  by_cases h1 : j < k
  · rw [if_pos h1, if_pos (by omega)]
  · rw [if_neg h1]
    by_cases h2 : j < t
    · rw [if_pos h2, if_pos (by omega)]
    · rw [if_neg h2, if_neg (by omega)]
theorem mx_bs {O b : List Int} (ho : Bs O) (hb : Bs b) (t : Nat) : Bs (mx O b t) := fun y hy => by
  rcases List.mem_append.1 hy with h | h
  · exact hb y (List.mem_of_mem_take h)
  · exact ho y (List.mem_of_mem_drop h)
end Go.Proofs.Ythfkooancgkjaaa
