/-
  What is proved here: the padded message, byte by byte, and that the last blocks are its end. Lists and numbers alone.
-/
import Derived.Test.YtpponjmhgfikiaaDoorEnding
namespace Go.Proofs.YtpponjmhgfikiaaDoor
open Go.RowKit
set_option linter.unusedVariables false

def padLen (n : Nat) : Nat := n + 9 + (119 - n % 64) % 64
theorem padded_length (b : List Int) : (padded b).length = padLen b.length := by
  unfold padded padLen
  simp
  omega
theorem padLen_lo (n : Nat) (h : n % 64 + 9 ≤ 64) : padLen n = 64 * (n / 64) + 64 := by unfold padLen; omega
theorem padLen_hi (n : Nat) (h : 64 < n % 64 + 9) : padLen n = 64 * (n / 64) + 128 := by unfold padLen; omega
theorem pad_get (b : List Int) (j : Nat) (hj : j < padLen b.length) : (padded b)[j]? = some (if j < b.length then b[j]?.getD 0 else if j = b.length then 128 else if padLen b.length - 8 ≤ j then 8 * (b.length : Int) / 256 ^ (padLen b.length - 1 - j) % 256 else 0) := by
  unfold padded
  by_cases h1 : j < b.length
  · rw [if_pos h1, List.getElem?_append_left h1, List.getElem?_eq_getElem h1]; rfl
  · rw [if_neg h1, List.getElem?_append_right (by omega)]
    by_cases h2 : j = b.length
    · rw [if_pos h2, show j - b.length = 0 by omega]; rfl
    · rw [if_neg h2]
      obtain ⟨t, ht⟩ : ∃ t, j - b.length = t + 1 := ⟨j - b.length - 1, by omega⟩
      rw [ht, List.getElem?_cons_succ]
      unfold padLen at hj ⊢
      by_cases h3 : b.length + 9 + (119 - b.length % 64) % 64 - 8 ≤ j
      · rw [if_pos h3, List.getElem?_append_right (by simp; omega), List.length_replicate, List.getElem?_map, List.getElem?_range (by omega)]
        show some (8 * (b.length : Int) / 256 ^ (7 - (t - (119 - b.length % 64) % 64)) % 256) = _
        rw [show 7 - (t - (119 - b.length % 64) % 64) = b.length + 9 + (119 - b.length % 64) % 64 - 1 - j by omega]
      · rw [if_neg h3, List.getElem?_append_left (by simp; omega), List.getElem?_replicate, if_pos (by omega)]
/-- the last blocks' bytes are the end of the padded message -/
theorem pad_end (b : List Int) (size j : Nat) (hs : padLen b.length = 64 * (b.length / 64) + size) (h8 : 8 ≤ size) (hj : j < size) :
    (padded b)[64 * (b.length / 64) + j]? = some (endAt (b.drop (64 * (b.length / 64))) (8 * (b.length : Int)) size 8 j) := by
  rw [pad_get b _ (by omega)]
  unfold endAt
  have hr : (b.drop (64 * (b.length / 64))).length = b.length - 64 * (b.length / 64) := List.length_drop ..
  rw [hr, hs]
  obtain ⟨q, hq⟩ : ∃ q, q = 64 * (b.length / 64) := ⟨_, rfl⟩
  have hle : q ≤ b.length := by omega
  rw [← hq]
  by_cases h1 : q + j < b.length
  · have e1 : j < b.length - q := by omega
    rw [if_pos h1, if_pos e1, List.getElem?_drop]
  · have e1 : ¬ j < b.length - q := by omega
    rw [if_neg h1, if_neg e1]
    by_cases h2 : q + j = b.length
    · have e2 : j = b.length - q := by omega
      rw [if_pos h2, if_pos e2]
    · have e2 : ¬ j = b.length - q := by omega
      rw [if_neg h2, if_neg e2]
      by_cases h3 : q + size - 8 ≤ q + j
      · have e3 : size - 8 ≤ j ∧ j < size := by omega
        rw [if_pos h3, if_pos e3, show q + size - 1 - (q + j) = size - 1 - j by omega]
      · have e3 : ¬ (size - 8 ≤ j ∧ j < size) := by omega
        rw [if_neg h3, if_neg e3]
theorem blk_whole (b : List Int) (t : Nat) (ht : 64 * t + 64 ≤ b.length) : ((padded b).drop (64 * t)).take 64 = (b.drop (64 * t)).take 64 := by
  unfold padded
  rw [List.drop_append_of_le_length (by omega), List.take_append_of_le_length (by rw [List.length_drop]; omega)]
theorem mixN_pad (s : St) (b : List Int) (m : Nat) (hm : 64 * m ≤ b.length) : mixN s (padded b) m = mixN s b m := by
  induction m with
  | zero => rfl
  | succ m ih =>
    show mixS (mixN s (padded b) m) _ = mixS (mixN s b m) _
    rw [ih (by omega), blk_whole b m (by omega)]
theorem blk_end (b l : List Int) (size t : Nat) (hs : padLen b.length = 64 * (b.length / 64) + size) (h8 : 8 ≤ size) (hsz : size ≤ 128) (ht : 64 * t + 64 ≤ size) (hl : l.length = 128)
    (h : ∀ j, j < 128 → l[j]? = some (endAt (b.drop (64 * (b.length / 64))) (8 * (b.length : Int)) size 8 j)) :
    ((padded b).drop (64 * (b.length / 64 + t))).take 64 = (l.drop (64 * t)).take 64 := by
  apply List.ext_getElem?
  intro i
  rw [List.getElem?_take, List.getElem?_take]
  split
  · rw [List.getElem?_drop, List.getElem?_drop, show 64 * (b.length / 64 + t) + i = 64 * (b.length / 64) + (64 * t + i) by omega, pad_end b size _ hs h8 (by omega), h _ (by omega)]
  · rfl
theorem endAt_b (rest : List Int) (M : Int) (size k j : Nat) (hb : Bs rest) : 0 ≤ endAt rest M size k j ∧ endAt rest M size k j < 256 := by
  unfold endAt
  split
  · exact hb.at j
  · split
    · omega
    · split
      · omega
      · omega
theorem end_bs (rest l : List Int) (M : Int) (size : Nat) (hb : Bs rest) (hl : l.length = 128) (h : ∀ j, j < 128 → l[j]? = some (endAt rest M size 8 j)) : Bs l := by
  intro v hv
  obtain ⟨i, hi⟩ := List.mem_iff_getElem?.1 hv
  have hlt : i < l.length := by
    rcases Nat.lt_or_ge i l.length with h1 | h1
    · exact h1
    · rw [List.getElem?_eq_none h1] at hi; cases hi
  rw [h i (by omega)] at hi
  injection hi with hi
  rw [← hi]
  exact endAt_b _ _ _ _ _ hb
theorem sum_eq (b : List Int) (size : Nat) (hs : padLen b.length = 64 * (b.length / 64) + size) (h64 : size % 64 = 0) : sum b = joinS (mixN St0 (padded b) (b.length / 64 + size / 64)) := by
  unfold sum joinS
  rw [padded_length, hs, show (64 * (b.length / 64) + size) / 64 = b.length / 64 + size / 64 by omega]
theorem padded_bs (b : List Int) (hb : Bs b) : Bs (padded b) := by
  intro v hv
  unfold padded at hv
  simp only [List.mem_append, List.mem_cons, List.mem_replicate, List.mem_map] at hv
  rcases hv with h | h | ⟨_, h⟩ | ⟨i, _, h⟩
  · exact hb v h
  · omega
  · omega
  · omega
end Go.Proofs.YtpponjmhgfikiaaDoor
