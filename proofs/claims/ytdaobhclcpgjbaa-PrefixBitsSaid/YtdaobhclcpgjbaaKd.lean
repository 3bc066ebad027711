/-
  What this file is for: the comparison of two rows of bytes, as the library has it, tells which key is less. Nothing of the program is walked here.
-/
import Derived.Test.YtdaobhclcpgjbaaKc
import Derived.Lib.Bytealg
import Derived.Lib.BytesEntry
namespace Go.Proofs.Ytdaobhclcpgjbaa
open Go.ChangeShapes Go.RowKit
set_option linter.unusedVariables false

theorem u8_lt (x y : Int) (hx : 0 ≤ x ∧ x < 256) (hy : 0 ≤ y ∧ y < 256) : x.toNat.toUInt8 < y.toNat.toUInt8 ↔ x < y := by
  rw [UInt8.lt_iff_toNat_lt]
  simp only [Nat.toUInt8, UInt8.toNat_ofNat']
  omega
theorem u8_eq (x y : Int) (hx : 0 ≤ x ∧ x < 256) (hy : 0 ≤ y ∧ y < 256) : x.toNat.toUInt8 = y.toNat.toUInt8 ↔ x = y := by
  refine ⟨fun h => ?_, fun h => by rw [h]⟩
  have := congrArg UInt8.toNat h
  simp only [Nat.toUInt8, UInt8.toNat_ofNat'] at this
  omega
theorem comp_iff (A B : List Int) (hl : A.length = B.length) (hA : Bs A) (hB : Bs B) :
    Lib.compareBytes (Lib.bytesOf A) (Lib.bytesOf B) < 0 ↔ ∃ j, j < A.length ∧ (∀ i, i < j → A[i]?.getD 0 = B[i]?.getD 0) ∧ A[j]?.getD 0 < B[j]?.getD 0 := by
  induction A generalizing B with
  | nil =>
    cases B with
    | nil => simp [Lib.bytesOf, Lib.compareBytes]
    | cons b B => simp at hl
  | cons a A ih =>
    cases B with
    | nil => simp at hl
    | cons b B =>
      have ih := ih B (by simpa using hl) (fun v hv => hA v (List.mem_cons_of_mem _ hv)) (fun v hv => hB v (List.mem_cons_of_mem _ hv))
      have ha := hA a (List.mem_cons_self ..)
      have hb := hB b (List.mem_cons_self ..)
      have ih : Lib.compareBytes (A.map fun n => n.toNat.toUInt8) (B.map fun n => n.toNat.toUInt8) < 0 ↔ ∃ j, j < A.length ∧ (∀ i, i < j → A[i]?.getD 0 = B[i]?.getD 0) ∧ A[j]?.getD 0 < B[j]?.getD 0 := ih
      show Lib.compareBytes ((a :: A).map fun n => n.toNat.toUInt8) ((b :: B).map fun n => n.toNat.toUInt8) < 0 ↔ _
      rw [List.map_cons, List.map_cons]
      unfold Lib.compareBytes
      have e1 := u8_lt a b ha hb
      have e2 := u8_lt b a hb ha
      rcases Int.lt_trichotomy a b with h | h | h
      · rw [if_pos (e1.2 h)]
        exact ⟨fun _ => ⟨0, by simp, fun i hi => by omega, by simpa using h⟩, fun _ => by decide⟩
      · subst h
        rw [if_neg (fun h => by have := e1.1 h; omega), if_neg (fun h => by have := e1.1 h; omega), ih]
        constructor
        · rintro ⟨j, h1, h2, h3⟩
          refine ⟨j + 1, by simp; omega, fun i hi => ?_, by simpa using h3⟩
          cases i with
          | zero => rfl
          | succ i => simpa using h2 i (by omega)
        · rintro ⟨j, h1, h2, h3⟩
          cases j with
          | zero => simp at h3
          | succ j => exact ⟨j, by simpa using h1, fun i hi => by simpa using h2 (i + 1) (by omega), by simpa using h3⟩
      · rw [if_neg (fun h2 => by have := e1.1 h2; omega), if_pos (e2.2 h)]
        constructor
        · intro h2; exact absurd h2 (by decide)
        · rintro ⟨j, h1, h2, h3⟩
          cases j with
          | zero => simp at h3; omega
          | succ j =>
            have := h2 0 (by omega)
            simp at this
            omega
theorem comp_lss {K L : List Int} (hK : Ky K) (hL : Ky L) : decide (Lib.compareBytes (Lib.bytesOf K) (Lib.bytesOf L) < 0) = lss K L := by
  rw [Bool.eq_iff_iff, decide_eq_true_iff, comp_iff K L (by rw [hK.len, hL.len]) hK.bs hL.bs]
  constructor
  · rintro ⟨j, h1, h2, h3⟩
    rw [lss_at hK hL j (by have := hK.len; omega) h2 (by omega)]
    exact decide_eq_true h3
  · intro h
    by_cases hall : ∀ i, i < 32 → K[i]?.getD 0 = L[i]?.getD 0
    · have := shr_full hall
      unfold lss at h
      rw [this] at h
      simp at h
    · obtain ⟨j, hj, hs, hd⟩ : ∃ j, j < 32 ∧ (∀ i, i < j → K[i]?.getD 0 = L[i]?.getD 0) ∧ K[j]?.getD 0 ≠ L[j]?.getD 0 := by
        have : ∀ n, n ≤ 32 → (∃ j, j < n ∧ (∀ i, i < j → K[i]?.getD 0 = L[i]?.getD 0) ∧ K[j]?.getD 0 ≠ L[j]?.getD 0) ∨ ∀ i, i < n → K[i]?.getD 0 = L[i]?.getD 0 := by
          intro n
          induction n with
          | zero => intro _; exact Or.inr (fun i hi => by omega)
          | succ n ih =>
            intro hn
            rcases ih (by omega) with ⟨j, h1, h2, h3⟩ | h1
            · exact Or.inl ⟨j, by omega, h2, h3⟩
            · by_cases he : K[n]?.getD 0 = L[n]?.getD 0
              · refine Or.inr (fun i hi => ?_)
                rcases Nat.lt_or_ge i n with h2 | h2
                · exact h1 i h2
                · rw [show i = n by omega]; exact he
              · exact Or.inl ⟨n, by omega, h1, he⟩
        rcases this 32 (Nat.le_refl _) with h1 | h1
        · exact h1
        · exact absurd h1 hall
      rw [lss_at hK hL j hj hs hd] at h
      exact ⟨j, by rw [hK.len]; exact hj, hs, of_decide_eq_true h⟩
end Go.Proofs.Ytdaobhclcpgjbaa
