/-
  What this file is for: from bytes to bits: a byte's leading noughts, and which of two rows of bytes is less. Nothing of the program is walked here.
-/
import Derived.Test.YtdaobhclcpgjbaaKb
import Derived.Lib.BitFns
namespace Go.Proofs.Ytdaobhclcpgjbaa
open Go.ChangeShapes Go.RowKit
set_option linter.unusedVariables false

theorem bt_nat (a : Nat) (t : Nat) : bt (a : Int) t = if a.testBit (7 - t) then 1 else 0 := by
  unfold bt
  rw [Nat.testBit_eq_decide_div_mod_eq]
  have e : ((a : Int) / 2 ^ (7 - t) % 2) = ((a / 2 ^ (7 - t) % 2 : Nat) : Int) := by simp
  rw [e]
  by_cases h : a / 2 ^ (7 - t) % 2 = 1
  · simp [h]
  · have : a / 2 ^ (7 - t) % 2 = 0 := by omega
    simp [this]
theorem xor_nat (a b : Nat) (ha : a < 256) (hb : b < 256) : bits .xor .u8 (a : Int) (b : Int) = ((a ^^^ b : Nat) : Int) := by
  show IntKind.u8.wrap ((BitVec.ofInt 8 (a : Int) ^^^ BitVec.ofInt 8 (b : Int)).toNat : Int) = _
  have hx : a ^^^ b < 2 ^ 8 := Nat.xor_lt_two_pow ha hb
  have e1 : BitVec.ofInt 8 (a : Int) = BitVec.ofNat 8 a := by simp
  have e2 : BitVec.ofInt 8 (b : Int) = BitVec.ofNat 8 b := by simp
  rw [e1, e2, BitVec.toNat_xor, BitVec.toNat_ofNat, BitVec.toNat_ofNat, Nat.mod_eq_of_lt ha, Nat.mod_eq_of_lt hb]
  simp [IntKind.wrap, IntKind.bits, IntKind.signed]
  omega
theorem lead_f : ∀ c : Fin 256, c.val ≠ 0 → 0 < Lib.bitLen c.val ∧ Lib.bitLen c.val ≤ 8 ∧ (∀ t : Fin 8, t.val < 8 - Lib.bitLen c.val → c.val.testBit (7 - t.val) = false) ∧ c.val.testBit (7 - (8 - Lib.bitLen c.val)) = true := by decide +kernel
/-- the leading noughts of what two bytes differ in -/
theorem lead_xor (x y : Int) (hx : 0 ≤ x ∧ x < 256) (hy : 0 ≤ y ∧ y < 256) (hne : x ≠ y) :
    ∃ c : Nat, bits .xor .u8 x y = (c : Int) ∧ c < 256 ∧ Lib.bitLen c ≤ 8 ∧ 0 < Lib.bitLen c ∧ (∀ t, t < 8 - Lib.bitLen c → bt x t = bt y t) ∧ bt x (8 - Lib.bitLen c) ≠ bt y (8 - Lib.bitLen c) := by
  obtain ⟨a, rfl⟩ : ∃ a : Nat, x = a := ⟨x.toNat, by omega⟩
  obtain ⟨b, rfl⟩ : ∃ b : Nat, y = b := ⟨y.toNat, by omega⟩
  have ha : a < 256 := by omega
  have hb : b < 256 := by omega
  have hc : a ^^^ b < 2 ^ 8 := Nat.xor_lt_two_pow ha hb
  have h0 : a ^^^ b ≠ 0 := fun h => hne (by
    have : a = b := Nat.eq_of_testBit_eq (fun i => by
      have h1 := Nat.testBit_xor a b i
      rw [h, Nat.zero_testBit] at h1
      cases h2 : a.testBit i <;> cases h3 : b.testBit i <;> simp_all)
    rw [this])
  obtain ⟨l0, l1, l2, l3⟩ := lead_f ⟨a ^^^ b, hc⟩ h0
  simp only at l0 l1 l2 l3
  refine ⟨a ^^^ b, xor_nat a b ha hb, hc, l1, l0, fun t ht => ?_, ?_⟩
  · have h1 := l2 ⟨t, by omega⟩ ht
    simp only at h1
    rw [Nat.testBit_xor] at h1
    rw [bt_nat, bt_nat]
    cases h2 : a.testBit (7 - t) <;> cases h3 : b.testBit (7 - t) <;> simp_all
  · rw [Nat.testBit_xor] at l3
    rw [bt_nat, bt_nat]
    generalize 7 - (8 - Lib.bitLen (a ^^^ b)) = t at l3 ⊢
    cases h2 : a.testBit t <;> cases h3 : b.testBit t <;> simp_all
theorem bit_at (K : List Int) (j t : Nat) (ht : t < 8) : bit K (8 * j + t) = bt (K[j]?.getD 0) t := by
  unfold bit
  rw [show (8 * j + t) / 8 = j by omega, show (8 * j + t) % 8 = t by omega]
theorem same_bits {K L : List Int} {j : Nat} (h : ∀ i, i < j → K[i]?.getD 0 = L[i]?.getD 0) (i : Nat) (hi : i < 8 * j) : bit K i = bit L i := by
  unfold bit
  rw [h (i / 8) (by omega)]
/-- where the first bytes are the same, and the next ones aren't, the shared bits are those, and some of the next ones -/
theorem shr_at {K L : List Int} (j : Nat) (hj : j < 32) (h : ∀ i, i < j → K[i]?.getD 0 = L[i]?.getD 0) (z : Nat) (hz : z < 8)
    (hs : ∀ t, t < z → bt (K[j]?.getD 0) t = bt (L[j]?.getD 0) t) (hd : bt (K[j]?.getD 0) z ≠ bt (L[j]?.getD 0) z) : IsShr K L (8 * j + z) := by
  refine ⟨by omega, fun i hi => ?_, fun _ => by rw [bit_at K j z hz, bit_at L j z hz]; exact hd⟩
  rcases Nat.lt_or_ge i (8 * j) with h1 | h1
  · exact same_bits h i h1
  · obtain ⟨t, rfl⟩ : ∃ t, i = 8 * j + t := ⟨i - 8 * j, by omega⟩
    rw [bit_at K j t (by omega), bit_at L j t (by omega)]
    exact hs t (by omega)
theorem shr_xor {K L : List Int} (hK : Ky K) (hL : Ky L) (j : Nat) (hj : j < 32) (h : ∀ i, i < j → K[i]?.getD 0 = L[i]?.getD 0) (hne : K[j]?.getD 0 ≠ L[j]?.getD 0) :
    ∃ c : Nat, bits .xor .u8 (K[j]?.getD 0) (L[j]?.getD 0) = (c : Int) ∧ c < 256 ∧ Lib.bitLen c ≤ 8 ∧ 0 < Lib.bitLen c ∧ shr K L = 8 * j + (8 - Lib.bitLen c) := by
  obtain ⟨c, h1, h2, h3, h4, h5, h6⟩ := lead_xor _ _ (hK.bs.at j) (hL.bs.at j) hne
  exact ⟨c, h1, h2, h3, h4, (shr_at j hj h (8 - Lib.bitLen c) (by omega) h5 h6).eq.symm⟩
theorem shr_full {K L : List Int} (h : ∀ i, i < 32 → K[i]?.getD 0 = L[i]?.getD 0) : shr K L = 256 :=
  (IsShr.eq ⟨Nat.le_refl _, fun i hi => same_bits h i (by omega), fun h => absurd h (by decide)⟩).symm
theorem less_bit (x y : Int) (hx : 0 ≤ x ∧ x < 256) (hy : 0 ≤ y ∧ y < 256) (z : Nat) (hz : z < 8) (hs : ∀ t, t < z → bt x t = bt y t) (hd : bt x z ≠ bt y z) :
    bt x z = 0 ↔ x < y := by
  have h0 := hs 0; have h1 := hs 1; have h2 := hs 2; have h3 := hs 3; have h4 := hs 4; have h5 := hs 5; have h6 := hs 6
  clear hs
  rcases lt8 hz with rfl | rfl | rfl | rfl | rfl | rfl | rfl | rfl <;> simp [bt] at * <;> omega
/-- the first difference of two rows of bytes tells which is less -/
theorem lss_at {K L : List Int} (hK : Ky K) (hL : Ky L) (j : Nat) (hj : j < 32) (h : ∀ i, i < j → K[i]?.getD 0 = L[i]?.getD 0) (hne : K[j]?.getD 0 ≠ L[j]?.getD 0) :
    lss K L = decide (K[j]?.getD 0 < L[j]?.getD 0) := by
  obtain ⟨c, h1, h2, h3, h4, h5, h6⟩ := lead_xor _ _ (hK.bs.at j) (hL.bs.at j) hne
  rw [lss_of (shr_at j hj h (8 - Lib.bitLen c) (by omega) h5 h6), bit_at K j _ (by omega)]
  have h7 := less_bit _ _ (hK.bs.at j) (hL.bs.at j) _ (by omega) h5 h6
  rw [decide_eq_decide]
  rw [h7]
  exact ⟨fun h => h.2, fun h => ⟨by omega, h⟩⟩
end Go.Proofs.Ytdaobhclcpgjbaa
