/-
  What this file is for: the digits of a hash and of its check sum, in plain mathematics: of two hashes that aren't the same some digit of the one is less than the other's. Nothing of the program is walked here.
-/
import Derived.Test.YteiflhgmgdibgaaLmK
namespace Go.Proofs.Yteiflhgmgdibgaa
open Go.ChangeShapes Go.WideShapes Go.ChangeAt Go.RowKit
set_option linter.unusedVariables false

/-- how many bits a digit of this kind has; 0: no kind -/
def kbits (k : Int) : Nat := if k = 1 then 1 else if k = 2 then 2 else if k = 3 then 4 else if k = 4 then 8 else 0
/-- how many chains -/
def kchains (k : Int) : Nat := if k = 1 then 265 else if k = 2 then 133 else if k = 3 then 67 else if k = 4 then 34 else 0
/-- by how many bits the check sum is shifted -/
def kshift (k : Int) : Nat := if k = 1 then 7 else if k = 2 then 6 else if k = 3 then 4 else 0
/-- the greatest number of a digit -/
def kmost (k : Int) : Int := 2 ^ kbits k - 1
def ksize (k : Int) : Nat := if kbits k = 0 then 0 else 36 + 32 * kchains k
/-- the n-th digit of some bytes, of so many bits, of which so many are in a byte -/
def dig (b : List Int) (n bits each : Nat) : Int := (b[n / each]?.getD 0) / 2 ^ (bits * (each - 1 - n % each)) % 2 ^ bits
/-- the digits of a hash -/
def digH (k : Int) (h : List Int) (n : Nat) : Int := dig h n (kbits k) (8 / kbits k)
/-- the check sum, not shifted -/
def ksum (k : Int) (h : List Int) : Nat → Int
  | 0 => 0
  | n + 1 => ksum k h n + (kmost k - digH k h n)
def kcheck (k : Int) (h : List Int) : Int := ksum k h (256 / kbits k) * 2 ^ kshift k
/-- hash and check sum -/
def kall (k : Int) (h : List Int) : List Int := h ++ [kcheck k h / 256, kcheck k h % 256]
/-- the digits -/
def digits (k : Int) (h : List Int) : List Int := (List.range (kchains k)).map fun n => dig (kall k h) n (kbits k) (8 / kbits k)
theorem digits_length (k : Int) (h : List Int) : (digits k h).length = kchains k := by simp [digits]

theorem dig_lo (b : List Int) (n bits each : Nat) : 0 ≤ dig b n bits each := by unfold dig; exact Int.emod_nonneg _ (by have : (0 : Int) < 2 ^ bits := Int.pow_pos (by decide); omega)
theorem dig_hi (b : List Int) (n bits each : Nat) : dig b n bits each ≤ 2 ^ bits - 1 := by
  unfold dig
  have h : (0 : Int) < 2 ^ bits := Int.pow_pos (by decide)
  have := Int.emod_lt_of_pos ((b[n / each]?.getD 0) / 2 ^ (bits * (each - 1 - n % each))) h
  omega
theorem ksum_lo (k : Int) (h : List Int) (n : Nat) : 0 ≤ ksum k h n ∧ ksum k h n ≤ n * kmost k := by
  induction n with
  | zero => simp [ksum]
  | succ n ih =>
    have l := dig_lo h n (kbits k) (8 / kbits k)
    have g := dig_hi h n (kbits k) (8 / kbits k)
    have e : ((n + 1 : Nat) : Int) * kmost k = n * kmost k + kmost k := by push_cast; rw [Int.add_mul]; simp
    unfold ksum
    rw [e]
    unfold digH kmost
    unfold kmost at ih
    omega
/-- where no digit is greater, the sum is no less; and it is greater if some digit is less -/
theorem ksum_mono (k : Int) (a b : List Int) (n : Nat) (h : ∀ i, i < n → digH k a i ≤ digH k b i) : ksum k b n ≤ ksum k a n ∧ ((∃ i, i < n ∧ digH k a i < digH k b i) → ksum k b n < ksum k a n) := by
  induction n with
  | zero => exact ⟨Int.le_refl _, fun ⟨i, hi, _⟩ => absurd hi (by omega)⟩
  | succ n ih =>
    obtain ⟨h1, h2⟩ := ih (fun i hi => h i (by omega))
    have h3 := h n (by omega)
    unfold ksum
    refine ⟨by omega, fun ⟨i, hi, hlt⟩ => ?_⟩
    by_cases hin : i = n
    · subst hin; omega
    · have := h2 ⟨i, by omega, hlt⟩
      omega
/-- a kind -/
def Kd (k : Int) : Prop := k = 1 ∨ k = 2 ∨ k = 3 ∨ k = 4
theorem ksum_bound {k : Int} (hk : Kd k) (h : List Int) : 0 ≤ kcheck k h ∧ kcheck k h < 65536 := by
  unfold kcheck
  have := ksum_lo k h (256 / kbits k)
  rcases hk with rfl | rfl | rfl | rfl <;> simp [kbits, kshift, kmost] at * <;> omega
theorem kall_at {k : Int} {h : List Int} (hh : Ky h) (j : Nat) (hj : j < 32) : (kall k h)[j]?.getD 0 = h[j]?.getD 0 := by
  unfold kall
  rw [List.getElem?_append_left (by rw [hh.len]; exact hj)]
theorem kall_32 {k : Int} {h : List Int} (hh : Ky h) : (kall k h)[32]?.getD 0 = kcheck k h / 256 := by
  unfold kall
  rw [List.getElem?_append_right (by rw [hh.len]; omega), hh.len]; rfl
theorem kall_33 {k : Int} {h : List Int} (hh : Ky h) : (kall k h)[33]?.getD 0 = kcheck k h % 256 := by
  unfold kall
  rw [List.getElem?_append_right (by rw [hh.len]; omega), hh.len]; rfl
/-- the hash's own digits come first -/
theorem dig_first {k : Int} (hk : Kd k) {h : List Int} (hh : Ky h) (n : Nat) (hn : n < 256 / kbits k) : dig (kall k h) n (kbits k) (8 / kbits k) = digH k h n := by
  unfold digH dig
  rw [kall_at hh]
  rcases hk with rfl | rfl | rfl | rfl <;> simp [kbits] at * <;> omega
/-- a number of which no digit is greater isn't greater -/
theorem base_mono (B : Int) (hB : 2 ≤ B) : ∀ (n : Nat) (x y : Int), 0 ≤ x → 0 ≤ y → x < B ^ n → (∀ i, i < n → x / B ^ i % B ≤ y / B ^ i % B) → x ≤ y := by
  intro n
  induction n with
  | zero => intro x y hx hy h _; simp at h; omega
  | succ n ih =>
    intro x y hx hy h hd
    have h0 := hd 0 (by omega)
    simp at h0
    have hstep : ∀ z : Int, ∀ i : Nat, z / B / B ^ i = z / B ^ (i + 1) := fun z i => by
      rw [Int.ediv_ediv_of_nonneg (by omega), Int.pow_succ, Int.mul_comm]
    have h1 := ih (x / B) (y / B) (Int.ediv_nonneg hx (by omega)) (Int.ediv_nonneg hy (by omega))
      (Int.ediv_lt_of_lt_mul (by omega) (by rw [Int.pow_succ] at h; exact h)) (fun i hi => by rw [hstep, hstep]; exact hd (i + 1) (by omega))
    have ex := Int.mul_ediv_add_emod x B
    have ey := Int.mul_ediv_add_emod y B
    have hm : B * (x / B) ≤ B * (y / B) := Int.mul_le_mul_of_nonneg_left h1 (by omega)
    omega
theorem lt9 {t : Nat} (h : t < 9) : t = 0 ∨ t = 1 ∨ t = 2 ∨ t = 3 ∨ t = 4 ∨ t = 5 ∨ t = 6 ∨ t = 7 ∨ t = 8 := by omega
/-- the check sum's digits are those of the sum -/
theorem dig_check {k : Int} (hk : Kd k) {h : List Int} (hh : Ky h) (i : Nat) (hi : i < kchains k - 256 / kbits k) :
    dig (kall k h) (kchains k - 1 - i) (kbits k) (8 / kbits k) = ksum k h (256 / kbits k) / (2 ^ kbits k) ^ i % 2 ^ kbits k := by
  have h2 := kall_32 (k := k) hh; have h3 := kall_33 (k := k) hh
  have l := ksum_lo k h (256 / kbits k)
  rcases hk with rfl | rfl | rfl | rfl
  · have hi9 : i < 9 := by simpa [kchains, kbits] using hi
    simp only [kcheck] at h2 h3
    simp [kbits, kshift, kmost] at h2 h3 l
    rcases lt9 hi9 with rfl | rfl | rfl | rfl | rfl | rfl | rfl | rfl | rfl <;> simp [dig, kbits, kchains, h2, h3] <;> omega
  · have hi9 : i < 5 := by simpa [kchains, kbits] using hi
    have : i = 0 ∨ i = 1 ∨ i = 2 ∨ i = 3 ∨ i = 4 := by omega
    simp only [kcheck] at h2 h3
    simp [kbits, kshift, kmost] at h2 h3 l
    rcases this with rfl | rfl | rfl | rfl | rfl <;> simp [dig, kbits, kchains, h2, h3] <;> omega
  · have hi9 : i < 3 := by simpa [kchains, kbits] using hi
    have : i = 0 ∨ i = 1 ∨ i = 2 := by omega
    simp only [kcheck] at h2 h3
    simp [kbits, kshift, kmost] at h2 h3 l
    rcases this with rfl | rfl | rfl <;> simp [dig, kbits, kchains, h2, h3] <;> omega
  · have hi9 : i < 2 := by simpa [kchains, kbits] using hi
    have : i = 0 ∨ i = 1 := by omega
    simp only [kcheck] at h2 h3
    simp [kbits, kshift, kmost] at h2 h3 l
    rcases this with rfl | rfl <;> simp [dig, kbits, kchains, h2, h3] <;> omega
theorem ksum_top {k : Int} (hk : Kd k) (h : List Int) : ksum k h (256 / kbits k) < (2 ^ kbits k) ^ (kchains k - 256 / kbits k) := by
  have l := ksum_lo k h (256 / kbits k)
  rcases hk with rfl | rfl | rfl | rfl <;> simp [kbits, kchains, kmost] at * <;> omega
/-- where no digit of the check sum is greater, the sum isn't -/
theorem check_mono {k : Int} (hk : Kd k) {a b : List Int} (ha : Ky a) (hb : Ky b)
    (h : ∀ n, n < kchains k → dig (kall k a) n (kbits k) (8 / kbits k) ≤ dig (kall k b) n (kbits k) (8 / kbits k)) : ksum k a (256 / kbits k) ≤ ksum k b (256 / kbits k) := by
  have la := ksum_lo k a (256 / kbits k)
  have lb := ksum_lo k b (256 / kbits k)
  have hc : 0 < kchains k := by rcases hk with rfl | rfl | rfl | rfl <;> decide
  have hB : (2 : Int) ≤ 2 ^ kbits k := by rcases hk with rfl | rfl | rfl | rfl <;> decide
  refine base_mono (2 ^ kbits k) hB _ _ _ la.1 lb.1 (ksum_top hk a) (fun i hi => ?_)
  rw [← dig_check hk ha i hi, ← dig_check hk hb i hi]
  exact h _ (by omega)
/-- all digits tell the hash -/
theorem digH_inj {k : Int} (hk : Kd k) {a b : List Int} (ha : Ky a) (hb : Ky b) (h : ∀ n, n < 256 / kbits k → digH k a n = digH k b n) : a = b := by
  refine List.ext_getElem (by rw [ha.len, hb.len]) (fun j h1 h2 => ?_)
  have hj : j < 32 := by have := ha.len; omega
  have xa := ha.bs _ (List.getElem_mem h1); have xb := hb.bs _ (List.getElem_mem h2)
  have ea : a[j]?.getD 0 = a[j] := by simp [h1]
  have eb : b[j]?.getD 0 = b[j] := by simp [h2]
  rcases hk with rfl | rfl | rfl | rfl
  · have key : ∀ t, t < 8 → a[j] / 2 ^ (7 - t) % 2 = b[j] / 2 ^ (7 - t) % 2 := fun t ht => by
      have := h (8 * j + t) (by simp [kbits]; omega)
      simp only [digH, dig, kbits] at this
      simp at this
      rw [show (8 * j + t) / 8 = j by omega, show t % 8 = t by omega] at this
      simpa [h1, h2] using this
    exact byte_ext _ _ xa xb key
  · have key : ∀ t, t < 4 → a[j] / 2 ^ (2 * (3 - t)) % 4 = b[j] / 2 ^ (2 * (3 - t)) % 4 := fun t ht => by
      have := h (4 * j + t) (by simp [kbits]; omega)
      simp only [digH, dig, kbits] at this
      simp at this
      rw [show (4 * j + t) / 4 = j by omega, show t % 4 = t by omega] at this
      simpa [h1, h2] using this
    have k0 := key 0 (by decide); have k1 := key 1 (by decide); have k2 := key 2 (by decide); have k3 := key 3 (by decide)
    simp at k0 k1 k2 k3
    omega
  · have key : ∀ t, t < 2 → a[j] / 2 ^ (4 * (1 - t)) % 16 = b[j] / 2 ^ (4 * (1 - t)) % 16 := fun t ht => by
      have := h (2 * j + t) (by simp [kbits]; omega)
      simp only [digH, dig, kbits] at this
      simp at this
      rw [show (2 * j + t) / 2 = j by omega, show t % 2 = t by omega] at this
      simpa [h1, h2] using this
    have k0 := key 0 (by decide); have k1 := key 1 (by decide)
    simp at k0 k1
    omega
  · have := h j (by simp [kbits]; omega)
    simp only [digH, dig, kbits] at this
    simp [h1, h2] at this
    omega
theorem first_lt {k : Int} (hk : Kd k) : 256 / kbits k < kchains k := by rcases hk with rfl | rfl | rfl | rfl <;> decide
/-- of two hashes that aren't the same some digit of the one is less than the other's -/
theorem some_less {k : Int} (hk : Kd k) {a b : List Int} (ha : Ky a) (hb : Ky b) (hne : a ≠ b) :
    ∃ n, n < kchains k ∧ dig (kall k a) n (kbits k) (8 / kbits k) < dig (kall k b) n (kbits k) (8 / kbits k) := by
  apply Classical.byContradiction
  intro hno
  have hle : ∀ n, n < kchains k → dig (kall k b) n (kbits k) (8 / kbits k) ≤ dig (kall k a) n (kbits k) (8 / kbits k) := fun n hn => by
    rcases Int.lt_or_le (dig (kall k a) n (kbits k) (8 / kbits k)) (dig (kall k b) n (kbits k) (8 / kbits k)) with h1 | h1
    · exact absurd ⟨n, hn, h1⟩ hno
    · exact h1
  have hf := first_lt hk
  have hle2 : ∀ i, i < 256 / kbits k → digH k b i ≤ digH k a i := fun i hi => by
    have := hle i (by omega)
    rwa [dig_first hk ha i hi, dig_first hk hb i hi] at this
  have hm := ksum_mono k b a (256 / kbits k) hle2
  have hc := check_mono hk hb ha hle
  refine hne (digH_inj hk ha hb (fun i hi => ?_))
  have h1 := hle2 i hi
  rcases Int.lt_or_le (digH k b i) (digH k a i) with h2 | h2
  · have := hm.2 ⟨i, hi, h2⟩
    omega
  · omega
end Go.Proofs.Yteiflhgmgdibgaa
