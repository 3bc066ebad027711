/-
  What this file is for: the digits of a hash and of its check sum, in plain mathematics: of two hashes that aren't the same some digit of the one is less than the other's. Nothing of the program is walked here.
-/
import Derived.Test.YtobceieadjpaaaaDoorMHa2
import Derived.Test.YtobceieadjpaaaaDoorMHa1
import Derived.Deep.RegionHeld3
import Derived.Deep.MidRow
import Derived.Laws.Rows
set_option linter.unusedSimpArgs false
set_option linter.unusedVariables false
namespace Go.Proofs.YtobceieadjpaaaaDoor
open Go.ChangeShapes Go.WideShapes Go.ChangeAt Go.RowKit
set_option linter.unusedVariables false

/-- how many bits a digit of this kind has; 0: no kind -/
def kbits (k : Int) : Nat := if k = 1 then 1 else if k = 2 then 2 else if k = 3 then 4 else if k = 4 then 8 else 0
/-- how many chains -/
def kchains (k : Int) : Nat := if k = 1 then 265 else if k = 2 then 133 else if k = 3 then 67 else if k = 4 then 34 else 0
/-- by how many bits the check sum is shifted -/
def kshift (k : Int) : Nat := if k = 1 then 7 else if k = 2 then 6 else if k = 3 then 4 else 0
/-- the greatest number of a digit -/
def kmost (k : Int) : Int := 2 ^ kbits k - 1
def ksize (k : Int) : Nat := if kbits k = 0 then 0 else 36 + 32 * kchains k
/-- the n-th digit of some bytes, of so many bits, of which so many are in a byte -/
def dig (b : List Int) (n bits each : Nat) : Int := (b[n / each]?.getD 0) / 2 ^ (bits * (each - 1 - n % each)) % 2 ^ bits
/-- the digits of a hash -/
def digH (k : Int) (h : List Int) (n : Nat) : Int := dig h n (kbits k) (8 / kbits k)
/-- the check sum, not shifted -/
def ksum (k : Int) (h : List Int) : Nat → Int
  | 0 => 0
  | n + 1 => ksum k h n + (kmost k - digH k h n)
def kcheck (k : Int) (h : List Int) : Int := ksum k h (256 / kbits k) * 2 ^ kshift k
/-- hash and check sum -/
def kall (k : Int) (h : List Int) : List Int := h ++ [kcheck k h / 256, kcheck k h % 256]
/-- the digits -/
def digits (k : Int) (h : List Int) : List Int := (List.range (kchains k)).map fun n => dig (kall k h) n (kbits k) (8 / kbits k)
theorem digits_length (k : Int) (h : List Int) : (digits k h).length = kchains k := by simp [digits]

theorem dig_lo (b : List Int) (n bits each : Nat) : 0 ≤ dig b n bits each := by unfold dig; exact Int.emod_nonneg _ (by have : (0 : Int) < 2 ^ bits := Int.pow_pos (by decide); omega)
theorem dig_hi (b : List Int) (n bits each : Nat) : dig b n bits each ≤ 2 ^ bits - 1 := by
  unfold dig
  have h : (0 : Int) < 2 ^ bits := Int.pow_pos (by decide)
  have := Int.emod_lt_of_pos ((b[n / each]?.getD 0) / 2 ^ (bits * (each - 1 - n % each))) h
  omega
theorem ksum_lo (k : Int) (h : List Int) (n : Nat) : 0 ≤ ksum k h n ∧ ksum k h n ≤ n * kmost k := by
  induction n with
  | zero => simp [ksum]
  | succ n ih =>
    have l := dig_lo h n (kbits k) (8 / kbits k)
    have g := dig_hi h n (kbits k) (8 / kbits k)
    have e : ((n + 1 : Nat) : Int) * kmost k = n * kmost k + kmost k := by push_cast; rw [Int.add_mul]; simp
    unfold ksum
    rw [e]
    unfold digH kmost
    unfold kmost at ih
    omega
/-- where no digit is greater, the sum is no less; and it is greater if some digit is less -/
theorem ksum_mono (k : Int) (a b : List Int) (n : Nat) (h : ∀ i, i < n → digH k a i ≤ digH k b i) : ksum k b n ≤ ksum k a n ∧ ((∃ i, i < n ∧ digH k a i < digH k b i) → ksum k b n < ksum k a n) := by
  induction n with
  | zero => exact ⟨Int.le_refl _, fun ⟨i, hi, _⟩ => absurd hi (by omega)⟩
  | succ n ih =>
    obtain ⟨h1, h2⟩ := ih (fun i hi => h i (by omega))
    have h3 := h n (by omega)
    unfold ksum
    refine ⟨by omega, fun ⟨i, hi, hlt⟩ => ?_⟩
    by_cases hin : i = n
    · subst hin; omega
    · have := h2 ⟨i, by omega, hlt⟩
      omega
/-- a kind -/
def Kd (k : Int) : Prop := k = 1 ∨ k = 2 ∨ k = 3 ∨ k = 4
theorem ksum_bound {k : Int} (hk : Kd k) (h : List Int) : 0 ≤ kcheck k h ∧ kcheck k h < 65536 := by
  unfold kcheck
  have := ksum_lo k h (256 / kbits k)
  rcases hk with rfl | rfl | rfl | rfl <;> simp [kbits, kshift, kmost] at * <;> omega
theorem kall_at {k : Int} {h : List Int} (hh : Ky h) (j : Nat) (hj : j < 32) : (kall k h)[j]?.getD 0 = h[j]?.getD 0 := by
  unfold kall
  rw [List.getElem?_append_left (by rw [hh.len]; exact hj)]
theorem kall_32 {k : Int} {h : List Int} (hh : Ky h) : (kall k h)[32]?.getD 0 = kcheck k h / 256 := by
  unfold kall
  rw [List.getElem?_append_right (by rw [hh.len]; omega), hh.len]; rfl
theorem kall_33 {k : Int} {h : List Int} (hh : Ky h) : (kall k h)[33]?.getD 0 = kcheck k h % 256 := by
  unfold kall
  rw [List.getElem?_append_right (by rw [hh.len]; omega), hh.len]; rfl
/-- the hash's own digits come first -/
theorem dig_first {k : Int} (hk : Kd k) {h : List Int} (hh : Ky h) (n : Nat) (hn : n < 256 / kbits k) : dig (kall k h) n (kbits k) (8 / kbits k) = digH k h n := by
  unfold digH dig
  rw [kall_at hh]
  rcases hk with rfl | rfl | rfl | rfl <;> simp [kbits] at * <;> omega
/-- a number of which no digit is greater isn't greater -/
theorem base_mono (B : Int) (hB : 2 ≤ B) : ∀ (n : Nat) (x y : Int), 0 ≤ x → 0 ≤ y → x < B ^ n → (∀ i, i < n → x / B ^ i % B ≤ y / B ^ i % B) → x ≤ y := by
  intro n
  induction n with
  | zero => intro x y hx hy h _; simp at h; omega
  | succ n ih =>
    intro x y hx hy h hd
    have h0 := hd 0 (by omega)
    simp at h0
    have hstep : ∀ z : Int, ∀ i : Nat, z / B / B ^ i = z / B ^ (i + 1) := fun z i => by
      rw [Int.ediv_ediv_of_nonneg (by omega), Int.pow_succ, Int.mul_comm]
    have h1 := ih (x / B) (y / B) (Int.ediv_nonneg hx (by omega)) (Int.ediv_nonneg hy (by omega))
      (Int.ediv_lt_of_lt_mul (by omega) (by rw [Int.pow_succ] at h; exact h)) (fun i hi => by rw [hstep, hstep]; exact hd (i + 1) (by omega))
    have ex := Int.mul_ediv_add_emod x B
    have ey := Int.mul_ediv_add_emod y B
    have hm : B * (x / B) ≤ B * (y / B) := Int.mul_le_mul_of_nonneg_left h1 (by omega)
    omega
theorem lt9 {t : Nat} (h : t < 9) : t = 0 ∨ t = 1 ∨ t = 2 ∨ t = 3 ∨ t = 4 ∨ t = 5 ∨ t = 6 ∨ t = 7 ∨ t = 8 := by omega
/-- the check sum's digits are those of the sum -/
theorem dig_check {k : Int} (hk : Kd k) {h : List Int} (hh : Ky h) (i : Nat) (hi : i < kchains k - 256 / kbits k) :
    dig (kall k h) (kchains k - 1 - i) (kbits k) (8 / kbits k) = ksum k h (256 / kbits k) / (2 ^ kbits k) ^ i % 2 ^ kbits k := by
  have h2 := kall_32 (k := k) hh; have h3 := kall_33 (k := k) hh
  have l := ksum_lo k h (256 / kbits k)
  rcases hk with rfl | rfl | rfl | rfl
  · have hi9 : i < 9 := by simpa [kchains, kbits] using hi
    simp only [kcheck] at h2 h3
    simp [kbits, kshift, kmost] at h2 h3 l
    rcases lt9 hi9 with rfl | rfl | rfl | rfl | rfl | rfl | rfl | rfl | rfl <;> simp [dig, kbits, kchains, h2, h3] <;> omega
  · have hi9 : i < 5 := by simpa [kchains, kbits] using hi
    have : i = 0 ∨ i = 1 ∨ i = 2 ∨ i = 3 ∨ i = 4 := by omega
    simp only [kcheck] at h2 h3
    simp [kbits, kshift, kmost] at h2 h3 l
    rcases this with rfl | rfl | rfl | rfl | rfl <;> simp [dig, kbits, kchains, h2, h3] <;> omega
  · have hi9 : i < 3 := by simpa [kchains, kbits] using hi
    have : i = 0 ∨ i = 1 ∨ i = 2 := by omega
    simp only [kcheck] at h2 h3
    simp [kbits, kshift, kmost] at h2 h3 l
    rcases this with rfl | rfl | rfl <;> simp [dig, kbits, kchains, h2, h3] <;> omega
  · have hi9 : i < 2 := by simpa [kchains, kbits] using hi
    have : i = 0 ∨ i = 1 := by omega
    simp only [kcheck] at h2 h3
    simp [kbits, kshift, kmost] at h2 h3 l
    rcases this with rfl | rfl <;> simp [dig, kbits, kchains, h2, h3] <;> omega
theorem ksum_top {k : Int} (hk : Kd k) (h : List Int) : ksum k h (256 / kbits k) < (2 ^ kbits k) ^ (kchains k - 256 / kbits k) := by
  have l := ksum_lo k h (256 / kbits k)
  rcases hk with rfl | rfl | rfl | rfl <;> simp [kbits, kchains, kmost] at * <;> omega
/-- where no digit of the check sum is greater, the sum isn't -/
theorem check_mono {k : Int} (hk : Kd k) {a b : List Int} (ha : Ky a) (hb : Ky b)
    (h : ∀ n, n < kchains k → dig (kall k a) n (kbits k) (8 / kbits k) ≤ dig (kall k b) n (kbits k) (8 / kbits k)) : ksum k a (256 / kbits k) ≤ ksum k b (256 / kbits k) := by
  have la := ksum_lo k a (256 / kbits k)
  have lb := ksum_lo k b (256 / kbits k)
  have hc : 0 < kchains k := by rcases hk with rfl | rfl | rfl | rfl <;> decide
  have hB : (2 : Int) ≤ 2 ^ kbits k := by rcases hk with rfl | rfl | rfl | rfl <;> decide
  refine base_mono (2 ^ kbits k) hB _ _ _ la.1 lb.1 (ksum_top hk a) (fun i hi => ?_)
  rw [← dig_check hk ha i hi, ← dig_check hk hb i hi]
  exact h _ (by omega)
/-- all digits tell the hash -/
theorem digH_inj {k : Int} (hk : Kd k) {a b : List Int} (ha : Ky a) (hb : Ky b) (h : ∀ n, n < 256 / kbits k → digH k a n = digH k b n) : a = b := by
  refine List.ext_getElem (by rw [ha.len, hb.len]) (fun j h1 h2 => ?_)
  have hj : j < 32 := by have := ha.len; omega
  have xa := ha.bs _ (List.getElem_mem h1); have xb := hb.bs _ (List.getElem_mem h2)
  have ea : a[j]?.getD 0 = a[j] := by simp [h1]
  have eb : b[j]?.getD 0 = b[j] := by simp [h2]
  rcases hk with rfl | rfl | rfl | rfl
  · have key : ∀ t, t < 8 → a[j] / 2 ^ (7 - t) % 2 = b[j] / 2 ^ (7 - t) % 2 := fun t ht => by
      have := h (8 * j + t) (by simp [kbits]; omega)
      simp only [digH, dig, kbits] at this
      simp at this
      rw [show (8 * j + t) / 8 = j by omega, show t % 8 = t by omega] at this
      simpa [h1, h2] using this
    exact byte_ext _ _ xa xb key
  · have key : ∀ t, t < 4 → a[j] / 2 ^ (2 * (3 - t)) % 4 = b[j] / 2 ^ (2 * (3 - t)) % 4 := fun t ht => by
      have := h (4 * j + t) (by simp [kbits]; omega)
      simp only [digH, dig, kbits] at this
      simp at this
      rw [show (4 * j + t) / 4 = j by omega, show t % 4 = t by omega] at this
      simpa [h1, h2] using this
    have k0 := key 0 (by decide); have k1 := key 1 (by decide); have k2 := key 2 (by decide); have k3 := key 3 (by decide)
    simp at k0 k1 k2 k3
    omega
  · have key : ∀ t, t < 2 → a[j] / 2 ^ (4 * (1 - t)) % 16 = b[j] / 2 ^ (4 * (1 - t)) % 16 := fun t ht => by
      have := h (2 * j + t) (by simp [kbits]; omega)
      simp only [digH, dig, kbits] at this
      simp at this
      rw [show (2 * j + t) / 2 = j by omega, show t % 2 = t by omega] at this
      simpa [h1, h2] using this
    have k0 := key 0 (by decide); have k1 := key 1 (by decide)
    simp at k0 k1
    omega
  · have := h j (by simp [kbits]; omega)
    simp only [digH, dig, kbits] at this
    simp [h1, h2] at this
    omega
theorem first_lt {k : Int} (hk : Kd k) : 256 / kbits k < kchains k := by rcases hk with rfl | rfl | rfl | rfl <;> decide
/-- of two hashes that aren't the same some digit of the one is less than the other's -/
theorem some_less {k : Int} (hk : Kd k) {a b : List Int} (ha : Ky a) (hb : Ky b) (hne : a ≠ b) :
    ∃ n, n < kchains k ∧ dig (kall k a) n (kbits k) (8 / kbits k) < dig (kall k b) n (kbits k) (8 / kbits k) := by
  apply Classical.byContradiction
  intro hno
  have hle : ∀ n, n < kchains k → dig (kall k b) n (kbits k) (8 / kbits k) ≤ dig (kall k a) n (kbits k) (8 / kbits k) := fun n hn => by
    rcases Int.lt_or_le (dig (kall k a) n (kbits k) (8 / kbits k)) (dig (kall k b) n (kbits k) (8 / kbits k)) with h1 | h1
    · exact absurd ⟨n, hn, h1⟩ hno
    · exact h1
  have hf := first_lt hk
  have hle2 : ∀ i, i < 256 / kbits k → digH k b i ≤ digH k a i := fun i hi => by
    have := hle i (by omega)
    rwa [dig_first hk ha i hi, dig_first hk hb i hi] at this
  have hm := ksum_mono k b a (256 / kbits k) hle2
  have hc := check_mono hk hb ha hle
  refine hne (digH_inj hk ha hb (fun i hi => ?_))
  have h1 := hle2 i hi
  rcases Int.lt_or_le (digH k b i) (digH k a i) with h2 | h2
  · have := hm.2 ⟨i, hi, h2⟩
    omega
  · omega
end Go.Proofs.YtobceieadjpaaaaDoor
/-
  What this file is for: keys for one signature in plain mathematics, over the document's hash: steps, public key, signature, what a signature leads to; a signature that was made leads to the public key, and nowhere without some bytes, with some more, or with another kind's number. Nothing of the program is walked here.
-/
namespace Go.Proofs.YtobceieadjpaaaaDoor
open Go.ChangeShapes Go.RowKit
set_option linter.unusedVariables false
set_option maxRecDepth 20000

/-- the hash of bytes under (id, q, i) -/
def under (id : List Int) (q i : Int) (b : List Int) : List Int := sum (id ++ be q 4 ++ be i 2 ++ b)
theorem under_ky (id : List Int) (q i : Int) (b : List Int) : Ky (under id q i b) := ⟨sum_length _, sum_bs _⟩
/-- so many steps of a chain, from the a-th on -/
def steps (id : List Int) (q i : Int) (h : List Int) (a : Nat) : Nat → List Int
  | 0 => h
  | n + 1 => under id q i (((a + n : Nat) : Int) :: steps id q i h a n)
theorem steps_steps (id : List Int) (q i : Int) (h : List Int) (a n m : Nat) : steps id q i (steps id q i h a n) (a + n) m = steps id q i h a (n + m) := by
  induction m with
  | zero => rfl
  | succ m ih =>
    show under id q i (((a + n + m : Nat) : Int) :: _) = under id q i (((a + (n + m) : Nat) : Int) :: _)
    rw [ih, Nat.add_assoc]
    rfl
theorem steps_ky {id : List Int} {q i : Int} {h : List Int} (hh : Ky h) (a n : Nat) : Ky (steps id q i h a n) := by
  cases n with
  | zero => exact hh
  | succ n => exact under_ky _ _ _ _
/-- a chain's beginning -/
def begn (id : List Int) (q i : Int) (seed : List Int) : List Int := under id q i (255 :: seed)
/-- a row of 32 bytes for each of so many chains -/
def rowsOf (m : Nat) (f : Nat → List Int) : List Int := (List.range m).flatMap f
theorem rowsOf_succ (m : Nat) (f : Nat → List Int) : rowsOf (m + 1) f = rowsOf m f ++ f m := by
  unfold rowsOf
  rw [List.range_succ, List.flatMap_append]
  simp
theorem rowsOf_length (m : Nat) (f : Nat → List Int) (h : ∀ i, (f i).length = 32) : (rowsOf m f).length = 32 * m := by
  induction m with
  | zero => rfl
  | succ m ih => rw [rowsOf_succ, List.length_append, ih, h]; omega
theorem rowsOf_row (m : Nat) (f : Nat → List Int) (h : ∀ i, (f i).length = 32) (i : Nat) (hi : i < m) : ((rowsOf m f).drop (32 * i)).take 32 = f i := by
  induction m with
  | zero => omega
  | succ m ih =>
    have hl := rowsOf_length m f h
    rw [rowsOf_succ]
    by_cases him : i < m
    · rw [List.drop_append_of_le_length (by omega), List.take_append_of_le_length (by rw [List.length_drop]; omega)]
      exact ih him
    · have : i = m := by omega
      subst this
      rw [List.drop_append, List.drop_eq_nil_of_le (by omega), hl]
      simp
      rw [List.take_of_length_le (by rw [h]; omega)]
theorem rowsOf_congr (m : Nat) (f g : Nat → List Int) (h : ∀ i, i < m → f i = g i) : rowsOf m f = rowsOf m g := by
  induction m with
  | zero => rfl
  | succ m ih => rw [rowsOf_succ, rowsOf_succ, ih (fun i hi => h i (by omega)), h m (by omega)]
theorem rowsOf_bs (m : Nat) (f : Nat → List Int) (h : ∀ i, Bs (f i)) : Bs (rowsOf m f) := by
  intro v hv
  unfold rowsOf at hv
  obtain ⟨i, _, hi⟩ := List.mem_flatMap.1 hv
  exact h i v hi
/-- the public key of a kind -/
def pubK (k : Int) (id : List Int) (q : Int) (seed : List Int) : List Int :=
  under id q 32896 (rowsOf (kchains k) fun i => steps id q i (begn id q i seed) 0 (kmost k).toNat)
/-- a message's hash with a salt -/
def hashed (id : List Int) (q : Int) (salt msg : List Int) : List Int := under id q 33153 (salt ++ msg)
def saltOf (id : List Int) (q : Int) (seed : List Int) : List Int := begn id q 65533 seed
/-- the i-th digit -/
def dgt (k : Int) (h : List Int) (i : Nat) : Nat := ((digits k h)[i]?.getD 0).toNat
/-- the signature -/
def signK (k : Int) (id : List Int) (q : Int) (seed msg : List Int) : List Int :=
  be k 4 ++ (saltOf id q seed ++ rowsOf (kchains k) fun i => steps id q i (begn id q i seed) 0 (dgt k (hashed id q (saltOf id q seed) msg) i))
/-- the public key to which a signature leads -/
def ledK (k : Int) (id : List Int) (q : Int) (msg sig : List Int) : List Int :=
  under id q 32896 (rowsOf (kchains k) fun i => steps id q i ((sig.drop (36 + 32 * i)).take 32) (dgt k (hashed id q ((sig.drop 4).take 32) msg) i) ((kmost k).toNat - dgt k (hashed id q ((sig.drop 4).take 32) msg) i))
/-- whether it leads to one: a kind's number, and that kind's size -/
def sigB (sig : List Int) : Bool := decide (36 ≤ sig.length ∧ 1 ≤ val (sig.take 4) ∧ val (sig.take 4) ≤ 4 ∧ sig.length = ksize (val (sig.take 4)))
def zeroK : List Int := List.replicate 32 0
def recK (id : List Int) (q : Int) (msg sig : List Int) : List Int := if sigB sig = true then ledK (val (sig.take 4)) id q msg sig else zeroK

theorem be4_kind {k : Int} (hk : Kd k) : be k 4 = [0, 0, 0, k] := by rcases hk with rfl | rfl | rfl | rfl <;> decide
theorem kd_size {k : Int} (hk : Kd k) : ksize k = 36 + 32 * kchains k := by
  unfold ksize
  rw [if_neg (by rcases hk with rfl | rfl | rfl | rfl <;> decide)]
theorem dgt_le {k : Int} (hk : Kd k) (h : List Int) (i : Nat) : dgt k h i ≤ (kmost k).toNat := by
  unfold dgt digits
  rw [List.getElem?_map]
  by_cases hi : i < kchains k
  · rw [List.getElem?_range hi]
    simp only [Option.map_some, Option.getD_some]
    have := dig_hi (kall k h) i (kbits k) (8 / kbits k)
    unfold kmost
    omega
  · rw [List.getElem?_eq_none (by simp; omega)]
    simp
theorem chain_32 (k : Int) (id : List Int) (q : Int) (seed msg : List Int) (i : Nat) : (steps id q i (begn id q i seed) 0 (dgt k (hashed id q (saltOf id q seed) msg) i)).length = 32 := (steps_ky (under_ky _ _ _ _) _ _).len
theorem sign_length {k : Int} (hk : Kd k) (id : List Int) (q : Int) (seed msg : List Int) : (signK k id q seed msg).length = ksize k := by
  unfold signK
  rw [List.length_append, List.length_append, be4_kind hk, rowsOf_length _ _ (chain_32 k id q seed msg), kd_size hk]
  have : (saltOf id q seed).length = 32 := (under_ky _ _ _ _).len
  rw [this]
  simp
  omega
theorem sign_kind {k : Int} (hk : Kd k) (id : List Int) (q : Int) (seed msg : List Int) : val ((signK k id q seed msg).take 4) = k := by
  unfold signK
  rw [be4_kind hk]
  simp [val]
theorem sign_salt {k : Int} (hk : Kd k) (id : List Int) (q : Int) (seed msg : List Int) : ((signK k id q seed msg).drop 4).take 32 = saltOf id q seed := by
  unfold signK
  have hl : (saltOf id q seed).length = 32 := (under_ky _ _ _ _).len
  rw [be4_kind hk]
  simp [hl]
theorem sign_row {k : Int} (hk : Kd k) (id : List Int) (q : Int) (seed msg : List Int) (i : Nat) (hi : i < kchains k) :
    ((signK k id q seed msg).drop (36 + 32 * i)).take 32 = steps id q i (begn id q i seed) 0 (dgt k (hashed id q (saltOf id q seed) msg) i) := by
  have hl : (saltOf id q seed).length = 32 := (under_ky _ _ _ _).len
  have e : (signK k id q seed msg).drop (36 + 32 * i) = (rowsOf (kchains k) fun i => steps id q i (begn id q i seed) 0 (dgt k (hashed id q (saltOf id q seed) msg) i)).drop (32 * i) := by
    unfold signK
    rw [be4_kind hk, ← List.append_assoc, List.drop_append, List.drop_eq_nil_of_le (by simp [hl]), List.nil_append]
    congr 1
    simp [hl]
  rw [e, rowsOf_row _ _ (chain_32 k id q seed msg) i hi]
/-- a signature that was made leads to the public key -/
theorem led_sign {k : Int} (hk : Kd k) (id : List Int) (q : Int) (seed msg : List Int) : ledK k id q msg (signK k id q seed msg) = pubK k id q seed := by
  unfold ledK pubK
  rw [sign_salt hk]
  congr 1
  refine rowsOf_congr _ _ _ (fun i hi => ?_)
  rw [sign_row hk id q seed msg i hi]
  have h := steps_steps id q i (begn id q i seed) 0 (dgt k (hashed id q (saltOf id q seed) msg) i) ((kmost k).toNat - dgt k (hashed id q (saltOf id q seed) msg) i)
  rw [Nat.zero_add] at h
  rw [h]
  have := dgt_le hk (hashed id q (saltOf id q seed) msg) i
  congr 1
  omega
theorem sig_sign {k : Int} (hk : Kd k) (id : List Int) (q : Int) (seed msg : List Int) : sigB (signK k id q seed msg) = true := by
  unfold sigB
  rw [sign_length hk, sign_kind hk, kd_size hk]
  refine decide_eq_true ⟨by omega, ?_, ?_, rfl⟩ <;> rcases hk with rfl | rfl | rfl | rfl <;> decide
theorem rec_sign {k : Int} (hk : Kd k) (id : List Int) (q : Int) (seed msg : List Int) : recK id q msg (signK k id q seed msg) = pubK k id q seed := by
  unfold recK
  rw [if_pos (sig_sign hk id q seed msg), sign_kind hk, led_sign hk]
/-- of a kind's first bytes, no other size is right -/
theorem sig_size {k : Int} (hk : Kd k) (s : List Int) (h4 : s.take 4 = be k 4) (h : s.length ≠ ksize k) : sigB s = false := by
  unfold sigB
  have hv : val (s.take 4) = k := by rw [h4, be4_kind hk]; simp [val]
  rw [hv]
  exact decide_eq_false (fun h2 => h h2.2.2.2)
/-- no two kinds have one size -/
theorem size_inj {k l : Int} (hk : Kd k) (hl : Kd l) (h : ksize k = ksize l) : k = l := by
  rcases hk with rfl | rfl | rfl | rfl <;> rcases hl with rfl | rfl | rfl | rfl <;> first | rfl | (exfalso; revert h; decide)
end Go.Proofs.YtobceieadjpaaaaDoor
/-
  What this file is for: a region whose order is drawn, whose operations only read and whose calls lay new blocks, walked once, over all worlds that keep what stood; rows of bytes read whole. Nothing of the program is walked here.
-/
namespace Go.Proofs.YtobceieadjpaaaaDoor
open Go.ChangeShapes Go.WideShapes Go.ChangeAt Go.RowKit
set_option linter.unusedVariables false
set_option maxRecDepth 20000

theorem Blk.below {w w' : World} {g : Nat} {t : TypeId} {cs : Array Value} (h : Blk w g t cs) (hb : Below w.heap.size w w') : Blk w' g t cs := h.same (hb.block g h.lt)
/-- a world that keeps H -/
structure PW (H : World → Prop) where
  w : World
  h : H w
section
variable {P : Program} {H : World → Prop}
theorem region_kept {id : Nat} {Q : Exit → Act → World → Prop} {a : Act} {w : World} {l : List Oper} (H : World → Prop) (hm : P.follows .mixedOrders = true) (hB : Region.lexB .any l.toArray = true) (hH : H { w with drawn := w.drawn + 1 })
    (h : wpQuiet P l.toArray (fun w' => ∃ p : PW H, w' = p.w) (fun a' => ∀ w', (∃ p : PW H, w' = p.w) → Q .normal a' w') l a) : (Code.region id l.toArray true).wp P Q a w :=
  wp_region_quiet (C := fun w' => ∃ p : PW H, w' = p.w) hm hB ⟨⟨_, hH⟩, rfl⟩ (by simpa using h)
theorem calls_kept {f : FuncId} {args : Array Value} {p : PW H} {v : Value} (h : Calls P f args p.w fun e w' => e = .returned v ∧ Below p.w.heap.size p.w w') (hk : ∀ w', Below p.w.heap.size p.w w' → H w') :
    Calls P f args p.w fun e w'' => e = .returned v ∧ ∃ p : PW H, w'' = p.w := h.mono fun _ w' ⟨he, hb⟩ => ⟨he, ⟨w', hk w' hb⟩, rfl⟩
theorem load_at {ops : Array Oper} {rest : List Oper} {o : Oper} {a : Act} {w : World} {Q : Exit → Act → World → Prop} (hw : Region.wanted o (yielded ops a.tmps) = true) (ty : TypeId) (x : Operand) (ho : o.op = .load ty x)
    (b off : Nat) (hx : a.eval x = .pointer (some ⟨b, off, none⟩)) (cs : List Value) (d : TypeDesc) (hc : w.rangeAt b off cs) (hu : P.underlying ty = some d) (hd : d.isRow = true) (hi : (P.info? ty).map (·.size) = some cs.length)
    (A : Array Value) (hA : cs.toArray = A) (h : wpList P ops Q rest (a.put o.dst (.agg A)) w) : wpList P ops Q (o :: rest) a w := by
  subst hA
  unfold wpList
  rw [if_pos hw]
  exact Or.inl (wp_load_mid ty x ho b off hx cs d hc hu hd hi h)
theorem quiet_load {o : Oper} {a : Act} {K : Act → Prop} (ty : TypeId) (x : Operand) (ho : o.op = .load ty x) (b off : Nat) (hx : a.eval x = .pointer (some ⟨b, off, none⟩)) (cs : List Value) (d : TypeDesc)
    (hc : ∀ p : PW H, p.w.rangeAt b off cs) (hu : P.underlying ty = some d) (hd : d.isRow = true) (hi : (P.info? ty).map (·.size) = some cs.length) (A : Array Value) (hA : cs.toArray = A) (h : K (a.put o.dst (.agg A))) :
    o.quiet P a (fun w' => ∃ p : PW H, w' = p.w) K := by
  subst hA
  exact ⟨_, fun w hw => by
    obtain ⟨p, rfl⟩ := hw
    unfold Oper.quietAt
    have e : (execOp a.eval o).run P p.w = .ok (.value (.agg cs.toArray)) p.w := by
      unfold execOp
      simp only [ho, hx, Sem.run_bind, run_loadAt_mid p.w b off ty cs d (hc p) hu hd hi, Result.andThen_ok, Sem.run_pure]
    rw [e]
    exact ⟨rfl, rfl⟩, h⟩
theorem blk_row {w0 : World} {g : Nat} {t : TypeId} {K : List Int} (h : Blk w0 g t (u8s K).toArray) : w0.rangeAt g 0 (u8s K) := fun j v hv => by
  rw [h.cell, Nat.zero_add, List.getElem?_toArray]; exact hv
/-- what stood in w0 stands as it did -/
def Kp (w0 w' : World) : Prop := Below w0.heap.size w0 w'
instance kp_some (w0 : World) : Nonempty (PW (Kp w0)) := ⟨⟨w0, Below.refl _ _⟩⟩
theorem kp_begin (w0 : World) : Kp w0 { w0 with drawn := w0.drawn + 1 } := (Below.refl w0.heap.size w0).drew
theorem kp_blk {w0 : World} {g : Nat} {t : TypeId} {cs : Array Value} (h : Blk w0 g t cs) (p : PW (Kp w0)) : Blk p.w g t cs := h.below p.h
theorem kp_row {w0 : World} {g : Nat} {t : TypeId} {K : List Int} (h : Blk w0 g t (u8s K).toArray) (p : PW (Kp w0)) : p.w.rangeAt g 0 (u8s K) := blk_row (kp_blk h p)
theorem kp_call {w0 : World} {f : FuncId} {args : Array Value} {p : PW (Kp w0)} {v : Value} (h : Calls P f args p.w fun e w' => e = .returned v ∧ Below p.w.heap.size p.w w') :
    Calls P f args p.w fun e w'' => e = .returned v ∧ ∃ p : PW (Kp w0), w'' = p.w := calls_kept h (fun w' hb => Below.trans p.h (hb.mono (Below.size p.h)))
end
theorem hash_info {K : List Int} (h : K.length = 32) : (Tryd.prog.info? 26).map (·.size) = some (u8s K).length := by rw [u8s_length, h]; kernel_rfl
theorem blks2 (w : World) (A B : Array Value) (t s : TypeId) : Blk ((w.alloc (.cells A t)).alloc (.cells B s)) w.heap.size t A ∧ Blk ((w.alloc (.cells A t)).alloc (.cells B s)) (w.heap.size + 1) s B ∧ Below w.heap.size w ((w.alloc (.cells A t)).alloc (.cells B s)) := by
  refine ⟨(Blk.new w t _).alloc _, ?_, ((Below.refl _ _).alloc (Nat.le_refl _) _).alloc (by simp) _⟩
  have := Blk.new (w.alloc (.cells A t)) s B
  rwa [show (w.alloc (.cells A t)).heap.size = w.heap.size + 1 by simp] at this
theorem blks3 (w : World) (A B C : Array Value) (t s r : TypeId) : Blk (((w.alloc (.cells A t)).alloc (.cells B s)).alloc (.cells C r)) w.heap.size t A ∧ Blk (((w.alloc (.cells A t)).alloc (.cells B s)).alloc (.cells C r)) (w.heap.size + 1) s B ∧ Blk (((w.alloc (.cells A t)).alloc (.cells B s)).alloc (.cells C r)) (w.heap.size + 1 + 1) r C ∧ Below w.heap.size w (((w.alloc (.cells A t)).alloc (.cells B s)).alloc (.cells C r)) := by
  obtain ⟨h1, h2, h3⟩ := blks2 w A B t s
  have hs : ((w.alloc (.cells A t)).alloc (.cells B s)).heap.size = w.heap.size + 1 + 1 := by simp
  refine ⟨h1.alloc _, h2.alloc _, ?_, h3.alloc (by omega) _⟩
  have := Blk.new ((w.alloc (.cells A t)).alloc (.cells B s)) r C
  rwa [hs] at this
theorem blk_rng {w : World} {g : Nat} {t : TypeId} {cs : Array Value} (h : Blk w g t cs) : w.rangeAt g 0 cs.toList := fun j v hv => by
  rw [h.cell, Nat.zero_add]; simpa using hv
end Go.Proofs.YtobceieadjpaaaaDoor
/-
  What is proved here: the document's own numbers of a kind (bits, chains, greatest digit, size), and a digit of some bytes.
-/
namespace Go.Proofs.YtobceieadjpaaaaDoor
open Go.ChangeShapes Go.WideShapes Go.ChangeAt Go.RowKit
set_option linter.unusedVariables false

theorem kd_cases (k : Int) : k = 1 ∨ k = 2 ∨ k = 3 ∨ k = 4 ∨ (k ≠ 1 ∧ k ≠ 2 ∧ k ≠ 3 ∧ k ≠ 4) := by omega
theorem kbits_no {k : Int} (h : k ≠ 1 ∧ k ≠ 2 ∧ k ≠ 3 ∧ k ≠ 4) : kbits k = 0 := by
  unfold kbits
  rw [if_neg h.1, if_neg h.2.1, if_neg h.2.2.1, if_neg h.2.2.2]
theorem kchains_no {k : Int} (h : k ≠ 1 ∧ k ≠ 2 ∧ k ≠ 3 ∧ k ≠ 4) : kchains k = 0 := by
  unfold kchains
  rw [if_neg h.1, if_neg h.2.1, if_neg h.2.2.1, if_neg h.2.2.2]
theorem kbits_le (k : Int) : kbits k ≤ 8 := by rcases kd_cases k with rfl | rfl | rfl | rfl | h <;> first | decide | (rw [kbits_no h]; omega)
theorem kchains_le (k : Int) : kchains k ≤ 265 := by rcases kd_cases k with rfl | rfl | rfl | rfl | h <;> first | decide | (rw [kchains_no h]; omega)
theorem kBits_any (k : Int) (w : World) : Calls Tryd.prog 82 #[.int .i64 k] w fun e w' => e = .returned (.int .i64 (kbits k : Nat)) ∧ w = w' := by
  rcases kd_cases k with rfl | rfl | rfl | rfl | h
  · go_enter Tryd.func82, Tryd.ntmps82; go_wp2; go_ret; exact ⟨rfl, rfl⟩
  · go_enter Tryd.func82, Tryd.ntmps82; go_wp2; go_ret; exact ⟨rfl, rfl⟩
  · go_enter Tryd.func82, Tryd.ntmps82; go_wp2; go_ret; exact ⟨rfl, rfl⟩
  · go_enter Tryd.func82, Tryd.ntmps82; go_wp2; go_ret; exact ⟨rfl, rfl⟩
  · rw [kbits_no h]
    have e1 : (k == 1) = false := by simpa using h.1
    have e2 : (k == 2) = false := by simpa using h.2.1
    have e3 : (k == 3) = false := by simpa using h.2.2.1
    have e4 : (k == 4) = false := by simpa using h.2.2.2
    clear h
    go_enter Tryd.func82, Tryd.ntmps82; go_wp2; go_ret; exact ⟨rfl, rfl⟩
theorem kChains_any (k : Int) (w : World) : Calls Tryd.prog 83 #[.int .i64 k] w fun e w' => e = .returned (.int .i64 (kchains k : Nat)) ∧ w = w' := by
  rcases kd_cases k with rfl | rfl | rfl | rfl | h
  · go_enter Tryd.func83, Tryd.ntmps83; go_wp2; go_ret; exact ⟨rfl, rfl⟩
  · go_enter Tryd.func83, Tryd.ntmps83; go_wp2; go_ret; exact ⟨rfl, rfl⟩
  · go_enter Tryd.func83, Tryd.ntmps83; go_wp2; go_ret; exact ⟨rfl, rfl⟩
  · go_enter Tryd.func83, Tryd.ntmps83; go_wp2; go_ret; exact ⟨rfl, rfl⟩
  · rw [kchains_no h]
    have e1 : (k == 1) = false := by simpa using h.1
    have e2 : (k == 2) = false := by simpa using h.2.1
    have e3 : (k == 3) = false := by simpa using h.2.2.1
    have e4 : (k == 4) = false := by simpa using h.2.2.2
    clear h
    go_enter Tryd.func83, Tryd.ntmps83; go_wp2; go_ret; exact ⟨rfl, rfl⟩
theorem pow_le8 (n : Nat) (h : n ≤ 8) : (2 : Int) ^ n ≤ 256 := by
  have : n = 0 ∨ n = 1 ∨ n = 2 ∨ n = 3 ∨ n = 4 ∨ n = 5 ∨ n = 6 ∨ n = 7 ∨ n = 8 := by omega
  rcases this with rfl | rfl | rfl | rfl | rfl | rfl | rfl | rfl | rfl <;> decide
theorem kMost_any (k : Int) (w : World) : Calls Tryd.prog 87 #[.int .i64 k] w fun e w' => e = .returned (.int .i64 (kmost k)) ∧ w = w' := by
  have hb := kbits_le k
  have CB := hid (kBits_any k)
  unfold kmost
  generalize kbits k = b at hb CB ⊢
  go_enter Tryd.func87, Tryd.ntmps87
  go_wp2_with fail
  go_loop [3, 4] (fun n i => ∃ j : Nat, j ≤ b ∧ i = .int .i64 j ∧ n = .int .i64 (2 ^ j)) (fun _ i => b - (intOf i).toNat)
  case atStart => exact ⟨0, Nat.zero_le _, rfl, rfl⟩
  case round =>
    obtain ⟨j, hj, rfl, rfl⟩ := hrel
    have hp := pow_le8 j (by omega)
    have hq : (0 : Int) < 2 ^ j := Int.pow_pos (by decide)
    have HS : Hid ((2 : Int) ^ (j + 1) = 2 * 2 ^ j) := by show _ = _; rw [Int.pow_succ, Int.mul_comm]
    by_cases hlt : j < b
    · go_wp2_with (go_at_call 82; refine (CB.out _).mono ?_; rintro e w1 ⟨rfl, rfl⟩)
      go_round
      case rel => exact ⟨j + 1, by omega, by go_num, by rw [HS.out]⟩
      case measure => simp [intOf]; omega
    · obtain rfl : j = b := by omega
      go_wp2_with (go_at_call 82; refine (CB.out _).mono ?_; rintro e w1 ⟨rfl, rfl⟩)
      go_ret
      exact ⟨rfl, rfl⟩
theorem kSize_any (k : Int) (w : World) : Calls Tryd.prog 57 #[.int .i64 k] w fun e w' => e = .returned (.int .i64 (ksize k : Nat)) ∧ w = w' := by
  have CB := hid (kBits_any k)
  have CC := hid (kChains_any k)
  by_cases h : kbits k = 0
  · have hs : ksize k = 0 := by unfold ksize; rw [if_pos h]
    rw [h] at CB
    rw [hs]
    clear h hs
    go_enter Tryd.func57, Tryd.ntmps57
    go_wp2_with (go_at_call 82; refine (CB.out _).mono ?_; rintro e w1 ⟨rfl, rfl⟩)
    go_ret
    exact ⟨rfl, rfl⟩
  · have hs : ksize k = 36 + 32 * kchains k := by unfold ksize; rw [if_neg h]
    have hc := kchains_le k
    have hz : (((kbits k : Nat) : Int) == 0) = false := by simpa using h
    rw [hs]
    generalize kchains k = c at CC hc ⊢
    generalize kbits k = b at CB hz
    clear h hs
    go_enter Tryd.func57, Tryd.ntmps57
    go_wp2_with (first | (go_at_call 82; refine (CB.out _).mono ?_; rintro e w1 ⟨rfl, rfl⟩) | (go_at_call 83; refine (CC.out _).mono ?_; rintro e w1 ⟨rfl, rfl⟩))
    go_ret
    exact ⟨congrArg (fun q => Ending.returned (.int .i64 q)) (by omega), rfl⟩
theorem div_pow (x : Int) (a b : Nat) : x / 2 ^ a / 2 ^ b = x / 2 ^ (a + b) := by
  rw [Int.ediv_ediv_of_nonneg (Int.pow_nonneg (by decide)), Int.pow_add]
set_option maxHeartbeats 1000000 in
theorem kdigit_1 (A : Option Addr) (c : Nat) (xs : List Int) (n : Nat) (w : World) (hr : Rp w none A xs) (hb : Bs xs) (hn : n / 8 < xs.length) (hn2 : n < 1000000) :
    Calls Tryd.prog 102 #[.slice A xs.length c, .int .i64 n, .int .i64 1] w fun e w' => e = .returned (.int .i64 (dig xs n 1 8)) ∧ w = w' := by
  obtain ⟨ad, rfl, hcell⟩ := hr.get (by omega)
  have hc := hcell (n / 8) hn
  have hx := hb.at (n / 8)
  have hD : dig xs n 1 8 = (xs[n / 8]?.getD 0) / 2 ^ (1 * (8 - 1 - n % 8)) % 2 ^ 1 := rfl
  rw [hD]
  clear hD
  generalize xs[n / 8]?.getD 0 = x at hc hx ⊢
  obtain ⟨L, hL⟩ : ∃ L, L = xs.length := ⟨_, rfl⟩
  rw [← hL] at hn ⊢
  have hqL : (n : Int) / 8 < (L : Int) := by omega
  have hq0 : (0 : Int) ≤ (n : Int) / 8 := by omega
  have hqn : ((n : Int) / 8).toNat = n / 8 := by omega
  obtain ⟨r, hrr⟩ : ∃ r, r = n % 8 := ⟨_, rfl⟩
  have hri : (n : Int) % 8 = (r : Int) := by rw [hrr]; omega
  have hr8 : r < 8 := by rw [hrr]; omega
  rw [← hrr]
  obtain ⟨x0, x1⟩ := hx
  clear hcell hL hrr


  go_enter Tryd.func102, Tryd.ntmps102
  go_wp2
  go_loop [8, 9, 10] (fun y k _ => ∃ j : Nat, r ≤ j ∧ j ≤ 8 - 1 ∧ k = .int .i64 j ∧ y = .int .i64 (x / 2 ^ (1 * (j - r)))) (fun _ k _ => 8 - (intOf k).toNat)
  case atStart => exact ⟨r, Nat.le_refl _, by omega, by first | rfl | (rw [hri]), by simp⟩
  case round =>
    obtain ⟨j, hj1, hj2, rfl, rfl⟩ := hrel
    have y0 : 0 ≤ x / 2 ^ (1 * (j - r)) := Int.ediv_nonneg x0 (Int.pow_nonneg (by decide))
    have y1 : x / 2 ^ (1 * (j - r)) < 256 := Int.lt_of_le_of_lt (Int.ediv_le_self _ x0) x1
    by_cases hlt : j < 8 - 1
    · have HD := hid (div_pow x (1 * (j - r)) 1)
      rw [show 1 * (j - r) + 1 = 1 * (j + 1 - r) by omega] at HD
      generalize x / 2 ^ (1 * (j - r)) = y at y0 y1 HD ⊢
      go_wp2
      go_loop [8, 10] (fun z i => ∃ t : Nat, t ≤ 1 ∧ i = .int .i64 t ∧ z = .int .i64 (y / 2 ^ t)) (fun _ i => 1 - (intOf i).toNat)
      case atStart => exact ⟨0, Nat.zero_le _, rfl, by simp⟩
      case round =>
        obtain ⟨t, ht, rfl, rfl⟩ := hrel
        have z0 : 0 ≤ y / 2 ^ t := Int.ediv_nonneg y0 (Int.pow_nonneg (by decide))
        have z1 : y / 2 ^ t < 256 := Int.lt_of_le_of_lt (Int.ediv_le_self _ y0) y1
        have HE := hid (div_pow y t 1)
        by_cases hti : t < 1
        · go_wp2
          go_round
          case rel => exact ⟨t + 1, by omega, by go_num, by rw [← HE.out]; simp⟩
          case measure => simp [intOf]; omega
        · obtain rfl : t = 1 := by omega
          go_wp2
          go_round
          case rel => exact ⟨j + 1, by omega, by omega, by go_num, by first | (rw [← HD.out]; done) | (have hd := HD.out; simp at hd; exact hd) | (have hd := HD.out; simp at hd ⊢; exact hd)⟩
          case measure => simp [intOf]; omega
    · obtain rfl : j = 8 - 1 := by omega
      go_wp2
      go_loop [11, 12] (fun z i => ∃ t : Nat, t ≤ 1 ∧ i = .int .i64 t ∧ z = .int .i64 (2 ^ t)) (fun _ i => 1 - (intOf i).toNat)
      case atStart => exact ⟨0, Nat.zero_le _, rfl, rfl⟩
      case round =>
        obtain ⟨t, ht, rfl, rfl⟩ := hrel
        have p0 := pow_le8 t (by omega)
        have p1 : (0 : Int) < 2 ^ t := Int.pow_pos (by decide)
        have HS : Hid ((2 : Int) ^ (t + 1) = 2 * 2 ^ t) := by show _ = _; rw [Int.pow_succ, Int.mul_comm]
        by_cases hti : t < 1
        · go_wp2
          go_round
          case rel => exact ⟨t + 1, by omega, by go_num, by rw [HS.out]⟩
          case measure => simp [intOf]; omega
        · obtain rfl : t = 1 := by omega
          go_wp2
          go_ret
          exact ⟨congrArg (fun q => Ending.returned (.int .i64 q)) (by first | exact Int.tmod_eq_emod_of_nonneg y0 | exact Int.tmod_eq_emod_of_nonneg (by simpa using y0)), rfl⟩
set_option maxHeartbeats 1000000 in
theorem kdigit_2 (A : Option Addr) (c : Nat) (xs : List Int) (n : Nat) (w : World) (hr : Rp w none A xs) (hb : Bs xs) (hn : n / 4 < xs.length) (hn2 : n < 1000000) :
    Calls Tryd.prog 102 #[.slice A xs.length c, .int .i64 n, .int .i64 2] w fun e w' => e = .returned (.int .i64 (dig xs n 2 4)) ∧ w = w' := by
  obtain ⟨ad, rfl, hcell⟩ := hr.get (by omega)
  have hc := hcell (n / 4) hn
  have hx := hb.at (n / 4)
  have hD : dig xs n 2 4 = (xs[n / 4]?.getD 0) / 2 ^ (2 * (4 - 1 - n % 4)) % 2 ^ 2 := rfl
  rw [hD]
  clear hD
  generalize xs[n / 4]?.getD 0 = x at hc hx ⊢
  obtain ⟨L, hL⟩ : ∃ L, L = xs.length := ⟨_, rfl⟩
  rw [← hL] at hn ⊢
  have hqL : (n : Int) / 4 < (L : Int) := by omega
  have hq0 : (0 : Int) ≤ (n : Int) / 4 := by omega
  have hqn : ((n : Int) / 4).toNat = n / 4 := by omega
  obtain ⟨r, hrr⟩ : ∃ r, r = n % 4 := ⟨_, rfl⟩
  have hri : (n : Int) % 4 = (r : Int) := by rw [hrr]; omega
  have hr8 : r < 4 := by rw [hrr]; omega
  rw [← hrr]
  obtain ⟨x0, x1⟩ := hx
  clear hcell hL hrr


  go_enter Tryd.func102, Tryd.ntmps102
  go_wp2
  go_loop [8, 9, 10] (fun y k _ => ∃ j : Nat, r ≤ j ∧ j ≤ 4 - 1 ∧ k = .int .i64 j ∧ y = .int .i64 (x / 2 ^ (2 * (j - r)))) (fun _ k _ => 4 - (intOf k).toNat)
  case atStart => exact ⟨r, Nat.le_refl _, by omega, by first | rfl | (rw [hri]), by simp⟩
  case round =>
    obtain ⟨j, hj1, hj2, rfl, rfl⟩ := hrel
    have y0 : 0 ≤ x / 2 ^ (2 * (j - r)) := Int.ediv_nonneg x0 (Int.pow_nonneg (by decide))
    have y1 : x / 2 ^ (2 * (j - r)) < 256 := Int.lt_of_le_of_lt (Int.ediv_le_self _ x0) x1
    by_cases hlt : j < 4 - 1
    · have HD := hid (div_pow x (2 * (j - r)) 2)
      rw [show 2 * (j - r) + 2 = 2 * (j + 1 - r) by omega] at HD
      generalize x / 2 ^ (2 * (j - r)) = y at y0 y1 HD ⊢
      go_wp2
      go_loop [8, 10] (fun z i => ∃ t : Nat, t ≤ 2 ∧ i = .int .i64 t ∧ z = .int .i64 (y / 2 ^ t)) (fun _ i => 2 - (intOf i).toNat)
      case atStart => exact ⟨0, Nat.zero_le _, rfl, by simp⟩
      case round =>
        obtain ⟨t, ht, rfl, rfl⟩ := hrel
        have z0 : 0 ≤ y / 2 ^ t := Int.ediv_nonneg y0 (Int.pow_nonneg (by decide))
        have z1 : y / 2 ^ t < 256 := Int.lt_of_le_of_lt (Int.ediv_le_self _ y0) y1
        have HE := hid (div_pow y t 1)
        by_cases hti : t < 2
        · go_wp2
          go_round
          case rel => exact ⟨t + 1, by omega, by go_num, by rw [← HE.out]; simp⟩
          case measure => simp [intOf]; omega
        · obtain rfl : t = 2 := by omega
          go_wp2
          go_round
          case rel => exact ⟨j + 1, by omega, by omega, by go_num, by first | (rw [← HD.out]; done) | (have hd := HD.out; simp at hd; exact hd) | (have hd := HD.out; simp at hd ⊢; exact hd)⟩
          case measure => simp [intOf]; omega
    · obtain rfl : j = 4 - 1 := by omega
      go_wp2
      go_loop [11, 12] (fun z i => ∃ t : Nat, t ≤ 2 ∧ i = .int .i64 t ∧ z = .int .i64 (2 ^ t)) (fun _ i => 2 - (intOf i).toNat)
      case atStart => exact ⟨0, Nat.zero_le _, rfl, rfl⟩
      case round =>
        obtain ⟨t, ht, rfl, rfl⟩ := hrel
        have p0 := pow_le8 t (by omega)
        have p1 : (0 : Int) < 2 ^ t := Int.pow_pos (by decide)
        have HS : Hid ((2 : Int) ^ (t + 1) = 2 * 2 ^ t) := by show _ = _; rw [Int.pow_succ, Int.mul_comm]
        by_cases hti : t < 2
        · go_wp2
          go_round
          case rel => exact ⟨t + 1, by omega, by go_num, by rw [HS.out]⟩
          case measure => simp [intOf]; omega
        · obtain rfl : t = 2 := by omega
          go_wp2
          go_ret
          exact ⟨congrArg (fun q => Ending.returned (.int .i64 q)) (by first | exact Int.tmod_eq_emod_of_nonneg y0 | exact Int.tmod_eq_emod_of_nonneg (by simpa using y0)), rfl⟩
set_option maxHeartbeats 1000000 in
theorem kdigit_4 (A : Option Addr) (c : Nat) (xs : List Int) (n : Nat) (w : World) (hr : Rp w none A xs) (hb : Bs xs) (hn : n / 2 < xs.length) (hn2 : n < 1000000) :
    Calls Tryd.prog 102 #[.slice A xs.length c, .int .i64 n, .int .i64 4] w fun e w' => e = .returned (.int .i64 (dig xs n 4 2)) ∧ w = w' := by
  obtain ⟨ad, rfl, hcell⟩ := hr.get (by omega)
  have hc := hcell (n / 2) hn
  have hx := hb.at (n / 2)
  have hD : dig xs n 4 2 = (xs[n / 2]?.getD 0) / 2 ^ (4 * (2 - 1 - n % 2)) % 2 ^ 4 := rfl
  rw [hD]
  clear hD
  generalize xs[n / 2]?.getD 0 = x at hc hx ⊢
  obtain ⟨L, hL⟩ : ∃ L, L = xs.length := ⟨_, rfl⟩
  rw [← hL] at hn ⊢
  have hqL : (n : Int) / 2 < (L : Int) := by omega
  have hq0 : (0 : Int) ≤ (n : Int) / 2 := by omega
  have hqn : ((n : Int) / 2).toNat = n / 2 := by omega
  obtain ⟨r, hrr⟩ : ∃ r, r = n % 2 := ⟨_, rfl⟩
  have hri : (n : Int) % 2 = (r : Int) := by rw [hrr]; omega
  have hr8 : r < 2 := by rw [hrr]; omega
  rw [← hrr]
  obtain ⟨x0, x1⟩ := hx
  clear hcell hL hrr


  go_enter Tryd.func102, Tryd.ntmps102
  go_wp2
  go_loop [8, 9, 10] (fun y k _ => ∃ j : Nat, r ≤ j ∧ j ≤ 2 - 1 ∧ k = .int .i64 j ∧ y = .int .i64 (x / 2 ^ (4 * (j - r)))) (fun _ k _ => 2 - (intOf k).toNat)
  case atStart => exact ⟨r, Nat.le_refl _, by omega, by first | rfl | (rw [hri]), by simp⟩
  case round =>
    obtain ⟨j, hj1, hj2, rfl, rfl⟩ := hrel
    have y0 : 0 ≤ x / 2 ^ (4 * (j - r)) := Int.ediv_nonneg x0 (Int.pow_nonneg (by decide))
    have y1 : x / 2 ^ (4 * (j - r)) < 256 := Int.lt_of_le_of_lt (Int.ediv_le_self _ x0) x1
    by_cases hlt : j < 2 - 1
    · have HD := hid (div_pow x (4 * (j - r)) 4)
      rw [show 4 * (j - r) + 4 = 4 * (j + 1 - r) by omega] at HD
      generalize x / 2 ^ (4 * (j - r)) = y at y0 y1 HD ⊢
      go_wp2
      go_loop [8, 10] (fun z i => ∃ t : Nat, t ≤ 4 ∧ i = .int .i64 t ∧ z = .int .i64 (y / 2 ^ t)) (fun _ i => 4 - (intOf i).toNat)
      case atStart => exact ⟨0, Nat.zero_le _, rfl, by simp⟩
      case round =>
        obtain ⟨t, ht, rfl, rfl⟩ := hrel
        have z0 : 0 ≤ y / 2 ^ t := Int.ediv_nonneg y0 (Int.pow_nonneg (by decide))
        have z1 : y / 2 ^ t < 256 := Int.lt_of_le_of_lt (Int.ediv_le_self _ y0) y1
        have HE := hid (div_pow y t 1)
        by_cases hti : t < 4
        · go_wp2
          go_round
          case rel => exact ⟨t + 1, by omega, by go_num, by rw [← HE.out]; simp⟩
          case measure => simp [intOf]; omega
        · obtain rfl : t = 4 := by omega
          go_wp2
          go_round
          case rel => exact ⟨j + 1, by omega, by omega, by go_num, by first | (rw [← HD.out]; done) | (have hd := HD.out; simp at hd; exact hd) | (have hd := HD.out; simp at hd ⊢; exact hd)⟩
          case measure => simp [intOf]; omega
    · obtain rfl : j = 2 - 1 := by omega
      go_wp2
      go_loop [11, 12] (fun z i => ∃ t : Nat, t ≤ 4 ∧ i = .int .i64 t ∧ z = .int .i64 (2 ^ t)) (fun _ i => 4 - (intOf i).toNat)
      case atStart => exact ⟨0, Nat.zero_le _, rfl, rfl⟩
      case round =>
        obtain ⟨t, ht, rfl, rfl⟩ := hrel
        have p0 := pow_le8 t (by omega)
        have p1 : (0 : Int) < 2 ^ t := Int.pow_pos (by decide)
        have HS : Hid ((2 : Int) ^ (t + 1) = 2 * 2 ^ t) := by show _ = _; rw [Int.pow_succ, Int.mul_comm]
        by_cases hti : t < 4
        · go_wp2
          go_round
          case rel => exact ⟨t + 1, by omega, by go_num, by rw [HS.out]⟩
          case measure => simp [intOf]; omega
        · obtain rfl : t = 4 := by omega
          go_wp2
          go_ret
          exact ⟨congrArg (fun q => Ending.returned (.int .i64 q)) (by first | exact Int.tmod_eq_emod_of_nonneg y0 | exact Int.tmod_eq_emod_of_nonneg (by simpa using y0)), rfl⟩
set_option maxHeartbeats 1000000 in
theorem kdigit_8 (A : Option Addr) (c : Nat) (xs : List Int) (n : Nat) (w : World) (hr : Rp w none A xs) (hb : Bs xs) (hn : n < xs.length) (hn2 : n < 1000000) :
    Calls Tryd.prog 102 #[.slice A xs.length c, .int .i64 n, .int .i64 8] w fun e w' => e = .returned (.int .i64 (dig xs n 8 1)) ∧ w = w' := by
  obtain ⟨ad, rfl, hcell⟩ := hr.get (by omega)
  have hc := hcell n hn
  have hx := hb.at n
  have hD : dig xs n 8 1 = (xs[n]?.getD 0) := by
    unfold dig
    simp
    omega
  rw [hD]
  clear hD
  generalize xs[n]?.getD 0 = x at hc hx ⊢
  obtain ⟨L, hL⟩ : ∃ L, L = xs.length := ⟨_, rfl⟩
  rw [← hL] at hn ⊢
  have n0 : (0 : Int) ≤ (n : Int) := by omega
  have n1 : (n : Int) < (L : Int) := by omega
  obtain ⟨x0, x1⟩ := hx
  clear hcell hL
  go_enter Tryd.func102, Tryd.ntmps102
  go_wp2
  go_loop [8, 9, 10] (fun y k _ => y = .int .i64 x ∧ k = .int .i64 0) (fun _ _ _ => 0)
  case atStart => exact ⟨rfl, rfl⟩
  case round =>
    obtain ⟨rfl, rfl⟩ := hrel
    go_wp2
    go_loop [11, 12] (fun z i => ∃ t : Nat, t ≤ 8 ∧ i = .int .i64 t ∧ z = .int .i64 (2 ^ t)) (fun _ i => 8 - (intOf i).toNat)
    case atStart => exact ⟨0, Nat.zero_le _, rfl, rfl⟩
    case round =>
      obtain ⟨t, ht, rfl, rfl⟩ := hrel
      have p0 := pow_le8 t (by omega)
      have p1 : (0 : Int) < 2 ^ t := Int.pow_pos (by decide)
      have HS : Hid ((2 : Int) ^ (t + 1) = 2 * 2 ^ t) := by show _ = _; rw [Int.pow_succ, Int.mul_comm]
      by_cases hti : t < 8
      · go_wp2
        go_round
        case rel => exact ⟨t + 1, by omega, by go_num, by rw [HS.out]⟩
        case measure => simp [intOf]; omega
      · obtain rfl : t = 8 := by omega
        go_wp2
        go_ret
        have hm : x % 256 = x := by omega
        exact ⟨congrArg (fun q => Ending.returned (.int .i64 q)) hm, rfl⟩
end Go.Proofs.YtobceieadjpaaaaDoor
/-
  What is proved here: the document's own hash under (id, q, i), and a byte ahead of bytes.
-/
namespace Go.Proofs.YtobceieadjpaaaaDoor
open Go.ChangeShapes Go.WideShapes Go.ChangeAt Go.RowKit
set_option linter.unusedVariables false
set_option maxRecDepth 20000

set_option maxRecDepth 5000 in
set_option maxHeartbeats 2000000 in
theorem kwith_any (x : Int) (A : Option Addr) (m c : Nat) (b : List Int) (w : World) (hm : m = b.length) (hx : 0 ≤ x ∧ x < 256) (hr : Rp w none A b) (hl : b.length < 1000000) :
    Calls Tryd.prog 103 #[.int .u8 x, .slice A m c] w fun e w' => ∃ A' c', e = .returned (.slice A' (b.length + 1) c') ∧ b.length + 1 ≤ c' ∧ Rp w' none A' (x :: b) ∧ Below w.heap.size w w' := by
  have HO : Hid ((w.alloc (.cells #[.int .u8 x] 5)).ownsRow w.heap.size 5 1 (.slice (some ⟨w.heap.size, 0, none⟩) 1 1) [x].length (u8s [x])) :=
    ⟨by simp [u8s], .inr ⟨w.heap.size, 1, #[.int .u8 x], rfl, Nat.le_refl _, heap_alloc_new w _, by simp, by unfold maxLen; omega, by simp, by simp [u8s]⟩⟩
  have HB : Hid (Below w.heap.size w (w.alloc (.cells #[.int .u8 x] 5))) := (Below.refl _ _).alloc (Nat.le_refl _) _
  have HR := hid (hr.belowN HB.out)
  have HM := hid hm
  have H63 : Hid ([x].length + b.length < 1000000000000) := by show _ < _; simp; omega
  clear hr hm
  go_enter Tryd.func103, Tryd.ntmps103
  go_wp2_with (at_builtin; refine append_rpm rfl (.tmp 8) (.tmp 9) rfl w.heap.size w.heap.size _ [x] rfl HO.out A m c b HM.out rfl HR.out H63.out HB.out.size (Nat.le_refl _) ?_; intro v5 w5 HO5 HB5)
  obtain ⟨A2, c2, rfl, _, hc2, hf2⟩ := fresh_of_own HO5.out (Nat.le_refl _)
  have HF2 := hid hf2.rp0
  have HL : Hid (([x] ++ b).length = b.length + 1) := by show _ = _; simp
  clear hf2 HO5
  go_ret
  rw [HL.out] at hc2 ⊢
  exact ⟨A2, c2, rfl, hc2, HF2.out, HB.out.trans HB5.out⟩
/-- an id -/
structure Idn (id : List Int) : Prop where
  len : id.length = 16
  bs : Bs id
theorem id_info {K : List Int} (h : Idn K) : (Tryd.prog.info? 23).map (·.size) = some (u8s K).length := by rw [u8s_length, h.len]; kernel_rfl
theorem under_text_bs {id b : List Int} (hid : Idn id) (hb : Bs b) (q i : Int) : Bs (id ++ be q 4 ++ be i 2 ++ b) := bs_append (bs_append (bs_append hid.bs (be_bs _ _)) (be_bs _ _)) hb
theorem under_text_len {id b : List Int} (hid : Idn id) (q i : Int) : (id ++ be q 4 ++ be i 2 ++ b).length = 22 + b.length := by
  simp only [List.length_append, be_length, hid.len]
set_option maxRecDepth 5000 in
set_option maxHeartbeats 4000000 in
theorem kUnder_any (id : List Int) (q i : Int) (A : Option Addr) (m c : Nat) (b : List Int) (w : World) (hi : Idn id) (hq : 0 ≤ q ∧ q < 4294967296) (hi2 : 0 ≤ i ∧ i < 65536) (hm : m = b.length) (hr : Rp w none A b) (hb : Bs b) (hl : b.length < 1000000) :
    Calls Tryd.prog 88 #[.agg (u8s id).toArray, .int .u32 q, .int .i64 i, .slice A m c] w fun e w' => e = .returned (.agg (u8s (under id q i b)).toArray) ∧ Below w.heap.size w w' := by
  obtain ⟨Z, HZ, hZ0, hZs⟩ := zero_Hash
  obtain ⟨hk1, hk2, hb0⟩ := blks2 w (u8s id).toArray Z 23 26
  have K1 := hid hk1; have K2 := hid hk2; have B0 := hid hb0
  have RI := hid (blk_rp hk1)
  have O0 := hid (own_none ((w.alloc (.cells (u8s id).toArray 23)).alloc (.cells Z 26)) (w.heap.size + 1 + 1))
  have S0 : Hid (w.heap.size + 1 + 1 ≤ ((w.alloc (.cells (u8s id).toArray 23)).alloc (.cells Z 26)).heap.size) := by show _ ≤ _; simp
  have HR := hid (fun (w1 : World) (hb : Below w.heap.size w w1) => hr.belowN hb)
  have HSL := hid (fun (w1 : World) (A1 : Option Addr) (c1 : Nat) (hr : Rp w1 none A1 (id ++ be q 4 ++ be i 2 ++ b)) => RSum_any A1 c1 (id ++ be q 4 ++ be i 2 ++ b) w1 hr (under_text_bs hi hb q i) (by rw [under_text_len hi]; omega))
  have HL := hid (under_text_len (b := b) hi q i)
  have NQ : Hid (∀ w, Calls Tryd.prog 89 #[.int .u64 q, .int .i64 4] w fun e w' => ∃ A c, e = .returned (.slice A 4 c) ∧ 4 ≤ c ∧ Fresh w w' A (be q 4) ∧ Below w.heap.size w w') := fun w => Number_any q 4 w ⟨hq.1, by omega⟩ (by decide)
  have NI : Hid (∀ w, Calls Tryd.prog 89 #[.int .u64 i, .int .i64 2] w fun e w' => ∃ A c, e = .returned (.slice A 2 c) ∧ 2 ≤ c ∧ Fresh w w' A (be i 2) ∧ Below w.heap.size w w') := fun w => Number_any i 2 w ⟨hi2.1, by omega⟩ (by decide)
  have L16 := hid hi.len
  have LB := hid hl
  have HM := hid hm
  have L4 : Hid (([] ++ id ++ be q 4 ++ be i 2).length + b.length < 1000000000000) := by show _ < _; simp only [List.length_append, be_length, hi.len, List.length_nil]; omega
  have hS : sum (id ++ be q 4 ++ be i 2 ++ b) = under id q i b := rfl
  unfold hashV at HSL
  rw [hS] at HSL
  have hky := under_ky id q i b
  generalize under id q i b = S at HSL hky ⊢
  have HI := hid (info_hash S hky.len)
  have HZ32 : Hid (Z.size = (u8s S).toArray.size) := by
    show _ = _
    rw [HZ.out, List.size_toArray, List.size_toArray, u8s_length, u8s_length, hky.len]; simp
  obtain ⟨q0, q1⟩ := hq
  obtain ⟨j0, j1⟩ := hi2
  have s1 : IntKind.u64.wrap i = i := by simp [IntKind.wrap, IntKind.bits, IntKind.signed]; omega
  have s2 : IntKind.u64.wrap q = q := by simp [IntKind.wrap, IntKind.bits, IntKind.signed]; omega
  clear hk1 hk2 hb0 hr hb hl hm hS hky
  go_enter Tryd.func88, Tryd.ntmps88
  go_wp2_with (first
    | (at_builtin; refine append_rpm rfl (.tmp 10) (.tmp 11) rfl (w.heap.size + 1 + 1) (w.heap.size + 1 + 1) _ [] rfl O0.out (some ⟨w.heap.size, 0, none⟩) 16 16 id L16.out.symm rfl RI.out (by rw [L16.out]; decide) S0.out (Nat.le_refl _) ?_; intro v1 w1 O1 B1; have Z1 := hid (Nat.le_trans S0.out B1.out.size))
    | (go_at_call 89; (with_reducible refine (NQ.out _).mono ?_); rintro e w2 ⟨A2, c2, rfl, hc2, hf2, hb2⟩; have F2 := hid hf2.rp0; have O2 := hid (own_below O1.out hb2); have B2 := hid (B1.out.trans (hb2.mono Z1.out)); have Z2 := hid (Nat.le_trans Z1.out hb2.size); clear hc2 hf2 hb2)
    | (at_builtin; refine append_rpm rfl (.tmp 13) (.tmp 16) rfl (w.heap.size + 1 + 1) (w.heap.size + 1 + 1) _ ([] ++ id) rfl O2.out A2 4 c2 (be q 4) (by rw [be_length]) rfl F2.out (by rw [be_length, List.nil_append, L16.out]; decide) Z2.out (Nat.le_refl _) ?_; intro v3 w3 O3 B3; have Z3 := hid (Nat.le_trans Z2.out B3.out.size))
    | (go_at_call 89; (with_reducible refine (NI.out _).mono ?_); rintro e w4 ⟨A4, c4, rfl, hc4, hf4, hb4⟩; have F4 := hid hf4.rp0; have O4 := hid (own_below O3.out hb4); have B4 := hid ((B2.out.trans B3.out).trans (hb4.mono Z3.out)); have Z4 := hid (Nat.le_trans Z3.out hb4.size); clear hc4 hf4 hb4)
    | (at_builtin; refine append_rpm rfl (.tmp 18) (.tmp 21) rfl (w.heap.size + 1 + 1) (w.heap.size + 1 + 1) _ ([] ++ id ++ be q 4) rfl O4.out A4 2 c4 (be i 2) (by rw [be_length]) rfl F4.out (by rw [List.length_append, be_length, be_length, List.nil_append, L16.out]; decide) Z4.out (Nat.le_refl _) ?_; intro v5 w5 O5 B5; have Z5 := hid (Nat.le_trans Z4.out B5.out.size); have HRB := hid (HR.out w5 (B0.out.trans ((B4.out.trans B5.out).mono (by omega)))))
    | (at_builtin; refine append_rpm rfl (.tmp 23) (.tmp 24) rfl (w.heap.size + 1 + 1) (w.heap.size + 1 + 1) _ ([] ++ id ++ be q 4 ++ be i 2) rfl O5.out A m c b HM.out rfl HRB.out L4.out Z5.out (Nat.le_refl _) ?_; intro v7 w7 O7 B7; have Z7 := hid (Nat.le_trans Z5.out B7.out.size); have BA := hid ((B4.out.trans B5.out).trans B7.out)))
  obtain ⟨A7, c7, rfl, _, hc7, hf7⟩ := fresh_of_own (w := w) O7.out (by omega)
  have F7 := hid hf7.rp0
  clear hc7 hf7 O7
  go_wp2_with (first
    | (go_at_call 90; refine (HSL.out _ A7 c7 F7.out).mono ?_; rintro e w8 ⟨rfl, hb8⟩; have B8 := hid (BA.out.trans (hb8.mono Z7.out)); have K8 := hid (K2.out.same (B8.out.block _ (by omega))); clear hb8)
    | (refine wpList_store_row rfl 26 (.tmp 8) (.tmp 27) rfl (w.heap.size + 1) (u8s S).toArray rfl rfl 26 Z K8.out HI.out HZ32.out (u8s_all S) ?_))
  try go_frame
  refine bodyPost_ret (results_cell_row Tryd.results88 _ _ (w.heap.size + 1) 26 (u8s S).toArray (0, 0) _ rfl (K8.out.row _) Tryd.underlying26 rfl HI.out) rfl ?_
  exact ⟨rfl, below_setRow (B0.out.trans (B8.out.mono (by omega))) (by omega) _⟩
end Go.Proofs.YtobceieadjpaaaaDoor
/-
  What is proved here: the document's own beginning of a chain, and its steps.
-/
namespace Go.Proofs.YtobceieadjpaaaaDoor
open Go.ChangeShapes Go.WideShapes Go.ChangeAt Go.RowKit
set_option linter.unusedVariables false
set_option maxRecDepth 20000

/-- an id and two rows of 32 bytes lie where they lay -/
structure St3 (w : World) (id : List Int) (w' : World) : Prop where
  b0 : Blk w' w.heap.size 23 (u8s id).toArray
  b1 : ∃ cs, Blk w' (w.heap.size + 1) 26 cs ∧ cs.size = 32
  b2 : ∃ cs, Blk w' (w.heap.size + 1 + 1) 26 cs ∧ cs.size = 32
  bl : Below w.heap.size w w'
section
variable {w : World} {id : List Int} {w' w2 : World}
theorem St3.below (h : St3 w id w') (hb : Below w'.heap.size w' w2) : St3 w id w2 := ⟨h.b0.below hb, let ⟨cs, a, b⟩ := h.b1; ⟨cs, a.below hb, b⟩, let ⟨cs, a, b⟩ := h.b2; ⟨cs, a.below hb, b⟩, h.bl.trans (hb.mono h.bl.size)⟩
theorem St3.drew (h : St3 w id w') : St3 w id w'.drew := ⟨h.b0, h.b1, h.b2, h.bl.drew⟩
theorem St3.row1 (h : St3 w id w') {l : List Int} (hl : l.length = 32) : St3 w id (w'.setRow (w.heap.size + 1) (u8s l).toArray) :=
  ⟨h.b0.rowFar (by omega) _, let ⟨cs, a, b⟩ := h.b1; ⟨_, a.row _, by rw [List.size_toArray, u8s_length, hl]⟩, let ⟨cs, a, b⟩ := h.b2; ⟨cs, a.rowFar (by omega) _, b⟩, below_setRow h.bl (by omega) _⟩
theorem St3.row2 (h : St3 w id w') {l : List Int} (hl : l.length = 32) : St3 w id (w'.setRow (w.heap.size + 1 + 1) (u8s l).toArray) :=
  ⟨h.b0.rowFar (by omega) _, let ⟨cs, a, b⟩ := h.b1; ⟨cs, a.rowFar (by omega) _, b⟩, let ⟨cs, a, b⟩ := h.b2; ⟨_, a.row _, by rw [List.size_toArray, u8s_length, hl]⟩, below_setRow h.bl (by omega) _⟩
end
theorem bs_cons {x : Int} {b : List Int} (hx : 0 ≤ x ∧ x < 256) (hb : Bs b) : Bs (x :: b) := fun v hv => by
  rcases List.mem_cons.1 hv with rfl | h
  · exact hx
  · exact hb v h
theorem hash_size {S : List Int} (h : S.length = 32) : (u8s S).toArray.size = 32 := by rw [List.size_toArray, u8s_length, h]

set_option maxRecDepth 5000 in
set_option maxHeartbeats 4000000 in
theorem kBegin_any (id : List Int) (q i : Int) (seed : List Int) (w : World) (hi : Idn id) (hq : 0 ≤ q ∧ q < 4294967296) (hi2 : 0 ≤ i ∧ i < 65536) (hs : Ky seed) :
    Calls Tryd.prog 111 #[.agg (u8s id).toArray, .int .u32 q, .int .i64 i, .agg (u8s seed).toArray] w fun e w' => e = .returned (.agg (u8s (begn id q i seed)).toArray) ∧ Below w.heap.size w w' := by
  obtain ⟨Z, HZ, hZ0, hZs⟩ := zero_Hash
  have hz32 : Z.size = 32 := by rw [HZ.out, List.size_toArray, u8s_length]; simp
  obtain ⟨hk1, hk2, hk3, hb0⟩ := blks3 w (u8s id).toArray (u8s seed).toArray Z 23 26 26
  have S0 : Hid (St3 w id (((w.alloc (.cells (u8s id).toArray 23)).alloc (.cells (u8s seed).toArray 26)).alloc (.cells Z 26))) := ⟨hk1, ⟨_, hk2, hash_size hs.len⟩, ⟨_, hk3, hz32⟩, hb0⟩
  have R0 := hid (blk_rp hk2.drew)
  have CW := hid (fun (w1 : World) (hr : Rp w1 none (some ⟨w.heap.size + 1, 0, none⟩) seed) => kwith_any 255 (some ⟨w.heap.size + 1, 0, none⟩) 32 32 seed w1 hs.len.symm (by omega) hr (by rw [hs.len]; decide))
  have CU := hid (fun (w1 : World) (A : Option Addr) (c : Nat) (hr : Rp w1 none A (255 :: seed)) => kUnder_any id q i A (seed.length + 1) c (255 :: seed) w1 hi hq hi2 (by simp) hr (bs_cons (by omega) hs.bs) (by simp [hs.len]))
  have HSL := hid hs.len
  have hS : under id q i (255 :: seed) = begn id q i seed := rfl
  rw [hS] at CU
  have hky : Ky (begn id q i seed) := under_ky _ _ _ _
  generalize begn id q i seed = S at CU hky ⊢
  have HI := hid (info_hash S hky.len)
  have H32 := hid hky.len
  clear hk1 hk2 hk3 hb0 hs hq hi2 hS hky hz32
  go_enter Tryd.func111, Tryd.ntmps111
  go_wp2_with fail
  generalize ((w.alloc (.cells (u8s id).toArray 23)).alloc (.cells (u8s seed).toArray 26)).alloc (.cells Z 26) = w0 at S0 R0 ⊢
  refine wp_region_held (S := fun w' => Hid (St3 w id w')) (by kernel_rfl) ?_
  change wpAnyH _ _ _ _ _ _ _ _ w0.drew
  have G0 := hid (S0.out.drew)
  clear S0
  generalize w0.drew = x0 at G0 R0 ⊢
  refine wpAnyH_take (i := 0) (oi := { dst := some 9, op := _, type := _, pos := _, after := _, guard := _ }) (v := .agg ((u8s id).toArray)) rfl (by kernel_rfl) (by kernel_rfl) (by kernel_rfl) (fun _ _ _ h => h) (yieldsIf_load_mid (cs := u8s id) (by rfl) _ _ rfl _ _ rfl _ (fun w' hSw => blk_row (Hid.out hSw).b0) Tryd.underlying23 rfl (id_info hi)) (by assumption) ?_
  try simp only [Act.put, List.setIfInBounds_toArray, List.set_cons_zero, List.set_cons_succ]
  refine wpAnyH_take (i := 1) (oi := { dst := some 10, op := _, type := _, pos := _, after := _, guard := _ }) (v := ?_) rfl (by kernel_rfl) (by kernel_rfl) (by kernel_rfl) (fun _ _ _ h => h) (Or.inl ⟨by kernel_rfl, ?_⟩) (by assumption) ?_
  rotate_left
  · (intro w hSw; go_simp; try with_reducible rfl)
  try simp only [Act.put, List.setIfInBounds_toArray, List.set_cons_zero, List.set_cons_succ]
  refine wpAnyH_take (i := 2) (oi := { dst := some 11, op := _, type := _, pos := _, after := _, guard := _ }) (v := ?_) rfl (by kernel_rfl) (by kernel_rfl) (by kernel_rfl) (fun _ _ _ h => h) (Or.inl ⟨by kernel_rfl, ?_⟩) (by assumption) ?_
  rotate_left
  · (intro w hSw; go_simp; try with_reducible rfl)
  try simp only [Act.put, List.setIfInBounds_toArray, List.set_cons_zero, List.set_cons_succ]
  refine wpAnyH_take (i := 3) (oi := { dst := some 12, op := _, type := _, pos := _, after := _, guard := _ }) (v := ?_) rfl (by kernel_rfl) (by kernel_rfl) (by kernel_rfl) (fun _ _ _ h => h) (Or.inl ⟨by kernel_rfl, ?_⟩) (by assumption) ?_
  rotate_left
  · (intro w hSw; go_simp; try with_reducible rfl)
  try simp only [Act.put, List.setIfInBounds_toArray, List.set_cons_zero, List.set_cons_succ]
  refine wpAnyH_ready (rs := [4]) (by kernel_rfl) (by simp) ?_
  refine AllReadyH.cons (o := { dst := some 13, op := _, type := _, pos := _, after := _, guard := _ }) rfl (fun Qc hQc => ?_) AllReadyH.nil
  go_simp
  go_at_call 103; refine (CW.out _ R0.out).mono ?_; rintro e x1 ⟨A1, c1, rfl, hc1, hr1, hb1⟩; have G1 := hid (G0.out.below hb1); have R1 := hid hr1; clear hb1 hc1 hr1
  go_wp2_with fail
  refine hQc.out _ _ G1 (fun hHeld => ?_)
  clear hQc Qc G0 R0
  try simp only [Act.put, List.setIfInBounds_toArray, List.set_cons_zero, List.set_cons_succ]
  refine wpAnyH_ready (rs := [5]) (by kernel_rfl) (by simp) ?_
  refine AllReadyH.cons (o := { dst := some 14, op := _, type := _, pos := _, after := _, guard := _ }) rfl (fun Qc hQc => ?_) AllReadyH.nil
  go_simp
  go_at_call 88; refine (CU.out _ A1 c1 R1.out).mono ?_; rintro e x2 ⟨rfl, hb2⟩; have G2 := hid (G1.out.below hb2); clear hb2
  go_wp2_with fail
  refine hQc.out _ _ G2 (fun hHeld => ?_)
  clear hQc Qc G1 R1
  try simp only [Act.put, List.setIfInBounds_toArray, List.set_cons_zero, List.set_cons_succ]
  obtain ⟨cs, hcs, hcz⟩ := G2.out.b2
  have HC := hid hcs
  have HCZ : Hid (cs.size = (u8s S).toArray.size) := hcz.trans (hash_size H32.out).symm
  have G3 := hid (G2.out.row2 H32.out)
  have KR := hid (hcs.row (u8s S).toArray)
  clear hcs hcz
  refine wpAnyH_ready (rs := [6]) (by kernel_rfl) (by simp) ?_
  refine AllReadyH.cons (o := { dst := none, op := _, type := _, pos := _, after := _, guard := _ }) rfl (fun Qc hQc => ?_) AllReadyH.nil
  rw [if_pos (by rfl)]
  refine wp_store_row 26 (.tmp 8) (.tmp 14) rfl (w.heap.size + 1 + 1) (u8s S).toArray rfl rfl 26 cs HC.out HI.out HCZ.out (u8s_all S) ?_
  refine hQc.out _ _ G3 (fun hHeld => ?_)
  clear hQc Qc
  generalize x2.setRow (w.heap.size + 1 + 1) (u8s S).toArray = x3 at G3 KR hHeld ⊢
  try simp only [Act.put, List.setIfInBounds_toArray, List.set_cons_zero, List.set_cons_succ]
  refine wpAnyH_done (by kernel_rfl) ?_ _
  try simp only [Act.put, List.setIfInBounds_toArray, List.set_cons_zero, List.set_cons_succ]
  go_wp2
  refine bodyPost_ret (results_cell_row Tryd.results111 _ _ (w.heap.size + 1 + 1) 26 (u8s S).toArray (0, 0) _ rfl KR.out Tryd.underlying26 rfl HI.out) rfl ?_
  exact ⟨rfl, G3.out.bl⟩
set_option maxRecDepth 5000 in
set_option maxHeartbeats 4000000 in
theorem kSteps_any (id : List Int) (q i : Int) (h : List Int) (a t : Nat) (w : World) (hi : Idn id) (hq : 0 ≤ q ∧ q < 4294967296) (hi2 : 0 ≤ i ∧ i < 65536) (hh : Ky h) (ha : a < 256) (ht : t < 256) :
    Calls Tryd.prog 86 #[.agg (u8s id).toArray, .int .u32 q, .int .i64 i, .agg (u8s h).toArray, .int .i64 a, .int .i64 t] w fun e w' => e = .returned (.agg (u8s (steps id q i h a (t - a))).toArray) ∧ Below w.heap.size w w' := by
  obtain ⟨Z, HZ, hZ0, hZs⟩ := zero_Hash
  have hz32 : Z.size = 32 := by rw [HZ.out, List.size_toArray, u8s_length]; simp
  obtain ⟨hk1, hk2, hk3, hb0⟩ := blks3 w (u8s id).toArray (u8s h).toArray Z 23 26 26
  have S0 : Hid (St3 w id (((w.alloc (.cells (u8s id).toArray 23)).alloc (.cells (u8s h).toArray 26)).alloc (.cells Z 26))) := ⟨hk1, ⟨_, hk2, hash_size hh.len⟩, ⟨_, hk3, hz32⟩, hb0⟩
  have K0 := hid hk2
  have CW := hid (fun (x : Int) (b : List Int) (w1 : World) (hx : 0 ≤ x ∧ x < 256) (hb : Ky b) (hr : Rp w1 none (some ⟨w.heap.size + 1, 0, none⟩) b) => kwith_any x (some ⟨w.heap.size + 1, 0, none⟩) 32 32 b w1 hb.len.symm hx hr (by rw [hb.len]; decide))
  have CU := hid (fun (x : Int) (b : List Int) (w1 : World) (A : Option Addr) (c : Nat) (hx : 0 ≤ x ∧ x < 256) (hb : Ky b) (hr : Rp w1 none A (x :: b)) => kUnder_any id q i A (b.length + 1) c (x :: b) w1 hi hq hi2 (by simp) hr (bs_cons hx hb.bs) (by simp [hb.len]))
  have HH := hid hh
  have hti : (t : Int) < 256 := by omega
  clear hk1 hk2 hk3 hb0 hq hi2 hz32 hh
  go_enter Tryd.func86, Tryd.ntmps86
  go_wp2_with fail
  generalize ((w.alloc (.cells (u8s id).toArray 23)).alloc (.cells (u8s h).toArray 26)).alloc (.cells Z 26) = w0 at S0 K0 ⊢
  go_loopw [13] (fun j wr => ∃ k : Nat, k ≤ t - a ∧ j = .int .i64 ((a + k : Nat) : Int) ∧ Hid (St3 w id wr) ∧ Hid (Blk wr (w.heap.size + 1) 26 (u8s (steps id q i h a k)).toArray)) (fun j _ => t - (intOf j).toNat)
  case atStart => exact ⟨0, Nat.zero_le _, rfl, S0.out, K0.out⟩
  case round =>
    obtain ⟨k, hk, rfl, GS, GK⟩ := hrel
    clear S0 K0
    obtain ⟨j, hj⟩ : ∃ j, j = a + k := ⟨_, rfl⟩
    have HJ := hid hj
    rw [← hj]
    have hS := steps_ky (id := id) (q := q) (i := i) HH.out a k
    have hstep : under id q i ((j : Int) :: steps id q i h a k) = steps id q i h a (k + 1) := by rw [hj]; rfl
    by_cases hlt : j < t
    · have hj0 : (0 : Int) ≤ (j : Int) := by omega
      have hj1 : (j : Int) < 256 := by omega
      have CW1 := hid (CW.out j (steps id q i h a k) wr.drew ⟨hj0, hj1⟩ hS (blk_rp GK.out.drew))
      have CU1 := hid (fun w1 A c hr => CU.out j (steps id q i h a k) w1 A c ⟨hj0, hj1⟩ hS hr)
      rw [hstep] at CU1
      have HSL := hid hS.len
      have hky : Ky (steps id q i h a (k + 1)) := steps_ky HH.out a (k + 1)
      obtain ⟨S, hSE⟩ : ∃ S, S = steps id q i h a (k + 1) := ⟨_, rfl⟩
      rw [← hSE] at CU1 hky
      have HSE := hid hSE
      clear hSE
      generalize steps id q i h a k = b at CW1 CU1 HSL hS GK
      have HI := hid (info_hash S hky.len)
      have H32 := hid hky.len
      have G0 := hid (GS.out.drew)
      have s1 : IntKind.u8.wrap (j : Int) = j := by simp [IntKind.wrap, IntKind.bits, IntKind.signed]; omega
      clear hj hstep hS hky CW CU GS
      go_wp2
      refine wp_region_held (S := fun w' => Hid (St3 w id w')) (by kernel_rfl) ?_
      change wpAnyH _ _ _ _ _ _ _ _ wr.drew
      generalize wr.drew = x0 at G0 CW1 ⊢
      refine wpAnyH_take (i := 0) (oi := { dst := some 20, op := _, type := _, pos := _, after := _, guard := _ }) (v := .agg ((u8s id).toArray)) rfl (by kernel_rfl) (by kernel_rfl) (by kernel_rfl) (fun _ _ _ h => h) (yieldsIf_load_mid (cs := u8s id) (by rfl) _ _ rfl _ _ rfl _ (fun w' hSw => blk_row (Hid.out hSw).b0) Tryd.underlying23 rfl (id_info hi)) (by assumption) ?_
      try simp only [Act.put, List.setIfInBounds_toArray, List.set_cons_zero, List.set_cons_succ]
      refine wpAnyH_take (i := 1) (oi := { dst := some 21, op := _, type := _, pos := _, after := _, guard := _ }) (v := ?_) rfl (by kernel_rfl) (by kernel_rfl) (by kernel_rfl) (fun _ _ _ h => h) (Or.inl ⟨by kernel_rfl, ?_⟩) (by assumption) ?_
      rotate_left
      · (intro w hSw; go_simp; try with_reducible rfl)
      try simp only [Act.put, List.setIfInBounds_toArray, List.set_cons_zero, List.set_cons_succ]
      refine wpAnyH_take (i := 2) (oi := { dst := some 22, op := _, type := _, pos := _, after := _, guard := _ }) (v := ?_) rfl (by kernel_rfl) (by kernel_rfl) (by kernel_rfl) (fun _ _ _ h => h) (Or.inl ⟨by kernel_rfl, ?_⟩) (by assumption) ?_
      rotate_left
      · (intro w hSw; go_simp; try with_reducible rfl)
      try simp only [Act.put, List.setIfInBounds_toArray, List.set_cons_zero, List.set_cons_succ]
      refine wpAnyH_take (i := 3) (oi := { dst := some 23, op := _, type := _, pos := _, after := _, guard := _ }) (v := ?_) rfl (by kernel_rfl) (by kernel_rfl) (by kernel_rfl) (fun _ _ _ h => h) (Or.inl ⟨by kernel_rfl, ?_⟩) (by assumption) ?_
      rotate_left
      · (intro w hSw; go_simp; try with_reducible rfl)
      try simp only [Act.put, List.setIfInBounds_toArray, List.set_cons_zero, List.set_cons_succ]
      refine wpAnyH_take (i := 4) (oi := { dst := some 24, op := _, type := _, pos := _, after := _, guard := _ }) (v := ?_) rfl (by kernel_rfl) (by kernel_rfl) (by kernel_rfl) (fun _ _ _ h => h) (Or.inl ⟨by kernel_rfl, ?_⟩) (by assumption) ?_
      rotate_left
      · (intro w hSw; go_simp; try with_reducible rfl)
      try simp only [Act.put, List.setIfInBounds_toArray, List.set_cons_zero, List.set_cons_succ]
      refine wpAnyH_take (i := 5) (oi := { dst := some 25, op := _, type := _, pos := _, after := _, guard := _ }) (v := ?_) rfl (by kernel_rfl) (by kernel_rfl) (by kernel_rfl) (fun _ _ _ h => h) (Or.inl ⟨by kernel_rfl, ?_⟩) (by assumption) ?_
      rotate_left
      · (intro w hSw; go_simp; try with_reducible rfl)
      try simp only [Act.put, List.setIfInBounds_toArray, List.set_cons_zero, List.set_cons_succ]
      refine wpAnyH_ready (rs := [6]) (by kernel_rfl) (by simp) ?_
      refine AllReadyH.cons (o := { dst := some 26, op := _, type := _, pos := _, after := _, guard := _ }) rfl (fun Qc hQc => ?_) AllReadyH.nil
      go_simp
      go_at_call 103; refine CW1.out.mono ?_; rintro e x1 ⟨A1, c1, rfl, hc1, hr1, hb1⟩; have G1 := hid (G0.out.below hb1); have R1 := hid hr1; clear hb1 hc1 hr1
      go_wp2_with fail
      refine hQc.out _ _ G1 (fun hHeld => ?_)
      clear hQc Qc G0 CW1
      try simp only [Act.put, List.setIfInBounds_toArray, List.set_cons_zero, List.set_cons_succ]
      refine wpAnyH_ready (rs := [7]) (by kernel_rfl) (by simp) ?_
      refine AllReadyH.cons (o := { dst := some 27, op := _, type := _, pos := _, after := _, guard := _ }) rfl (fun Qc hQc => ?_) AllReadyH.nil
      go_simp
      go_at_call 88; refine (CU1.out _ A1 c1 R1.out).mono ?_; rintro e x2 ⟨rfl, hb2⟩; have G2 := hid (G1.out.below hb2); clear hb2
      go_wp2_with fail
      refine hQc.out _ _ G2 (fun hHeld => ?_)
      clear hQc Qc G1 R1
      try simp only [Act.put, List.setIfInBounds_toArray, List.set_cons_zero, List.set_cons_succ]
      obtain ⟨cs, hcs, hcz⟩ := G2.out.b1
      have HC := hid hcs
      have HCZ : Hid (cs.size = (u8s S).toArray.size) := hcz.trans (hash_size H32.out).symm
      have G3 := hid (G2.out.row1 H32.out)
      have KR := hid (hcs.row (u8s S).toArray)
      clear hcs hcz
      refine wpAnyH_ready (rs := [8]) (by kernel_rfl) (by simp) ?_
      refine AllReadyH.cons (o := { dst := none, op := _, type := _, pos := _, after := _, guard := _ }) rfl (fun Qc hQc => ?_) AllReadyH.nil
      rw [if_pos (by rfl)]
      refine wp_store_row 26 (.tmp 9) (.tmp 27) rfl (w.heap.size + 1) (u8s S).toArray rfl rfl 26 cs HC.out HI.out HCZ.out (u8s_all S) ?_
      refine hQc.out _ _ G3 (fun hHeld => ?_)
      clear hQc Qc
      generalize x2.setRow (w.heap.size + 1) (u8s S).toArray = x3 at G3 KR hHeld ⊢
      try simp only [Act.put, List.setIfInBounds_toArray, List.set_cons_zero, List.set_cons_succ]
      refine wpAnyH_done (by kernel_rfl) ?_ _
      try simp only [Act.put, List.setIfInBounds_toArray, List.set_cons_zero, List.set_cons_succ]
      go_wp2
      clear s1
      exact ⟨⟨k + 1, by have := HJ.out; omega, by rw [show a + (k + 1) = j + 1 by have := HJ.out; omega]; go_num, G3.out, by (show Blk _ _ _ _); rw [← HSE.out]; exact KR.out⟩, by simp [intOf]; omega⟩
    · have hkn : k = t - a := by omega
      have HKN := hid hkn
      obtain ⟨b, hb⟩ : ∃ b, b = steps id q i h a k := ⟨_, rfl⟩
      rw [← hb] at GK hS
      have HBE := hid hb
      have HI := hid (info_hash b hS.len)
      have HSZ := hid (hash_size hS.len)
      obtain ⟨cs, hcs, hcz⟩ := GS.out.b2
      have HC := hid hcs
      have HCZ : Hid (cs.size = (u8s b).toArray.size) := hcz.trans HSZ.out.symm
      have HBI := hid (hash_info hS.len)
      clear hj hcs hcz hstep hkn hb CW CU
      go_wp2_with (first
        | (refine load_at rfl 26 (.tmp 9) rfl (w.heap.size + 1) 0 rfl (u8s b) _ (blk_row GK.out) Tryd.underlying26 rfl HBI.out (u8s b).toArray rfl ?_)
        | (refine wpList_store_row rfl 26 (.tmp 12) (.tmp 28) rfl (w.heap.size + 1 + 1) (u8s b).toArray rfl rfl 26 cs HC.out HI.out HCZ.out (u8s_all b) ?_))
      try go_frame
      refine bodyPost_ret (results_cell_row Tryd.results86 _ _ (w.heap.size + 1 + 1) 26 (u8s b).toArray (0, 0) _ rfl (HC.out.row _) Tryd.underlying26 rfl HI.out) rfl ?_
      rw [← HKN.out, ← HBE.out]
      exact ⟨rfl, below_setRow GS.out.bl (by omega) _⟩
end Go.Proofs.YtobceieadjpaaaaDoor
/-
  What is proved here: the document's own hash of a message with a salt.
-/
namespace Go.Proofs.YtobceieadjpaaaaDoor
open Go.ChangeShapes Go.WideShapes Go.ChangeAt Go.RowKit
set_option linter.unusedVariables false
set_option maxRecDepth 20000

set_option maxRecDepth 5000 in
set_option maxHeartbeats 4000000 in
theorem kHashed_any (id : List Int) (q : Int) (A : Option Addr) (m c : Nat) (salt : List Int) (A2 : Option Addr) (m2 c2 : Nat) (msg : List Int) (w : World) (hi : Idn id) (hq : 0 ≤ q ∧ q < 4294967296)
    (hm : m = salt.length) (hr : Rp w none A salt) (hb : Bs salt) (hl : salt.length ≤ 1000) (hm2 : m2 = msg.length) (hr2 : Rp w none A2 msg) (hb2 : Bs msg) (hl2 : msg.length < 100000) :
    Calls Tryd.prog 85 #[.agg (u8s id).toArray, .int .u32 q, .slice A m c, .slice A2 m2 c2] w fun e w' => e = .returned (.agg (u8s (hashed id q salt msg)).toArray) ∧ Below w.heap.size w w' := by
  obtain ⟨Z, HZ, hZ0, hZs⟩ := zero_Hash
  obtain ⟨hk1, hk2, hb0⟩ := blks2 w (u8s id).toArray Z 23 26
  have K1 := hid hk1; have K2 := hid hk2; have B0 := hid hb0
  have O0 := hid (own_none ((w.alloc (.cells (u8s id).toArray 23)).alloc (.cells Z 26)) (w.heap.size + 1 + 1))
  have S0 : Hid (w.heap.size + 1 + 1 ≤ ((w.alloc (.cells (u8s id).toArray 23)).alloc (.cells Z 26)).heap.size) := by show _ ≤ _; simp
  have HR1 := hid (hr.belowN hb0)
  have HR := hid (fun (w1 : World) (hb : Below w.heap.size w w1) => hr2.belowN hb)
  have CU := hid (fun (w1 : World) (A1 : Option Addr) (c1 : Nat) (h1 : Rp w1 none A1 (salt ++ msg)) => kUnder_any id q 33153 A1 (salt ++ msg).length c1 (salt ++ msg) w1 hi hq (by decide) rfl h1 (bs_append hb hb2) (by rw [List.length_append]; omega))
  have HM := hid hm; have HM2 := hid hm2
  have L1 : Hid (([] : List Int).length + salt.length < 1000000000000) := by show _ < _; simp; omega
  have L2 : Hid (([] ++ salt).length + msg.length < 1000000000000) := by show _ < _; simp; omega
  have hS : under id q 33153 (salt ++ msg) = hashed id q salt msg := rfl
  rw [hS] at CU
  have hky : Ky (hashed id q salt msg) := under_ky _ _ _ _
  generalize hashed id q salt msg = S at CU hky ⊢
  have HI := hid (info_hash S hky.len)
  have HZ32 : Hid (Z.size = (u8s S).toArray.size) := by
    show _ = _
    rw [HZ.out, List.size_toArray, List.size_toArray, u8s_length, u8s_length, hky.len]; simp
  clear hk1 hk2 hb0 hr hb hl hm hm2 hr2 hb2 hl2 hq hS hky
  go_enter Tryd.func85, Tryd.ntmps85
  go_wp2_with (first
    | (at_builtin; refine append_rpm rfl (.tmp 10) (.tmp 11) rfl (w.heap.size + 1 + 1) (w.heap.size + 1 + 1) _ [] rfl O0.out A m c salt HM.out rfl HR1.out L1.out S0.out (Nat.le_refl _) ?_; intro v1 w1 O1 B1; have Z1 := hid (Nat.le_trans S0.out B1.out.size); have HRB := hid (HR.out w1 (B0.out.trans (B1.out.mono (by omega)))))
    | (at_builtin; refine append_rpm rfl (.tmp 13) (.tmp 14) rfl (w.heap.size + 1 + 1) (w.heap.size + 1 + 1) _ ([] ++ salt) rfl O1.out A2 m2 c2 msg HM2.out rfl HRB.out L2.out Z1.out (Nat.le_refl _) ?_; intro v2 w2 O2 B2; have Z2 := hid (Nat.le_trans Z1.out B2.out.size); have BA := hid (B1.out.trans B2.out); have K3 := hid (K1.out.same (BA.out.block _ (by omega))); have K4 := hid (K2.out.same (BA.out.block _ (by omega))))
    | (refine load_at rfl 23 (.tmp 4) rfl w.heap.size 0 rfl (u8s id) _ (blk_row K3.out) Tryd.underlying23 rfl (id_info hi) (u8s id).toArray rfl ?_))
  obtain ⟨A7, c7, rfl, _, hc7, hf7⟩ := fresh_of_own (w := w) O2.out (by omega)
  have F7 := hid hf7.rp0
  clear hc7 hf7 O2
  go_wp2_with (first
    | (go_at_call 88; refine (CU.out _ A7 c7 F7.out).mono ?_; rintro e w8 ⟨rfl, hb8⟩; have B8 := hid (BA.out.trans (hb8.mono Z2.out)); have K8 := hid (K2.out.same (B8.out.block _ (by omega))); clear hb8)
    | (refine wpList_store_row rfl 26 (.tmp 8) (.tmp 19) rfl (w.heap.size + 1) (u8s S).toArray rfl rfl 26 Z K8.out HI.out HZ32.out (u8s_all S) ?_))
  try go_frame
  refine bodyPost_ret (results_cell_row Tryd.results85 _ _ (w.heap.size + 1) 26 (u8s S).toArray (0, 0) _ rfl (K8.out.row _) Tryd.underlying26 rfl HI.out) rfl ?_
  exact ⟨rfl, below_setRow (B0.out.trans (B8.out.mono (by omega))) (by omega) _⟩
end Go.Proofs.YtobceieadjpaaaaDoor
