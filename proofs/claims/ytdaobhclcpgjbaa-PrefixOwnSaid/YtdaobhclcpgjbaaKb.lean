/-
  What this file is for: keys as rows of bits, and the words of the document on prefixes, in plain mathematics. Nothing of the program is walked here.
-/
import Derived.WalkKit
import Derived.ProofKit
namespace Go.Proofs.Ytdaobhclcpgjbaa
open Go.ChangeShapes Go.RowKit
set_option linter.unusedVariables false

theorem hid {p : Prop} (h : p) : Hid p := h
def Bs (l : List Int) : Prop := ∀ v ∈ l, 0 ≤ v ∧ v < 256
theorem Bs.at {l : List Int} (h : Bs l) (i : Nat) : 0 ≤ l[i]?.getD 0 ∧ l[i]?.getD 0 < 256 := by
  rcases Nat.lt_or_ge i l.length with hi | hi
  · simp only [List.getElem?_eq_getElem hi, Option.getD_some]; exact h _ (List.getElem_mem hi)
  · simp [List.getElem?_eq_none hi]
/-- a key: 32 bytes -/
structure Ky (K : List Int) : Prop where
  len : K.length = 32
  bs : Bs K

/-- bit t of a byte, the most significant one first -/
def bt (x : Int) (t : Nat) : Int := x / 2 ^ (7 - t) % 2
theorem bt01 (x : Int) (t : Nat) : bt x t = 0 ∨ bt x t = 1 := by unfold bt; omega
/-- bit i of a key -/
def bit (K : List Int) (i : Nat) : Int := bt (K[i / 8]?.getD 0) (i % 8)
theorem bit01 (K : List Int) (i : Nat) : bit K i = 0 ∨ bit K i = 1 := bt01 _ _
def bitI (K : List Int) (i : Int) : Int := if 0 ≤ i ∧ i < 256 then bit K i.toNat else 0
theorem bitI_in (K : List Int) (i : Nat) (h : i < 256) : bitI K i = bit K i := by unfold bitI; rw [if_pos (by omega)]; simp
theorem bitI_out (K : List Int) (i : Int) (h : i < 0 ∨ 256 ≤ i) : bitI K i = 0 := by unfold bitI; rw [if_neg (by omega)]
theorem bitI01 (K : List Int) (i : Int) : bitI K i = 0 ∨ bitI K i = 1 := by
  unfold bitI; split
  · exact bit01 _ _
  · exact Or.inl rfl

theorem lt8 {t : Nat} (h : t < 8) : t = 0 ∨ t = 1 ∨ t = 2 ∨ t = 3 ∨ t = 4 ∨ t = 5 ∨ t = 6 ∨ t = 7 := by omega
theorem byte_ext (x y : Int) (hx : 0 ≤ x ∧ x < 256) (hy : 0 ≤ y ∧ y < 256) (h : ∀ t, t < 8 → bt x t = bt y t) : x = y := by
  have h0 := h 0 (by decide); have h1 := h 1 (by decide); have h2 := h 2 (by decide); have h3 := h 3 (by decide)
  have h4 := h 4 (by decide); have h5 := h 5 (by decide); have h6 := h 6 (by decide); have h7 := h 7 (by decide)
  simp only [bt] at h0 h1 h2 h3 h4 h5 h6 h7
  simp at h0 h1 h2 h3 h4 h5 h6 h7
  omega
theorem ky_ext {K L : List Int} (hK : Ky K) (hL : Ky L) (h : ∀ i, i < 256 → bit K i = bit L i) : K = L := by
  refine List.ext_getElem (by rw [hK.len, hL.len]) (fun j h1 h2 => ?_)
  have hj : j < 32 := by have := hK.len; omega
  refine byte_ext _ _ (hK.bs _ (List.getElem_mem h1)) (hL.bs _ (List.getElem_mem h2)) (fun t ht => ?_)
  have := h (8 * j + t) (by omega)
  unfold bit at this
  rw [show (8 * j + t) / 8 = j by omega, show (8 * j + t) % 8 = t by omega] at this
  simpa [h1, h2] using this

def byteOf (f : Nat → Int) (j : Nat) : Int :=
  f (8 * j) * 128 + f (8 * j + 1) * 64 + f (8 * j + 2) * 32 + f (8 * j + 3) * 16 + f (8 * j + 4) * 8 + f (8 * j + 5) * 4 + f (8 * j + 6) * 2 + f (8 * j + 7)
def B01 (f : Nat → Int) : Prop := ∀ i, f i = 0 ∨ f i = 1
/-- the key of these bits -/
def ofBits (f : Nat → Int) : List Int := (List.range 32).map (byteOf f)
theorem byteOf_lt {f : Nat → Int} (h : B01 f) (j : Nat) : 0 ≤ byteOf f j ∧ byteOf f j < 256 := by
  unfold byteOf
  have h0 := h (8 * j); have h1 := h (8 * j + 1); have h2 := h (8 * j + 2); have h3 := h (8 * j + 3)
  have h4 := h (8 * j + 4); have h5 := h (8 * j + 5); have h6 := h (8 * j + 6); have h7 := h (8 * j + 7)
  generalize f (8 * j) = a0 at *; generalize f (8 * j + 1) = a1 at *; generalize f (8 * j + 2) = a2 at *; generalize f (8 * j + 3) = a3 at *
  generalize f (8 * j + 4) = a4 at *; generalize f (8 * j + 5) = a5 at *; generalize f (8 * j + 6) = a6 at *; generalize f (8 * j + 7) = a7 at *
  have b0 : 0 ≤ a0 ∧ a0 ≤ 1 := by omega
  have b1 : 0 ≤ a1 ∧ a1 ≤ 1 := by omega
  have b2 : 0 ≤ a2 ∧ a2 ≤ 1 := by omega
  have b3 : 0 ≤ a3 ∧ a3 ≤ 1 := by omega
  have b4 : 0 ≤ a4 ∧ a4 ≤ 1 := by omega
  have b5 : 0 ≤ a5 ∧ a5 ≤ 1 := by omega
  have b6 : 0 ≤ a6 ∧ a6 ≤ 1 := by omega
  have b7 : 0 ≤ a7 ∧ a7 ≤ 1 := by omega
  clear h0 h1 h2 h3 h4 h5 h6 h7
  omega
theorem ofBits_len (f : Nat → Int) : (ofBits f).length = 32 := by simp [ofBits]
theorem ofBits_ky {f : Nat → Int} (h : B01 f) : Ky (ofBits f) := ⟨ofBits_len f, fun v hv => by
  unfold ofBits at hv
  simp only [List.mem_map] at hv
  obtain ⟨j, _, rfl⟩ := hv
  exact byteOf_lt h j⟩
theorem bt_byteOf {f : Nat → Int} (h : B01 f) (j t : Nat) (ht : t < 8) : bt (byteOf f j) t = f (8 * j + t) := by
  unfold bt byteOf
  have h0 := h (8 * j); have h1 := h (8 * j + 1); have h2 := h (8 * j + 2); have h3 := h (8 * j + 3)
  have h4 := h (8 * j + 4); have h5 := h (8 * j + 5); have h6 := h (8 * j + 6); have h7 := h (8 * j + 7)
  have e : f (8 * j) = f (8 * j + 0) := rfl
  rw [e] at h0 ⊢
  rcases lt8 ht with rfl | rfl | rfl | rfl | rfl | rfl | rfl | rfl <;>
  · generalize f (8 * j + 0) = a0 at *; generalize f (8 * j + 1) = a1 at *; generalize f (8 * j + 2) = a2 at *; generalize f (8 * j + 3) = a3 at *
    generalize f (8 * j + 4) = a4 at *; generalize f (8 * j + 5) = a5 at *; generalize f (8 * j + 6) = a6 at *; generalize f (8 * j + 7) = a7 at *
    have b0 : 0 ≤ a0 ∧ a0 ≤ 1 := by omega
    have b1 : 0 ≤ a1 ∧ a1 ≤ 1 := by omega
    have b2 : 0 ≤ a2 ∧ a2 ≤ 1 := by omega
    have b3 : 0 ≤ a3 ∧ a3 ≤ 1 := by omega
    have b4 : 0 ≤ a4 ∧ a4 ≤ 1 := by omega
    have b5 : 0 ≤ a5 ∧ a5 ≤ 1 := by omega
    have b6 : 0 ≤ a6 ∧ a6 ≤ 1 := by omega
    have b7 : 0 ≤ a7 ∧ a7 ≤ 1 := by omega
    clear h0 h1 h2 h3 h4 h5 h6 h7 ht h e
    simp
    omega
theorem bit_ofBits {f : Nat → Int} (h : B01 f) (i : Nat) (hi : i < 256) : bit (ofBits f) i = f i := by
  unfold bit ofBits
  rw [List.getElem?_map, List.getElem?_range (by omega)]
  simp only [Option.map_some, Option.getD_some]
  rw [bt_byteOf h _ _ (by omega), show 8 * (i / 8) + i % 8 = i by omega]
theorem eq_ofBits {K : List Int} {f : Nat → Int} (hK : Ky K) (hf : B01 f) (h : ∀ i, i < 256 → bit K i = f i) : K = ofBits f :=
  ky_ext hK (ofBits_ky hf) (fun i hi => by rw [h i hi, bit_ofBits hf i hi])

/-- the first n bits of a key -/
def cutF (K : List Int) (n : Nat) : Nat → Int := fun i => if i < n then bit K i else 0
theorem cutF01 (K : List Int) (n : Nat) : B01 (cutF K n) := fun i => by unfold cutF; split; exact bit01 _ _; exact Or.inl rfl
def cut (K : List Int) (n : Nat) : List Int := ofBits (cutF K n)
theorem cut_ky (K : List Int) (n : Nat) : Ky (cut K n) := ofBits_ky (cutF01 K n)
theorem bit_cut (K : List Int) (n i : Nat) (hi : i < 256) : bit (cut K n) i = if i < n then bit K i else 0 := bit_ofBits (cutF01 K n) i hi
def setF (K : List Int) (n : Nat) : Nat → Int := fun i => if i = n then 1 else bit K i
theorem setF01 (K : List Int) (n : Nat) : B01 (setF K n) := fun i => by unfold setF; split; exact Or.inr rfl; exact bit01 _ _
/-- a key with one bit made 1 -/
def setb (K : List Int) (n : Nat) : List Int := ofBits (setF K n)
theorem setb_ky (K : List Int) (n : Nat) : Ky (setb K n) := ofBits_ky (setF01 K n)
theorem bit_setb (K : List Int) (n i : Nat) (hi : i < 256) : bit (setb K n) i = if i = n then 1 else bit K i := bit_ofBits (setF01 K n) i hi
theorem cut_all {K : List Int} (hK : Ky K) (n : Nat) (h : 256 ≤ n) : cut K n = K :=
  ky_ext (cut_ky K n) hK (fun i hi => by rw [bit_cut K n i hi, if_pos (by omega)])
theorem cut_eq {K L : List Int} {n : Nat} (h : ∀ i, i < 256 → i < n → bit K i = bit L i) : cut K n = cut L n :=
  ky_ext (cut_ky K n) (cut_ky L n) (fun i hi => by
    rw [bit_cut K n i hi, bit_cut L n i hi]
    by_cases hn : i < n
    · rw [if_pos hn, if_pos hn]; exact h i hi hn
    · rw [if_neg hn, if_neg hn])
theorem cut_eq_iff {K L : List Int} {n : Nat} : cut K n = cut L n ↔ ∀ i, i < 256 → i < n → bit K i = bit L i := by
  refine ⟨fun h i hi hn => ?_, cut_eq⟩
  have h1 := bit_cut K n i hi
  rw [h, bit_cut L n i hi, if_pos hn, if_pos hn] at h1
  exact h1.symm
theorem cut_cut (K : List Int) (n m : Nat) : cut (cut K n) m = cut K (min n m) :=
  ky_ext (cut_ky _ _) (cut_ky _ _) (fun i hi => by
    rw [bit_cut _ _ i hi, bit_cut _ _ i hi, bit_cut _ _ i hi]
    by_cases h1 : i < n <;> by_cases h2 : i < m
    · rw [if_pos h2, if_pos h1, if_pos (by omega)]
    · rw [if_neg h2, if_neg (by omega)]
    · rw [if_pos h2, if_neg h1, if_neg (by omega)]
    · rw [if_neg h2, if_neg (by omega)])
theorem cut_is_iff {B K : List Int} {n : Nat} (hB : Ky B) : cut K n = B ↔ ∀ i, i < 256 → bit B i = if i < n then bit K i else 0 :=
  ⟨fun h i hi => by rw [← h]; exact bit_cut K n i hi, fun h => ky_ext (cut_ky _ _) hB (fun i hi => by rw [h i hi, bit_cut K n i hi])⟩

/-- how many first bits two keys share -/
def shrFrom (K L : List Int) : Nat → Nat → Nat
  | i, 0 => i
  | i, n + 1 => if bit K i = bit L i then shrFrom K L (i + 1) n else i
def shr (K L : List Int) : Nat := shrFrom K L 0 256
structure IsShr (K L : List Int) (m : Nat) : Prop where
  le : m ≤ 256
  same : ∀ i, i < m → bit K i = bit L i
  diff : m < 256 → bit K m ≠ bit L m
theorem shrFrom_is (K L : List Int) (n i : Nat) (h : i + n = 256) (hs : ∀ j, j < i → bit K j = bit L j) : IsShr K L (shrFrom K L i n) := by
  induction n generalizing i with
  | zero => exact ⟨by show i ≤ 256; omega, hs, fun h2 => by exfalso; have : i < 256 := h2; omega⟩
  | succ n ih =>
    unfold shrFrom
    split
    case isTrue he =>
      exact ih (i + 1) (by omega) (fun j hj => by
        by_cases hji : j = i
        · rw [hji]; exact he
        · exact hs j (by omega))
    case isFalse he => exact ⟨by omega, hs, fun _ => he⟩
theorem shr_is (K L : List Int) : IsShr K L (shr K L) := shrFrom_is K L 256 0 rfl (fun j hj => by omega)
theorem IsShr.eq {K L : List Int} {m : Nat} (h : IsShr K L m) : m = shr K L := by
  have g := shr_is K L
  rcases Nat.lt_trichotomy m (shr K L) with h1 | h1 | h1
  · exact absurd (g.same m h1) (h.diff (by have := g.le; omega))
  · exact h1
  · exact absurd (h.same _ h1) (g.diff (by have := h.le; omega))
theorem IsShr.symm {K L : List Int} {m : Nat} (h : IsShr K L m) : IsShr L K m := ⟨h.le, fun i hi => (h.same i hi).symm, fun hm e => h.diff hm e.symm⟩
theorem shr_comm (K L : List Int) : shr K L = shr L K := (shr_is K L).symm.eq
theorem shr_self (K : List Int) : shr K K = 256 := (IsShr.eq ⟨Nat.le_refl _, fun _ _ => rfl, fun h => absurd h (by decide)⟩).symm
theorem shr_eq_256 {K L : List Int} (hK : Ky K) (hL : Ky L) : shr K L = 256 ↔ K = L := by
  refine ⟨fun h => ky_ext hK hL (fun i hi => (shr_is K L).same i (by omega)), fun h => by rw [h]; exact shr_self L⟩
theorem le_shr_iff {K L : List Int} {n : Nat} (hn : n ≤ 256) : n ≤ shr K L ↔ cut K n = cut L n := by
  rw [cut_eq_iff]
  have g := shr_is K L
  refine ⟨fun h i hi hin => g.same i (by omega), fun h => ?_⟩
  rcases Nat.lt_or_ge (shr K L) n with h1 | h1
  · exact absurd (h _ (by omega) h1) (g.diff (by omega))
  · exact h1

/-- whether a key is less, bit by bit -/
def lss (K L : List Int) : Bool := decide (shr K L < 256 ∧ bit K (shr K L) = 0)
theorem lss_of {K L : List Int} {m : Nat} (h : IsShr K L m) : lss K L = decide (m < 256 ∧ bit K m = 0) := by rw [h.eq]; rfl
theorem lss_self (K : List Int) : lss K K = false := by unfold lss; rw [shr_self]; simp
theorem lss_asym {K L : List Int} (h : lss K L = true) : lss L K = false := by
  unfold lss at *
  have h2 := of_decide_eq_true h
  have g := shr_is K L
  apply decide_eq_false
  rintro ⟨h3, h4⟩
  rw [shr_comm] at h4
  exact g.diff h2.1 (by rw [h2.2, h4])
theorem lss_total {K L : List Int} (hK : Ky K) (hL : Ky L) (hne : K ≠ L) (h : lss K L = false) : lss L K = true := by
  unfold lss at *
  have h2 := of_decide_eq_false h
  have g := shr_is K L
  have h3 : shr K L < 256 := by
    have := g.le
    rcases Nat.lt_or_ge (shr K L) 256 with h1 | h1
    · exact h1
    · exact absurd ((shr_eq_256 hK hL).1 (by omega)) hne
  apply decide_eq_true
  rw [shr_comm]
  refine ⟨h3, ?_⟩
  have h4 : bit K (shr K L) ≠ 0 := fun e => h2 ⟨h3, e⟩
  have h5 := bit01 K (shr K L); have h6 := bit01 L (shr K L); have h7 := g.diff h3
  omega
theorem lss_trans {K L M : List Int} (h1 : lss K L = true) (h2 : lss L M = true) : lss K M = true := by
  unfold lss at h1 h2
  obtain ⟨a1, a2⟩ := of_decide_eq_true h1
  obtain ⟨b1, b2⟩ := of_decide_eq_true h2
  have g := shr_is K L; have k := shr_is L M
  generalize shr K L = n at *
  generalize shr L M = m at *
  have gd := g.diff a1; have kd := k.diff b1
  rcases Nat.lt_trichotomy n m with h | h | h
  · have hs : IsShr K M n := ⟨g.le, fun i hi => (g.same i hi).trans (k.same i (by omega)), fun _ => by rw [← k.same n h]; exact gd⟩
    rw [lss_of hs]; exact decide_eq_true ⟨a1, a2⟩
  · subst h
    exfalso
    have := bit01 L n
    omega
  · have hs : IsShr K M m := ⟨k.le, fun i hi => (g.same i (by omega)).trans (k.same i hi), fun _ => by rw [g.same m h]; exact kd⟩
    rw [lss_of hs]; exact decide_eq_true ⟨b1, by rw [g.same m h]; exact b2⟩
end Go.Proofs.Ytdaobhclcpgjbaa
