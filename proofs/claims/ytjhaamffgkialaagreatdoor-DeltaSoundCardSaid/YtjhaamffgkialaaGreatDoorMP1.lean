/-
  What this file is for: keys as rows of bits, and the words of the document on prefixes, in plain mathematics. Nothing of the program is walked here.
-/
import Derived.WalkKit
import Derived.ProofKit
import Derived.Test.YtjhaamffgkialaaGreatDoorMA1
import Derived.Test.YtjhaamffgkialaaGreatDoorRows
import Derived.OpenShut
import Derived.BigQuiet
import Derived.Deep.QuietTactic
import Derived.Deep.RegionHeld3
import Derived.Deep.MidRow
import Derived.IntWalk
import Derived.WalkSpells
import Derived.Laws.CopyOwn
import Derived.Laws.Rows
import Derived.Laws.StructEq
import Derived.Stop.BytesEq
import Derived.Lib.BitFns
import Derived.Lib.Bytealg
import Derived.Lib.BytesEntry
import Derived.Laws.Externs
import Derived.Laws.Tables
import Derived.Deep.DeepCutAuto
import Derived.Deep.RegionLaw
import Derived.StillTailTactics
set_option linter.unusedSimpArgs false
set_option linter.unusedVariables false
namespace Go.Proofs.YtjhaamffgkialaaGreatDoor
open Go.ChangeShapes Go.RowKit
set_option linter.unusedVariables false

/-- a key: 32 bytes -/
structure Ky (K : List Int) : Prop where
  len : K.length = 32
  bs : Bs K

/-- bit t of a byte, the most significant one first -/
def bt (x : Int) (t : Nat) : Int := x / 2 ^ (7 - t) % 2
theorem bt01 (x : Int) (t : Nat) : bt x t = 0 ∨ bt x t = 1 := by unfold bt; omega
/-- bit i of a key -/
def bit (K : List Int) (i : Nat) : Int := bt (K[i / 8]?.getD 0) (i % 8)
theorem bit01 (K : List Int) (i : Nat) : bit K i = 0 ∨ bit K i = 1 := bt01 _ _
def bitI (K : List Int) (i : Int) : Int := if 0 ≤ i ∧ i < 256 then bit K i.toNat else 0
theorem bitI_in (K : List Int) (i : Nat) (h : i < 256) : bitI K i = bit K i := by unfold bitI; rw [if_pos (by omega)]; simp
theorem bitI_out (K : List Int) (i : Int) (h : i < 0 ∨ 256 ≤ i) : bitI K i = 0 := by unfold bitI; rw [if_neg (by omega)]
theorem bitI01 (K : List Int) (i : Int) : bitI K i = 0 ∨ bitI K i = 1 := by
  unfold bitI; split
  · exact bit01 _ _
  · exact Or.inl rfl

theorem lt8 {t : Nat} (h : t < 8) : t = 0 ∨ t = 1 ∨ t = 2 ∨ t = 3 ∨ t = 4 ∨ t = 5 ∨ t = 6 ∨ t = 7 := by omega
theorem byte_ext (x y : Int) (hx : 0 ≤ x ∧ x < 256) (hy : 0 ≤ y ∧ y < 256) (h : ∀ t, t < 8 → bt x t = bt y t) : x = y := by
  have h0 := h 0 (by decide); have h1 := h 1 (by decide); have h2 := h 2 (by decide); have h3 := h 3 (by decide)
  have h4 := h 4 (by decide); have h5 := h 5 (by decide); have h6 := h 6 (by decide); have h7 := h 7 (by decide)
  simp only [bt] at h0 h1 h2 h3 h4 h5 h6 h7
  simp at h0 h1 h2 h3 h4 h5 h6 h7
  omega
theorem ky_ext {K L : List Int} (hK : Ky K) (hL : Ky L) (h : ∀ i, i < 256 → bit K i = bit L i) : K = L := by
  refine List.ext_getElem (by rw [hK.len, hL.len]) (fun j h1 h2 => ?_)
  have hj : j < 32 := by have := hK.len; omega
  refine byte_ext _ _ (hK.bs _ (List.getElem_mem h1)) (hL.bs _ (List.getElem_mem h2)) (fun t ht => ?_)
  have := h (8 * j + t) (by omega)
  unfold bit at this
  rw [show (8 * j + t) / 8 = j by omega, show (8 * j + t) % 8 = t by omega] at this
  simpa [h1, h2] using this

def byteOf (f : Nat → Int) (j : Nat) : Int :=
  f (8 * j) * 128 + f (8 * j + 1) * 64 + f (8 * j + 2) * 32 + f (8 * j + 3) * 16 + f (8 * j + 4) * 8 + f (8 * j + 5) * 4 + f (8 * j + 6) * 2 + f (8 * j + 7)
def B01 (f : Nat → Int) : Prop := ∀ i, f i = 0 ∨ f i = 1
/-- the key of these bits -/
def ofBits (f : Nat → Int) : List Int := (List.range 32).map (byteOf f)
theorem byteOf_lt {f : Nat → Int} (h : B01 f) (j : Nat) : 0 ≤ byteOf f j ∧ byteOf f j < 256 := by
  unfold byteOf
  have h0 := h (8 * j); have h1 := h (8 * j + 1); have h2 := h (8 * j + 2); have h3 := h (8 * j + 3)
  have h4 := h (8 * j + 4); have h5 := h (8 * j + 5); have h6 := h (8 * j + 6); have h7 := h (8 * j + 7)
  generalize f (8 * j) = a0 at *; generalize f (8 * j + 1) = a1 at *; generalize f (8 * j + 2) = a2 at *; generalize f (8 * j + 3) = a3 at *
  generalize f (8 * j + 4) = a4 at *; generalize f (8 * j + 5) = a5 at *; generalize f (8 * j + 6) = a6 at *; generalize f (8 * j + 7) = a7 at *
  have b0 : 0 ≤ a0 ∧ a0 ≤ 1 := by omega
  have b1 : 0 ≤ a1 ∧ a1 ≤ 1 := by omega
  have b2 : 0 ≤ a2 ∧ a2 ≤ 1 := by omega
  have b3 : 0 ≤ a3 ∧ a3 ≤ 1 := by omega
  have b4 : 0 ≤ a4 ∧ a4 ≤ 1 := by omega
  have b5 : 0 ≤ a5 ∧ a5 ≤ 1 := by omega
  have b6 : 0 ≤ a6 ∧ a6 ≤ 1 := by omega
  have b7 : 0 ≤ a7 ∧ a7 ≤ 1 := by omega
  clear h0 h1 h2 h3 h4 h5 h6 h7
  omega
theorem ofBits_len (f : Nat → Int) : (ofBits f).length = 32 := by simp [ofBits]
theorem ofBits_ky {f : Nat → Int} (h : B01 f) : Ky (ofBits f) := ⟨ofBits_len f, fun v hv => by
  unfold ofBits at hv
  simp only [List.mem_map] at hv
  obtain ⟨j, _, rfl⟩ := hv
  exact byteOf_lt h j⟩
theorem bt_byteOf {f : Nat → Int} (h : B01 f) (j t : Nat) (ht : t < 8) : bt (byteOf f j) t = f (8 * j + t) := by
  unfold bt byteOf
  have h0 := h (8 * j); have h1 := h (8 * j + 1); have h2 := h (8 * j + 2); have h3 := h (8 * j + 3)
  have h4 := h (8 * j + 4); have h5 := h (8 * j + 5); have h6 := h (8 * j + 6); have h7 := h (8 * j + 7)
  have e : f (8 * j) = f (8 * j + 0) := rfl
  rw [e] at h0 ⊢
  rcases lt8 ht with rfl | rfl | rfl | rfl | rfl | rfl | rfl | rfl <;>
  · generalize f (8 * j + 0) = a0 at *; generalize f (8 * j + 1) = a1 at *; generalize f (8 * j + 2) = a2 at *; generalize f (8 * j + 3) = a3 at *
    generalize f (8 * j + 4) = a4 at *; generalize f (8 * j + 5) = a5 at *; generalize f (8 * j + 6) = a6 at *; generalize f (8 * j + 7) = a7 at *
    have b0 : 0 ≤ a0 ∧ a0 ≤ 1 := by omega
    have b1 : 0 ≤ a1 ∧ a1 ≤ 1 := by omega
    have b2 : 0 ≤ a2 ∧ a2 ≤ 1 := by omega
    have b3 : 0 ≤ a3 ∧ a3 ≤ 1 := by omega
    have b4 : 0 ≤ a4 ∧ a4 ≤ 1 := by omega
    have b5 : 0 ≤ a5 ∧ a5 ≤ 1 := by omega
    have b6 : 0 ≤ a6 ∧ a6 ≤ 1 := by omega
    have b7 : 0 ≤ a7 ∧ a7 ≤ 1 := by omega
    clear h0 h1 h2 h3 h4 h5 h6 h7 ht h e
    simp
    omega
theorem bit_ofBits {f : Nat → Int} (h : B01 f) (i : Nat) (hi : i < 256) : bit (ofBits f) i = f i := by
  unfold bit ofBits
  rw [List.getElem?_map, List.getElem?_range (by omega)]
  simp only [Option.map_some, Option.getD_some]
  rw [bt_byteOf h _ _ (by omega), show 8 * (i / 8) + i % 8 = i by omega]
theorem eq_ofBits {K : List Int} {f : Nat → Int} (hK : Ky K) (hf : B01 f) (h : ∀ i, i < 256 → bit K i = f i) : K = ofBits f :=
  ky_ext hK (ofBits_ky hf) (fun i hi => by rw [h i hi, bit_ofBits hf i hi])

/-- the first n bits of a key -/
def cutF (K : List Int) (n : Nat) : Nat → Int := fun i => if i < n then bit K i else 0
theorem cutF01 (K : List Int) (n : Nat) : B01 (cutF K n) := fun i => by unfold cutF; split; exact bit01 _ _; exact Or.inl rfl
def cut (K : List Int) (n : Nat) : List Int := ofBits (cutF K n)
theorem cut_ky (K : List Int) (n : Nat) : Ky (cut K n) := ofBits_ky (cutF01 K n)
theorem bit_cut (K : List Int) (n i : Nat) (hi : i < 256) : bit (cut K n) i = if i < n then bit K i else 0 := bit_ofBits (cutF01 K n) i hi
def setF (K : List Int) (n : Nat) : Nat → Int := fun i => if i = n then 1 else bit K i
theorem setF01 (K : List Int) (n : Nat) : B01 (setF K n) := fun i => by unfold setF; split; exact Or.inr rfl; exact bit01 _ _
/-- a key with one bit made 1 -/
def setb (K : List Int) (n : Nat) : List Int := ofBits (setF K n)
theorem setb_ky (K : List Int) (n : Nat) : Ky (setb K n) := ofBits_ky (setF01 K n)
theorem bit_setb (K : List Int) (n i : Nat) (hi : i < 256) : bit (setb K n) i = if i = n then 1 else bit K i := bit_ofBits (setF01 K n) i hi
theorem cut_all {K : List Int} (hK : Ky K) (n : Nat) (h : 256 ≤ n) : cut K n = K :=
  ky_ext (cut_ky K n) hK (fun i hi => by rw [bit_cut K n i hi, if_pos (by omega)])
theorem cut_eq {K L : List Int} {n : Nat} (h : ∀ i, i < 256 → i < n → bit K i = bit L i) : cut K n = cut L n :=
  ky_ext (cut_ky K n) (cut_ky L n) (fun i hi => by
    rw [bit_cut K n i hi, bit_cut L n i hi]
    by_cases hn : i < n
    · rw [if_pos hn, if_pos hn]; exact h i hi hn
    · rw [if_neg hn, if_neg hn])
theorem cut_eq_iff {K L : List Int} {n : Nat} : cut K n = cut L n ↔ ∀ i, i < 256 → i < n → bit K i = bit L i := by
  refine ⟨fun h i hi hn => ?_, cut_eq⟩
  have h1 := bit_cut K n i hi
  rw [h, bit_cut L n i hi, if_pos hn, if_pos hn] at h1
  exact h1.symm
theorem cut_cut (K : List Int) (n m : Nat) : cut (cut K n) m = cut K (min n m) :=
  ky_ext (cut_ky _ _) (cut_ky _ _) (fun i hi => by
    rw [bit_cut _ _ i hi, bit_cut _ _ i hi, bit_cut _ _ i hi]
    by_cases h1 : i < n <;> by_cases h2 : i < m
    · rw [if_pos h2, if_pos h1, if_pos (by omega)]
    · rw [if_neg h2, if_neg (by omega)]
    · rw [if_pos h2, if_neg h1, if_neg (by omega)]
    · rw [if_neg h2, if_neg (by omega)])
theorem cut_is_iff {B K : List Int} {n : Nat} (hB : Ky B) : cut K n = B ↔ ∀ i, i < 256 → bit B i = if i < n then bit K i else 0 :=
  ⟨fun h i hi => by rw [← h]; exact bit_cut K n i hi, fun h => ky_ext (cut_ky _ _) hB (fun i hi => by rw [h i hi, bit_cut K n i hi])⟩

/-- how many first bits two keys share -/
def shrFrom (K L : List Int) : Nat → Nat → Nat
  | i, 0 => i
  | i, n + 1 => if bit K i = bit L i then shrFrom K L (i + 1) n else i
def shr (K L : List Int) : Nat := shrFrom K L 0 256
structure IsShr (K L : List Int) (m : Nat) : Prop where
  le : m ≤ 256
  same : ∀ i, i < m → bit K i = bit L i
  diff : m < 256 → bit K m ≠ bit L m
theorem shrFrom_is (K L : List Int) (n i : Nat) (h : i + n = 256) (hs : ∀ j, j < i → bit K j = bit L j) : IsShr K L (shrFrom K L i n) := by
  induction n generalizing i with
  | zero => exact ⟨by show i ≤ 256; omega, hs, fun h2 => by exfalso; have : i < 256 := h2; omega⟩
  | succ n ih =>
    unfold shrFrom
    split
    case isTrue he =>
      exact ih (i + 1) (by omega) (fun j hj => by
        by_cases hji : j = i
        · rw [hji]; exact he
        · exact hs j (by omega))
    case isFalse he => exact ⟨by omega, hs, fun _ => he⟩
theorem shr_is (K L : List Int) : IsShr K L (shr K L) := shrFrom_is K L 256 0 rfl (fun j hj => by omega)
theorem IsShr.eq {K L : List Int} {m : Nat} (h : IsShr K L m) : m = shr K L := by
  have g := shr_is K L
  rcases Nat.lt_trichotomy m (shr K L) with h1 | h1 | h1
  · exact absurd (g.same m h1) (h.diff (by have := g.le; omega))
  · exact h1
  · exact absurd (h.same _ h1) (g.diff (by have := h.le; omega))
theorem IsShr.symm {K L : List Int} {m : Nat} (h : IsShr K L m) : IsShr L K m := ⟨h.le, fun i hi => (h.same i hi).symm, fun hm e => h.diff hm e.symm⟩
theorem shr_comm (K L : List Int) : shr K L = shr L K := (shr_is K L).symm.eq
theorem shr_self (K : List Int) : shr K K = 256 := (IsShr.eq ⟨Nat.le_refl _, fun _ _ => rfl, fun h => absurd h (by decide)⟩).symm
theorem shr_eq_256 {K L : List Int} (hK : Ky K) (hL : Ky L) : shr K L = 256 ↔ K = L := by
  refine ⟨fun h => ky_ext hK hL (fun i hi => (shr_is K L).same i (by omega)), fun h => by rw [h]; exact shr_self L⟩
theorem le_shr_iff {K L : List Int} {n : Nat} (hn : n ≤ 256) : n ≤ shr K L ↔ cut K n = cut L n := by
  rw [cut_eq_iff]
  have g := shr_is K L
  refine ⟨fun h i hi hin => g.same i (by omega), fun h => ?_⟩
  rcases Nat.lt_or_ge (shr K L) n with h1 | h1
  · exact absurd (h _ (by omega) h1) (g.diff (by omega))
  · exact h1

/-- whether a key is less, bit by bit -/
def lss (K L : List Int) : Bool := decide (shr K L < 256 ∧ bit K (shr K L) = 0)
theorem lss_of {K L : List Int} {m : Nat} (h : IsShr K L m) : lss K L = decide (m < 256 ∧ bit K m = 0) := by rw [h.eq]; rfl
theorem lss_self (K : List Int) : lss K K = false := by unfold lss; rw [shr_self]; simp
theorem lss_asym {K L : List Int} (h : lss K L = true) : lss L K = false := by
  unfold lss at *
  have h2 := of_decide_eq_true h
  have g := shr_is K L
  apply decide_eq_false
  rintro ⟨h3, h4⟩
  rw [shr_comm] at h4
  exact g.diff h2.1 (by rw [h2.2, h4])
theorem lss_total {K L : List Int} (hK : Ky K) (hL : Ky L) (hne : K ≠ L) (h : lss K L = false) : lss L K = true := by
  unfold lss at *
  have h2 := of_decide_eq_false h
  have g := shr_is K L
  have h3 : shr K L < 256 := by
    have := g.le
    rcases Nat.lt_or_ge (shr K L) 256 with h1 | h1
    · exact h1
    · exact absurd ((shr_eq_256 hK hL).1 (by omega)) hne
  apply decide_eq_true
  rw [shr_comm]
  refine ⟨h3, ?_⟩
  have h4 : bit K (shr K L) ≠ 0 := fun e => h2 ⟨h3, e⟩
  have h5 := bit01 K (shr K L); have h6 := bit01 L (shr K L); have h7 := g.diff h3
  omega
theorem lss_trans {K L M : List Int} (h1 : lss K L = true) (h2 : lss L M = true) : lss K M = true := by
  unfold lss at h1 h2
  obtain ⟨a1, a2⟩ := of_decide_eq_true h1
  obtain ⟨b1, b2⟩ := of_decide_eq_true h2
  have g := shr_is K L; have k := shr_is L M
  generalize shr K L = n at *
  generalize shr L M = m at *
  have gd := g.diff a1; have kd := k.diff b1
  rcases Nat.lt_trichotomy n m with h | h | h
  · have hs : IsShr K M n := ⟨g.le, fun i hi => (g.same i hi).trans (k.same i (by omega)), fun _ => by rw [← k.same n h]; exact gd⟩
    rw [lss_of hs]; exact decide_eq_true ⟨a1, a2⟩
  · subst h
    exfalso
    have := bit01 L n
    omega
  · have hs : IsShr K M m := ⟨k.le, fun i hi => (g.same i (by omega)).trans (k.same i hi), fun _ => by rw [g.same m h]; exact kd⟩
    rw [lss_of hs]; exact decide_eq_true ⟨b1, by rw [g.same m h]; exact b2⟩
end Go.Proofs.YtjhaamffgkialaaGreatDoor
/-
  What this file is for: words for blocks of memory that are known whole, for keys and beginnings of keys as values. Nothing of the program is walked here.
-/
namespace Go.Proofs.YtjhaamffgkialaaGreatDoor
open Go.ChangeShapes Go.WideShapes Go.ChangeAt Go.RowKit
set_option linter.unusedVariables false

section
variable {w w' : World} {g : Nat} {t : TypeId} {cs : Array Value}
theorem Blk.below (h : Blk w g t cs) (hb : Below w.heap.size w w') : Blk w' g t cs := h.same (hb.block g h.lt)
end
/-- a key's cells -/
def kc (K : List Int) : Array Value := (u8s K).toArray
theorem kc_size {K : List Int} (h : Ky K) : (kc K).size = 32 := by rw [kc, List.size_toArray, u8s_length, h.len]
theorem kc_at {K : List Int} (h : Ky K) (i : Nat) (hi : i < 32) : (kc K)[i]? = some (.int .u8 (K[i]?.getD 0)) := by
  rw [kc, List.getElem?_toArray]; exact u8s_get K i (by rw [h.len]; exact hi)
theorem kc_one (K : List Int) : (kc K).all (·.oneCell') = true := by
  rw [Array.all_eq_true']
  intro v hv
  exact u8s_one K v (by simpa [kc] using hv)
theorem kc_info {K : List Int} (h : Ky K) : (Tryz.prog.info? 25).map (·.size) = some (kc K).size := by rw [kc_size h]; kernel_rfl
/-- the cells of a beginning: its length, and its bits -/
def pc (l : Int) (B : List Int) : Array Value := (Value.int .i64 l :: u8s B).toArray
theorem pc_size (l : Int) {B : List Int} (h : Ky B) : (pc l B).size = 33 := by rw [pc, List.size_toArray, List.length_cons, u8s_length, h.len]
theorem pc_0 (l : Int) (B : List Int) : (pc l B)[0]? = some (.int .i64 l) := rfl
theorem pc_at (l : Int) {B : List Int} (h : Ky B) (i : Nat) (hi : i < 32) : (pc l B)[i + 1]? = some (.int .u8 (B[i]?.getD 0)) := by
  rw [pc, List.getElem?_toArray, List.getElem?_cons_succ]; exact u8s_get B i (by rw [h.len]; exact hi)
theorem pc_one (l : Int) (B : List Int) : (pc l B).all (·.oneCell') = true := by
  rw [Array.all_eq_true']
  intro v hv
  simp only [pc, List.mem_toArray, List.mem_cons] at hv
  rcases hv with rfl | hv
  · rfl
  · exact u8s_one B v hv
theorem pc_info (l : Int) {B : List Int} (h : Ky B) : (Tryz.prog.info? 47).map (·.size) = some (pc l B).size := by rw [pc_size l h]; kernel_rfl
/-- the bits of a beginning lie in its block from cell 1 on -/
theorem pc_range {w : World} {g : Nat} {l : Int} {B : List Int} (h : Blk w g 47 (pc l B)) : w.rangeAt g 1 (u8s B) := fun j v hv => by
  rw [h.cell, pc, List.getElem?_toArray, Nat.add_comm 1 j, List.getElem?_cons_succ]; exact hv
end Go.Proofs.YtjhaamffgkialaaGreatDoor
/-
  What is proved here: a byte's turning, and what Bit answers, the code's and the document's.
-/
namespace Go.Proofs.YtjhaamffgkialaaGreatDoor
open Go.ChangeShapes Go.WideShapes Go.ChangeAt Go.RowKit
set_option linter.unusedVariables false

/-- a byte turned to the left -/
def rot (x : Int) (s : Nat) : Int := bits .or .u8 (x * 2 ^ s % 256) (x / 2 ^ (8 - s))
theorem cnt_up : ∀ t : Fin 8, bits .and .u64 (IntKind.u64.wrap ((t.val : Int) + 1)) 7 = (((t.val + 1) % 8 : Nat) : Int) := by decide +kernel
theorem cnt_down : ∀ t : Fin 8, bits .and .u64 (IntKind.u64.wrap (-((t.val : Int) + 1))) 7 = ((7 - t.val : Nat) : Int) := by decide +kernel
theorem rot_bit_f : ∀ t : Fin 8, ∀ x : Fin 256, bits .and .u8 (rot (x.val : Int) ((t.val + 1) % 8)) 1 = bt (x.val : Int) t.val := by decide +kernel
theorem rot_bit (x : Int) (h0 : 0 ≤ x) (h1 : x < 256) (t : Nat) (ht : t < 8) : bits .and .u8 (rot x ((t + 1) % 8)) 1 = bt x t := by
  have h := rot_bit_f ⟨t, ht⟩ ⟨x.toNat, by omega⟩
  simp only at h
  rwa [show ((x.toNat : Nat) : Int) = x by omega] at h

set_option maxHeartbeats 400000 in
theorem rotb_any (x : Int) (h0 : 0 ≤ x) (h1 : x < 256) (k : Int) (s : Nat) (hs : s < 8) (hc : bits .and .u64 (IntKind.u64.wrap k) 7 = (s : Int)) (w : World) :
    Calls Tryz.prog 72 #[.int .u8 x, .int .i64 k] w fun e w' => e = .returned (.int .u8 (rot x s)) ∧ w = w' := by
  go_enter Tryz.func72, Tryz.ntmps72
  go_wp2
  go_ret
  exact ⟨rfl, rfl⟩

set_option maxHeartbeats 400000 in
theorem pBit_in (K : List Int) (hK : Ky K) (i : Nat) (hi : i < 256) (w : World) :
    Calls Tryz.prog 50 #[.agg (kc K), .int .i64 i] w fun e w' => e = .returned (.int .i64 (bit K i)) ∧ Below w.heap.size w w' := by
  have hc := kc_at hK (i / 8) (by omega)
  have hb := hK.bs.at (i / 8)
  have hr := fun w => rotb_any (K[i / 8]?.getD 0) hb.1 hb.2 (↑i % 8 + 1) ((i % 8 + 1) % 8) (by omega) (by have := cnt_up ⟨i % 8, by omega⟩; simpa using this) w
  have hx : bits .and .u8 (rot (K[i / 8]?.getD 0) ((i % 8 + 1) % 8)) 1 = bit K i := rot_bit _ hb.1 hb.2 (i % 8) (by omega)
  generalize rot (K[i / 8]?.getD 0) ((i % 8 + 1) % 8) = r at hr hx
  have b01 := bit01 K i
  have b0 : 0 ≤ bit K i := by omega
  have b1 : bit K i ≤ 1 := by omega
  generalize bit K i = v at hx b0 b1 ⊢
  have HR := hid hr
  clear hr b01
  go_enter Tryz.func50, Tryz.ntmps50
  go_wp2_with (go_at_call 72; refine (HR.out _).mono ?_; rintro e w1 ⟨rfl, rfl⟩)
  go_ret
  exact ⟨rfl, (Below.refl _ _).alloc (Nat.le_refl _) _⟩
set_option maxHeartbeats 400000 in
theorem pBit_out (K : List Int) (i : Int) (hi : i < 0 ∨ 256 ≤ i) (w : World) :
    Calls Tryz.prog 50 #[.agg (kc K), .int .i64 i] w fun e w' => e = .returned (.int .i64 0) ∧ Below w.heap.size w w' := by
  rcases hi with hi | hi
  · go_enter Tryz.func50, Tryz.ntmps50
    go_wp2
    go_ret
    exact ⟨rfl, (Below.refl _ _).alloc (Nat.le_refl _) _⟩
  · have h0 : ¬ i < 0 := by omega
    go_enter Tryz.func50, Tryz.ntmps50
    go_wp2
    go_ret
    exact ⟨rfl, (Below.refl _ _).alloc (Nat.le_refl _) _⟩
theorem pBit_any (K : List Int) (hK : Ky K) (i : Int) (w : World) :
    Calls Tryz.prog 50 #[.agg (kc K), .int .i64 i] w fun e w' => e = .returned (.int .i64 (bitI K i)) ∧ Below w.heap.size w w' := by
  by_cases h : i < 0 ∨ 256 ≤ i
  · rw [bitI_out K i h]; exact pBit_out K i h w
  · obtain ⟨n, rfl⟩ : ∃ n : Nat, i = n := ⟨i.toNat, by omega⟩
    rw [bitI_in K n (by omega)]; exact pBit_in K hK n (by omega) w

theorem div_step (x : Int) (n : Nat) : x / 2 ^ n / 2 = x / 2 ^ (n + 1) := by
  rw [Int.ediv_ediv_of_nonneg (Int.pow_nonneg (by decide)), Int.pow_succ]
set_option maxHeartbeats 400000 in
theorem rBit_in (K : List Int) (hK : Ky K) (i : Nat) (hi : i < 256) (w : World) :
    Calls Tryz.prog 68 #[.agg (kc K), .int .i64 i] w fun e w' => e = .returned (.int .i64 (bit K i)) ∧ Below w.heap.size w w' := by
  have hc := kc_at hK (i / 8) (by omega)
  have hb := hK.bs.at (i / 8)
  have hbit : bit K i = (K[i / 8]?.getD 0) / 2 ^ (7 - i % 8) % 2 := rfl
  generalize K[i / 8]?.getD 0 = x at hc hb hbit
  obtain ⟨b0, b1⟩ := hb
  rw [hbit]
  clear hbit
  obtain ⟨m, hm, hm2⟩ : ∃ m : Nat, m = 7 - i % 8 ∧ (7 : Int) - (i : Int) % 8 = m := ⟨_, rfl, by omega⟩
  have HM := hid hm
  rw [← hm]
  clear hm
  go_enter Tryz.func68, Tryz.ntmps68
  go_wp2
  go_loop [5, 6] (fun y n => ∃ k : Nat, k ≤ m ∧ n = .int .i64 k ∧ y = .int .i64 (x / 2 ^ k)) (fun _ n => m - (intOf n).toNat)
  case atStart => exact ⟨0, Nat.zero_le _, rfl, by simp⟩
  case round =>
    obtain ⟨k, hk, rfl, rfl⟩ := hrel
    have hq0 : 0 ≤ x / 2 ^ k := Int.ediv_nonneg b0 (Int.pow_nonneg (by decide))
    have hq1 : x / 2 ^ k < 256 := Int.lt_of_le_of_lt (Int.ediv_le_self _ b0) b1
    have hs := div_step x k
    have HS := hid hs
    have hm7 : m ≤ 7 := by have := HM.out; omega
    clear hs
    by_cases hlt : k < m
    · go_wp2
      go_round
      case rel => exact ⟨k + 1, by omega, by go_num, by rw [← HS.out]⟩
      case measure => simp [intOf]; omega
    · have he : k = m := by omega
      subst he
      go_wp2
      go_ret
      exact ⟨rfl, (Below.refl _ _).alloc (Nat.le_refl _) _⟩
set_option maxHeartbeats 400000 in
theorem rBit_out (K : List Int) (i : Int) (hi : i < 0 ∨ 256 ≤ i) (w : World) :
    Calls Tryz.prog 68 #[.agg (kc K), .int .i64 i] w fun e w' => e = .returned (.int .i64 0) ∧ Below w.heap.size w w' := by
  rcases hi with hi | hi
  · go_enter Tryz.func68, Tryz.ntmps68
    go_wp2
    go_ret
    exact ⟨rfl, (Below.refl _ _).alloc (Nat.le_refl _) _⟩
  · have h0 : ¬ i < 0 := by omega
    go_enter Tryz.func68, Tryz.ntmps68
    go_wp2
    go_ret
    exact ⟨rfl, (Below.refl _ _).alloc (Nat.le_refl _) _⟩
theorem rBit_any (K : List Int) (hK : Ky K) (i : Int) (w : World) :
    Calls Tryz.prog 68 #[.agg (kc K), .int .i64 i] w fun e w' => e = .returned (.int .i64 (bitI K i)) ∧ Below w.heap.size w w' := by
  by_cases h : i < 0 ∨ 256 ≤ i
  · rw [bitI_out K i h]; exact rBit_out K i h w
  · obtain ⟨n, rfl⟩ : ∃ n : Nat, i = n := ⟨i.toNat, by omega⟩
    rw [bitI_in K n (by omega)]; exact rBit_in K hK n (by omega) w
end Go.Proofs.YtjhaamffgkialaaGreatDoor
/-
  What this file is for: from bytes to bits: a byte's leading noughts, and which of two rows of bytes is less. Nothing of the program is walked here.
-/
namespace Go.Proofs.YtjhaamffgkialaaGreatDoor
open Go.ChangeShapes Go.RowKit
set_option linter.unusedVariables false

theorem bt_nat (a : Nat) (t : Nat) : bt (a : Int) t = if a.testBit (7 - t) then 1 else 0 := by
  unfold bt
  rw [Nat.testBit_eq_decide_div_mod_eq]
  have e : ((a : Int) / 2 ^ (7 - t) % 2) = ((a / 2 ^ (7 - t) % 2 : Nat) : Int) := by simp
  rw [e]
  by_cases h : a / 2 ^ (7 - t) % 2 = 1
  · simp [h]
  · have : a / 2 ^ (7 - t) % 2 = 0 := by omega
    simp [this]
theorem xor_nat (a b : Nat) (ha : a < 256) (hb : b < 256) : bits .xor .u8 (a : Int) (b : Int) = ((a ^^^ b : Nat) : Int) := by
  show IntKind.u8.wrap ((BitVec.ofInt 8 (a : Int) ^^^ BitVec.ofInt 8 (b : Int)).toNat : Int) = _
  have hx : a ^^^ b < 2 ^ 8 := Nat.xor_lt_two_pow ha hb
  have e1 : BitVec.ofInt 8 (a : Int) = BitVec.ofNat 8 a := by simp
  have e2 : BitVec.ofInt 8 (b : Int) = BitVec.ofNat 8 b := by simp
  rw [e1, e2, BitVec.toNat_xor, BitVec.toNat_ofNat, BitVec.toNat_ofNat, Nat.mod_eq_of_lt ha, Nat.mod_eq_of_lt hb]
  simp [IntKind.wrap, IntKind.bits, IntKind.signed]
  omega
theorem lead_f : ∀ c : Fin 256, c.val ≠ 0 → 0 < Lib.bitLen c.val ∧ Lib.bitLen c.val ≤ 8 ∧ (∀ t : Fin 8, t.val < 8 - Lib.bitLen c.val → c.val.testBit (7 - t.val) = false) ∧ c.val.testBit (7 - (8 - Lib.bitLen c.val)) = true := by decide +kernel
/-- the leading noughts of what two bytes differ in -/
theorem lead_xor (x y : Int) (hx : 0 ≤ x ∧ x < 256) (hy : 0 ≤ y ∧ y < 256) (hne : x ≠ y) :
    ∃ c : Nat, bits .xor .u8 x y = (c : Int) ∧ c < 256 ∧ Lib.bitLen c ≤ 8 ∧ 0 < Lib.bitLen c ∧ (∀ t, t < 8 - Lib.bitLen c → bt x t = bt y t) ∧ bt x (8 - Lib.bitLen c) ≠ bt y (8 - Lib.bitLen c) := by
  obtain ⟨a, rfl⟩ : ∃ a : Nat, x = a := ⟨x.toNat, by omega⟩
  obtain ⟨b, rfl⟩ : ∃ b : Nat, y = b := ⟨y.toNat, by omega⟩
  have ha : a < 256 := by omega
  have hb : b < 256 := by omega
  have hc : a ^^^ b < 2 ^ 8 := Nat.xor_lt_two_pow ha hb
  have h0 : a ^^^ b ≠ 0 := fun h => hne (by
    have : a = b := Nat.eq_of_testBit_eq (fun i => by
      have h1 := Nat.testBit_xor a b i
      rw [h, Nat.zero_testBit] at h1
      cases h2 : a.testBit i <;> cases h3 : b.testBit i <;> simp_all)
    rw [this])
  obtain ⟨l0, l1, l2, l3⟩ := lead_f ⟨a ^^^ b, hc⟩ h0
  simp only at l0 l1 l2 l3
  refine ⟨a ^^^ b, xor_nat a b ha hb, hc, l1, l0, fun t ht => ?_, ?_⟩
  · have h1 := l2 ⟨t, by omega⟩ ht
    simp only at h1
    rw [Nat.testBit_xor] at h1
    rw [bt_nat, bt_nat]
    cases h2 : a.testBit (7 - t) <;> cases h3 : b.testBit (7 - t) <;> simp_all
  · rw [Nat.testBit_xor] at l3
    rw [bt_nat, bt_nat]
    generalize 7 - (8 - Lib.bitLen (a ^^^ b)) = t at l3 ⊢
    cases h2 : a.testBit t <;> cases h3 : b.testBit t <;> simp_all
theorem bit_at (K : List Int) (j t : Nat) (ht : t < 8) : bit K (8 * j + t) = bt (K[j]?.getD 0) t := by
  unfold bit
  rw [show (8 * j + t) / 8 = j by omega, show (8 * j + t) % 8 = t by omega]
theorem same_bits {K L : List Int} {j : Nat} (h : ∀ i, i < j → K[i]?.getD 0 = L[i]?.getD 0) (i : Nat) (hi : i < 8 * j) : bit K i = bit L i := by
  unfold bit
  rw [h (i / 8) (by omega)]
/-- where the first bytes are the same, and the next ones aren't, the shared bits are those, and some of the next ones -/
theorem shr_at {K L : List Int} (j : Nat) (hj : j < 32) (h : ∀ i, i < j → K[i]?.getD 0 = L[i]?.getD 0) (z : Nat) (hz : z < 8)
    (hs : ∀ t, t < z → bt (K[j]?.getD 0) t = bt (L[j]?.getD 0) t) (hd : bt (K[j]?.getD 0) z ≠ bt (L[j]?.getD 0) z) : IsShr K L (8 * j + z) := by
  refine ⟨by omega, fun i hi => ?_, fun _ => by rw [bit_at K j z hz, bit_at L j z hz]; exact hd⟩
  rcases Nat.lt_or_ge i (8 * j) with h1 | h1
  · exact same_bits h i h1
  · obtain ⟨t, rfl⟩ : ∃ t, i = 8 * j + t := ⟨i - 8 * j, by omega⟩
    rw [bit_at K j t (by omega), bit_at L j t (by omega)]
    exact hs t (by omega)
theorem shr_xor {K L : List Int} (hK : Ky K) (hL : Ky L) (j : Nat) (hj : j < 32) (h : ∀ i, i < j → K[i]?.getD 0 = L[i]?.getD 0) (hne : K[j]?.getD 0 ≠ L[j]?.getD 0) :
    ∃ c : Nat, bits .xor .u8 (K[j]?.getD 0) (L[j]?.getD 0) = (c : Int) ∧ c < 256 ∧ Lib.bitLen c ≤ 8 ∧ 0 < Lib.bitLen c ∧ shr K L = 8 * j + (8 - Lib.bitLen c) := by
  obtain ⟨c, h1, h2, h3, h4, h5, h6⟩ := lead_xor _ _ (hK.bs.at j) (hL.bs.at j) hne
  exact ⟨c, h1, h2, h3, h4, (shr_at j hj h (8 - Lib.bitLen c) (by omega) h5 h6).eq.symm⟩
theorem shr_full {K L : List Int} (h : ∀ i, i < 32 → K[i]?.getD 0 = L[i]?.getD 0) : shr K L = 256 :=
  (IsShr.eq ⟨Nat.le_refl _, fun i hi => same_bits h i (by omega), fun h => absurd h (by decide)⟩).symm
theorem less_bit (x y : Int) (hx : 0 ≤ x ∧ x < 256) (hy : 0 ≤ y ∧ y < 256) (z : Nat) (hz : z < 8) (hs : ∀ t, t < z → bt x t = bt y t) (hd : bt x z ≠ bt y z) :
    bt x z = 0 ↔ x < y := by
  have h0 := hs 0; have h1 := hs 1; have h2 := hs 2; have h3 := hs 3; have h4 := hs 4; have h5 := hs 5; have h6 := hs 6
  clear hs
  rcases lt8 hz with rfl | rfl | rfl | rfl | rfl | rfl | rfl | rfl <;> simp [bt] at * <;> omega
/-- the first difference of two rows of bytes tells which is less -/
theorem lss_at {K L : List Int} (hK : Ky K) (hL : Ky L) (j : Nat) (hj : j < 32) (h : ∀ i, i < j → K[i]?.getD 0 = L[i]?.getD 0) (hne : K[j]?.getD 0 ≠ L[j]?.getD 0) :
    lss K L = decide (K[j]?.getD 0 < L[j]?.getD 0) := by
  obtain ⟨c, h1, h2, h3, h4, h5, h6⟩ := lead_xor _ _ (hK.bs.at j) (hL.bs.at j) hne
  rw [lss_of (shr_at j hj h (8 - Lib.bitLen c) (by omega) h5 h6), bit_at K j _ (by omega)]
  have h7 := less_bit _ _ (hK.bs.at j) (hL.bs.at j) _ (by omega) h5 h6
  rw [decide_eq_decide]
  rw [h7]
  exact ⟨fun h => h.2, fun h => ⟨by omega, h⟩⟩
end Go.Proofs.YtjhaamffgkialaaGreatDoor
/-
  What is proved here: how many first bits two keys share, as the code and as the document tell it.
-/
namespace Go.Proofs.YtjhaamffgkialaaGreatDoor
open Go.ChangeShapes Go.WideShapes Go.ChangeAt Go.RowKit
set_option linter.unusedVariables false

theorem pbelow_drewN {B : Nat} {a w : World} (h : Below B a w) (n : Nat) : Below B a (w.drewN n) := ⟨h.os, h.tape, h.output, h.size, h.block⟩
theorem lenb_any (x : Int) (h0 : 0 ≤ x) (h1 : x ≤ 255) (w : World) :
    Calls Tryz.prog 114 #[.int .u8 x] w fun e w' => e = .returned (.int .i64 (Lib.bitLen x.toNat)) ∧ w = w' := by
  have hq : wrap64 (Lib.len8 x) = (Lib.bitLen x.toNat : Int) := by
    have h := Lib.len8_int x h0 h1
    rw [← h]
    unfold wrap64
    rfl
  go_enter Tryz.func114, Tryz.ntmps114
  go_wp2
  go_ret
  exact ⟨congrArg (fun q => Ending.returned (.int .i64 q)) hq, rfl⟩
theorem lzb_any (c : Nat) (h : c < 256) (w : World) :
    Calls Tryz.prog 99 #[.int .u8 c] w fun e w' => e = .returned (.int .i64 (8 - (Lib.bitLen c : Int))) ∧ w' = w := by
  have l := Lib.bitLen_le8 ⟨c, h⟩
  simp only at l
  have hl := fun w => lenb_any c (by omega) (by omega) w
  rw [show ((c : Nat) : Int).toNat = c by omega] at hl
  generalize Lib.bitLen c = n at l hl ⊢
  have HL := hid hl
  clear hl
  go_enter Tryz.func99, Tryz.ntmps99
  go_wp2_with (go_at_call 114; refine (HL.out _).mono ?_; rintro e w' ⟨rfl, rfl⟩)
  go_ret
  exact ⟨rfl, rfl⟩

set_option maxHeartbeats 1000000 in
theorem pShared_any (K L : List Int) (hK : Ky K) (hL : Ky L) (w : World) :
    Calls Tryz.prog 76 #[.agg (kc K), .agg (kc L)] w fun e w' => e = .returned (.int .i64 (shr K L)) ∧ Below w.heap.size w w' := by
  have hk1 : Blk ((w.alloc (.cells (kc K) 25)).alloc (.cells (kc L) 25)) w.heap.size 25 (kc K) := (Blk.new w 25 _).alloc _
  have hk2 : Blk ((w.alloc (.cells (kc K) 25)).alloc (.cells (kc L) 25)) (w.heap.size + 1) 25 (kc L) := by
    have := Blk.new (w.alloc (.cells (kc K) 25)) 25 (kc L)
    rwa [show (w.alloc (.cells (kc K) 25)).heap.size = w.heap.size + 1 by simp] at this
  have hb0 : Below w.heap.size w ((w.alloc (.cells (kc K) 25)).alloc (.cells (kc L) 25)) := ((Below.refl _ _).alloc (Nat.le_refl _) _).alloc (by simp) _
  have K1 := hid hk1; have K2 := hid hk2; have B0 := hid hb0
  clear hk1 hk2 hb0
  obtain ⟨S, hS⟩ : ∃ S, S = shr K L := ⟨_, rfl⟩
  have HS := hid hS
  rw [← hS]
  clear hS
  go_enter Tryz.func76, Tryz.ntmps76
  go_wp2
  generalize (w.alloc (.cells (kc K) 25)).alloc (.cells (kc L) 25) = w0 at K1 K2 B0 ⊢
  go_loopw [5, 6] (fun _ n wr => ∃ k : Nat, k ≤ 32 ∧ n = .int .i64 k ∧ Hid (∀ i, i < k → K[i]?.getD 0 = L[i]?.getD 0) ∧ Hid (Blk wr w.heap.size 25 (kc K)) ∧ Hid (Blk wr (w.heap.size + 1) 25 (kc L)) ∧ Hid (Below w.heap.size w wr)) (fun _ n _ => 32 - (intOf n).toNat)
  case atStart => exact ⟨0, Nat.zero_le _, rfl, fun i hi => by omega, K1.out, K2.out, B0.out⟩
  case round =>
    obtain ⟨k, hk, rfl, HE, HK1, HK2, HB⟩ := hrel
    clear K1 K2 B0
    by_cases hlt : k < 32
    · obtain ⟨x, hx⟩ : ∃ x, x = K[k]?.getD 0 := ⟨_, rfl⟩
      obtain ⟨y, hy⟩ : ∃ y, y = L[k]?.getD 0 := ⟨_, rfl⟩
      have c1 : wr.cell? ⟨w.heap.size, k, none⟩ = some (.int .u8 x) := by rw [HK1.out.cell, hx]; exact kc_at hK k hlt
      have c2 : wr.cell? ⟨w.heap.size + 1, k, none⟩ = some (.int .u8 y) := by rw [HK2.out.cell, hy]; exact kc_at hL k hlt
      have i0 : (0 : Int) ≤ (k : Int) := by omega
      have i1 : (k : Int) < 32 := by omega
      have HX := hid hx; have HY := hid hy
      clear hx hy
      by_cases he : x = y
      · subst he
        go_wp2
        go_quiet (fail)
        go_wp2
        exact ⟨⟨k + 1, by omega, by go_num, fun i hi => by
          rcases Nat.lt_or_ge i k with h | h
          · exact HE.out i h
          · rw [show i = k by omega, ← HX.out, ← HY.out], HK1.out, HK2.out, ⟨HB.out.os, HB.out.tape, HB.out.output, HB.out.size, HB.out.block⟩⟩, by simp [intOf]; omega⟩
      · have h1 : (x == y) = false := by simpa using he
        have h2 : (x != y) = true := by simpa using he
        obtain ⟨c, hc, hcl, hc8, hc0, hsh⟩ := shr_xor hK hL k hlt HE.out (by rw [← HX.out, ← HY.out]; exact he)
        rw [← HX.out, ← HY.out] at hc
        have HSH := hid hsh
        have HL := hid (fun w => lzb_any c hcl w)
        generalize Lib.bitLen c = n at hc8 hc0 HSH HL
        have s1 : IntKind.i64.wrap (8 * (k : Int)) = 8 * k := IntWalk.i64_in _ (by omega)
        have s2 : IntKind.i64.wrap (8 - (n : Int)) = 8 - n := IntWalk.i64_in _ (by omega)
        have s3 : IntKind.i64.wrap (8 * (k : Int) + (8 - (n : Int))) = 8 * k + (8 - n) := IntWalk.i64_in _ (by omega)
        clear hsh he
        go_wp2
        go_quiet (fail)
        have d1 : (wr.drewN nq).cell? ⟨w.heap.size, k, none⟩ = some (.int .u8 x) := c1
        have d2 : (wr.drewN nq).cell? ⟨w.heap.size + 1, k, none⟩ = some (.int .u8 y) := c2
        have HB2 : Hid (Below w.heap.size w (wr.drewN nq)) := ⟨HB.out.os, HB.out.tape, HB.out.output, HB.out.size, HB.out.block⟩
        clear c1 c2 HB
        generalize wr.drewN nq = wd at d1 d2 HB2 ⊢
        go_wp2
        go_quiet ((go_at_call 99; exact Calls.quiet_of_same (HL.out _)))
        go_wp2
        have HSI : Hid (8 * (k : Int) + (8 - (n : Int)) = (S : Int)) := by
          have h1 := HSH.out; have h2 := HS.out
          show _ = _
          omega
        go_ret
        exact ⟨congrArg (fun q => Ending.returned (.int .i64 q)) HSI.out, pbelow_drewN HB2.out _⟩
    · have he : k = 32 := by omega
      subst he
      have HS2 : Hid (S = 256) := by show _ = _; rw [HS.out]; exact shr_full HE.out
      go_wp2
      go_ret
      exact ⟨congrArg (fun q : Nat => Ending.returned (.int .i64 (q : Int))) HS2.out.symm, HB.out⟩
end Go.Proofs.YtjhaamffgkialaaGreatDoor
/-
  What this file is for: a region whose order is drawn, whose operations only read and whose calls lay new blocks, walked once, over all worlds that keep a fact. Nothing of the program is walked here.
-/
namespace Go.Proofs.YtjhaamffgkialaaGreatDoor
open Go.ChangeShapes Go.WideShapes Go.ChangeAt Go.RowKit
set_option linter.unusedVariables false

/-- a world that keeps H -/
structure PW (H : World → Prop) where
  w : World
  h : H w
section
variable {P : Program} {H : World → Prop}
theorem region_kept {id : Nat} {Q : Exit → Act → World → Prop} {a : Act} {w : World} {l : List Oper} (H : World → Prop) (hm : P.follows .mixedOrders = true) (hB : Region.lexB .any l.toArray = true) (hH : H { w with drawn := w.drawn + 1 })
    (h : wpQuiet P l.toArray (fun w' => ∃ p : PW H, w' = p.w) (fun a' => ∀ w', (∃ p : PW H, w' = p.w) → Q .normal a' w') l a) : (Code.region id l.toArray true).wp P Q a w :=
  wp_region_quiet (C := fun w' => ∃ p : PW H, w' = p.w) hm hB ⟨⟨_, hH⟩, rfl⟩ (by simpa using h)
theorem calls_kept {f : FuncId} {args : Array Value} {p : PW H} {v : Value} (h : Calls P f args p.w fun e w' => e = .returned v ∧ Below p.w.heap.size p.w w') (hk : ∀ w', Below p.w.heap.size p.w w' → H w') :
    Calls P f args p.w fun e w'' => e = .returned v ∧ ∃ p : PW H, w'' = p.w := h.mono fun _ w' ⟨he, hb⟩ => ⟨he, ⟨w', hk w' hb⟩, rfl⟩
theorem load_at {ops : Array Oper} {rest : List Oper} {o : Oper} {a : Act} {w : World} {Q : Exit → Act → World → Prop} (hw : Region.wanted o (yielded ops a.tmps) = true) (ty : TypeId) (x : Operand) (ho : o.op = .load ty x)
    (b off : Nat) (hx : a.eval x = .pointer (some ⟨b, off, none⟩)) (cs : List Value) (d : TypeDesc) (hc : w.rangeAt b off cs) (hu : P.underlying ty = some d) (hd : d.isRow = true) (hi : (P.info? ty).map (·.size) = some cs.length)
    (A : Array Value) (hA : cs.toArray = A) (h : wpList P ops Q rest (a.put o.dst (.agg A)) w) : wpList P ops Q (o :: rest) a w := by
  subst hA
  unfold wpList
  rw [if_pos hw]
  exact Or.inl (wp_load_mid ty x ho b off hx cs d hc hu hd hi h)
theorem quiet_load {o : Oper} {a : Act} {K : Act → Prop} (ty : TypeId) (x : Operand) (ho : o.op = .load ty x) (b off : Nat) (hx : a.eval x = .pointer (some ⟨b, off, none⟩)) (cs : List Value) (d : TypeDesc)
    (hc : ∀ p : PW H, p.w.rangeAt b off cs) (hu : P.underlying ty = some d) (hd : d.isRow = true) (hi : (P.info? ty).map (·.size) = some cs.length) (A : Array Value) (hA : cs.toArray = A) (h : K (a.put o.dst (.agg A))) :
    o.quiet P a (fun w' => ∃ p : PW H, w' = p.w) K := by
  subst hA
  exact ⟨_, fun w hw => by
    obtain ⟨p, rfl⟩ := hw
    unfold Oper.quietAt
    have e : (execOp a.eval o).run P p.w = .ok (.value (.agg cs.toArray)) p.w := by
      unfold execOp
      simp only [ho, hx, Sem.run_bind, run_loadAt_mid p.w b off ty cs d (hc p) hu hd hi, Result.andThen_ok, Sem.run_pure]
    rw [e]
    exact ⟨rfl, rfl⟩, h⟩
theorem blk_key {w0 : World} {g : Nat} {t : TypeId} {K : List Int} (h : Blk w0 g t (kc K)) : w0.rangeAt g 0 (u8s K) := fun j v hv => by
  rw [h.cell, Nat.zero_add, kc, List.getElem?_toArray]; exact hv
theorem blk_pre {w0 : World} {g : Nat} {l : Int} {B : List Int} (h : Blk w0 g 47 (pc l B)) : w0.rangeAt g 0 (.int .i64 l :: u8s B) := fun j v hv => by
  rw [h.cell, Nat.zero_add, pc, List.getElem?_toArray]; exact hv
/-- what stood in w0 stands as it did -/
def Kp (w0 w' : World) : Prop := Below w0.heap.size w0 w'
instance kp_some (w0 : World) : Nonempty (PW (Kp w0)) := ⟨⟨w0, Below.refl _ _⟩⟩
theorem kp_begin (w0 : World) : Kp w0 { w0 with drawn := w0.drawn + 1 } := (Below.refl w0.heap.size w0).drew
theorem kp_blk {w0 : World} {g : Nat} {t : TypeId} {cs : Array Value} (h : Blk w0 g t cs) (p : PW (Kp w0)) : Blk p.w g t cs := h.below p.h
theorem kp_key {w0 : World} {g : Nat} {t : TypeId} {K : List Int} (h : Blk w0 g t (kc K)) (p : PW (Kp w0)) : p.w.rangeAt g 0 (u8s K) := fun j v hv => by
  rw [(kp_blk h p).cell, Nat.zero_add, kc, List.getElem?_toArray]; exact hv
theorem kp_pre {w0 : World} {g : Nat} {l : Int} {B : List Int} (h : Blk w0 g 47 (pc l B)) (p : PW (Kp w0)) : p.w.rangeAt g 0 (.int .i64 l :: u8s B) := fun j v hv => by
  rw [(kp_blk h p).cell, Nat.zero_add, pc, List.getElem?_toArray]; exact hv
theorem kp_bits {w0 : World} {g : Nat} {l : Int} {B : List Int} (h : Blk w0 g 47 (pc l B)) (p : PW (Kp w0)) : p.w.rangeAt g 1 (u8s B) := pc_range (kp_blk h p)
theorem kp_len {w0 : World} {g : Nat} {l : Int} {B : List Int} (h : Blk w0 g 47 (pc l B)) (p : PW (Kp w0)) : p.w.cell? ⟨g, 0, none⟩ = some (.int .i64 l) := by
  rw [(kp_blk h p).cell]; rfl
theorem kp_call {w0 : World} {f : FuncId} {args : Array Value} {p : PW (Kp w0)} {v : Value} (h : Calls P f args p.w fun e w' => e = .returned v ∧ Below p.w.heap.size p.w w') :
    Calls P f args p.w fun e w'' => e = .returned v ∧ ∃ p : PW (Kp w0), w'' = p.w := calls_kept h (fun w' hb => Below.trans p.h (hb.mono (Below.size p.h)))
end
theorem u8s_info {K : List Int} (h : Ky K) : (Tryz.prog.info? 25).map (·.size) = some (u8s K).length := by rw [u8s_length, h.len]; kernel_rfl
theorem pcl_info (l : Int) {B : List Int} (h : Ky B) : (Tryz.prog.info? 47).map (·.size) = some (Value.int .i64 l :: u8s B).length := by rw [List.length_cons, u8s_length, h.len]; kernel_rfl
end Go.Proofs.YtjhaamffgkialaaGreatDoor
/-
  What is proved here: how many first bits two keys share, as the document tells it.
-/
namespace Go.Proofs.YtjhaamffgkialaaGreatDoor
open Go.ChangeShapes Go.WideShapes Go.ChangeAt Go.RowKit
set_option linter.unusedVariables false

set_option maxHeartbeats 1000000 in
theorem rShared_any (K L : List Int) (hK : Ky K) (hL : Ky L) (w : World) :
    Calls Tryz.prog 67 #[.agg (kc K), .agg (kc L)] w fun e w' => e = .returned (.int .i64 (shr K L)) ∧ Below w.heap.size w w' := by
  have hk1 : Blk ((w.alloc (.cells (kc K) 25)).alloc (.cells (kc L) 25)) w.heap.size 25 (kc K) := (Blk.new w 25 _).alloc _
  have hk2 : Blk ((w.alloc (.cells (kc K) 25)).alloc (.cells (kc L) 25)) (w.heap.size + 1) 25 (kc L) := by
    have := Blk.new (w.alloc (.cells (kc K) 25)) 25 (kc L)
    rwa [show (w.alloc (.cells (kc K) 25)).heap.size = w.heap.size + 1 by simp] at this
  have hb0 : Below w.heap.size w ((w.alloc (.cells (kc K) 25)).alloc (.cells (kc L) 25)) := ((Below.refl _ _).alloc (Nat.le_refl _) _).alloc (by simp) _
  have K1 := hid hk1; have K2 := hid hk2; have B0 := hid hb0
  clear hk1 hk2 hb0
  obtain ⟨S, hS⟩ : ∃ S, S = shr K L := ⟨_, rfl⟩
  have HS := hid hS
  rw [← hS]
  clear hS
  go_enter Tryz.func67, Tryz.ntmps67
  go_wp2
  generalize (w.alloc (.cells (kc K) 25)).alloc (.cells (kc L) 25) = w0 at K1 K2 B0 ⊢
  go_loopw [5] (fun n wr => ∃ k : Nat, k ≤ 256 ∧ n = .int .i64 k ∧ Hid (∀ i, i < k → bit K i = bit L i) ∧ Hid (Blk wr w.heap.size 25 (kc K)) ∧ Hid (Blk wr (w.heap.size + 1) 25 (kc L)) ∧ Hid (Below w.heap.size w wr)) (fun n _ => 256 - (intOf n).toNat)
  case atStart => exact ⟨0, Nat.zero_le _, rfl, fun i hi => by omega, K1.out, K2.out, B0.out⟩
  case round =>
    obtain ⟨k, hk, rfl, HE, HK1, HK2, HB⟩ := hrel
    clear K1 K2 B0
    by_cases hlt : k < 256
    · have CA := hid (fun w => rBit_in K hK k hlt w)
      have CB := hid (fun w => rBit_in L hL k hlt w)
      have hlti : (k : Int) < 256 := by omega
      obtain ⟨x, hx⟩ : ∃ x, x = bit K k := ⟨_, rfl⟩
      obtain ⟨y, hy⟩ : ∃ y, y = bit L k := ⟨_, rfl⟩
      rw [← hx] at CA
      rw [← hy] at CB
      have HX := hid hx; have HY := hid hy
      clear hx hy
      by_cases he : x = y
      · subst he
        go_wp2
        refine region_kept (Kp wr) (by kernel_rfl) (by kernel_rfl) (kp_begin wr) ?_
        repeat (first
          | go_big_quiet_skip
          | (go_big_quiet_want; refine quiet_load 25 (.tmp 2) rfl w.heap.size 0 rfl (u8s K) _ (fun p => kp_key HK1.out p) Tryz.underlying25 rfl (u8s_info hK) (kc K) rfl ?_; go_big_quiet_on; simp only [Act.put, List.setIfInBounds_toArray, List.set_cons_zero, List.set_cons_succ])
          | (go_big_quiet_want; refine quiet_load 25 (.tmp 3) rfl (w.heap.size + 1) 0 rfl (u8s L) _ (fun p => kp_key HK2.out p) Tryz.underlying25 rfl (u8s_info hL) (kc L) rfl ?_; go_big_quiet_on; simp only [Act.put, List.setIfInBounds_toArray, List.set_cons_zero, List.set_cons_succ])
          | (go_big_quiet_want; go_big_quiet_op; first | go_big_quiet_on | go_big_quiet_call (first | (with_reducible exact kp_call (CA.out _)) | (with_reducible exact kp_call (CB.out _)))))
        refine wpQuiet_nil ?_
        intro _ hw'
        obtain ⟨p, hw''⟩ := hw'
        subst hw''
        go_wp2
        exact ⟨⟨k + 1, by omega, by go_num, fun i hi => by
          rcases Nat.lt_or_ge i k with h | h
          · exact HE.out i h
          · rw [show i = k by omega, ← HX.out, ← HY.out], HK1.out.below p.h, HK2.out.below p.h, HB.out.trans (Below.mono p.h HB.out.size)⟩, by simp [intOf]; omega⟩
      · have h1 : (x == y) = false := by simpa using he
        have HSK : Hid (S = k) := by
          show _ = _
          rw [HS.out]
          exact (IsShr.eq ⟨by omega, HE.out, fun _ => by rw [← HX.out, ← HY.out]; exact he⟩).symm
        clear he
        go_wp2
        refine region_kept (Kp wr) (by kernel_rfl) (by kernel_rfl) (kp_begin wr) ?_
        repeat (first
          | go_big_quiet_skip
          | (go_big_quiet_want; refine quiet_load 25 (.tmp 2) rfl w.heap.size 0 rfl (u8s K) _ (fun p => kp_key HK1.out p) Tryz.underlying25 rfl (u8s_info hK) (kc K) rfl ?_; go_big_quiet_on; simp only [Act.put, List.setIfInBounds_toArray, List.set_cons_zero, List.set_cons_succ])
          | (go_big_quiet_want; refine quiet_load 25 (.tmp 3) rfl (w.heap.size + 1) 0 rfl (u8s L) _ (fun p => kp_key HK2.out p) Tryz.underlying25 rfl (u8s_info hL) (kc L) rfl ?_; go_big_quiet_on; simp only [Act.put, List.setIfInBounds_toArray, List.set_cons_zero, List.set_cons_succ])
          | (go_big_quiet_want; go_big_quiet_op; first | go_big_quiet_on | go_big_quiet_call (first | (with_reducible exact kp_call (CA.out _)) | (with_reducible exact kp_call (CB.out _)))))
        refine wpQuiet_nil ?_
        intro _ hw'
        obtain ⟨p, hw''⟩ := hw'
        subst hw''
        go_wp2
        go_ret
        exact ⟨congrArg (fun q : Nat => Ending.returned (.int .i64 (q : Int))) HSK.out.symm, HB.out.trans (Below.mono p.h HB.out.size)⟩
    · have he : k = 256 := by omega
      subst he
      have HS2 : Hid (S = 256) := by
        show _ = _
        rw [HS.out]
        exact (IsShr.eq ⟨Nat.le_refl _, HE.out, fun h => absurd h (by decide)⟩).symm
      go_wp2
      refine region_kept (Kp wr) (by kernel_rfl) (by kernel_rfl) (kp_begin wr) ?_
      repeat (first
        | go_big_quiet_skip
        | (go_big_quiet_want; go_big_quiet_op; go_big_quiet_on))
      refine wpQuiet_nil ?_
      intro _ hw'
      obtain ⟨p, hw''⟩ := hw'
      subst hw''
      go_wp2
      go_ret
      exact ⟨congrArg (fun q : Nat => Ending.returned (.int .i64 (q : Int))) HS2.out.symm, HB.out.trans (Below.mono p.h HB.out.size)⟩
end Go.Proofs.YtjhaamffgkialaaGreatDoor
/-
  What this file is for: the comparison of two rows of bytes, as the library has it, tells which key is less. Nothing of the program is walked here.
-/
namespace Go.Proofs.YtjhaamffgkialaaGreatDoor
open Go.ChangeShapes Go.RowKit
set_option linter.unusedVariables false

theorem u8_lt (x y : Int) (hx : 0 ≤ x ∧ x < 256) (hy : 0 ≤ y ∧ y < 256) : x.toNat.toUInt8 < y.toNat.toUInt8 ↔ x < y := by
  rw [UInt8.lt_iff_toNat_lt]
  simp only [Nat.toUInt8, UInt8.toNat_ofNat']
  omega
theorem u8_eq (x y : Int) (hx : 0 ≤ x ∧ x < 256) (hy : 0 ≤ y ∧ y < 256) : x.toNat.toUInt8 = y.toNat.toUInt8 ↔ x = y := by
  refine ⟨fun h => ?_, fun h => by rw [h]⟩
  have := congrArg UInt8.toNat h
  simp only [Nat.toUInt8, UInt8.toNat_ofNat'] at this
  omega
theorem comp_iff (A B : List Int) (hl : A.length = B.length) (hA : Bs A) (hB : Bs B) :
    Lib.compareBytes (Lib.bytesOf A) (Lib.bytesOf B) < 0 ↔ ∃ j, j < A.length ∧ (∀ i, i < j → A[i]?.getD 0 = B[i]?.getD 0) ∧ A[j]?.getD 0 < B[j]?.getD 0 := by
  induction A generalizing B with
  | nil =>
    cases B with
    | nil => simp [Lib.bytesOf, Lib.compareBytes]
    | cons b B => simp at hl
  | cons a A ih =>
    cases B with
    | nil => simp at hl
    | cons b B =>
      have ih := ih B (by simpa using hl) (fun v hv => hA v (List.mem_cons_of_mem _ hv)) (fun v hv => hB v (List.mem_cons_of_mem _ hv))
      have ha := hA a (List.mem_cons_self ..)
      have hb := hB b (List.mem_cons_self ..)
      have ih : Lib.compareBytes (A.map fun n => n.toNat.toUInt8) (B.map fun n => n.toNat.toUInt8) < 0 ↔ ∃ j, j < A.length ∧ (∀ i, i < j → A[i]?.getD 0 = B[i]?.getD 0) ∧ A[j]?.getD 0 < B[j]?.getD 0 := ih
      show Lib.compareBytes ((a :: A).map fun n => n.toNat.toUInt8) ((b :: B).map fun n => n.toNat.toUInt8) < 0 ↔ _
      rw [List.map_cons, List.map_cons]
      unfold Lib.compareBytes
      have e1 := u8_lt a b ha hb
      have e2 := u8_lt b a hb ha
      rcases Int.lt_trichotomy a b with h | h | h
      · rw [if_pos (e1.2 h)]
        exact ⟨fun _ => ⟨0, by simp, fun i hi => by omega, by simpa using h⟩, fun _ => by decide⟩
      · subst h
        rw [if_neg (fun h => by have := e1.1 h; omega), if_neg (fun h => by have := e1.1 h; omega), ih]
        constructor
        · rintro ⟨j, h1, h2, h3⟩
          refine ⟨j + 1, by simp; omega, fun i hi => ?_, by simpa using h3⟩
          cases i with
          | zero => rfl
          | succ i => simpa using h2 i (by omega)
        · rintro ⟨j, h1, h2, h3⟩
          cases j with
          | zero => simp at h3
          | succ j => exact ⟨j, by simpa using h1, fun i hi => by simpa using h2 (i + 1) (by omega), by simpa using h3⟩
      · rw [if_neg (fun h2 => by have := e1.1 h2; omega), if_pos (e2.2 h)]
        constructor
        · intro h2; exact absurd h2 (by decide)
        · rintro ⟨j, h1, h2, h3⟩
          cases j with
          | zero => simp at h3; omega
          | succ j =>
            have := h2 0 (by omega)
            simp at this
            omega
theorem comp_lss {K L : List Int} (hK : Ky K) (hL : Ky L) : decide (Lib.compareBytes (Lib.bytesOf K) (Lib.bytesOf L) < 0) = lss K L := by
  rw [Bool.eq_iff_iff, decide_eq_true_iff, comp_iff K L (by rw [hK.len, hL.len]) hK.bs hL.bs]
  constructor
  · rintro ⟨j, h1, h2, h3⟩
    rw [lss_at hK hL j (by have := hK.len; omega) h2 (by omega)]
    exact decide_eq_true h3
  · intro h
    by_cases hall : ∀ i, i < 32 → K[i]?.getD 0 = L[i]?.getD 0
    · have := shr_full hall
      unfold lss at h
      rw [this] at h
      simp at h
    · obtain ⟨j, hj, hs, hd⟩ : ∃ j, j < 32 ∧ (∀ i, i < j → K[i]?.getD 0 = L[i]?.getD 0) ∧ K[j]?.getD 0 ≠ L[j]?.getD 0 := by
        have : ∀ n, n ≤ 32 → (∃ j, j < n ∧ (∀ i, i < j → K[i]?.getD 0 = L[i]?.getD 0) ∧ K[j]?.getD 0 ≠ L[j]?.getD 0) ∨ ∀ i, i < n → K[i]?.getD 0 = L[i]?.getD 0 := by
          intro n
          induction n with
          | zero => intro _; exact Or.inr (fun i hi => by omega)
          | succ n ih =>
            intro hn
            rcases ih (by omega) with ⟨j, h1, h2, h3⟩ | h1
            · exact Or.inl ⟨j, by omega, h2, h3⟩
            · by_cases he : K[n]?.getD 0 = L[n]?.getD 0
              · refine Or.inr (fun i hi => ?_)
                rcases Nat.lt_or_ge i n with h2 | h2
                · exact h1 i h2
                · rw [show i = n by omega]; exact he
              · exact Or.inl ⟨n, by omega, h1, he⟩
        rcases this 32 (Nat.le_refl _) with h1 | h1
        · exact h1
        · exact absurd h1 hall
      rw [lss_at hK hL j hj hs hd] at h
      exact ⟨j, by rw [hK.len]; exact hj, hs, of_decide_eq_true h⟩
end Go.Proofs.YtjhaamffgkialaaGreatDoor
/-
  What is proved here: which of two keys is less, as the code and as the document tell it.
-/
namespace Go.Proofs.YtjhaamffgkialaaGreatDoor
open Go.ChangeShapes Go.WideShapes Go.ChangeAt Go.RowKit
set_option linter.unusedVariables false

theorem two_blks (w : World) (A B : Array Value) (t s : TypeId) : Blk ((w.alloc (.cells A t)).alloc (.cells B s)) w.heap.size t A ∧ Blk ((w.alloc (.cells A t)).alloc (.cells B s)) (w.heap.size + 1) s B ∧ Below w.heap.size w ((w.alloc (.cells A t)).alloc (.cells B s)) := by
  refine ⟨(Blk.new w t _).alloc _, ?_, ((Below.refl _ _).alloc (Nat.le_refl _) _).alloc (by simp) _⟩
  have := Blk.new (w.alloc (.cells A t)) s B
  rwa [show (w.alloc (.cells A t)).heap.size = w.heap.size + 1 by simp] at this
end Go.Proofs.YtjhaamffgkialaaGreatDoor
/-
  What is proved here: a key with a bit made 1, as the document makes it.
-/
namespace Go.Proofs.YtjhaamffgkialaaGreatDoor
open Go.ChangeShapes Go.WideShapes Go.ChangeAt Go.RowKit
set_option linter.unusedVariables false

/-- no bit is 1 -/
def zk : List Int := List.replicate 32 0
theorem zk_ky : Ky zk := ⟨by simp [zk], fun v hv => by
  unfold zk at hv
  have := (List.mem_replicate.1 hv).2
  omega⟩
theorem zero_key : ∃ Z : Array Value, Hid (Z = kc zk) ∧ (¬ Z = #[]) ∧ ∀ w : World, Sem.run Tryz.prog (zeroValue 25) w = Result.ok (.agg Z) w := by
  refine ⟨kc zk, rfl, fun h => ?_, fun w => by kernel_rfl⟩
  have := congrArg Array.size h
  rw [kc_size zk_ky] at this
  simp at this
theorem zero_pre : ∃ Z : Array Value, Hid (Z = pc 0 zk) ∧ (¬ Z = #[]) ∧ ∀ w : World, Sem.run Tryz.prog (zeroValue 47) w = Result.ok (.agg Z) w := by
  refine ⟨pc 0 zk, rfl, fun h => ?_, fun w => by kernel_rfl⟩
  have := congrArg Array.size h
  rw [pc_size 0 zk_ky] at this
  simp at this
theorem kc_set (K : List Int) (i : Nat) (x : Int) : (kc K).setIfInBounds i (.int .u8 x) = kc (K.set i x) := by
  simp [kc, u8s, List.map_set]
theorem pc_set (l : Int) (K : List Int) (i : Nat) (x : Int) : (pc l K).setIfInBounds (1 + i) (.int .u8 x) = pc l (K.set i x) := by
  simp [pc, u8s, List.map_set, Nat.add_comm 1 i]
theorem ky_set {K : List Int} (h : Ky K) (j : Nat) (v : Int) (h0 : 0 ≤ v) (h1 : v < 256) : Ky (K.set j v) := ⟨by rw [List.length_set, h.len], fun u hu => by
  rcases List.mem_or_eq_of_mem_set hu with hu | rfl
  · exact h.bs u hu
  · exact ⟨h0, h1⟩⟩
theorem bit_set {K : List Int} (h : Ky K) (j : Nat) (hj : j < 32) (v : Int) (i : Nat) : bit (K.set j v) i = if i / 8 = j then bt v (i % 8) else bit K i := by
  unfold bit
  rw [List.getElem?_set]
  by_cases e : i / 8 = j
  · rw [if_pos e, if_pos e.symm, if_pos (by rw [h.len]; omega)]; rfl
  · rw [if_neg e, if_neg (fun h => e h.symm)]
theorem add_bit_f : ∀ b : Fin 256, ∀ t : Fin 8, bt (b.val : Int) t.val = 0 → (b.val : Int) + 2 ^ (7 - t.val) < 256 ∧ ∀ s : Fin 8, bt ((b.val : Int) + 2 ^ (7 - t.val)) s.val = if s.val = t.val then 1 else bt (b.val : Int) s.val := by decide +kernel
theorem add_bit (b : Int) (hb : 0 ≤ b ∧ b < 256) (t : Nat) (ht : t < 8) (h : bt b t = 0) : b + 2 ^ (7 - t) < 256 ∧ ∀ s, s < 8 → bt (b + 2 ^ (7 - t)) s = if s = t then 1 else bt b s := by
  obtain ⟨n, rfl⟩ : ∃ n : Nat, b = n := ⟨b.toNat, by omega⟩
  obtain ⟨h1, h2⟩ := add_bit_f ⟨n, by omega⟩ ⟨t, ht⟩ h
  exact ⟨h1, fun s hs => h2 ⟨s, hs⟩⟩
theorem set_add {K : List Int} (hK : Ky K) (i : Nat) (hi : i < 256) (h : bit K i = 0) : K.set (i / 8) (K[i / 8]?.getD 0 + 2 ^ (7 - i % 8)) = setb K i := by
  obtain ⟨h1, h2⟩ := add_bit _ (hK.bs.at (i / 8)) (i % 8) (by omega) h
  have hb := hK.bs.at (i / 8)
  have hp : (0 : Int) ≤ 2 ^ (7 - i % 8) := Int.pow_nonneg (by decide)
  refine eq_ofBits (ky_set hK _ _ (by omega) h1) (setF01 K i) (fun s hs => ?_)
  rw [bit_set hK _ (by omega)]
  unfold setF
  by_cases e : s / 8 = i / 8
  · rw [if_pos e, h2 _ (by omega)]
    by_cases e2 : s = i
    · rw [if_pos e2, if_pos (by rw [e2])]
    · rw [if_neg e2, if_neg (by omega)]
      show _ = bt (K[s / 8]?.getD 0) (s % 8)
      rw [e]
  · rw [if_neg e, if_neg (fun h => e (by rw [h]))]
theorem set_id {K : List Int} (hK : Ky K) (i : Nat) (hi : i < 256) (h : bit K i = 1) : K = setb K i :=
  eq_ofBits hK (setF01 K i) (fun s hs => by
    unfold setF
    by_cases e : s = i
    · rw [if_pos e, e, h]
    · rw [if_neg e])
theorem one_blks (w : World) (A B : Array Value) (t s : TypeId) : Blk ((w.alloc (.cells A t)).alloc (.cells B s)) w.heap.size t A ∧ Blk ((w.alloc (.cells A t)).alloc (.cells B s)) (w.heap.size + 1) s B ∧ Below w.heap.size w ((w.alloc (.cells A t)).alloc (.cells B s)) := by
  refine ⟨(Blk.new w t _).alloc _, ?_, ((Below.refl _ _).alloc (Nat.le_refl _) _).alloc (by simp) _⟩
  have := Blk.new (w.alloc (.cells A t)) s B
  rwa [show (w.alloc (.cells A t)).heap.size = w.heap.size + 1 by simp] at this
theorem pow_128 (k : Nat) (h : k < 8) : (128 : Int) / 2 ^ k = 2 ^ (7 - k) := by
  rcases lt8 h with rfl | rfl | rfl | rfl | rfl | rfl | rfl | rfl <;> decide

set_option maxHeartbeats 1000000 in
theorem rSet_any (K : List Int) (hK : Ky K) (i : Nat) (hi : i < 256) (w : World) :
    Calls Tryz.prog 82 #[.agg (kc K), .int .i64 i] w fun e w' => e = .returned (.agg (kc (setb K i))) ∧ Below w.heap.size w w' := by
  obtain ⟨Z, HZ, hZ0, hZs⟩ := zero_key
  obtain ⟨hk1, hk2, hb0⟩ := one_blks w (kc K) Z 25 25
  have K1 := hid hk1; have K2 := hid hk2; have B0 := hid hb0
  clear hk1 hk2 hb0
  have HZ32 : Hid (Z.size = (kc (setb K i)).size) := by show _ = _; rw [HZ.out, kc_size zk_ky, kc_size (setb_ky K i)]
  have HI32 := hid (kc_info (setb_ky K i))
  have CB := hid (fun w => rBit_in K hK i hi w)
  have h01 := bit01 K i
  have hs1 := set_id hK i hi
  have hs0 := set_add hK i hi
  have ha := fun h : bit K i = 0 => (add_bit _ (hK.bs.at (i / 8)) (i % 8) (by omega) h).1
  have hb := hK.bs.at (i / 8)
  generalize bit K i = v at CB h01 hs1 hs0 ha
  rcases h01 with rfl | rfl
  · have hv := ha rfl
    have hs := hs0 rfl
    clear hs1 hs0 ha
    have hcell := kc_at hK (i / 8) (by omega)
    generalize K[i / 8]?.getD 0 = b at hb hv hs hcell
    have hp : (0 : Int) ≤ 2 ^ (7 - i % 8) := Int.pow_nonneg (by decide)
    have hp2 : (2 : Int) ^ (7 - i % 8) ≤ 128 := by rw [← pow_128 (i % 8) (by omega)]; exact Int.ediv_le_self _ (by decide)
    obtain ⟨m, hm⟩ : ∃ m : Nat, m = i % 8 := ⟨_, rfl⟩
    have hpw := pow_128 (i % 8) (by omega)
    rw [← hm] at hs hv hp hp2 hpw
    have hm8 : m < 8 := by omega
    have hmi : (i : Int) % 8 = (m : Int) := by omega
    have HM := hid hm; have HS := hid hs; have HPW := hid hpw; have HC := hid hcell
    have HV : Hid (b + 2 ^ (7 - m) < 256) := hv
    have HP : Hid ((0 : Int) ≤ 2 ^ (7 - m)) := hp
    have HP2 : Hid ((2 : Int) ^ (7 - m) ≤ 128) := hp2
    obtain ⟨hb0, hb1⟩ := hb
    have hi0 : (0 : Int) ≤ (i : Int) / 8 := by omega
    have hi32 : (i : Int) / 8 < 32 := by omega
    have hit : ((i : Int) / 8).toNat = i / 8 := by omega
    clear hm hs hpw hcell hv hp hp2
    go_enter Tryz.func82, Tryz.ntmps82
    go_wp2_with (first
      | (refine load_at rfl 25 (.tmp 2) rfl w.heap.size 0 rfl (u8s K) _ (blk_key K1.out) Tryz.underlying25 rfl (u8s_info hK) (kc K) rfl ?_)
      | (go_at_call 68; refine (CB.out _).mono ?_; rintro e w1 ⟨rfl, hb1⟩; have K3 := hid (K1.out.below hb1); have K4 := hid (K2.out.below hb1); have B1 := hid (B0.out.trans (hb1.mono B0.out.size)); clear hb1))
    go_loop [5, 6] (fun x n => ∃ k : Nat, k ≤ m ∧ n = .int .i64 k ∧ x = .int .i64 (128 / 2 ^ k)) (fun _ n => m - (intOf n).toNat)
    case atStart => exact ⟨0, Nat.zero_le _, rfl, rfl⟩
    case round =>
      obtain ⟨k, hk, rfl, rfl⟩ := hrel
      have hq0 : (0 : Int) ≤ 128 / 2 ^ k := Int.ediv_nonneg (by decide) (Int.pow_nonneg (by decide))
      have hq1 : (128 : Int) / 2 ^ k ≤ 128 := Int.ediv_le_self _ (by decide)
      have HD := hid (div_step 128 k)
      by_cases hlt : k < m
      · go_wp2
        go_round
        case rel => exact ⟨k + 1, by omega, by go_num, by rw [← HD.out]⟩
        case measure => simp [intOf]; omega
      · have he : k = m := by omega
        subst he
        have hsum : b + 128 / 2 ^ k < 256 := by rw [HPW.out]; exact HV.out
        have c1 : w1.cell? ⟨w.heap.size, i / 8, none⟩ = some (.int .u8 b) := by rw [K3.out.cell]; exact HC.out
        have c2 : w1.frozen? ⟨w.heap.size, i / 8, none⟩ = false := K3.out.frozen _
        have k5 : Blk (w1.setCell ⟨w.heap.size, i / 8, none⟩ (.int .u8 (b + 128 / 2 ^ k))) w.heap.size 25 (kc (setb K i)) := by
          have := K3.out.setd (i / 8) (.int .u8 (b + 128 / 2 ^ k))
          rw [kc_set, HPW.out, HS.out] at this
          rwa [HPW.out]
        have k6 : Blk (w1.setCell ⟨w.heap.size, i / 8, none⟩ (.int .u8 (b + 128 / 2 ^ k))) (w.heap.size + 1) 25 Z := K4.out.far (by simp) _
        have b6 : Below w.heap.size w (w1.setCell ⟨w.heap.size, i / 8, none⟩ (.int .u8 (b + 128 / 2 ^ k))) := B1.out.setCell (by simp) _
        have K5 := hid k5; have K6 := hid k6; have B6 := hid b6
        clear k5 k6 b6
        generalize (128 : Int) / 2 ^ k = q at *
        go_wp2_with (first
          | (refine load_at rfl 25 (.tmp 2) rfl w.heap.size 0 rfl (u8s (setb K i)) _ (blk_key K5.out) Tryz.underlying25 rfl (u8s_info (setb_ky K i)) (kc (setb K i)) rfl ?_)
          | (refine wpList_store_row rfl 25 (.tmp 4) (.tmp 27) rfl (w.heap.size + 1) (kc (setb K i)) rfl rfl 25 Z K6.out HI32.out HZ32.out (kc_one _) ?_))
        try go_frame
        refine bodyPost_ret (results_cell_row Tryz.results82 _ _ (w.heap.size + 1) 25 (kc (setb K i)) (0, 0) _ rfl (K6.out.row _) Tryz.underlying25 rfl HI32.out) rfl ?_
        exact ⟨rfl, below_setRow B6.out (by omega) _⟩
  · have HS := hid (hs1 rfl)
    clear hs1 hs0 ha hb
    go_enter Tryz.func82, Tryz.ntmps82
    go_wp2_with (first
      | (refine load_at rfl 25 (.tmp 2) rfl w.heap.size 0 rfl (u8s K) _ (blk_key K1.out) Tryz.underlying25 rfl (u8s_info hK) (kc K) rfl ?_)
      | (go_at_call 68; refine (CB.out _).mono ?_; rintro e w1 ⟨rfl, hb1⟩; have K3 := hid (K1.out.below hb1); have K4 := hid (K2.out.below hb1); have B1 := hid (B0.out.trans (hb1.mono B0.out.size)); clear hb1)
      | (refine load_at rfl 25 (.tmp 2) rfl w.heap.size 0 rfl (u8s K) _ (blk_key K3.out) Tryz.underlying25 rfl (u8s_info hK) (kc K) rfl ?_)
      | (refine wpList_store_row rfl 25 (.tmp 4) (.tmp 27) rfl (w.heap.size + 1) (kc K) rfl rfl 25 Z K4.out (kc_info hK) (by rw [HZ.out, kc_size zk_ky, kc_size hK]) (kc_one K) ?_))
    try go_frame
    refine bodyPost_ret (results_cell_row Tryz.results82 _ _ (w.heap.size + 1) 25 (kc K) (0, 0) _ rfl (K4.out.row _) Tryz.underlying25 rfl (kc_info hK)) rfl ?_
    exact ⟨congrArg (fun q => Ending.returned (.agg (kc q))) HS.out, below_setRow B1.out (by omega) _⟩
end Go.Proofs.YtjhaamffgkialaaGreatDoor
/-
  What is proved here: the beginning of a key, as the document cuts it.
-/
namespace Go.Proofs.YtjhaamffgkialaaGreatDoor
open Go.ChangeShapes Go.WideShapes Go.ChangeAt Go.RowKit
set_option linter.unusedVariables false

def putRow (cs : Array Value) : Nat → List Value → Array Value
  | _, [] => cs
  | o, v :: r => putRow (cs.setIfInBounds o v) (o + 1) r
theorem putRow_at : ∀ (vs : List Value) (cs : Array Value) (o i : Nat), o + vs.length ≤ cs.size → (putRow cs o vs)[i]? = if o ≤ i ∧ i < o + vs.length then vs[i - o]? else cs[i]?
  | [], cs, o, i, h => by
    unfold putRow
    rw [if_neg]
    simp only [List.length_nil]
    omega
  | v :: r, cs, o, i, h => by
    simp only [List.length_cons] at h ⊢
    unfold putRow
    rw [putRow_at r _ (o + 1) i (by rw [Array.size_setIfInBounds]; omega), Array.getElem?_setIfInBounds]
    by_cases h1 : o = i
    · subst h1
      rw [if_neg (by omega), if_pos rfl, if_pos (by omega), if_pos (by omega)]
      simp
    · rw [if_neg h1]
      by_cases h2 : o + 1 ≤ i ∧ i < o + 1 + r.length
      · rw [if_pos h2, if_pos (by omega), show i - o = (i - (o + 1)) + 1 by omega, List.getElem?_cons_succ]
      · rw [if_neg h2, if_neg (by omega)]
theorem Blk.putCells {g : Nat} {t : TypeId} : ∀ (vs : List Value) {w : World} {cs : Array Value} (h : Blk w g t cs) (o : Nat), Blk (w.setCells g o vs) g t (putRow cs o vs)
  | [], _, _, h, _ => h
  | v :: r, _, _, h, o => (h.setd o v).putCells r (o + 1)
theorem Blk.farCells {g k : Nat} (hk : k ≠ g) {t : TypeId} {cs : Array Value} : ∀ (vs : List Value) {w : World} (h : Blk w k t cs) (o : Nat), Blk (w.setCells g o vs) k t cs
  | [], _, h, _ => h
  | v :: r, _, h, o => (h.far hk v : Blk (World.setCell _ ⟨g, o, none⟩ v) k t cs).farCells hk r (o + 1)
theorem below_setCells {B g : Nat} (hg : B ≤ g) : ∀ (vs : List Value) {a w : World} (h : Below B a w) (o : Nat), Below B a (w.setCells g o vs)
  | [], _, _, h, _ => h
  | v :: r, _, _, h, o => below_setCells hg r (h.setCell hg v : Below B _ (World.setCell _ ⟨g, o, none⟩ v)) (o + 1)
theorem pc_put (l : Int) {A B : List Int} (hA : Ky A) (hB : Ky B) : putRow (pc l A) 1 (u8s B) = pc l B := by
  apply Array.ext_getElem?
  intro i
  rw [putRow_at _ _ _ _ (by rw [pc_size l hA, u8s_length, hB.len]; omega)]
  cases i with
  | zero => rw [if_neg (by omega)]; rfl
  | succ i =>
    by_cases hi : i < 32
    · rw [if_pos (by rw [u8s_length, hB.len]; omega), pc_at l hB i hi, Nat.add_sub_cancel, u8s_get B i (by rw [hB.len]; exact hi)]
    · rw [if_neg (by rw [u8s_length, hB.len]; omega), Array.getElem?_eq_none (by rw [pc_size l hA]; omega), Array.getElem?_eq_none (by rw [pc_size l hB]; omega)]
theorem pc_len (l m : Int) (B : List Int) : (pc l B).setIfInBounds 0 (.int .i64 m) = pc m B := rfl
theorem pc_there {w : World} {g : Nat} {l : Int} {B : List Int} (hB : Ky B) (h : Blk w g 47 (pc l B)) (C : List Int) (hC : Ky C) : w.there g 1 (kc C).size := fun j hj => by
  rw [kc_size hC] at hj
  refine ⟨?_, h.frozen _⟩
  rw [h.cell, Nat.add_comm 1 j, pc_at l hB j hj]
  rfl
/-- the bits of a beginning are stored -/
theorem store_bits {ops : Array Oper} {rest : List Oper} {op : Oper} {a : Act} {w : World} {Q : Exit → Act → World → Prop} (hgd : op.guard = none) (x y : Operand) (ho : op.op = .store 25 x y)
    (g : Nat) (hx : a.eval x = .pointer (some ⟨g, 1, none⟩)) (l : Int) (B C : List Int) (hy : a.eval y = .agg (kc C)) (hB : Ky B) (hC : Ky C) (hb : Blk w g 47 (pc l B))
    (h : ∀ w3, Blk w3 g 47 (pc l C) → (∀ k t cs, k ≠ g → Blk w k t cs → Blk w3 k t cs) → (∀ N v, N ≤ g → Below N v w → Below N v w3) → wpList Tryz.prog ops Q rest (a.put op.dst undef) w3) : wpList Tryz.prog ops Q (op :: rest) a w := by
  refine wpList_store_mid hgd 25 x y ho g 1 (kc C) hx hy (pc_there hB hb C hC) (kc_info hC) (kc_one C) ?_
  refine h _ ?_ (fun k t cs hk hbk => hbk.farCells hk _ _) (fun N v hN hv => below_setCells hN _ hv _)
  have := hb.putCells (u8s C) 1
  rwa [pc_put l hB hC] at this
theorem cut_0 (K : List Int) : cut K 0 = zk := (eq_ofBits zk_ky (cutF01 K 0) (fun i hi => by
  unfold cutF bit zk
  rw [if_neg (by omega), List.getElem?_replicate, if_pos (by omega)]
  simp [bt])).symm
theorem cut_1 (K : List Int) (k : Nat) (h : bit K k = 1) : setb (cut K k) k = cut K (k + 1) := by
  refine eq_ofBits (setb_ky _ _) (cutF01 K _) (fun i hi => ?_)
  rw [bit_setb _ _ _ hi, bit_cut _ _ _ hi]
  unfold cutF
  by_cases e : i = k
  · rw [if_pos e, if_pos (by omega), e, h]
  · rw [if_neg e]
    by_cases e2 : i < k
    · rw [if_pos e2, if_pos (by omega)]
    · rw [if_neg e2, if_neg (by omega)]
theorem cut_same (K : List Int) (k : Nat) (h : bit K k = 0) : cut K k = cut K (k + 1) := by
  refine eq_ofBits (cut_ky _ _) (cutF01 K _) (fun i hi => ?_)
  rw [bit_cut _ _ _ hi]
  unfold cutF
  by_cases e : i = k
  · rw [if_neg (by omega), if_pos (by omega), e, h]
  · by_cases e2 : i < k
    · rw [if_pos e2, if_pos (by omega)]
    · rw [if_neg e2, if_neg (by omega)]
/-- a length as it is taken: none below 0, 256 at most -/
def lim (n : Int) : Nat := min n.toNat 256
theorem lim_le (n : Int) : lim n ≤ 256 := by unfold lim; omega

theorem three_blks (w : World) (A B C : Array Value) (t s r : TypeId) : Blk (((w.alloc (.cells A t)).alloc (.cells B s)).alloc (.cells C r)) w.heap.size t A ∧ Blk (((w.alloc (.cells A t)).alloc (.cells B s)).alloc (.cells C r)) (w.heap.size + 1) s B ∧ Blk (((w.alloc (.cells A t)).alloc (.cells B s)).alloc (.cells C r)) (w.heap.size + 1 + 1) r C ∧ Below w.heap.size w (((w.alloc (.cells A t)).alloc (.cells B s)).alloc (.cells C r)) := by
  obtain ⟨h1, h2, h3⟩ := one_blks w A B t s
  have hs : ((w.alloc (.cells A t)).alloc (.cells B s)).heap.size = w.heap.size + 1 + 1 := by simp
  refine ⟨h1.alloc _, h2.alloc _, ?_, h3.alloc (by omega) _⟩
  have := Blk.new ((w.alloc (.cells A t)).alloc (.cells B s)) r C
  rwa [hs] at this

set_option maxHeartbeats 1000000 in
theorem rCut_any (K : List Int) (hK : Ky K) (n : Int) (w : World) :
    Calls Tryz.prog 66 #[.agg (kc K), .int .i64 n] w fun e w' => e = .returned (.agg (pc (lim n) (cut K (lim n)))) ∧ Below w.heap.size w w' := by
  obtain ⟨Z, HZ, hZ0, hZs⟩ := zero_pre
  obtain ⟨hk1, hk2, hk3, hb0⟩ := three_blks w (kc K) Z Z 25 47 47
  rw [HZ.out] at hk3
  rw [← HZ.out] at hk3
  have K1 := hid hk1; have K2 := hid hk2; have K3 := hid hk3; have B0 := hid hb0
  clear hk1 hk2 hk3 hb0
  go_enter Tryz.func66, Tryz.ntmps66
  go_wp2_with fail
  generalize ((w.alloc (.cells (kc K) 25)).alloc (.cells Z 47)).alloc (.cells Z 47) = w0 at K1 K2 K3 B0 ⊢
  go_loopw [6] (fun i wr => ∃ k : Nat, k ≤ 256 ∧ i = .int .i64 k ∧ Hid (k ≤ lim n) ∧ Hid (Blk wr w.heap.size 25 (kc K)) ∧ Hid (Blk wr (w.heap.size + 1) 47 Z) ∧ Hid (Blk wr (w.heap.size + 1 + 1) 47 (pc k (cut K k))) ∧ Hid (Below w.heap.size w wr)) (fun i _ => 256 - (intOf i).toNat)
  case atStart => exact ⟨0, Nat.zero_le _, rfl, Nat.zero_le _, K1.out, K2.out, by (show Blk w0 (w.heap.size + 1 + 1) 47 (pc 0 (cut K 0))); rw [cut_0, ← HZ.out]; exact K3.out, B0.out⟩
  case round =>
    obtain ⟨k, hk, rfl, HL, HK1, HK2, HK3, HB⟩ := hrel
    clear K1 K2 K3 B0
    by_cases hlt : k < 256 ∧ (k : Int) < n
    · obtain ⟨hk256, hkn⟩ := hlt
      have hki : (k : Int) < 256 := by omega
      have CB := hid (fun w => rBit_in K hK k hk256 w)
      have CS := hid (fun w => rSet_any (cut K k) (cut_ky K k) k hk256 w)
      have h01 := bit01 K k
      have hq1 := cut_1 K k
      have hq0 := cut_same K k
      have HL2 : Hid (k + 1 ≤ lim n) := by show _ ≤ min n.toNat 256; omega
      generalize bit K k = v at CB h01 hq1 hq0
      have c1 : wr.cell? ⟨w.heap.size + 1 + 1, 0, none⟩ = some (.int .i64 k) := by rw [HK3.out.cell]; rfl
      have c2 : wr.frozen? ⟨w.heap.size + 1 + 1, 0, none⟩ = false := HK3.out.frozen _
      have L1 : Hid (Blk (wr.setCell ⟨w.heap.size + 1 + 1, 0, none⟩ (.int .i64 (k + 1))) w.heap.size 25 (kc K)) := HK1.out.far (by simp <;> omega) _
      have L2 : Hid (Blk (wr.setCell ⟨w.heap.size + 1 + 1, 0, none⟩ (.int .i64 (k + 1))) (w.heap.size + 1) 47 Z) := HK2.out.far (by simp <;> omega) _
      have L3 : Hid (Blk (wr.setCell ⟨w.heap.size + 1 + 1, 0, none⟩ (.int .i64 (k + 1))) (w.heap.size + 1 + 1) 47 (pc ((k + 1 : Nat) : Int) (cut K k))) := HK3.out.setd 0 _
      have LB : Hid (Below w.heap.size w (wr.setCell ⟨w.heap.size + 1 + 1, 0, none⟩ (.int .i64 (k + 1)))) := HB.out.setCell (by simp; omega) _
      rcases h01 with rfl | rfl
      · have HQ := hid (hq0 rfl)
        clear hq0 hq1 HK1 HK2 HK3 HB
        go_wp2_with (first
          | (refine load_at rfl 25 (.tmp 2) rfl w.heap.size 0 rfl (u8s K) _ (blk_key L1.out) Tryz.underlying25 rfl (u8s_info hK) (kc K) rfl ?_)
          | (go_at_call 68; refine (CB.out _).mono ?_; rintro e w1 ⟨rfl, hb1⟩; have M1 := hid (L1.out.below hb1); have M2 := hid (L2.out.below hb1); have M3 := hid (L3.out.below hb1); have MB := hid (LB.out.trans (hb1.mono LB.out.size)); clear hb1 L1 L2 L3 LB))
        exact ⟨⟨k + 1, by omega, by go_num, HL2.out, M1.out, M2.out, by (show Blk _ _ _ _); rw [← HQ.out]; exact M3.out, MB.out⟩, by simp [intOf]; omega⟩
      · have HQ := hid (hq1 rfl)
        clear hq0 hq1 HK1 HK2 HK3 HB
        have hS := setb_ky (cut K k) k
        have hC := cut_ky K k
        rw [HQ.out] at CS hS
        go_wp2_with (first
          | (refine load_at rfl 25 (.tmp 2) rfl w.heap.size 0 rfl (u8s K) _ (blk_key L1.out) Tryz.underlying25 rfl (u8s_info hK) (kc K) rfl ?_)
          | (go_at_call 68; refine (CB.out _).mono ?_; rintro e w1 ⟨rfl, hb1⟩; have M1 := hid (L1.out.below hb1); have M2 := hid (L2.out.below hb1); have M3 := hid (L3.out.below hb1); have MB := hid (LB.out.trans (hb1.mono LB.out.size)); clear hb1 L1 L2 L3 LB)
          | (refine load_at rfl 25 (.tmp 24) rfl (w.heap.size + 1 + 1) 1 rfl (u8s (cut K k)) _ (pc_range M3.out) Tryz.underlying25 rfl (u8s_info hC) (kc (cut K k)) rfl ?_)
          | (go_at_call 82; refine (CS.out _).mono ?_; rintro e w2 ⟨rfl, hb2⟩; have N1 := hid (M1.out.below hb2); have N2 := hid (M2.out.below hb2); have N3 := hid (M3.out.below hb2); have NB := hid (MB.out.trans (hb2.mono MB.out.size)); clear hb2 M1 M2 M3 MB)
          | (refine store_bits rfl (.tmp 28) (.tmp 27) rfl (w.heap.size + 1 + 1) rfl ((k + 1 : Nat) : Int) (cut K k) (cut K (k + 1)) rfl hC hS N3.out ?_; intro w3 o3 of ob; have O3 := hid o3; have O1 := hid (of _ _ _ (by omega) N1.out); have O2 := hid (of _ _ _ (by omega) N2.out); have OB := hid (ob _ _ (by omega) NB.out); clear o3 of ob N1 N2 N3 NB))
        exact ⟨⟨k + 1, by omega, by go_num, HL2.out, O1.out, O2.out, O3.out, OB.out⟩, by simp [intOf]; omega⟩
    · have he : Hid (lim n = k) := by
        have := HL.out
        show min n.toNat 256 = k
        unfold lim at this
        omega
      have hx : 256 ≤ k ∨ ¬ (k : Int) < n := by omega
      have hC := cut_ky K k
      have HI := hid (pc_info k hC)
      have HZ33 : Hid (Z.size = (pc k (cut K k)).size) := by show _ = _; rw [HZ.out, pc_size 0 zk_ky, pc_size _ hC]
      clear hlt
      rcases hx with hx | hx
      · obtain rfl : k = 256 := by omega
        by_cases hn : (256 : Int) < n
        all_goals
          go_wp2_with (first
            | (refine load_at rfl 47 (.tmp 5) rfl (w.heap.size + 1 + 1) 0 rfl (.int .i64 (256 : Nat) :: u8s (cut K 256)) _ (blk_pre HK3.out) Tryz.underlying47 rfl (pcl_info _ hC) (pc (256 : Nat) (cut K 256)) rfl ?_)
            | (refine wpList_store_row rfl 47 (.tmp 4) (.tmp 29) rfl (w.heap.size + 1) (pc (256 : Nat) (cut K 256)) rfl rfl 47 Z HK2.out HI.out HZ33.out (pc_one _ _) ?_))
          try go_frame
          refine bodyPost_ret (results_cell_row Tryz.results66 _ _ (w.heap.size + 1) 47 (pc (256 : Nat) (cut K 256)) (0, 0) _ rfl (HK2.out.row _) Tryz.underlying47 rfl HI.out) rfl ?_
          rw [he.out]
          exact ⟨rfl, below_setRow HB.out (by omega) _⟩
      · go_wp2_with (first
            | (refine load_at rfl 47 (.tmp 5) rfl (w.heap.size + 1 + 1) 0 rfl (.int .i64 k :: u8s (cut K k)) _ (blk_pre HK3.out) Tryz.underlying47 rfl (pcl_info _ hC) (pc k (cut K k)) rfl ?_)
            | (refine wpList_store_row rfl 47 (.tmp 4) (.tmp 29) rfl (w.heap.size + 1) (pc k (cut K k)) rfl rfl 47 Z HK2.out HI.out HZ33.out (pc_one _ _) ?_))
        try go_frame
        refine bodyPost_ret (results_cell_row Tryz.results66 _ _ (w.heap.size + 1) 47 (pc k (cut K k)) (0, 0) _ rfl (HK2.out.row _) Tryz.underlying47 rfl HI.out) rfl ?_
        rw [he.out]
        exact ⟨rfl, below_setRow HB.out (by omega) _⟩
end Go.Proofs.YtjhaamffgkialaaGreatDoor
/-
  What is proved here: the beginning of a key, as the code cuts it.
-/
namespace Go.Proofs.YtjhaamffgkialaaGreatDoor
open Go.ChangeShapes Go.WideShapes Go.ChangeAt Go.RowKit
set_option linter.unusedVariables false

theorem built_pre : ∀ N : Int, Tryz.prog.built 47 [(0, .int .i64 N)] = some (pc N zk) := by
  intro N
  kernel_rfl
theorem built_lit : ∀ (N b0 b1 b2 b3 b4 b5 b6 b7 b8 b9 b10 b11 b12 b13 b14 b15 b16 b17 b18 b19 b20 b21 b22 b23 b24 b25 b26 b27 b28 b29 b30 b31 : Int), Tryz.prog.built 47 [(0, .int .i64 N), (1, .agg (kc [b0, b1, b2, b3, b4, b5, b6, b7, b8, b9, b10, b11, b12, b13, b14, b15, b16, b17, b18, b19, b20, b21, b22, b23, b24, b25, b26, b27, b28, b29, b30, b31]))] = some (pc N [b0, b1, b2, b3, b4, b5, b6, b7, b8, b9, b10, b11, b12, b13, b14, b15, b16, b17, b18, b19, b20, b21, b22, b23, b24, b25, b26, b27, b28, b29, b30, b31]) := by
  intro N b0 b1 b2 b3 b4 b5 b6 b7 b8 b9 b10 b11 b12 b13 b14 b15 b16 b17 b18 b19 b20 b21 b22 b23 b24 b25 b26 b27 b28 b29 b30 b31
  kernel_rfl
theorem len_32 (B : List Int) (h : B.length = 32) : ∃ b0 b1 b2 b3 b4 b5 b6 b7 b8 b9 b10 b11 b12 b13 b14 b15 b16 b17 b18 b19 b20 b21 b22 b23 b24 b25 b26 b27 b28 b29 b30 b31 : Int, B = [b0, b1, b2, b3, b4, b5, b6, b7, b8, b9, b10, b11, b12, b13, b14, b15, b16, b17, b18, b19, b20, b21, b22, b23, b24, b25, b26, b27, b28, b29, b30, b31] := by
  match B, h with
  | [b0, b1, b2, b3, b4, b5, b6, b7, b8, b9, b10, b11, b12, b13, b14, b15, b16, b17, b18, b19, b20, b21, b22, b23, b24, b25, b26, b27, b28, b29, b30, b31], _ => exact ⟨b0, b1, b2, b3, b4, b5, b6, b7, b8, b9, b10, b11, b12, b13, b14, b15, b16, b17, b18, b19, b20, b21, b22, b23, b24, b25, b26, b27, b28, b29, b30, b31, rfl⟩
theorem built_all (N : Int) (B : List Int) (hB : Ky B) : Tryz.prog.built 47 [(0, .int .i64 N), (1, .agg (kc B))] = some (pc N B) := by
  obtain ⟨b0, b1, b2, b3, b4, b5, b6, b7, b8, b9, b10, b11, b12, b13, b14, b15, b16, b17, b18, b19, b20, b21, b22, b23, b24, b25, b26, b27, b28, b29, b30, b31, rfl⟩ := len_32 B hB.len
  exact built_lit N b0 b1 b2 b3 b4 b5 b6 b7 b8 b9 b10 b11 b12 b13 b14 b15 b16 b17 b18 b19 b20 b21 b22 b23 b24 b25 b26 b27 b28 b29 b30 b31
theorem build_1 {ops : Array Oper} {rest : List Oper} {o : Oper} {a : Act} {w : World} {Q : Exit → Act → World → Prop} (hg : o.guard = none) (x : Operand) (ho : o.op = .build 47 #[(0, x)]) (N : Int) (hx : a.eval x = .int .i64 N)
    (h : wpList Tryz.prog ops Q rest (a.put o.dst (.agg (pc N zk))) w) : wpList Tryz.prog ops Q (o :: rest) a w := by
  have e : (Array.map (fun (i, x) => (i, a.eval x)) #[((0 : Nat), x)]).toList = [(0, .int .i64 N)] := by simp [hx]
  refine wpList_build hg 47 #[(0, x)] ho (by rw [e, built_pre]; rfl) ?_
  rw [e, built_pre]
  exact h
theorem build_2 {ops : Array Oper} {rest : List Oper} {o : Oper} {a : Act} {w : World} {Q : Exit → Act → World → Prop} (hg : o.guard = none) (x y : Operand) (ho : o.op = .build 47 #[(0, x), (1, y)]) (N : Int) (hx : a.eval x = .int .i64 N) (B : List Int) (hy : a.eval y = .agg (kc B)) (hB : Ky B)
    (h : wpList Tryz.prog ops Q rest (a.put o.dst (.agg (pc N B))) w) : wpList Tryz.prog ops Q (o :: rest) a w := by
  have e : (Array.map (fun (i, x) => (i, a.eval x)) #[((0 : Nat), x), (1, y)]).toList = [(0, .int .i64 N), (1, .agg (kc B))] := by simp [hx, hy]
  refine wpList_build hg 47 #[(0, x), (1, y)] ho (by rw [e, built_all N B hB]; rfl) ?_
  rw [e, built_all N B hB]
  exact h
/-- the first bytes of a key, noughts behind them -/
def cp (K : List Int) (m : Nat) : List Int := K.take m ++ zk.drop m
theorem cp_ky {K : List Int} (h : Ky K) (m : Nat) (hm : m ≤ 32) : Ky (cp K m) := ⟨by
  unfold cp
  rw [List.length_append, List.length_take, List.length_drop, h.len, zk_ky.len]; omega, fun v hv => by
  unfold cp at hv
  rcases List.mem_append.1 hv with h1 | h1
  · exact h.bs v (List.mem_of_mem_take h1)
  · exact zk_ky.bs v (List.mem_of_mem_drop h1)⟩
theorem zk_at (j : Nat) : zk[j]?.getD 0 = 0 := by
  unfold zk
  rw [List.getElem?_replicate]
  split <;> rfl
theorem cp_at {K : List Int} (h : Ky K) (m : Nat) (hm : m ≤ 32) (j : Nat) : (cp K m)[j]?.getD 0 = if j < m then K[j]?.getD 0 else 0 := by
  unfold cp
  have hl : (K.take m).length = m := by rw [List.length_take, h.len]; omega
  by_cases hj : j < m
  · rw [if_pos hj, List.getElem?_append_left (by omega), List.getElem?_take, if_pos hj]
  · rw [if_neg hj, List.getElem?_append_right (by omega), hl, List.getElem?_drop]
    exact zk_at _
theorem bt_0 (t : Nat) : bt 0 t = 0 := by unfold bt; simp
theorem cp_cut {K : List Int} (h : Ky K) (m : Nat) (hm : m ≤ 32) : cp K m = cut K (8 * m) :=
  eq_ofBits (cp_ky h m hm) (cutF01 K _) (fun i hi => by
    unfold cutF
    show bt ((cp K m)[i / 8]?.getD 0) (i % 8) = _
    rw [cp_at h m hm]
    by_cases e : i / 8 < m
    · rw [if_pos e, if_pos (by omega)]; rfl
    · rw [if_neg e, if_neg (by omega), bt_0])
theorem mask_f : ∀ r : Fin 8, ∀ b : Fin 256, 0 < r.val → 0 ≤ bits .andNot .u8 (b.val : Int) (255 / 2 ^ r.val) ∧ bits .andNot .u8 (b.val : Int) (255 / 2 ^ r.val) < 256 ∧ ∀ t : Fin 8, bt (bits .andNot .u8 (b.val : Int) (255 / 2 ^ r.val)) t.val = if t.val < r.val then bt (b.val : Int) t.val else 0 := by decide +kernel
theorem mask (b : Int) (hb : 0 ≤ b ∧ b < 256) (r : Nat) (h0 : 0 < r) (h8 : r < 8) : 0 ≤ bits .andNot .u8 b (255 / 2 ^ r) ∧ bits .andNot .u8 b (255 / 2 ^ r) < 256 ∧ ∀ t, t < 8 → bt (bits .andNot .u8 b (255 / 2 ^ r)) t = if t < r then bt b t else 0 := by
  obtain ⟨n, rfl⟩ : ∃ n : Nat, b = n := ⟨b.toNat, by omega⟩
  obtain ⟨h1, h2, h3⟩ := mask_f ⟨r, h8⟩ ⟨n, by omega⟩ h0
  exact ⟨h1, h2, fun t ht => h3 ⟨t, ht⟩⟩
theorem mask_cut {K : List Int} (h : Ky K) (m r : Nat) (hm : m < 32) (h0 : 0 < r) (h8 : r < 8) : (cp K m).set m (bits .andNot .u8 (K[m]?.getD 0) (255 / 2 ^ r)) = cut K (8 * m + r) := by
  obtain ⟨h1, h2, h3⟩ := mask _ (h.bs.at m) r h0 h8
  refine eq_ofBits (ky_set (cp_ky h m (by omega)) _ _ h1 h2) (cutF01 K _) (fun i hi => ?_)
  unfold cutF
  rw [bit_set (cp_ky h m (by omega)) m hm]
  by_cases e : i / 8 = m
  · rw [if_pos e, h3 _ (by omega)]
    by_cases e2 : i % 8 < r
    · rw [if_pos e2, if_pos (by omega)]
      unfold bit
      rw [e]
    · rw [if_neg e2, if_neg (by omega)]
  · rw [if_neg e]
    show bt ((cp K m)[i / 8]?.getD 0) (i % 8) = _
    rw [cp_at h m (by omega)]
    by_cases e2 : i / 8 < m
    · rw [if_pos e2, if_pos (by omega)]; rfl
    · rw [if_neg e2, if_neg (by omega), bt_0]
theorem splice_pre (N : Int) {K : List Int} (h : Ky K) (m : Nat) (hm : m ≤ 32) : (splice (.int .i64 N :: u8s zk) 1 (u8s (K.take m))).toArray = pc N (cp K m) := by
  unfold splice pc cp
  have e : 1 + (u8s (K.take m)).length = m + 1 := by rw [u8s_length, List.length_take, h.len]; omega
  rw [e]
  simp [u8s]
end Go.Proofs.YtjhaamffgkialaaGreatDoor
/-
  What is proved here: the beginning of a key, as the code cuts it: the walk.
-/
namespace Go.Proofs.YtjhaamffgkialaaGreatDoor
open Go.ChangeShapes Go.WideShapes Go.ChangeAt Go.RowKit
set_option linter.unusedVariables false
set_option maxRecDepth 20000

set_option maxHeartbeats 1000000 in
theorem pCut_any (K : List Int) (hK : Ky K) (n : Int) (w : World) :
    Calls Tryz.prog 54 #[.agg (kc K), .int .i64 n] w fun e w' => e = .returned (.agg (pc (lim n) (cut K (lim n)))) ∧ Below w.heap.size w w' := by
  obtain ⟨Z, HZ, hZ0, hZs⟩ := zero_pre
  obtain ⟨hk1, hk2, hk3, hb0⟩ := three_blks w (kc K) Z Z 25 47 47
  have K1 := hid hk1; have K2 := hid hk2; have K3 := hid hk3; have B0 := hid hb0
  clear hk1 hk2 hk3 hb0
  obtain ⟨N, hN⟩ : ∃ N, N = lim n := ⟨_, rfl⟩
  have HN := hid hN
  rw [← hN]
  clear hN
  have HI := hid (pc_info N zk_ky)
  have HZ33 : Hid (Z.size = (pc N zk).size) := by show _ = _; rw [HZ.out, pc_size 0 zk_ky, pc_size _ zk_ky]
  have HI2 := hid (pc_info N (cut_ky K N))
  have HZ34 : Hid (Z.size = (pc N (cut K N)).size) := by show _ = _; rw [HZ.out, pc_size 0 zk_ky, pc_size _ (cut_ky K N)]
  go_enter Tryz.func54, Tryz.ntmps54
  go_upto_region 1 with (fail)
  go_cut [1] (fun s1 wx => s1 = .int .i64 N ∧ wx = (w.alloc (.cells (kc K) 25)).alloc (.cells Z 47))
  case first =>
    have hn : n < 0 ∧ N = 0 ∨ 256 < n ∧ N = 256 ∨ 0 ≤ n ∧ n ≤ 256 ∧ n = N := by
      have := HN.out
      unfold lim at this
      omega
    rcases hn with ⟨h1, rfl⟩ | ⟨h1, rfl⟩ | ⟨h0, h1, rfl⟩
    · go_wp2
      go_meet
      exact ⟨rfl, rfl⟩
    · have h0 : 0 ≤ n := by omega
      go_wp2
      go_meet
      exact ⟨rfl, rfl⟩
    · go_wp2
      go_meet
      exact ⟨rfl, rfl⟩
  case rest =>
    obtain ⟨rfl, rfl⟩ := hcut
    have hN256 : N ≤ 256 := by have := HN.out; unfold lim at this; omega
    have i0 : (0 : Int) ≤ (N : Int) := by omega
    have i1 : (N : Int) ≤ 256 := by omega
    go_wp2_with (first
      | (refine build_1 rfl (.tmp 15) rfl N rfl ?_)
      | (refine wpList_store_row rfl 47 (.tmp 7) (.tmp 16) rfl (w.heap.size + 1 + 1) (pc N zk) rfl rfl 47 Z K3.out HI.out HZ33.out (pc_one _ _) ?_))
    have L1 : Hid (Blk ((((w.alloc (.cells (kc K) 25)).alloc (.cells Z 47)).alloc (.cells Z 47)).setRow (w.heap.size + 1 + 1) (pc N zk)) w.heap.size 25 (kc K)) := K1.out.rowFar (by omega) _
    have L2 : Hid (Blk ((((w.alloc (.cells (kc K) 25)).alloc (.cells Z 47)).alloc (.cells Z 47)).setRow (w.heap.size + 1 + 1) (pc N zk)) (w.heap.size + 1) 47 Z) := K2.out.rowFar (by omega) _
    have L3 : Hid (Blk ((((w.alloc (.cells (kc K) 25)).alloc (.cells Z 47)).alloc (.cells Z 47)).setRow (w.heap.size + 1 + 1) (pc N zk)) (w.heap.size + 1 + 1) 47 (pc N zk)) := K3.out.row _
    have LB : Hid (Below w.heap.size w ((((w.alloc (.cells (kc K) 25)).alloc (.cells Z 47)).alloc (.cells Z 47)).setRow (w.heap.size + 1 + 1) (pc N zk))) := below_setRow B0.out (by omega) _
    clear K1 K2 K3 B0
    generalize (((w.alloc (.cells (kc K) 25)).alloc (.cells Z 47)).alloc (.cells Z 47)).setRow (w.heap.size + 1 + 1) (pc N zk) = w1 at L1 L2 L3 LB ⊢
    have q0 : (0 : Int) ≤ (N : Int) / 8 := by omega
    have q1 : (N : Int) / 8 ≤ 32 := by omega
    have q2 : ((N : Int) / 8).toNat = N / 8 := by omega
    have hT : (K.take (N / 8)).length = N / 8 := by rw [List.length_take, hK.len]; omega
    have HN1 : Hid ((u8s (K.take (N / 8))).length = Nat.min 32 (N / 8)) := by
      show _ = min 32 (N / 8)
      rw [u8s_length, hT]; omega
    have HP : Hid (0 < (u8s (K.take (N / 8))).length → (some ⟨w.heap.size + 1 + 1, 1, none⟩ : Option Addr) = some ⟨w.heap.size + 1 + 1, 1, none⟩ ∧ ∃ ad, (some ⟨w.heap.size, 0, none⟩ : Option Addr) = some ad ∧ ∀ j v, (u8s (K.take (N / 8)))[j]? = some v → w1.drew.cell? (ad.add j) = some v) := fun _ => ⟨rfl, _, rfl, fun j v hv => by
      rw [Addr.add_mid, L1.out.drew.cell, Nat.zero_add, kc, List.getElem?_toArray]
      unfold u8s at hv ⊢
      rw [List.map_take, List.getElem?_take] at hv
      split at hv
      · exact hv
      · cases hv⟩
    have HF : Hid (1 + (u8s (K.take (N / 8))).length ≤ (Value.int .i64 (N : Int) :: u8s zk).length) := by
      show _ ≤ _
      rw [List.length_cons, u8s_length, u8s_length, hT, zk_ky.len]; omega
    have HBB : Hid (Below (w.heap.size + 1 + 1) w1 w1.drew) := (Below.refl _ _).drew
    have HSP := hid (splice_pre N hK (N / 8) (by omega))
    have HG : Hid (w1.drew.heap[w.heap.size + 1 + 1]? = some (.cells (Value.int .i64 (N : Int) :: u8s zk).toArray 47 (0, 0))) := L3.out
    clear hT
    try go_frame
    go_region_law ((with_reducible refine step_copy_splice (d := .tmp 19) (s := .tmp 20) (dT := 65) (sT := 65) (elem := 5) (dp := some (⟨w.heap.size + 1 + 1, 1, none⟩ : Addr)) (sp := some (⟨w.heap.size, 0, none⟩ : Addr)) (dLen := N / 8) (dCap := 32) (sLen := 32) (sCap := 32) (g := w.heap.size + 1 + 1) (off := 1) (cur := Value.int .i64 (N : Int) :: u8s zk) (t := 47) (cs := u8s (K.take (N / 8))) (B := w.heap.size + 1 + 1) (w0 := w1) ?_ ?_ ?_ ?_ ?_ ?_ ?_ ?_ ?_ ?_ ?_ ?_ ?_ ?_); rfl; rfl; exact Tryz.underlying65; kernel_rfl; go_simp; go_simp; exact HG.out; exact HN1.out; exact HP.out; exact HF.out; exact u8s_one _; exact HBB.out; exact Nat.le_refl _; intro w4 hg4 hb4)
    have M1 := hid (L1.out.same (hb4.block _ (by omega)))
    have M2 := hid (L2.out.same (hb4.block _ (by omega)))
    have M3 : Hid (Blk w4 (w.heap.size + 1 + 1) 47 (pc N (cp K (N / 8)))) := by
      show _ = _
      rw [← HSP.out]; exact hg4.out
    have MB := hid (LB.out.trans (hb4.mono (by omega)))
    clear hg4 hb4 L1 L2 L3 LB HG HBB HF HP HN1 HSP
    by_cases hr : N % 8 = 0
    · have HC := hid (cp_cut hK (N / 8) (by omega))
      rw [show 8 * (N / 8) = N by omega] at HC
      have hri : (N : Int) % 8 = 0 := by omega
      rw [HC.out] at M3
      clear hr HC
      go_wp2_with (first
        | (refine load_at rfl 47 (.tmp 7) rfl (w.heap.size + 1 + 1) 0 rfl (.int .i64 N :: u8s (cut K N)) _ (blk_pre M3.out) Tryz.underlying47 rfl (pcl_info _ (cut_ky K N)) (pc N (cut K N)) rfl ?_)
        | (refine wpList_store_row rfl 47 (.tmp 4) (.tmp 33) rfl (w.heap.size + 1) (pc N (cut K N)) rfl rfl 47 Z M2.out HI2.out HZ34.out (pc_one _ _) ?_))
      try go_frame
      refine bodyPost_ret (results_cell_row Tryz.results54 _ _ (w.heap.size + 1) 47 (pc N (cut K N)) (0, 0) _ rfl (M2.out.row _) Tryz.underlying47 rfl HI2.out) rfl ?_
      exact ⟨rfl, below_setRow MB.out (by omega) _⟩
    · have hlt32 : N / 8 < 32 := by omega
      have HC := hid (mask_cut hK (N / 8) (N % 8) hlt32 (by omega) (by omega))
      rw [show 8 * (N / 8) + N % 8 = N by omega] at HC
      have c1 : w4.cell? ⟨w.heap.size, N / 8, none⟩ = some (.int .u8 (K[N / 8]?.getD 0)) := by rw [M1.out.cell]; exact kc_at hK _ hlt32
      obtain ⟨b, hb⟩ : ∃ b, b = K[N / 8]?.getD 0 := ⟨_, rfl⟩
      rw [← hb] at c1 HC
      have r0 : (0 : Int) < (N : Int) % 8 := by omega
      have r1 : (N : Int) % 8 < 8 := by omega
      have r2 : ((N : Int) % 8).toNat = N % 8 := by omega
      have q3 : (N : Int) / 8 < 32 := by omega
      have hcp : (cp K (N / 8)).length = 32 := (cp_ky hK _ (by omega)).len
      have c3 : ∃ v, w4.cell? ⟨w.heap.size + 1 + 1, 1 + N / 8, none⟩ = some v := by
        rw [M3.out.cell, Nat.add_comm 1, pc_at N (cp_ky hK _ (by omega)) _ hlt32]; exact ⟨_, rfl⟩
      obtain ⟨u, c3⟩ := c3
      have c4 : w4.frozen? ⟨w.heap.size + 1 + 1, 1 + N / 8, none⟩ = false := M3.out.frozen _
      clear hr hb hcp
      go_wp2
      refine wp_region_still_tail 9 (by kernel_rfl) (by kernel_rfl) ?_
      simp only [List.take_succ_cons, List.take_zero, List.drop_succ_cons, List.drop_zero]
      repeat still_step
      refine wpStill_nil ?_
      change wpList _ _ _ _ _ w4.drew
      have d3 : w4.drew.cell? ⟨w.heap.size + 1 + 1, 1 + N / 8, none⟩ = some u := c3
      have d4 : w4.drew.frozen? ⟨w.heap.size + 1 + 1, 1 + N / 8, none⟩ = false := c4
      have P2 : Hid (Blk w4.drew (w.heap.size + 1) 47 Z) := M2.out
      have P3 : Hid (Blk w4.drew (w.heap.size + 1 + 1) 47 (pc N (cp K (N / 8)))) := M3.out
      have PB : Hid (Below w.heap.size w w4.drew) := MB.out.drew
      clear c1 c3 c4 M1 M2 M3 MB
      generalize w4.drew = w5 at d3 d4 P2 P3 PB ⊢
      have R2 : Hid (Blk (w5.setCell ⟨w.heap.size + 1 + 1, 1 + N / 8, none⟩ (.int .u8 (bits BinOp.andNot IntKind.u8 b (255 / 2 ^ (N % 8))))) (w.heap.size + 1) 47 Z) := P2.out.far (by simp) _
      have R3 : Hid (Blk (w5.setCell ⟨w.heap.size + 1 + 1, 1 + N / 8, none⟩ (.int .u8 (bits BinOp.andNot IntKind.u8 b (255 / 2 ^ (N % 8))))) (w.heap.size + 1 + 1) 47 (pc N (cut K N))) := by
        have := P3.out.setd (1 + N / 8) (.int .u8 (bits BinOp.andNot IntKind.u8 b (255 / 2 ^ (N % 8))))
        rwa [pc_set, HC.out] at this
      have RB : Hid (Below w.heap.size w (w5.setCell ⟨w.heap.size + 1 + 1, 1 + N / 8, none⟩ (.int .u8 (bits BinOp.andNot IntKind.u8 b (255 / 2 ^ (N % 8)))))) := PB.out.setCell (by simp; omega) _
      clear P2 P3 PB HC
      go_wp2_with (first
        | (refine load_at rfl 47 (.tmp 7) rfl (w.heap.size + 1 + 1) 0 rfl (.int .i64 N :: u8s (cut K N)) _ (blk_pre R3.out) Tryz.underlying47 rfl (pcl_info _ (cut_ky K N)) (pc N (cut K N)) rfl ?_)
        | (refine wpList_store_row rfl 47 (.tmp 4) (.tmp 33) rfl (w.heap.size + 1) (pc N (cut K N)) rfl rfl 47 Z R2.out HI2.out HZ34.out (pc_one _ _) ?_))
      try go_frame
      refine bodyPost_ret (results_cell_row Tryz.results54 _ _ (w.heap.size + 1) 47 (pc N (cut K N)) (0, 0) _ rfl (R2.out.row _) Tryz.underlying47 rfl HI2.out) rfl ?_
      exact ⟨rfl, below_setRow RB.out (by omega) _⟩
end Go.Proofs.YtjhaamffgkialaaGreatDoor
/-
  What is proved here: two keys are the same just if their bytes are; two beginnings just if their lengths and bytes are.
-/
namespace Go.Proofs.YtjhaamffgkialaaGreatDoor
open Go.ChangeShapes Go.WideShapes Go.ChangeAt Go.RowKit
set_option linter.unusedVariables false
set_option maxRecDepth 20000

theorem pto_u8 (l : List Int) (h : Bs l) : u8s l = (l.map fun v => UInt8.ofNat v.toNat).map Go.Extern.Stop.cell := by
  unfold u8s
  rw [List.map_map]
  apply List.map_congr_left
  intro v hv
  obtain ⟨h0, h1⟩ := h v hv
  show Value.int .u8 v = .int .u8 ((UInt8.ofNat v.toNat).toNat : Int)
  congr 1
  rw [UInt8.toNat_ofNat']
  omega
theorem pu8_inj (a b : List Int) (ha : Bs a) (hb : Bs b) (h : (a.map fun v => UInt8.ofNat v.toNat) = b.map fun v => UInt8.ofNat v.toNat) : a = b := by
  have h2 : u8s a = u8s b := by rw [pto_u8 a ha, pto_u8 b hb, h]
  unfold u8s at h2
  have : Function.Injective (Value.int .u8) := fun x y e => by injection e
  exact (List.map_inj_right (fun x y e => this e)).1 h2
theorem equal_key (d : Nat) (a b : List Int) (ha : Ky a) (hb : Ky b) (w : World) : (Op.equalIn (d + 2) 25 (.agg (kc a)) (.agg (kc b))).run Tryz.prog w = .ok (decide (a = b)) w := by
  have h := run_equalIn_bytes (P := Tryz.prog) w d 25 5 32 Tryz.underlying25 Tryz.underlying5 (fun w => by kernel_rfl) (a.map fun v => UInt8.ofNat v.toNat) (b.map fun v => UInt8.ofNat v.toNat) (by simp [ha.len]) (by simp [hb.len])
  rw [← pto_u8 a ha.bs, ← pto_u8 b hb.bs] at h
  show (Op.equalIn (d + 2) 25 (.agg (u8s a).toArray) (.agg (u8s b).toArray)).run Tryz.prog w = _
  rw [h]
  congr 1
  rw [Bool.eq_iff_iff, beq_iff_eq, decide_eq_true_iff]
  exact ⟨fun e => pu8_inj a b ha.bs hb.bs e, fun e => by rw [e]⟩
theorem eql_key (a b : List Int) (ha : Ky a) (hb : Ky b) (w : World) : (binOp .eql 25 (.agg (kc a)) (.agg (kc b))).run Tryz.prog w = .ok (.bool (decide (a = b))) w := by
  rw [run_eql_struct, equal_key 9998 a b ha hb w]
  rfl
theorem pc_extract (l : Int) (B : List Int) (h : Ky B) : (pc l B).extract 1 33 = kc B := by
  apply Array.ext_getElem?
  intro i
  rw [Array.getElem?_extract]
  by_cases hi : i < 32
  · rw [if_pos (by rw [pc_size l h]; omega), Nat.add_comm 1 i, pc_at l h i hi, kc_at h i hi]
  · rw [if_neg (by rw [pc_size l h]; omega), Array.getElem?_eq_none (by rw [kc_size h]; omega)]
theorem part_len (l : Int) (B : List Int) (w : World) : (part 3 (pc l B) 0).run Tryz.prog w = .ok (.int .i64 l) w := by
  have h : (isAgg 3).run Tryz.prog w = .ok false w := by kernel_rfl
  unfold part
  simp [Sem.run_bind, h, Result.andThen_ok, pc_0]
theorem part_bits (l : Int) (B : List Int) (hB : Ky B) (w : World) : (part 25 (pc l B) 1).run Tryz.prog w = .ok (.agg (kc B)) w := by
  have h : (isAgg 25).run Tryz.prog w = .ok true w := by kernel_rfl
  unfold part
  simp [Sem.run_bind, h, Result.andThen_ok, pc_extract l B hB]
theorem eql_pre (l m : Int) (B C : List Int) (hB : Ky B) (hC : Ky C) (w : World) : (binOp .eql 47 (.agg (pc l B)) (.agg (pc m C))).run Tryz.prog w = .ok (.bool (decide (l = m ∧ B = C))) w := by
  have hf : ∃ f0 f1 : Field, (Tryz.prog.fieldsOf 47).toList = [f0, f1] ∧ f0.name ≠ "_" ∧ f1.name ≠ "_" ∧ f0.type = 3 ∧ f1.type = 25 ∧ f0.offset = 0 ∧ f1.offset = 1 := by
    refine ⟨_, _, by (have := Tryz.underlying47; unfold Program.fieldsOf; rw [this]), by decide, by decide, rfl, rfl, rfl, rfl⟩
  obtain ⟨f0, f1, e1, n0, n1, t0, t1, o0, o1⟩ := hf
  rw [run_eql_struct, run_equalIn_struct w 9999 47 _ _ (by kernel_rfl) (by kernel_rfl), e1]
  simp only [Op.eqFields, t0, t1, o0, o1]
  rw [if_pos n0, if_pos n1]
  simp only [Sem.run_bind, part_len, part_bits l B hB, part_bits m C hC, Result.andThen_ok, run_equalIn_int w 9998 3 .i64 .i64 l m Tryz.underlying3, equal_key 9997 B C hB hC, Sem.run_ite, Sem.run_pure]
  by_cases h1 : l = m
  · subst h1
    by_cases h2 : B = C
    · subst h2; simp
    · simp [h2]
  · simp [h1]
end Go.Proofs.YtjhaamffgkialaaGreatDoor
/-
  What is proved here: whether a beginning is one, holds a key, holds another beginning: as the code tells it.
-/
namespace Go.Proofs.YtjhaamffgkialaaGreatDoor
open Go.ChangeShapes Go.WideShapes Go.ChangeAt Go.RowKit
set_option linter.unusedVariables false
set_option maxRecDepth 20000

/-- whether it is a beginning -/
def frm (l : Int) (B : List Int) : Bool := decide (0 ≤ l ∧ l ≤ 256 ∧ cut B l.toNat = B)
/-- whether it holds a key -/
def hld (l : Int) (B K : List Int) : Bool := decide (0 ≤ l ∧ l ≤ 256 ∧ cut K l.toNat = B)
/-- whether it holds a beginning -/
def wth (l : Int) (B : List Int) (m : Int) (C : List Int) : Bool := frm m C && decide (l ≤ m) && hld l B C
theorem lim_in (l : Int) (h0 : 0 ≤ l) (h1 : l ≤ 256) : lim l = l.toNat := by unfold lim; omega
theorem hld_code (l : Int) (B K : List Int) : decide ((lim l : Int) = l ∧ cut K (lim l) = B) = hld l B K := by
  unfold hld
  rw [decide_eq_decide]
  by_cases h : 0 ≤ l ∧ l ≤ 256
  · rw [lim_in l h.1 h.2]
    exact ⟨fun h2 => ⟨h.1, h.2, h2.2⟩, fun h2 => ⟨by omega, h2.2.2⟩⟩
  · exact ⟨fun h2 => by have := h2.1; unfold lim at this; omega, fun h2 => absurd ⟨h2.1, h2.2.1⟩ h⟩
theorem hld_ref {l : Int} {B K : List Int} (hB : Ky B) : (frm l B && decide (l ≤ (shr B K : Int))) = hld l B K := by
  unfold frm hld
  rw [Bool.eq_iff_iff, Bool.and_eq_true, decide_eq_true_iff, decide_eq_true_iff, decide_eq_true_iff]
  constructor
  · rintro ⟨⟨h0, h1, h2⟩, h3⟩
    refine ⟨h0, h1, ?_⟩
    rw [← (le_shr_iff (by omega)).1 (show l.toNat ≤ shr B K by omega)]
    exact h2
  · rintro ⟨h0, h1, h2⟩
    have h3 : cut B l.toNat = B := by rw [← h2, cut_cut, Nat.min_self]
    refine ⟨⟨h0, h1, h3⟩, ?_⟩
    have := (le_shr_iff (K := B) (L := K) (n := l.toNat) (by omega)).2 (by rw [h3, h2])
    omega

set_option maxHeartbeats 1000000 in
theorem pHolds_any (l : Int) (B K : List Int) (hB : Ky B) (hK : Ky K) (w : World) :
    Calls Tryz.prog 49 #[.agg (pc l B), .agg (kc K)] w fun e w' => e = .returned (.bool (hld l B K)) ∧ Below w.heap.size w w' := by
  obtain ⟨hk1, hk2, hb0⟩ := one_blks w (pc l B) (kc K) 47 25
  have K1 := hid hk1; have K2 := hid hk2; have B0 := hid hb0
  clear hk1 hk2 hb0
  have CC := hid (fun w => pCut_any K hK l w)
  have heq := fun w => eql_pre (lim l) l (cut K (lim l)) B (cut_ky K _) hB w
  rw [hld_code] at heq
  generalize hld l B K = v at heq ⊢
  go_enter Tryz.func49, Tryz.ntmps49
  go_wp2
  generalize (w.alloc (.cells (pc l B) 47)).alloc (.cells (kc K) 25) = w0 at K1 K2 B0 ⊢
  have hl := fun p : PW (Kp w0) => kp_len K1.out p
  refine region_kept (Kp w0) (by kernel_rfl) (by kernel_rfl) (kp_begin w0) ?_
  repeat (first
    | go_big_quiet_skip
    | (go_big_quiet_want; refine quiet_load 25 (.tmp 3) rfl (w.heap.size + 1) 0 rfl (u8s K) _ (fun p => kp_key K2.out p) Tryz.underlying25 rfl (u8s_info hK) (kc K) rfl ?_; go_big_quiet_on; simp only [Act.put, List.setIfInBounds_toArray, List.set_cons_zero, List.set_cons_succ])
    | (go_big_quiet_want; refine quiet_load 47 (.tmp 2) rfl w.heap.size 0 rfl (.int .i64 l :: u8s B) _ (fun p => kp_pre K1.out p) Tryz.underlying47 rfl (pcl_info l hB) (pc l B) rfl ?_; go_big_quiet_on; simp only [Act.put, List.setIfInBounds_toArray, List.set_cons_zero, List.set_cons_succ])
    | (go_big_quiet_want; go_big_quiet_op; first | go_big_quiet_on | go_big_quiet_call (with_reducible exact kp_call (CC.out _))))
  refine wpQuiet_nil ?_
  intro _ hw'
  obtain ⟨p, hw''⟩ := hw'
  subst hw''
  go_wp2
  go_ret
  exact ⟨rfl, B0.out.trans (Below.mono p.h B0.out.size)⟩
set_option maxHeartbeats 1000000 in
theorem pFormed_any (l : Int) (B : List Int) (hB : Ky B) (w : World) :
    Calls Tryz.prog 75 #[.agg (pc l B)] w fun e w' => e = .returned (.bool (frm l B)) ∧ Below w.heap.size w w' := by
  have K1 : Hid (Blk (w.alloc (.cells (pc l B) 47)) w.heap.size 47 (pc l B)) := Blk.new w 47 _
  have B0 : Hid (Below w.heap.size w (w.alloc (.cells (pc l B) 47))) := (Below.refl _ _).alloc (Nat.le_refl _) _
  have CC : Hid (∀ w, Calls Tryz.prog 49 #[.agg (pc l B), .agg (kc B)] w fun e w' => e = .returned (.bool (frm l B)) ∧ Below w.heap.size w w') := fun w => pHolds_any l B B hB hB w
  generalize frm l B = v at CC ⊢
  go_enter Tryz.func75, Tryz.ntmps75
  go_wp2_with (first
    | (refine load_at rfl 47 (.tmp 1) rfl w.heap.size 0 rfl (.int .i64 l :: u8s B) _ (blk_pre K1.out) Tryz.underlying47 rfl (pcl_info l hB) (pc l B) rfl ?_)
    | (refine load_at rfl 25 (.tmp 4) rfl w.heap.size 1 rfl (u8s B) _ (pc_range K1.out) Tryz.underlying25 rfl (u8s_info hB) (kc B) rfl ?_)
    | (go_at_call 49; refine (CC.out _).mono ?_; rintro e w1 ⟨rfl, hb1⟩; have B1 := hid (B0.out.trans (hb1.mono B0.out.size)); clear hb1))
  go_ret
  exact ⟨rfl, B1.out⟩
end Go.Proofs.YtjhaamffgkialaaGreatDoor
