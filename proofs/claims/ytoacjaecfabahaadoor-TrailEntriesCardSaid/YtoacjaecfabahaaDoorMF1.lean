/-
  What this file is for: the mathematics of ranges of a list: the segments of a range are the only cover of it by aligned powers of two no two of which can be made one; whatever two are made one first, the same hashes come of it; the root. Nothing of the program is named here.
-/
import Derived.Test.YtoacjaecfabahaaDoorMA1
import Derived.Shelf.Small.Bits
import Derived.Shelf.Spec.TrailingZeros
import Derived.Shelf.Lay
import Derived.Test.YtoacjaecfabahaaDoorMA2
import Derived.Great.BuildSlice
import Derived.Laws.OwnMore
import Derived.Maps.AppendAt
import Derived.Deep.RegionHeld3
import Derived.Deep.MidRow
import Derived.Deep.Cut
import Derived.Deep.DeepCutAuto
set_option linter.unusedSimpArgs false
set_option linter.unusedVariables false
namespace Go.Proofs.YtoacjaecfabahaaDoor
set_option linter.unusedVariables false
set_option linter.unusedSimpArgs false

/-- the exponent of the segment that begins at place a, with l places left: the greatest m from m on -/
def sgo (a l : Nat) : Nat → Nat → Nat
  | 0, m => m
  | f + 1, m => if 2 ^ (m + 1) ≤ l ∧ a % 2 ^ (m + 1) = 0 then sgo a l f (m + 1) else m
def sg (a l : Nat) : Nat := sgo a l l 0
/-- what a segment's exponent is -/
def IsSg (a l m : Nat) : Prop := 2 ^ m ∣ a ∧ 2 ^ m ≤ l ∧ ¬ (2 ^ (m + 1) ∣ a ∧ 2 ^ (m + 1) ≤ l)
theorem pow_mono2 {m k : Nat} (h : m ≤ k) : 2 ^ m ≤ 2 ^ k := Nat.pow_le_pow_right (by decide) h
theorem pow_dvd2 {m k a : Nat} (h : m ≤ k) (hd : 2 ^ k ∣ a) : 2 ^ m ∣ a := Nat.dvd_trans (Nat.pow_dvd_pow 2 h) hd
theorem IsSg.uniq {a l m k : Nat} (h : IsSg a l m) (g : IsSg a l k) : m = k := by
  rcases Nat.lt_trichotomy m k with hl | he | hl
  · exact absurd ⟨pow_dvd2 hl g.1, Nat.le_trans (pow_mono2 hl) g.2.1⟩ h.2.2
  · exact he
  · exact absurd ⟨pow_dvd2 hl h.1, Nat.le_trans (pow_mono2 hl) h.2.1⟩ g.2.2
theorem sgo_is {a l : Nat} : ∀ (f m : Nat), l < 2 ^ (m + f + 1) → 2 ^ m ∣ a → 2 ^ m ≤ l → IsSg a l (sgo a l f m)
  | 0, m, hf, h1, h2 => by
    refine ⟨h1, h2, fun h => ?_⟩
    have := h.2
    rw [Nat.add_zero] at hf
    exact absurd hf (Nat.not_lt.2 this)
  | f + 1, m, hf, h1, h2 => by
    unfold sgo
    by_cases h : 2 ^ (m + 1) ≤ l ∧ a % 2 ^ (m + 1) = 0
    · rw [if_pos h]
      exact sgo_is f (m + 1) (by rw [show m + 1 + f + 1 = m + (f + 1) + 1 by omega]; exact hf) (Nat.dvd_of_mod_eq_zero h.2) h.1
    · rw [if_neg h]
      exact ⟨h1, h2, fun g => h ⟨g.2, Nat.mod_eq_zero_of_dvd g.1⟩⟩
theorem sg_is {a l : Nat} (hl : 0 < l) : IsSg a l (sg a l) :=
  sgo_is l 0 (Nat.lt_trans Nat.lt_two_pow_self (Nat.pow_lt_pow_right (by decide) (by omega))) (by simp) (by rw [Nat.pow_zero]; exact hl)

/-- the segments' exponents -/
def segs : Nat → Nat → Nat → List Nat
  | 0, _, _ => []
  | f + 1, a, l => if l = 0 then [] else sg a l :: segs f (a + 2 ^ sg a l) (l - 2 ^ sg a l)
def seg (a b : Nat) : List Nat := segs (b - a) a (b - a)
theorem pow_pos2 (m : Nat) : 0 < 2 ^ m := Nat.pow_pos (by decide)
theorem segs_fuel : ∀ (f g a l : Nat), l ≤ f → l ≤ g → segs f a l = segs g a l
  | 0, 0, _, _, _, _ => rfl
  | 0, g + 1, a, l, h, _ => by simp [segs, Nat.le_zero.1 h]
  | f + 1, 0, a, l, _, h => by simp [segs, Nat.le_zero.1 h]
  | f + 1, g + 1, a, l, h, k => by
    simp only [segs]
    split
    · rfl
    · have := pow_pos2 (sg a l)
      rw [segs_fuel f g _ _ (by omega) (by omega)]
theorem seg_nil {a b : Nat} (h : b ≤ a) : seg a b = [] := by
  unfold seg
  rw [Nat.sub_eq_zero_of_le h]; rfl
theorem seg_cons {a b : Nat} (h : a < b) : seg a b = sg a (b - a) :: seg (a + 2 ^ sg a (b - a)) b := by
  obtain ⟨l, hl⟩ : ∃ l, b - a = l + 1 := ⟨b - a - 1, by omega⟩
  unfold seg
  have hp := pow_pos2 (sg a (b - a))
  rw [hl] at hp ⊢
  rw [segs, if_neg (by omega)]
  congr 1
  have e : b - (a + 2 ^ sg a (l + 1)) = l + 1 - 2 ^ sg a (l + 1) := by omega
  rw [e]
  exact segs_fuel _ _ _ _ (by omega) (by omega)
theorem sg_le {a b : Nat} (h : a < b) : a + 2 ^ sg a (b - a) ≤ b := by
  have := (sg_is (a := a) (l := b - a) (by omega)).2.1
  omega

/-- the exponents cover what is from a to b -/
def Al : Nat → List Nat → Nat → Prop
  | a, [], b => a = b
  | a, m :: L, b => 2 ^ m ∣ a ∧ Al (a + 2 ^ m) L b
/-- no two side by side can be made one -/
def Nm : Nat → List Nat → Prop
  | _, [] => True
  | a, m :: L => (∀ k, L.head? = some k → ¬ (m = k ∧ 2 ^ (m + 1) ∣ a)) ∧ Nm (a + 2 ^ m) L
def adv (a : Nat) : List Nat → Nat
  | [] => a
  | m :: L => adv (a + 2 ^ m) L
theorem adv_append : ∀ (L M : List Nat) (a : Nat), adv a (L ++ M) = adv (adv a L) M
  | [], _, _ => rfl
  | m :: L, M, a => adv_append L M _
theorem al_adv : ∀ {L : List Nat} {a b : Nat}, Al a L b → adv a L = b
  | [], _, _, h => h
  | _ :: L, _, _, h => al_adv (L := L) h.2
theorem al_le : ∀ {L : List Nat} {a b : Nat}, Al a L b → a ≤ b
  | [], _, _, h => Nat.le_of_eq h
  | m :: L, a, b, h => by have := al_le (L := L) h.2; have := pow_pos2 m; omega
theorem al_append : ∀ {L M : List Nat} {a b : Nat}, Al a (L ++ M) b ↔ Al a L (adv a L) ∧ Al (adv a L) M b
  | [], M, a, b => by simp [Al, adv]
  | m :: L, M, a, b => by
    show 2 ^ m ∣ a ∧ Al (a + 2 ^ m) (L ++ M) b ↔ (2 ^ m ∣ a ∧ Al (a + 2 ^ m) L _) ∧ _
    rw [al_append (L := L)]
    exact ⟨fun h => ⟨⟨h.1, h.2.1⟩, h.2.2⟩, fun h => ⟨h.1.1, h.1.2, h.2⟩⟩
theorem al_seg : ∀ (n : Nat) {a b : Nat}, b - a ≤ n → a ≤ b → Al a (seg a b) b
  | 0, a, b, h, hab => by
    have : a = b := by omega
    subst this
    rw [seg_nil (Nat.le_refl _)]; rfl
  | n + 1, a, b, h, hab => by
    by_cases he : a = b
    · subst he; rw [seg_nil (Nat.le_refl _)]; rfl
    · rw [seg_cons (by omega)]
      have h1 := sg_is (a := a) (l := b - a) (by omega)
      have := pow_pos2 (sg a (b - a))
      have := sg_le (a := a) (b := b) (by omega)
      exact ⟨h1.1, al_seg n (by omega) (by omega)⟩
/-- from a place that 2^j divides, behind a lesser segment no more than what is below 2^j -/
theorem nm_short : ∀ {L : List Nat} {a b j m : Nat}, Al a (m :: L) b → Nm a (m :: L) → 2 ^ j ∣ a → m < j → b < a + 2 ^ j
  | [], a, b, j, m, h, _, hd, hm => by
    have e : a + 2 ^ m = b := h.2
    have : 2 ^ (m + 1) ≤ 2 ^ j := pow_mono2 hm
    have := pow_pos2 m
    have e2 : 2 ^ (m + 1) = 2 ^ m * 2 := Nat.pow_succ 2 m
    omega
  | k :: L, a, b, j, m, h, hn, hd, hm => by
    have h1 : 2 ^ k ∣ a + 2 ^ m := h.2.1
    have hma : 2 ^ (m + 1) ∣ a := pow_dvd2 hm hd
    have hkm : k < m := by
      have hne := hn.1 k rfl
      have hle : k ≤ m := by
        refine Nat.le_of_not_lt fun hlt => ?_
        have h2 : 2 ^ (m + 1) ∣ a + 2 ^ m := pow_dvd2 hlt h1
        have h3 : 2 ^ (m + 1) ∣ 2 ^ m := (Nat.dvd_add_right hma).1 h2
        have := Nat.le_of_dvd (pow_pos2 m) h3
        have := pow_pos2 m
        have e2 : 2 ^ (m + 1) = 2 ^ m * 2 := Nat.pow_succ 2 m
        omega
      refine Nat.lt_of_le_of_ne hle fun he => hne ⟨he.symm, hma⟩
    have h2 := nm_short (L := L) (j := m) h.2 hn.2 (Nat.dvd_add (pow_dvd2 (Nat.le_of_lt hm) hd) (Nat.dvd_refl _)) hkm
    have : 2 ^ (m + 1) ≤ 2 ^ j := pow_mono2 hm
    have e2 : 2 ^ (m + 1) = 2 ^ m * 2 := Nat.pow_succ 2 m
    omega
/-- there is one such cover alone -/
theorem nm_uniq : ∀ {L : List Nat} {a b : Nat}, Al a L b → Nm a L → L = seg a b
  | [], a, b, h, _ => by
    have : a = b := h
    subst this
    rw [seg_nil (Nat.le_refl _)]
  | m :: L, a, b, h, hn => by
    have hle := al_le h.2
    have hp := pow_pos2 m
    have h1 : IsSg a (b - a) m := by
      refine ⟨h.1, by omega, fun hc => ?_⟩
      have := nm_short (j := m + 1) h hn hc.1 (Nat.lt_succ_self m)
      omega
    have e : m = sg a (b - a) := h1.uniq (sg_is (by omega))
    rw [seg_cons (by omega), ← e, ← nm_uniq (L := L) h.2 hn.2]
theorem nm_seg : ∀ (n : Nat) {a b : Nat}, b - a ≤ n → Nm a (seg a b)
  | 0, a, b, h => by rw [seg_nil (by omega)]; trivial
  | n + 1, a, b, h => by
    by_cases he : b ≤ a
    · rw [seg_nil he]; trivial
    · have h1 := sg_is (a := a) (l := b - a) (by omega)
      have hp := pow_pos2 (sg a (b - a))
      have hle := sg_le (a := a) (b := b) (by omega)
      rw [seg_cons (by omega)]
      refine ⟨fun k hk hc => ?_, nm_seg n (by omega)⟩
      by_cases hb : b ≤ a + 2 ^ sg a (b - a)
      · rw [seg_nil hb] at hk; cases hk
      · rw [seg_cons (by omega)] at hk
        have h2 := (sg_is (a := a + 2 ^ sg a (b - a)) (l := b - (a + 2 ^ sg a (b - a))) (by omega)).2.1
        injection hk with hk
        rw [hk, ← hc.1] at h2
        refine h1.2.2 ⟨hc.2, ?_⟩
        rw [Nat.pow_succ]; omega

/-- how many segments there are, where the places left are below 2^j, and 2^j divides the first one -/
theorem seg_fall : ∀ (j : Nat) {a b : Nat}, 2 ^ j ∣ a → b < a + 2 ^ j → (seg a b).length ≤ j
  | 0, a, b, _, h => by rw [seg_nil (by simp at h; omega)]; exact Nat.le_refl _
  | j + 1, a, b, hd, h => by
    by_cases he : b ≤ a
    · rw [seg_nil he]; exact Nat.zero_le _
    · have h1 := sg_is (a := a) (l := b - a) (by omega)
      generalize hm : sg a (b - a) = m at h1
      rw [seg_cons (by omega), hm, List.length_cons]
      have hmj : m < j + 1 := by
        refine Nat.lt_of_not_le fun hle => ?_
        have := pow_mono2 hle
        have := h1.2.1
        omega
      have hlt : b - a < 2 ^ (m + 1) := Nat.lt_of_not_le fun hc => h1.2.2 ⟨pow_dvd2 hmj hd, hc⟩
      have h2 := h1.2.1
      have h3 := seg_fall m (a := a + 2 ^ m) (b := b) (Nat.dvd_add (pow_dvd2 (by omega) hd) (Nat.dvd_refl _)) (by rw [Nat.pow_succ] at hlt; omega)
      omega
  termination_by j => j
theorem seg_rise : ∀ (n : Nat) {t a b : Nat}, 31 - t ≤ n → t ≤ 31 → 2 ^ t ∣ a → b - a < 2 ^ 31 → (seg a b).length ≤ (31 - t) + 31
  | n, t, a, b, hn, ht, hd, hl => by
    by_cases he : b ≤ a
    · rw [seg_nil he]; exact Nat.zero_le _
    · have h1 := sg_is (a := a) (l := b - a) (by omega)
      by_cases hf : b < a + 2 ^ t
      · have := seg_fall t hd hf
        omega
      · generalize hm : sg a (b - a) = m at h1
        have hm30 : m ≤ 30 := by
          refine Nat.le_of_not_lt fun hc => ?_
          have := pow_mono2 (show 31 ≤ m from hc)
          have := h1.2.1
          omega
        have htm : t ≤ m := by
          refine Nat.le_of_not_lt fun hc => ?_
          refine h1.2.2 ⟨pow_dvd2 hc hd, ?_⟩
          have := pow_mono2 (show m + 1 ≤ t from hc)
          omega
        rw [seg_cons (by omega), hm, List.length_cons]
        by_cases hc : 2 ^ (m + 1) ∣ a
        · have hlt : b - a < 2 ^ (m + 1) := Nat.lt_of_not_le fun hk => h1.2.2 ⟨hc, hk⟩
          have h2 := h1.2.1
          have h3 := seg_fall m (a := a + 2 ^ m) (b := b) (Nat.dvd_add h1.1 (Nat.dvd_refl _)) (by rw [Nat.pow_succ] at hlt; omega)
          omega
        · have h2 : 2 ^ (m + 1) ∣ a + 2 ^ m := by
            obtain ⟨q, hq⟩ := h1.1
            have hodd : q % 2 = 1 := by
              rcases Nat.mod_two_eq_zero_or_one q with h0 | h0
              · exact absurd ⟨q / 2, by rw [hq, Nat.pow_succ, Nat.mul_assoc]; congr 1; omega⟩ hc
              · exact h0
            refine ⟨(q + 1) / 2, ?_⟩
            rw [hq, Nat.pow_succ, Nat.mul_assoc]
            have e : 2 * ((q + 1) / 2) = q + 1 := by omega
            rw [e, Nat.mul_add, Nat.mul_one]
          match n, hn with
          | 0, hn => omega
          | n + 1, hn =>
            have h3 := seg_rise n (t := m + 1) (a := a + 2 ^ m) (b := b) (by omega) (by omega) h2 (by omega)
            omega
theorem seg_few {a b : Nat} (h : b - a < 2 ^ 31) : (seg a b).length ≤ 62 := by
  have := seg_rise 31 (t := 0) (a := a) (b := b) (by omega) (by omega) (by simp) h
  omega
theorem seg_exp : ∀ (n : Nat) {a b : Nat}, b - a ≤ n → b - a < 2 ^ 31 → ∀ m ∈ seg a b, m ≤ 30
  | 0, a, b, h, _, m, hm => by rw [seg_nil (by omega)] at hm; cases hm
  | n + 1, a, b, h, hl, m, hm => by
    by_cases he : b ≤ a
    · rw [seg_nil he] at hm; cases hm
    · have h1 := sg_is (a := a) (l := b - a) (by omega)
      have hp := pow_pos2 (sg a (b - a))
      rw [seg_cons (by omega)] at hm
      rcases List.mem_cons.1 hm with rfl | hm
      · refine Nat.le_of_not_lt fun hc => ?_
        have := pow_mono2 (show 31 ≤ _ from hc)
        have := h1.2.1
        omega
      · exact seg_exp n (by omega) (by omega) m hm

/-! Hashes: T tells the hash of a segment by its place and exponent. -/
section
variable {α : Type}
/-- the segments' hashes are those that T tells; from there on T tells hashes of two hashes -/
def Cn (nd : α → α → α) (T : Nat → Nat → α) : Nat → List (Nat × α) → Prop
  | _, [] => True
  | a, (m, h) :: L => (h = T a m ∧ ∀ j, m ≤ j → T a (j + 1) = nd (T a j) (T (a + 2 ^ j) j)) ∧ Cn nd T (a + 2 ^ m) L
def hsT (T : Nat → Nat → α) : Nat → List Nat → List α
  | _, [] => []
  | a, m :: L => T a m :: hsT T (a + 2 ^ m) L
theorem hs_len (T : Nat → Nat → α) : ∀ (L : List Nat) (a : Nat), (hsT T a L).length = L.length
  | [], _ => rfl
  | m :: L, a => by simp only [hsT, List.length_cons, hs_len T L]
abbrev exps (L : List (Nat × α)) : List Nat := L.map (·.1)
abbrev hshs (L : List (Nat × α)) : List α := L.map (·.2)
theorem cn_hs {nd : α → α → α} {T : Nat → Nat → α} : ∀ {L : List (Nat × α)} {a : Nat}, Cn nd T a L → hshs L = hsT T a (exps L)
  | [], _, _ => rfl
  | (m, h) :: L, a, hc => by
    show h :: hshs L = T a m :: hsT T (a + 2 ^ m) (exps L)
    rw [← hc.1.1, cn_hs (L := L) hc.2]
theorem cn_append {nd : α → α → α} {T : Nat → Nat → α} : ∀ {L M : List (Nat × α)} {a : Nat}, Cn nd T a (L ++ M) ↔ Cn nd T a L ∧ Cn nd T (adv a (exps L)) M
  | [], M, a => by simp [Cn, adv]
  | (m, h) :: L, M, a => by
    show _ ∧ Cn nd T (a + 2 ^ m) (L ++ M) ↔ (_ ∧ Cn nd T (a + 2 ^ m) L) ∧ Cn nd T (adv (a + 2 ^ m) (exps L)) M
    rw [cn_append (L := L)]
    exact ⟨fun h => ⟨⟨h.1, h.2.1⟩, h.2.2⟩, fun h => ⟨h.1.1, h.1.2, h.2⟩⟩
/-- a cover of a to b with T's hashes -/
structure Cv (nd : α → α → α) (T : Nat → Nat → α) (a b : Nat) (L : List (Nat × α)) : Prop where
  al : Al a (exps L) b
  cn : Cn nd T a L
theorem exps_append (L M : List (Nat × α)) : exps (L ++ M) = exps L ++ exps M := List.map_append
/-- two that fit are made one -/
theorem Cv.made {nd : α → α → α} {T : Nat → Nat → α} {a b m : Nat} {g h : α} {L M : List (Nat × α)} (H : Cv nd T a b (L ++ (m, g) :: (m, h) :: M)) (hd : 2 ^ (m + 1) ∣ adv a (exps L)) : Cv nd T a b (L ++ (m + 1, nd g h) :: M) := by
  obtain ⟨h1, h2⟩ := H
  rw [exps_append, al_append] at h1
  rw [cn_append] at h2
  obtain ⟨h1a, _, _, h1b⟩ := h1
  obtain ⟨h2a, ⟨e1, e2⟩, ⟨e3, e4⟩, h2b⟩ := h2
  have e : adv a (exps L) + 2 ^ m + 2 ^ m = adv a (exps L) + 2 ^ (m + 1) := by rw [Nat.pow_succ]; omega
  rw [e] at h1b h2b
  refine ⟨?_, ?_⟩
  · rw [exps_append, al_append]; exact ⟨h1a, hd, h1b⟩
  · rw [cn_append]
    refine ⟨h2a, ⟨?_, fun j hj => e2 j (by omega)⟩, h2b⟩
    rw [e1, e3, e2 m (Nat.le_refl _)]
/-- what comes in the end is told by T alone -/
theorem Cv.end {nd : α → α → α} {T : Nat → Nat → α} {a b : Nat} {L : List (Nat × α)} (H : Cv nd T a b L) (hn : Nm a (exps L)) : exps L = seg a b ∧ hshs L = hsT T a (seg a b) := by
  have h := nm_uniq H.al hn
  exact ⟨h, by rw [cn_hs H.cn, h]⟩
/-- any cover has such a T -/
theorem cn_any (nd : α → α → α) (d : α) : ∀ (L : List (Nat × α)) (a : Nat), ∃ T, Cn nd T a L
  | [], a => ⟨fun _ _ => d, trivial⟩
  | (m, h) :: L, a => by
    obtain ⟨T, hT⟩ := cn_any nd d L (a + 2 ^ m)
    let tw : Nat → α := fun j => Nat.rec h (fun i x => nd x (T (a + 2 ^ (m + i)) (m + i))) j
    let U : Nat → Nat → α := fun q j => if q = a then tw (j - m) else T q j
    have hU : ∀ (M : List (Nat × α)) (q : Nat), a < q → Cn nd T q M → Cn nd U q M := by
      intro M
      induction M with
      | nil => intro q _ _; trivial
      | cons x M ih =>
        intro q hq hc
        obtain ⟨k, g⟩ := x
        obtain ⟨⟨c1, c2⟩, c3⟩ := hc
        have hp := pow_pos2 k
        refine ⟨⟨?_, fun j hj => ?_⟩, ih _ (by omega) c3⟩
        · show g = if q = a then _ else _
          rw [if_neg (by omega)]; exact c1
        · have hp := pow_pos2 j
          show (if q = a then _ else T q (j + 1)) = nd (if q = a then _ else T q j) (if q + 2 ^ j = a then _ else T (q + 2 ^ j) j)
          rw [if_neg (by omega), if_neg (by omega), if_neg (by omega)]
          exact c2 j hj
    refine ⟨U, ⟨⟨?_, fun j hj => ?_⟩, hU L _ (by have := pow_pos2 m; omega) hT⟩⟩
    · show h = if a = a then tw (m - m) else _
      rw [if_pos rfl, Nat.sub_self]; rfl
    · have hp := pow_pos2 j
      show (if a = a then tw (j + 1 - m) else _) = nd (if a = a then tw (j - m) else _) (if a + 2 ^ j = a then _ else T (a + 2 ^ j) j)
      rw [if_pos rfl, if_pos rfl, if_neg (by omega)]
      obtain ⟨i, rfl⟩ : ∃ i, j = m + i := ⟨j - m, by omega⟩
      rw [show m + i + 1 - m = i + 1 by omega, show m + i - m = i by omega]

/-! The program's side by side: the last one first. -/
def push (nd : α → α → α) (at' : Nat) : List (Nat × α) → Nat → α → List (Nat × α)
  | [], m, h => [(m, h)]
  | (k, g) :: S, m, h => if k = m ∧ at'.testBit m = true then push nd at' S (m + 1) (nd g h) else (m, h) :: (k, g) :: S
theorem exps_rev (L : List (Nat × α)) : exps L.reverse = (exps L).reverse := List.map_reverse
theorem nm_snoc : ∀ {L : List Nat} {a m : Nat}, Nm a L → (∀ k, L.getLast? = some k → ¬ (k = m ∧ 2 ^ (k + 1) ∣ adv a L - 2 ^ k)) → Nm a (L ++ [m])
  | [], a, m, _, _ => ⟨fun k hk => (by cases hk), trivial⟩
  | [k], a, m, h, hl => by
    refine ⟨fun j hj hc => ?_, ?_⟩
    · injection hj with hj
      refine hl k rfl ⟨by rw [hj]; exact hc.1, ?_⟩
      show _ ∣ a + 2 ^ k - 2 ^ k
      rw [Nat.add_sub_cancel]; exact hc.2
    · exact ⟨fun j hj => (by cases hj), trivial⟩
  | k :: j :: L, a, m, h, hl => by
    refine ⟨fun i hi => ?_, nm_snoc (L := j :: L) h.2 (fun i hi => hl i ?_)⟩
    · exact h.1 i hi
    · rw [← hi]; rfl
theorem testBit_dvd {p m : Nat} : (p.testBit m = true ↔ p / 2 ^ m % 2 = 1) := by
  rw [Nat.testBit_eq_decide_div_mod_eq, decide_eq_true_eq]
/-- the place that the last segment begins at, where at' has what is below m cut off -/
theorem floor_next {p m : Nat} (h : p / 2 ^ m % 2 = 1) : p / 2 ^ m * 2 ^ m = p / 2 ^ (m + 1) * 2 ^ (m + 1) + 2 ^ m := by
  have e : p / 2 ^ (m + 1) = p / 2 ^ m / 2 := by rw [Nat.pow_succ, Nat.div_div_eq_div_mul]
  rw [e, Nat.pow_succ]
  generalize p / 2 ^ m = q at h ⊢
  obtain ⟨r, rfl⟩ : ∃ r, q = 2 * r + 1 := ⟨q / 2, by omega⟩
  rw [show (2 * r + 1) / 2 = r by omega, Nat.add_mul, Nat.one_mul, Nat.mul_comm 2 r, Nat.mul_assoc, Nat.mul_comm 2 (2 ^ m)]
theorem floor_even {p m : Nat} (h : ¬ p / 2 ^ m % 2 = 1) (hm : 2 ^ m ≤ p / 2 ^ m * 2 ^ m) : ¬ 2 ^ (m + 1) ∣ p / 2 ^ m * 2 ^ m - 2 ^ m := by
  generalize p / 2 ^ m = q at h hm ⊢
  have hp := pow_pos2 m
  have hq : 0 < q := by
    rcases Nat.eq_zero_or_pos q with rfl | h0
    · rw [Nat.zero_mul] at hm; omega
    · exact h0
  obtain ⟨r, rfl⟩ : ∃ r, q = 2 * r + 2 := ⟨q / 2 - 1, by omega⟩
  rintro ⟨c, hc⟩
  have e1 : (2 * r + 2) * 2 ^ m - 2 ^ m = (2 * r + 1) * 2 ^ m := by
    rw [show 2 * r + 2 = 2 * r + 1 + 1 by omega, Nat.add_mul, Nat.one_mul, Nat.add_sub_cancel]
  rw [e1, Nat.pow_succ, Nat.mul_comm (2 * r + 1), Nat.mul_assoc] at hc
  have := Nat.eq_of_mul_eq_mul_left hp hc
  omega
/-- what put does to a cover -/
theorem push_cv {nd : α → α → α} {T : Nat → Nat → α} {a b p : Nat} : ∀ {S : List (Nat × α)} {m : Nat} {h : α} {R : List (Nat × α)},
    Cv nd T a b (S.reverse ++ (m, h) :: R) → Nm a (exps S.reverse) → adv a (exps S.reverse) = p / 2 ^ m * 2 ^ m →
    Cv nd T a b ((push nd p S m h).reverse ++ R) ∧ Nm a (exps (push nd p S m h).reverse) ∧ adv a (exps (push nd p S m h).reverse) = adv a (exps S.reverse) + 2 ^ m
  | [], m, h, R, H, hn, ha => ⟨H, ⟨fun k hk => (by cases hk), trivial⟩, rfl⟩
  | (k, g) :: S, m, h, R, H, hn, ha => by
    rw [List.reverse_cons, exps_append, adv_append] at ha
    have ha' : adv a (exps S.reverse) + 2 ^ k = p / 2 ^ m * 2 ^ m := ha
    by_cases hc : k = m ∧ p.testBit m = true
    · obtain ⟨rfl, hb⟩ := hc
      rw [testBit_dvd] at hb
      have e := floor_next hb
      have e2 : adv a (exps S.reverse) = p / 2 ^ (k + 1) * 2 ^ (k + 1) := by omega
      rw [push, if_pos ⟨rfl, testBit_dvd.2 hb⟩]
      rw [List.reverse_cons, List.append_assoc] at H
      have hn' : Nm a (exps S.reverse) := by
        have : ∀ {L M : List Nat} {a : Nat}, Nm a (L ++ M) → Nm a L := by
          intro L
          induction L with
          | nil => intro M a _; trivial
          | cons x L ih =>
            intro M a h
            refine ⟨fun k hk => h.1 k ?_, ih h.2⟩
            cases L with
            | nil => cases hk
            | cons y L => exact hk
        rw [List.reverse_cons, exps_append] at hn
        exact this hn
      have h1 := H.made (by rw [e2]; exact Nat.dvd_mul_left _ _)
      obtain ⟨r1, r2, r3⟩ := push_cv (S := S) (R := R) h1 hn' e2
      refine ⟨r1, r2, ?_⟩
      rw [r3, List.reverse_cons, exps_append, adv_append]
      show _ = adv a (exps S.reverse) + 2 ^ k + 2 ^ k
      rw [Nat.pow_succ]; omega
    · rw [push, if_neg hc]
      have e3 : ((m, h) :: (k, g) :: S).reverse ++ R = ((k, g) :: S).reverse ++ (m, h) :: R := by simp
      refine ⟨by rw [e3]; exact H, ?_, ?_⟩
      · rw [List.reverse_cons, exps_append]
        refine nm_snoc hn fun j hj hcj => ?_
        have hjk : j = k := by
          rw [List.reverse_cons, exps_append] at hj
          simp only [exps, List.map_cons, List.map_nil, List.getLast?_append, List.getLast?_singleton, Option.some_or] at hj
          injection hj with hj; exact hj.symm
        subst hjk
        obtain ⟨rfl, hd⟩ := hcj
        rw [List.reverse_cons, exps_append, adv_append] at hd
        have hd' : 2 ^ (j + 1) ∣ adv a (exps S.reverse) + 2 ^ j - 2 ^ j := hd
        rw [ha'] at hd'
        refine floor_even (fun hb => hc ⟨rfl, testBit_dvd.2 hb⟩) (by omega) hd'
      · rw [List.reverse_cons, exps_append, adv_append]; rfl
/-- all of a list put, one after another, from place p on -/
def pushes (nd : α → α → α) : Nat → List (Nat × α) → List (Nat × α) → List (Nat × α)
  | _, S, [] => S
  | p, S, (m, h) :: R => pushes nd (p + 2 ^ m) (push nd p S m h) R
theorem pushes_append (nd : α → α → α) : ∀ (R Q : List (Nat × α)) (p : Nat) (S : List (Nat × α)), pushes nd p S (R ++ Q) = pushes nd (adv p (exps R)) (pushes nd p S R) Q
  | [], _, _, _ => rfl
  | (m, h) :: R, Q, p, S => pushes_append nd R Q _ _
theorem dvd_floor {p m : Nat} (h : 2 ^ m ∣ p) : p / 2 ^ m * 2 ^ m = p := Nat.div_mul_cancel h
theorem pushes_cv {nd : α → α → α} {T : Nat → Nat → α} {a b : Nat} : ∀ (R S : List (Nat × α)) (p : Nat), Cv nd T a b (S.reverse ++ R) → Nm a (exps S.reverse) → adv a (exps S.reverse) = p →
    Cv nd T a b (pushes nd p S R).reverse ∧ Nm a (exps (pushes nd p S R).reverse)
  | [], S, p, H, hn, _ => ⟨by rw [List.append_nil] at H; exact H, hn⟩
  | (m, h) :: R, S, p, H, hn, hp => by
    have hd : 2 ^ m ∣ p := by
      have h1 := H.al
      rw [exps_append, al_append, hp] at h1
      exact h1.2.1
    obtain ⟨r1, r2, r3⟩ := push_cv H hn (by rw [hp, dvd_floor hd])
    exact pushes_cv R (push nd p S m h) (p + 2 ^ m) r1 r2 (by rw [r3, hp])
/-- all of a cover put: the range's segments, with T's hashes -/
theorem pushes_end {nd : α → α → α} {T : Nat → Nat → α} {a b : Nat} {R : List (Nat × α)} (H : Cv nd T a b R) : exps (pushes nd a [] R).reverse = seg a b ∧ hshs (pushes nd a [] R).reverse = hsT T a (seg a b) := by
  obtain ⟨h1, h2⟩ := pushes_cv R [] a H trivial rfl
  exact h1.end h2

/-! The root. -/
def foldR (nd : α → α → α) (d : α) : List α → α
  | [] => d
  | [h] => h
  | h :: k :: L => nd h (foldR nd d (k :: L))
theorem foldR_cons {nd : α → α → α} {d h : α} {L : List α} (h0 : L ≠ []) : foldR nd d (h :: L) = nd h (foldR nd d L) := by
  cases L with
  | nil => exact absurd rfl h0
  | cons k L => rfl
end
end Go.Proofs.YtoacjaecfabahaaDoor
/-
  What this file is for: the mathematics of a list's root, of the ranges of its parts, and of joining from the left. Nothing of the program is named here.
-/
namespace Go.Proofs.YtoacjaecfabahaaDoor
set_option linter.unusedVariables false
set_option linter.unusedSimpArgs false

/-- the exponent of the greatest power of two below n (n at least 2) -/
def splo (n : Nat) : Nat → Nat → Nat
  | 0, m => m
  | f + 1, m => if 2 ^ m < n - 2 ^ m then splo n f (m + 1) else m
def spl (n : Nat) : Nat := splo n n 0
def IsSp (n m : Nat) : Prop := 2 ^ m < n ∧ n ≤ 2 ^ (m + 1)
theorem IsSp.uniq {n m k : Nat} (h : IsSp n m) (g : IsSp n k) : m = k := by
  rcases Nat.lt_trichotomy m k with hl | he | hl
  · have := pow_mono2 (show m + 1 ≤ k from hl); have := h.2; have := g.1; omega
  · exact he
  · have := pow_mono2 (show k + 1 ≤ m from hl); have := g.2; have := h.1; omega
theorem splo_is {n : Nat} : ∀ (f m : Nat), n < 2 ^ (m + f + 1) → 2 ^ m < n → IsSp n (splo n f m)
  | 0, m, hf, h1 => ⟨h1, by rw [Nat.add_zero] at hf; exact Nat.le_of_lt hf⟩
  | f + 1, m, hf, h1 => by
    unfold splo
    have e2 : 2 ^ (m + 1) = 2 ^ m * 2 := Nat.pow_succ 2 m
    by_cases h : 2 ^ m < n - 2 ^ m
    · rw [if_pos h]
      exact splo_is f (m + 1) (by rw [show m + 1 + f + 1 = m + (f + 1) + 1 by omega]; exact hf) (by omega)
    · rw [if_neg h]
      refine ⟨h1, ?_⟩
      show n ≤ 2 ^ (m + 1)
      omega
theorem spl_is {n : Nat} (h : 2 ≤ n) : IsSp n (spl n) :=
  splo_is n 0 (Nat.lt_trans Nat.lt_two_pow_self (Nat.pow_lt_pow_right (by decide) (by omega))) (by rw [Nat.pow_zero]; omega)
section
variable {α : Type} (nd : α → α → α) (d : α)
/-- the root of a list of hashes, as the chapter has it -/
def rtf : Nat → List α → α
  | 0, _ => d
  | f + 1, l => if l.length = 0 then d else if l.length = 1 then l[0]?.getD d else nd (rtf f (l.take (2 ^ spl l.length))) (rtf f (l.drop (2 ^ spl l.length)))
def rootL (l : List α) : α := rtf nd d l.length l
theorem root_fuel : ∀ (f g : Nat) (l : List α), l.length ≤ f → l.length ≤ g → rtf nd d f l = rtf nd d g l
  | 0, 0, _, _, _ => rfl
  | 0, g + 1, l, h, _ => by unfold rtf; rw [if_pos (by omega)]
  | f + 1, 0, l, _, h => by unfold rtf; rw [if_pos (by omega)]
  | f + 1, g + 1, l, h1, h2 => by
    unfold rtf
    by_cases h0 : l.length = 0
    · rw [if_pos h0, if_pos h0]
    · by_cases h3 : l.length = 1
      · rw [if_neg h0, if_neg h0, if_pos h3, if_pos h3]
      · have hs := spl_is (n := l.length) (by omega)
        have hp := pow_pos2 (spl l.length)
        have h4 := hs.1
        rw [if_neg h0, if_neg h0, if_neg h3, if_neg h3]
        rw [root_fuel f g _ (by rw [List.length_take]; omega) (by rw [List.length_take]; omega), root_fuel f g _ (by rw [List.length_drop]; omega) (by rw [List.length_drop]; omega)]
theorem rootL_nil : rootL nd d ([] : List α) = d := rfl
theorem rootL_one (h : α) : rootL nd d [h] = h := rfl
theorem rootL_more {l : List α} (h : 2 ≤ l.length) : rootL nd d l = nd (rootL nd d (l.take (2 ^ spl l.length))) (rootL nd d (l.drop (2 ^ spl l.length))) := by
  have hs := spl_is h
  have hp := pow_pos2 (spl l.length)
  have h4 := hs.1
  obtain ⟨f, hf⟩ : ∃ f, l.length = f + 1 := ⟨l.length - 1, by omega⟩
  have e : rootL nd d l = rtf nd d (f + 1) l := by unfold rootL; rw [hf]
  rw [e]
  unfold rtf
  rw [if_neg (by omega), if_neg (by omega)]
  unfold rootL
  rw [root_fuel nd d f _ _ (by rw [List.length_take]; omega) (Nat.le_refl _), root_fuel nd d f _ _ (by rw [List.length_drop]; omega) (Nat.le_refl _)]
/-- the hash of 2^k entries from a place on, F telling each place's entry -/
def tw (F : Nat → α) : Nat → Nat → α
  | p, 0 => F p
  | p, k + 1 => nd (tw F p k) (tw F (p + 2 ^ k) k)
/-- n entries from a place on -/
def lst (F : Nat → α) (p n : Nat) : List α := (List.range n).map fun i => F (p + i)
theorem lst_len (F : Nat → α) (p n : Nat) : (lst F p n).length = n := by simp [lst]
theorem lst_add (F : Nat → α) (p n m : Nat) : lst F p (n + m) = lst F p n ++ lst F (p + n) m := by
  unfold lst
  rw [List.range_add, List.map_append, List.map_map]
  congr 1
  refine List.map_congr_left fun i _ => ?_
  show F (p + (n + i)) = F (p + n + i)
  rw [Nat.add_assoc]
theorem lst_take (F : Nat → α) (p : Nat) {n k : Nat} (h : k ≤ n) : (lst F p n).take k = lst F p k := by
  obtain ⟨m, rfl⟩ : ∃ m, n = k + m := ⟨n - k, by omega⟩
  rw [lst_add, List.take_left' (lst_len F p k)]
theorem lst_drop (F : Nat → α) (p : Nat) {n k : Nat} (h : k ≤ n) : (lst F p n).drop k = lst F (p + k) (n - k) := by
  obtain ⟨m, rfl⟩ : ∃ m, n = k + m := ⟨n - k, by omega⟩
  rw [lst_add, List.drop_left' (lst_len F p k), Nat.add_sub_cancel_left]
theorem lst_at (F : Nat → α) (p : Nat) {n i : Nat} (h : i < n) : (lst F p n)[i]? = some (F (p + i)) := by
  unfold lst
  rw [List.getElem?_map, List.getElem?_range h]; rfl
/-- any list is such -/
theorem lst_of (d : α) (a : Nat) (l : List α) : l = lst (fun p => l[p - a]?.getD d) a l.length := by
  refine List.ext_getElem? fun i => ?_
  by_cases hi : i < l.length
  · rw [lst_at _ _ hi, List.getElem?_eq_getElem hi]
    show _ = some (l[a + i - a]?.getD d)
    rw [Nat.add_sub_cancel_left, List.getElem?_eq_getElem hi]; rfl
  · rw [List.getElem?_eq_none (by omega), List.getElem?_eq_none (by rw [lst_len]; omega)]
theorem tw_root (F : Nat → α) : ∀ (m p : Nat), tw nd F p m = rootL nd d (lst F p (2 ^ m))
  | 0, p => rfl
  | m + 1, p => by
    have e2 : 2 ^ (m + 1) = 2 ^ m * 2 := Nat.pow_succ 2 m
    have hp := pow_pos2 m
    have hl := lst_len F p (2 ^ (m + 1))
    rw [rootL_more nd d (by omega), hl, (spl_is (n := 2 ^ (m + 1)) (by omega)).uniq (k := m) ⟨by omega, Nat.le_refl _⟩, lst_take F p (by omega), lst_drop F p (by omega), ← tw_root F m p, show 2 ^ (m + 1) - 2 ^ m = 2 ^ m by omega, ← tw_root F m (p + 2 ^ m)]
    rfl
/-- a range's hashes, made one from the last ones on, are the root of what it covers, where it has one place to begin with -/
theorem fold_root (F : Nat → α) : ∀ (n : Nat) {p j k : Nat}, k ≤ n → 0 < k → 2 ^ j ∣ p → k ≤ 2 ^ j → foldR nd d (hsT (tw nd F) p (seg p (p + k))) = rootL nd d (lst F p k)
  | 0, p, j, k, h, h0, _, _ => by omega
  | n + 1, p, j, k, h, h0, hd, hk => by
    have e0 : p + k - p = k := by omega
    have h1 := sg_is (a := p) (l := k) h0
    rw [seg_cons (by omega), e0]
    generalize sg p k = m at h1
    have hp := pow_pos2 m
    have h2 := h1.2.1
    show foldR nd d (tw nd F p m :: hsT (tw nd F) (p + 2 ^ m) (seg (p + 2 ^ m) (p + k))) = _
    by_cases he : k = 2 ^ m
    · rw [seg_nil (by omega), he, ← tw_root]; rfl
    · have hmj : m < j := by
        refine Nat.lt_of_not_le fun hc => ?_
        have := pow_mono2 hc
        omega
      have hlt : k < 2 ^ (m + 1) := Nat.lt_of_not_le fun hc => h1.2.2 ⟨pow_dvd2 hmj hd, hc⟩
      have e2 : 2 ^ (m + 1) = 2 ^ m * 2 := Nat.pow_succ 2 m
      have e3 : p + k = p + 2 ^ m + (k - 2 ^ m) := by omega
      have ih := fold_root F n (p := p + 2 ^ m) (j := m) (k := k - 2 ^ m) (by omega) (by omega) (Nat.dvd_add h1.1 (Nat.dvd_refl _)) (by omega)
      have hl := lst_len F p k
      rw [foldR_cons (by rw [seg_cons (by omega)]; exact List.cons_ne_nil _ _), e3, ih, rootL_more nd d (l := lst F p k) (by omega), hl, (spl_is (n := k) (by omega)).uniq (k := m) ⟨by omega, by omega⟩, lst_take F p (by omega), lst_drop F p (by omega), ← tw_root]
theorem fold_root0 (F : Nat → α) (n : Nat) : foldR nd d (hsT (tw nd F) 0 (seg 0 n)) = rootL nd d (lst F 0 n) := by
  rcases Nat.eq_zero_or_pos n with rfl | h
  · rfl
  · have := fold_root nd d F n (p := 0) (j := n) (k := n) (Nat.le_refl _) h (Nat.dvd_zero _) (Nat.le_of_lt Nat.lt_two_pow_self)
    rwa [Nat.zero_add] at this
/-- entries as a cover -/
def unitsF (F : Nat → α) (a n : Nat) : List (Nat × α) := (lst F a n).map fun h => (0, h)
theorem units_zero (F : Nat → α) (a : Nat) : unitsF F a 0 = [] := rfl
theorem units_succ (F : Nat → α) (a n : Nat) : unitsF F a (n + 1) = unitsF F a n ++ [(0, F (a + n))] := by
  unfold unitsF
  rw [lst_add, List.map_append]; rfl
theorem units_cons (F : Nat → α) (a n : Nat) : unitsF F a (n + 1) = (0, F a) :: unitsF F (a + 1) n := by
  unfold unitsF
  rw [Nat.add_comm n 1, lst_add, List.map_append]; rfl
theorem tw_cn (F : Nat → α) (p j : Nat) : tw nd F p (j + 1) = nd (tw nd F p j) (tw nd F (p + 2 ^ j) j) := rfl
theorem units_cv (F : Nat → α) : ∀ (n a : Nat), Cv nd (tw nd F) a (a + n) (unitsF F a n)
  | 0, a => ⟨rfl, trivial⟩
  | n + 1, a => by
    rw [units_cons]
    have h := units_cv F n (a + 1)
    rw [show a + 1 + n = a + (n + 1) by omega] at h
    exact ⟨⟨Nat.one_dvd _, h.al⟩, ⟨⟨rfl, fun j _ => rfl⟩, h.cn⟩⟩
theorem units_adv (nd : α → α → α) (F : Nat → α) (a n : Nat) : adv a (exps (unitsF F a n)) = a + n := al_adv (units_cv nd F n a).al
/-- a range's segments with its hashes -/
def zipS (E : List Nat) (L : List α) : List (Nat × α) := E.zip L
theorem zip_exps {E : List Nat} {L : List α} (h : E.length = L.length) : exps (zipS E L) = E := List.map_fst_zip (Nat.le_of_eq h)
theorem zip_hshs {E : List Nat} {L : List α} (h : E.length = L.length) : hshs (zipS E L) = L := List.map_snd_zip (Nat.le_of_eq h.symm)
/-- two ranges side by side, whatever their hashes are: there is T that tells what comes of them -/
theorem two_any (d : α) {x y z : Nat} {L M : List α} (hxy : x ≤ y) (hyz : y ≤ z) (hL : L.length = (seg x y).length) (hM : M.length = (seg y z).length) :
    ∃ T, Cv nd T x z (zipS (seg x y) L ++ zipS (seg y z) M) := by
  obtain ⟨T, hT⟩ := cn_any nd d (zipS (seg x y) L ++ zipS (seg y z) M) x
  refine ⟨T, ?_, hT⟩
  have h1 := al_seg (y - x) (Nat.le_refl _) hxy
  rw [exps_append, zip_exps hL.symm, zip_exps hM.symm, al_append, al_adv h1]
  exact ⟨h1, al_seg (z - y) (Nat.le_refl _) hyz⟩
theorem zip_hs (T : Nat → Nat → α) : ∀ (E : List Nat) (a : Nat), (∀ p j, T p (j + 1) = nd (T p j) (T (p + 2 ^ j) j)) → Cn nd T a (zipS E (hsT T a E))
  | [], _, _ => trivial
  | m :: E, a, h => ⟨⟨rfl, fun j _ => h a j⟩, zip_hs T E _ h⟩
/-- two ranges of one list -/
theorem two_of {x y z : Nat} {T : Nat → Nat → α} (hT : ∀ p j, T p (j + 1) = nd (T p j) (T (p + 2 ^ j) j)) (hxy : x ≤ y) (hyz : y ≤ z) :
    Cv nd T x z (zipS (seg x y) (hsT T x (seg x y)) ++ zipS (seg y z) (hsT T y (seg y z))) := by
  have h1 := al_seg (y - x) (Nat.le_refl _) hxy
  have e1 := zip_exps (E := seg x y) (L := hsT T x (seg x y)) (hs_len T _ _).symm
  have e2 := zip_exps (E := seg y z) (L := hsT T y (seg y z)) (hs_len T _ _).symm
  refine ⟨?_, ?_⟩
  · rw [exps_append, e1, e2, al_append, al_adv h1]
    exact ⟨h1, al_seg (z - y) (Nat.le_refl _) hyz⟩
  · rw [cn_append, e1, al_adv h1]
    exact ⟨zip_hs nd T _ _ hT, zip_hs nd T _ _ hT⟩
end
/-! Joining from the left. -/
def fstM : Nat → List Nat → Option Nat
  | _, [] => none
  | a, m :: E => if E.head? = some m ∧ a % 2 ^ (m + 1) = 0 then some 0 else (fstM (a + 2 ^ m) E).map (· + 1)
theorem fstM_none : ∀ {E : List Nat} {a : Nat}, fstM a E = none → Nm a E
  | [], _, _ => trivial
  | m :: E, a, h => by
    unfold fstM at h
    by_cases hc : E.head? = some m ∧ a % 2 ^ (m + 1) = 0
    · rw [if_pos hc] at h; cases h
    · rw [if_neg hc] at h
      refine ⟨fun k hk hc2 => hc ⟨by rw [hk, hc2.1], Nat.mod_eq_zero_of_dvd hc2.2⟩, fstM_none ?_⟩
      cases hE : fstM (a + 2 ^ m) E with
      | none => rfl
      | some i => rw [hE] at h; cases h
theorem fstM_some : ∀ {E : List Nat} {a i : Nat}, fstM a E = some i → ∃ (A : List Nat) (m : Nat) (B : List Nat), E = A ++ m :: m :: B ∧ A.length = i ∧ 2 ^ (m + 1) ∣ adv a A
  | [], _, _, h => by cases h
  | m :: E, a, i, h => by
    unfold fstM at h
    by_cases hc : E.head? = some m ∧ a % 2 ^ (m + 1) = 0
    · rw [if_pos hc] at h
      injection h with h
      cases E with
      | nil => cases hc.1
      | cons k E =>
        have e : k = m := by have := hc.1; injection this
        subst e
        exact ⟨[], k, E, rfl, h, Nat.dvd_of_mod_eq_zero hc.2⟩
    · rw [if_neg hc] at h
      cases hE : fstM (a + 2 ^ m) E with
      | none => rw [hE] at h; cases h
      | some j =>
        rw [hE] at h
        injection h with h
        obtain ⟨A, k, B, e1, e2, e3⟩ := fstM_some hE
        exact ⟨m :: A, k, B, by rw [e1]; rfl, by rw [List.length_cons, e2]; exact h, e3⟩
end Go.Proofs.YtoacjaecfabahaaDoor
/-
  What this file is for: what stands side by side in the midst of a cover: few segments, none of them great. Nothing of the program is named here.
-/
namespace Go.Proofs.YtoacjaecfabahaaDoor
set_option linter.unusedVariables false
set_option linter.unusedSimpArgs false
section
variable {α : Type} {nd : α → α → α} {T : Nat → Nat → α}
theorem cv_take {a b : Nat} {R : List (Nat × α)} (H : Cv nd T a b R) (j : Nat) : Cv nd T a (adv a (exps (R.take j))) (R.take j) ∧ adv a (exps (R.take j)) ≤ b := by
  have h1 := H.al
  have h2 := H.cn
  rw [← List.take_append_drop j R] at h1 h2
  rw [exps_append, al_append] at h1
  rw [cn_append] at h2
  exact ⟨⟨h1.1, h2.1⟩, al_le h1.2⟩
theorem pushes_few {a b : Nat} {R : List (Nat × α)} (H : Cv nd T a b R) (hb : b - a < 2 ^ 31) (j : Nat) : (pushes nd a [] (R.take j)).length ≤ 62 ∧ ∀ q ∈ pushes nd a [] (R.take j), q.1 ≤ 30 := by
  obtain ⟨h1, h2⟩ := cv_take H j
  obtain ⟨h3, h4⟩ := pushes_cv (R.take j) [] a h1 trivial rfl
  have h5 := (h3.end h4).1
  have hlt : adv a (exps (R.take j)) - a < 2 ^ 31 := by omega
  refine ⟨?_, fun q hq => ?_⟩
  · have h6 := congrArg List.length h5
    rw [List.length_map, List.length_reverse] at h6
    rw [h6]
    exact seg_few hlt
  · refine seg_exp _ (Nat.le_refl _) hlt q.1 ?_
    rw [← h5]
    exact List.mem_map.2 ⟨q, List.mem_reverse.2 hq, rfl⟩
theorem pushes_snoc (nd : α → α → α) (R : List (Nat × α)) (p : Nat) (S : List (Nat × α)) (m : Nat) (h : α) : pushes nd p S (R ++ [(m, h)]) = push nd (adv p (exps R)) (pushes nd p S R) m h := by
  rw [pushes_append]; rfl
theorem take_snoc {β : Type} {R : List β} {i : Nat} {q : β} (h : R[i]? = some q) : R.take (i + 1) = R.take i ++ [q] := by
  rw [List.take_add_one, h]; rfl
theorem adv_snoc (p : Nat) (L : List Nat) (m : Nat) : adv p (L ++ [m]) = adv p L + 2 ^ m := by rw [adv_append]; rfl
theorem zip_at {E : List Nat} {L : List α} {i m : Nat} {h : α} (h1 : E[i]? = some m) (h2 : L[i]? = some h) : (zipS E L)[i]? = some (m, h) := by
  unfold zipS
  rw [List.getElem?_zip_eq_some]
  exact ⟨h1, h2⟩
theorem zip_len {E : List Nat} {L : List α} (h : E.length = L.length) : (zipS E L).length = E.length := by
  unfold zipS
  rw [List.length_zip, h, Nat.min_self]
theorem zip_take_exps {E : List Nat} {L : List α} (h : E.length = L.length) (i : Nat) : exps ((zipS E L).take i) = E.take i := by
  show ((zipS E L).take i).map (·.1) = _
  rw [List.map_take]
  exact congrArg (List.take i) (zip_exps h)
end
theorem push_len {α : Type} (nd : α → α → α) (p : Nat) : ∀ (S : List (Nat × α)) (m : Nat) (h : α), (push nd p S m h).length ≤ S.length + 1
  | [], _, _ => Nat.le_refl _
  | (k, g) :: S, m, h => by
    unfold push
    split
    · have := push_len nd p S (m + 1) (nd g h); simp only [List.length_cons]; omega
    · simp
theorem pushes_len {α : Type} (nd : α → α → α) : ∀ (R : List (Nat × α)) (p : Nat) (S : List (Nat × α)), (pushes nd p S R).length ≤ S.length + R.length
  | [], _, _ => Nat.le_refl _
  | (m, h) :: R, p, S => by
    have h1 := pushes_len nd R (p + 2 ^ m) (push nd p S m h)
    have h2 := push_len nd p S m h
    simp only [pushes, List.length_cons]; omega
theorem seg_take_le {x y : Nat} (hxy : x ≤ y) (i : Nat) : adv x ((seg x y).take i) ≤ y := by
  have h := al_seg (y - x) (Nat.le_refl _) hxy
  rw [← List.take_append_drop i (seg x y), al_append] at h
  exact al_le h.2
end Go.Proofs.YtoacjaecfabahaaDoor
/-
  What is proved here: the library's own Len32 and TrailingZeros32, laid at this program; the segment's exponent by them.
-/
namespace Go.Proofs
open Go.Shelf
shelf_lay Lays.n128 Nm 128 at Tryd as Tryd.lays128
shelf_lay Lays7.n28 Nm7 28 at Tryd as Tryd.lays7x28
end Go.Proofs
namespace Go.Proofs.YtoacjaecfabahaaDoor
open Go.ChangeShapes Go.WideShapes Go.ChangeAt Go.RowKit Go.Shelf
set_option linter.unusedVariables false
set_option linter.unusedSimpArgs false

/-- the table that the library's TrailingZeros32 reads, as the program's beginning laid it -/
def TabD (w : World) : Prop := TabAt 1 Lib.deBruijn32tab w
theorem TabD.below {w w' : World} (h : TabD w) (hb : Below w.heap.size w w') : TabD w' := fun j hj =>
  (World.cell?_of_block (w := w) (hb.block 1 (block_lt_of_cell (h j hj)))).trans (h j hj)
theorem tz32_any (x : Nat) (hx : x < 4294967296) (w : World) (hT : TabD w) :
    Calls Tryd.prog 66 #[.int .u32 (x : Int)] w fun e w' => e = .returned (.int .i64 (Lib.ctz 32 x : Nat)) ∧ w' = w :=
  Any7.bits_TrailingZeros32 Tryd.lays7x28 x hx w (fun _ => hT)
theorem len32_any (x : Nat) (hx : x < 4294967296) (w : World) :
    Calls Tryd.prog 65 #[.int .u32 (x : Int)] w fun e w' => e = .returned (.int .i64 (Lib.bitLen x : Nat)) ∧ w' = w :=
  Any.bits_Len32 Tryd.lays128 (x : Int) w (by omega) (by omega)
theorem bitAux_spec : ∀ (f x : Nat), 0 < x → x < 2 ^ f → ∃ g, Lib.bitLenAux f x = g + 1 ∧ 2 ^ g ≤ x ∧ x < 2 ^ (g + 1)
  | 0, x, h0, h => by simp at h; omega
  | f + 1, x, h0, h => by
    unfold Lib.bitLenAux
    rw [if_neg (by omega)]
    by_cases h1 : x = 1
    · subst h1
      refine ⟨0, ?_, by decide, by decide⟩
      cases f with
      | zero => rfl
      | succ f => rfl
    · obtain ⟨g, e, h2, h3⟩ := bitAux_spec f (x / 2) (by omega) (by rw [Nat.pow_succ] at h; omega)
      refine ⟨g + 1, by rw [e]; omega, by rw [Nat.pow_succ]; omega, by rw [Nat.pow_succ]; omega⟩
theorem bitLen_spec {x : Nat} (h0 : 0 < x) (h : x < 2147483648) : ∃ g, Lib.bitLen x = g + 1 ∧ g ≤ 30 ∧ 2 ^ g ≤ x ∧ x < 2 ^ (g + 1) := by
  obtain ⟨g, e, h1, h2⟩ := bitAux_spec 64 x h0 (by omega)
  refine ⟨g, e, ?_, h1, h2⟩
  refine Nat.le_of_not_lt fun hc => ?_
  have := pow_mono2 (show 31 ≤ g from hc)
  omega
/-- a segment's exponent, by bits -/
theorem sg_bits {a l : Nat} (hl : 0 < l) (hl2 : l < 2147483648) (ha : a < 4294967296) : sg a l = min (Lib.ctz 32 a) (Lib.bitLen l - 1) ∧ sg a l ≤ 30 := by
  obtain ⟨g, e, hg, h1, h2⟩ := bitLen_spec hl hl2
  have e2 : Lib.bitLen l - 1 = g := by omega
  rw [e2]
  have key : IsSg a l (min (Lib.ctz 32 a) g) := by
    by_cases h0 : a = 0
    · subst h0
      have e3 : Lib.ctz 32 0 = 32 := rfl
      rw [e3, Nat.min_eq_right (by omega)]
      exact ⟨Nat.dvd_zero _, h1, fun h => by have := h.2; omega⟩
    · have e3 : Lib.ctz 32 a = Lib.ctzFrom 32 a := by unfold Lib.ctz; rw [if_neg h0]
      obtain ⟨m, hm, ht⟩ := Lib.ctzFrom_spec 32 a (by omega) (by omega)
      rw [e3]
      generalize Lib.ctzFrom 32 a = t at hm ht
      have hta : 2 ^ t ∣ a := ⟨2 * m + 1, hm⟩
      have htn : ¬ 2 ^ (t + 1) ∣ a := by
        rintro ⟨c, hc⟩
        rw [hm, Nat.pow_succ, Nat.mul_assoc] at hc
        have := Nat.eq_of_mul_eq_mul_left (pow_pos2 t) hc
        omega
      refine ⟨pow_dvd2 (Nat.min_le_left _ _) hta, Nat.le_trans (pow_mono2 (Nat.min_le_right _ _)) h1, fun h => ?_⟩
      by_cases hle : t ≤ g
      · rw [Nat.min_eq_left hle] at h
        exact htn h.1
      · rw [Nat.min_eq_right (by omega)] at h
        have := h.2
        omega
  have e4 := (sg_is (a := a) hl).uniq key
  exact ⟨e4, by rw [e4]; exact Nat.le_trans (Nat.min_le_right _ _) hg⟩
end Go.Proofs.YtoacjaecfabahaaDoor
/-
  What this file is for: lists of hashes and of numbers in memory: lists that are read, lists of one's own that grow and shrink; slices of them. Nothing of the program is walked here.
-/
namespace Go.Proofs.YtoacjaecfabahaaDoor
open Go.ChangeShapes Go.WideShapes Go.ChangeAt Go.RowKit
set_option linter.unusedVariables false
set_option linter.unusedSimpArgs false
set_option maxRecDepth 20000

/-- a hash -/
structure H32 (K : List Int) : Prop where
  len : K.length = 32
  bs : Bs K
abbrev hc32 (K : List Int) : Array Value := (u8s K).toArray
abbrev hV (K : List Int) : Value := .agg (hc32 K)
theorem H32.size {K : List Int} (h : H32 K) : (hc32 K).size = 32 := by rw [List.size_toArray, u8s_length, h.len]
/-- cells of a list of hashes -/
def hcs (L : List (List Int)) : List Value := u8s L.flatten
theorem hcs_nil : hcs [] = [] := rfl
theorem hcs_append (L M : List (List Int)) : hcs (L ++ M) = hcs L ++ hcs M := by unfold hcs u8s; rw [List.flatten_append, List.map_append]
theorem hcs_one (K : List Int) : hcs [K] = u8s K := by unfold hcs; rw [List.flatten_cons, List.flatten_nil, List.append_nil]
theorem hcs_cons (K : List Int) (L : List (List Int)) : hcs (K :: L) = u8s K ++ hcs L := by unfold hcs u8s; rw [List.flatten_cons, List.map_append]
theorem hcs_len : ∀ {L : List (List Int)}, (∀ f ∈ L, H32 f) → (hcs L).length = L.length * 32
  | [], _ => rfl
  | K :: L, h => by
    rw [hcs_cons, List.length_append, u8s_length, (h K (by simp)).len, hcs_len (fun f hf => h f (List.mem_cons_of_mem _ hf)), List.length_cons]
    omega
theorem hcs_at : ∀ {L : List (List Int)}, (∀ f ∈ L, H32 f) → ∀ {i : Nat} {K : List Int}, L[i]? = some K → ∀ (j : Nat) (v : Value), (u8s K)[j]? = some v → (hcs L)[i * 32 + j]? = some v
  | [], _, i, K, h, _, _, _ => by simp at h
  | F :: L, hL, 0, K, h, j, v, hv => by
    rw [List.getElem?_cons_zero] at h
    injection h with h
    subst h
    have hj : j < (u8s F).length := by
      rcases Nat.lt_or_ge j (u8s F).length with h1 | h1
      · exact h1
      · rw [List.getElem?_eq_none h1] at hv; cases hv
    rw [hcs_cons, List.getElem?_append_left (by omega), ← hv]
    congr 1; omega
  | F :: L, hL, i + 1, K, h, j, v, hv => by
    rw [List.getElem?_cons_succ] at h
    have hl : (u8s F).length = 32 := by rw [u8s_length, (hL F (by simp)).len]
    rw [hcs_cons, List.getElem?_append_right (by omega), ← hcs_at (fun f hf => hL f (List.mem_cons_of_mem _ hf)) h j v hv]
    congr 1; omega
theorem hcs_ones (L : List (List Int)) : ∀ v ∈ hcs L, v.oneCell' = true := u8s_one _
theorem h32_at {L : List (List Int)} (h : ∀ f ∈ L, H32 f) {i : Nat} {K : List Int} (hi : L[i]? = some K) : H32 K := h K (List.mem_of_getElem? hi)
/-- numbers as cells -/
def nis (xs : List Int) : List Value := xs.map (Value.int .i64)
theorem nis_len (xs : List Int) : (nis xs).length = xs.length := by simp [nis]
theorem nis_ones (xs : List Int) : ∀ v ∈ nis xs, v.oneCell' = true := by
  intro v hv
  simp only [nis, List.mem_map] at hv
  obtain ⟨x, _, rfl⟩ := hv
  rfl
theorem nis_append (xs ys : List Int) : nis (xs ++ ys) = nis xs ++ nis ys := List.map_append
theorem nis_at {xs : List Int} {i : Nat} {x : Int} (h : xs[i]? = some x) : (nis xs)[i]? = some (.int .i64 x) := by simp [nis, h]

/-! Lists that are read. -/
/-- a list of hashes that is read -/
def InH (w : World) (A : Option Addr) (n : Nat) (L : List (List Int)) : Prop :=
  L.length = n ∧ n ≤ 9223372036854775807 ∧ (∀ f ∈ L, H32 f) ∧ (0 < n → ∃ b o, A = some ⟨b, o, none⟩ ∧ b < w.heap.size ∧ ∀ (i : Nat) (K : List Int), L[i]? = some K → w.rangeAt b (o + i * 32) (u8s K))
theorem InH.ok {w : World} {A : Option Addr} {n : Nat} {L : List (List Int)} (h : InH w A n L) : ∀ f ∈ L, H32 f := h.2.2.1
theorem InH.keep {w w' : World} {A : Option Addr} {n : Nat} {L : List (List Int)} (h : InH w A n L) (hs : w.heap.size ≤ w'.heap.size) (hk : ∀ b o, A = some ⟨b, o, none⟩ → w'.heap[b]? = w.heap[b]?) : InH w' A n L := by
  refine ⟨h.1, h.2.1, h.2.2.1, fun hn => ?_⟩
  obtain ⟨b, o, e, hlt, hat⟩ := h.2.2.2 hn
  refine ⟨b, o, e, Nat.lt_of_lt_of_le hlt hs, fun i K hi j v hv => ?_⟩
  exact (World.cell?_of_block (w := w) (hk b o e)).trans (hat i K hi j v hv)
theorem InH.below {w w' : World} {A : Option Addr} {n : Nat} {L : List (List Int)} (h : InH w A n L) (hb : Below w.heap.size w w') : InH w' A n L := by
  refine ⟨h.1, h.2.1, h.2.2.1, fun hn => ?_⟩
  obtain ⟨b, o, e, hlt, hat⟩ := h.2.2.2 hn
  refine ⟨b, o, e, Nat.lt_of_lt_of_le hlt hb.size, fun i K hi j v hv => ?_⟩
  exact (World.cell?_of_block (w := w) (hb.block b hlt)).trans (hat i K hi j v hv)
theorem InH.nil (w : World) (A : Option Addr) : InH w A 0 [] := ⟨rfl, by omega, fun f hf => by simp at hf, fun h => by omega⟩
/-- a list of numbers that is read -/
def InI (w : World) (A : Option Addr) (n : Nat) (L : List Int) : Prop :=
  L.length = n ∧ n ≤ 9223372036854775807 ∧ (0 < n → ∃ b o, A = some ⟨b, o, none⟩ ∧ b < w.heap.size ∧ ∀ (i : Nat) (x : Int), L[i]? = some x → w.cell? ⟨b, o + i, none⟩ = some (.int .i64 x))
theorem InI.below {w w' : World} {A : Option Addr} {n : Nat} {L : List Int} (h : InI w A n L) (hb : Below w.heap.size w w') : InI w' A n L := by
  refine ⟨h.1, h.2.1, fun hn => ?_⟩
  obtain ⟨b, o, e, hlt, hat⟩ := h.2.2 hn
  refine ⟨b, o, e, Nat.lt_of_lt_of_le hlt hb.size, fun i x hi => ?_⟩
  exact (World.cell?_of_block (w := w) (hb.block b hlt)).trans (hat i x hi)
theorem InI.nil (w : World) (A : Option Addr) : InI w A 0 [] := ⟨rfl, by omega, fun h => by omega⟩

/-! Lists of one's own. -/
theorem fown_own {W W' : World} {base e size n : Nat} {v : Value} {xs : List Value} {row : Option Nat} (h : W.ownsRow base e size v n xs) (hg : W.grownBy W' row) (hr : ∀ k, v.ownBlock = some k → row ≠ some k) : W'.ownsRow base e size v n xs := by
  refine ⟨h.1, ?_⟩
  rcases h.2 with h1 | ⟨g, cap, cur, hv, hb, hh, rest⟩
  · exact .inl h1
  · refine .inr ⟨g, cap, cur, hv, hb, ?_, rest⟩
    have hlt := (h.lt g (by rw [hv]; rfl)).2
    exact (hg.block g hlt (fun e => hr g (by rw [hv]; rfl) e.symm)).trans hh
theorem fown_keep {w w' : World} {base e size n : Nat} {v : Value} {xs : List Value} (h : w.ownsRow base e size v n xs) (hk : ∀ k, v.ownBlock = some k → w'.heap[k]? = w.heap[k]?) : w'.ownsRow base e size v n xs := by
  refine ⟨h.1, ?_⟩
  rcases h.2 with h1 | ⟨g, cap, cur, hv, hb, hh, rest⟩
  · exact .inl h1
  · exact .inr ⟨g, cap, cur, hv, hb, (hk g (by rw [hv]; rfl)).trans hh, rest⟩
theorem fown_weak {w : World} {b1 b2 e s n : Nat} {v : Value} {xs : List Value} (h : w.ownsRow b1 e s v n xs) (hb : b2 ≤ b1) : w.ownsRow b2 e s v n xs := by
  refine ⟨h.1, ?_⟩
  rcases h.2 with h1 | ⟨g, cap, cur, hv, hg, rest⟩
  · exact .inl h1
  · exact .inr ⟨g, cap, cur, hv, Nat.le_trans hb hg, rest⟩
theorem fown_raise {w : World} {b1 b2 e s n : Nat} {v : Value} {xs : List Value} (h : w.ownsRow b1 e s v n xs) (hb : ∀ k, v.ownBlock = some k → b2 ≤ k) : w.ownsRow b2 e s v n xs := by
  refine ⟨h.1, ?_⟩
  rcases h.2 with h1 | ⟨g, cap, cur, hv, hg, rest⟩
  · exact .inl h1
  · exact .inr ⟨g, cap, cur, hv, hb g (by rw [hv]; rfl), rest⟩
theorem fown_len {w : World} {b e s n : Nat} {v : Value} {xs : List Value} (h : w.ownsRow b e s v n xs) : ∃ A c, v = .slice A n c ∧ n ≤ c ∧ c ≤ 9223372036854775807 := by
  rcases h.2 with ⟨h1, h0⟩ | ⟨g, cap, cur, hv, _, _, h3, h4, _⟩
  · exact ⟨none, 0, by rw [h1, h0], by omega, by omega⟩
  · exact ⟨_, _, hv, h3, by unfold maxLen at h4; omega⟩
theorem fown_ty {w : World} {b e s n : Nat} {v : Value} {xs : List Value} (h : w.ownsRow b e s v n xs) : ∀ k, v.ownBlock = some k → b ≤ k ∧ ∃ C, Blk w k e C := fun k hk => by
  rcases h.2 with ⟨h1, h0⟩ | ⟨g, cap, cur, hv, hb, hh, _⟩
  · rw [h1] at hk; cases hk
  · rw [hv] at hk; injection hk with hk; subst hk; exact ⟨hb, cur, hh⟩
/-- a list of hashes of one's own -/
structure OwH (n0 : Nat) (w : World) (v : Value) (L : List (List Int)) : Prop where
  row : w.ownsRow n0 33 32 v L.length (hcs L)
  ok : ∀ f ∈ L, H32 f
/-- a list of numbers of one's own -/
def OwI (n0 : Nat) (w : World) (v : Value) (L : List Int) : Prop := w.ownsRow n0 3 1 v L.length (nis L)
section
variable {n0 n1 : Nat} {w w' : World} {v : Value} {L : List (List Int)} {X : List Int}
theorem OwH.nil (n0 : Nat) (w : World) : OwH n0 w (.slice none 0 0) [] := ⟨⟨rfl, .inl ⟨rfl, rfl⟩⟩, fun s hs => by simp at hs⟩
theorem OwI.nil (n0 : Nat) (w : World) : OwI n0 w (.slice none 0 0) [] := ⟨rfl, .inl ⟨rfl, rfl⟩⟩
theorem OwH.below (h : OwH n0 w v L) (hb : Below w.heap.size w w') : OwH n0 w' v L := ⟨own_below h.row hb, h.ok⟩
theorem OwI.below (h : OwI n0 w v X) (hb : Below w.heap.size w w') : OwI n0 w' v X := own_below h hb
theorem OwH.keep (h : OwH n0 w v L) (hk : ∀ k, v.ownBlock = some k → w'.heap[k]? = w.heap[k]?) : OwH n0 w' v L := ⟨fown_keep h.row hk, h.ok⟩
theorem OwI.keep (h : OwI n0 w v X) (hk : ∀ k, v.ownBlock = some k → w'.heap[k]? = w.heap[k]?) : OwI n0 w' v X := fown_keep h hk
theorem OwH.weak (h : OwH n0 w v L) (hn : n1 ≤ n0) : OwH n1 w v L := ⟨fown_weak h.row hn, h.ok⟩
theorem OwI.weak (h : OwI n0 w v X) (hn : n1 ≤ n0) : OwI n1 w v X := fown_weak h hn
theorem OwH.len (h : OwH n0 w v L) : ∃ A c, v = .slice A L.length c ∧ L.length ≤ c ∧ c ≤ 9223372036854775807 := fown_len h.row
theorem OwI.len (h : OwI n0 w v X) : ∃ A c, v = .slice A X.length c ∧ X.length ≤ c ∧ c ≤ 9223372036854775807 := fown_len h
theorem OwH.lt (h : OwH n0 w v L) : ∀ k, v.ownBlock = some k → n0 ≤ k ∧ k < w.heap.size := fun k hk => h.row.lt k hk
theorem OwI.lt (h : OwI n0 w v X) : ∀ k, v.ownBlock = some k → n0 ≤ k ∧ k < w.heap.size := fun k hk => World.ownsRow.lt h k hk
theorem OwH.ty (h : OwH n0 w v L) : ∀ k, v.ownBlock = some k → n0 ≤ k ∧ ∃ C, Blk w k 33 C := fown_ty h.row
theorem OwI.ty (h : OwI n0 w v X) : ∀ k, v.ownBlock = some k → n0 ≤ k ∧ ∃ C, Blk w k 3 C := fown_ty h
theorem OwH.in {A : Option Addr} {n c : Nat} (h : OwH n0 w (.slice A n c) L) : InH w A n L := by
  obtain ⟨A', c', e, hc1, hc2⟩ := h.len
  injection e with e1 e2 e3
  subst e2
  refine ⟨rfl, by omega, h.ok, fun hn => ?_⟩
  rcases h.row.2 with ⟨_, h0⟩ | ⟨g, cap, cur, hv, hb, hh, hnc, hcm, hcs, htk⟩
  · omega
  · injection hv with hA
    have hlt := (h.row.lt g (by rw [hA]; rfl)).2
    refine ⟨g, 0, hA, hlt, fun i s hs j v hv => ?_⟩
    have h1 := hcs_at h.ok hs j v hv
    have h2 := h.row.cells (g := g) (by rw [hA]; rfl) _ v h1
    rw [Addr.add_lit] at h2
    rw [Nat.add_assoc]
    exact h2
theorem OwI.in {A : Option Addr} {n c : Nat} (h : OwI n0 w (.slice A n c) X) : InI w A n X := by
  obtain ⟨A', c', e, hc1, hc2⟩ := h.len
  injection e with e1 e2 e3
  subst e2
  refine ⟨rfl, by omega, fun hn => ?_⟩
  have h9 : w.ownsRow n0 3 1 (.slice A X.length c) X.length (nis X) := h
  rcases h9.2 with ⟨_, h0⟩ | ⟨g, cap, cur, hv, hb, hh, hnc, hcm, hcs, htk⟩
  · omega
  · injection hv with hA
    have hlt := (World.ownsRow.lt h g (by rw [hA]; rfl)).2
    refine ⟨g, 0, hA, hlt, fun i s hs => ?_⟩
    have h2 := World.ownsRow.cells h (g := g) (by rw [hA]; rfl) _ _ (nis_at hs)
    rw [Addr.add_lit] at h2
    exact h2
end
end Go.Proofs.YtoacjaecfabahaaDoor
/-
  What is proved here: whether numbers are a range's, as the code and the document tell it; a segment's size.
-/
namespace Go.Proofs.YtoacjaecfabahaaDoor
open Go.ChangeShapes Go.WideShapes Go.ChangeAt Go.RowKit
set_option linter.unusedVariables false
set_option linter.unusedSimpArgs false
set_option maxRecDepth 20000

def mayR (a b : Int) : Bool := decide (0 ≤ a ∧ a ≤ b ∧ b ≤ 2147483647)
set_option maxHeartbeats 1000000 in
theorem fAre_any (a b : Int) (w : World) : Calls Tryd.prog 45 #[.int .i64 a, .int .i64 b] w fun e w' => e = .returned (.bool (mayR a b)) ∧ w' = w := by
  unfold mayR
  go_enter Tryd.func45, Tryd.ntmps45
  by_cases h1 : 0 ≤ a <;> by_cases h2 : a ≤ b <;> by_cases h3 : b ≤ 2147483647
  all_goals
    go_wp2
    go_ret
    exact ⟨by simp [h1, h2, h3], rfl⟩
set_option maxHeartbeats 1000000 in
theorem gMay_any (a b : Int) (w : World) : Calls Tryd.prog 53 #[.int .i64 a, .int .i64 b] w fun e w' => e = .returned (.bool (mayR a b)) ∧ w' = w := by
  unfold mayR
  go_enter Tryd.func53, Tryd.ntmps53
  by_cases h1 : 0 ≤ a <;> by_cases h2 : a ≤ b <;> by_cases h3 : b ≤ 2147483647
  all_goals
    go_wp2
    go_ret
    exact ⟨by simp [h1, h2, h3], rfl⟩
theorem sg_step {x l m P : Nat} (hP : P = 2 ^ m) (h1 : 2 * P ≤ l) (h2 : x % (2 * P) = 0) : 2 ^ (m + 1) ∣ x ∧ 2 ^ (m + 1) ≤ l ∧ 2 * P = 2 ^ (m + 1) := by
  have e : 2 * P = 2 ^ (m + 1) := by rw [hP, Nat.pow_succ]; omega
  rw [← e]
  exact ⟨Nat.dvd_of_mod_eq_zero h2, h1, rfl⟩
theorem sg_stop {x l m P : Nat} (hP : P = 2 ^ m) (hd : 2 ^ m ∣ x) (hl : 2 ^ m ≤ l) (h : ¬ (2 * P ≤ l ∧ x % (2 * P) = 0)) : P = 2 ^ sg x l := by
  have e : 2 * P = 2 ^ (m + 1) := by rw [hP, Nat.pow_succ]; omega
  rw [e] at h
  have hp := pow_pos2 m
  rw [hP, (show IsSg x l m from ⟨hd, hl, fun hc => h ⟨hc.2, Nat.mod_eq_zero_of_dvd hc.1⟩⟩).uniq (sg_is (by omega))]
set_option maxHeartbeats 2000000 in
theorem gSize_any (x y : Nat) (w : World) (hxy : x < y) (hy : y ≤ 2147483647) :
    Calls Tryd.prog 59 #[.int .i64 (x : Int), .int .i64 (y : Int)] w fun e w' => e = .returned (.int .i64 ((2 ^ sg x (y - x) : Nat) : Int)) ∧ w' = w := by
  obtain ⟨R, hR⟩ : ∃ R, R = 2 ^ sg x (y - x) := ⟨_, rfl⟩
  rw [← hR]
  have HR := hid hR
  clear hR
  go_enter Tryd.func59, Tryd.ntmps59
  go_wp2
  go_loop [5] (fun v => ∃ m P : Nat, v = .int .i64 (P : Int) ∧ P = 2 ^ m ∧ 2 ^ m ∣ x ∧ 2 ^ m ≤ y - x) (fun v => y - (intOf v).toNat)
  case atStart => exact ⟨0, 1, rfl, rfl, Nat.one_dvd _, by omega⟩
  case round =>
    obtain ⟨m, P, rfl, hP, hd, hl⟩ := hrel
    have hp : 0 < P := by rw [hP]; exact pow_pos2 m
    have hPl : P ≤ y - x := by rw [hP]; exact hl
    have HP := hid hP; have HD := hid hd; have HL := hid hl
    clear hP hd hl
    by_cases c1 : 2 * P ≤ y - x
    · have d1 : (2 : Int) * (P : Int) ≤ (y : Int) - (x : Int) := by omega
      by_cases c2 : x % (2 * P) = 0
      · have d2 : (x : Int) % ((2 : Int) * (P : Int)) = 0 := by rw [show (2 : Int) * (P : Int) = ((2 * P : Nat) : Int) by omega, ← Int.natCast_emod, c2]; rfl
        obtain ⟨s1, s2, s3⟩ := sg_step HP.out c1 c2
        have S1 := hid s1; have S2 := hid s2; have S3 := hid s3
        clear s1 s2 s3 c2
        go_wp2
        go_round
        case rel => exact ⟨m + 1, 2 * P, by go_num, S3.out, S1.out, S2.out⟩
        case measure => simp [intOf]; omega
      · have d2 : ¬ ((x : Int) % ((2 : Int) * (P : Int)) = 0) := by rw [show (2 : Int) * (P : Int) = ((2 * P : Nat) : Int) by omega, ← Int.natCast_emod]; omega
        have e := sg_stop HP.out HD.out HL.out (fun h => c2 h.2)
        rw [← HR.out] at e
        have E := hid e
        clear e c2
        go_wp2
        go_ret
        exact ⟨by rw [E.out]; rfl, rfl⟩
    · have d1 : ¬ ((2 : Int) * (P : Int) ≤ (y : Int) - (x : Int)) := by omega
      have e := sg_stop HP.out HD.out HL.out (fun h => c1 h.1)
      rw [← HR.out] at e
      have E := hid e
      clear e
      go_wp2
      go_ret
      exact ⟨by rw [E.out]; rfl, rfl⟩
/-- the segments' sizes -/
def szs (L : List Nat) : List Int := L.map fun m => ((2 ^ m : Nat) : Int)
def segI (a b : Int) : List Int := if mayR a b = true then szs (seg a.toNat b.toNat) else []
theorem szs_len (L : List Nat) : (szs L).length = L.length := by simp [szs]
theorem szs_snoc (L : List Nat) (m : Nat) : szs (L ++ [m]) = szs L ++ [((2 ^ m : Nat) : Int)] := by simp [szs]
theorem segI_len (a b : Int) : (segI a b).length ≤ 62 := by
  unfold segI
  split
  · rename_i h
    unfold mayR at h
    rw [decide_eq_true_eq] at h
    rw [szs_len]
    exact seg_few (by omega)
  · exact Nat.zero_le _
/-- what the segments' call answers -/
def SgA (w : World) (L : List Int) (e : Ending) (w' : World) : Prop := ∃ v, e = .returned v ∧ OwI w.heap.size w' v L ∧ Below w.heap.size w w'
theorem info_i64 : (Tryd.prog.info? 3).map (fun i => (i.zero, i.size, i.bytes)) = some (some (.int .i64 0), 1, 8) := by kernel_rfl
/-- one number more behind a list of one's own -/
theorem append_i {w : World} {ops : Array Oper} {rest : List Oper} {o : Oper} {a : Act} {Q : Exit → Act → World → Prop} (hgd : o.guard = none) (s x : Operand)
    (ho : o.op = .call { callee := .builtin .append, args := #[s, x], argTypes := #[71, 71] })
    (base : Nat) (v : Value) (X : List Int) (hs : a.eval s = v) (hown : OwI base w v X) (A : Option Addr) (m c : Nat) (Y : List Int) (hin : InI w A m Y) (hx : a.eval x = .slice A m c) (h63 : X.length + m < 1000000) (hbase : base ≤ w.heap.size)
    (h : ∀ v' w', OwI base w' v' (X ++ Y) → w.grownBy w' v.ownBlock → (v'.ownBlock = v.ownBlock ∨ v'.ownBlock = some w.heap.size) → wpList Tryd.prog ops Q rest (a.put o.dst v') w') : wpList Tryd.prog ops Q (o :: rest) a w := by
  obtain ⟨i0, hi, hz0, hz1, hz2⟩ := info_parts info_i64
  obtain ⟨hl, _, hat⟩ := hin
  cases A with
  | none =>
    have h0 : Y = [] := by
      cases Y with
      | nil => rfl
      | cons y ys => obtain ⟨b, o, e, _⟩ := hat (by rw [← hl]; simp); cases e
    subst h0
    obtain rfl : m = 0 := hl.symm
    refine wpList_append_nil' hgd s x 71 ho base 3 i0 1 Tryd.underlying71 hi v X.length (nis X) c hs hown hx ?_
    exact h v w (by rw [List.append_nil]; exact hown) (World.grownBy.refl _ _) (.inl rfl)
  | some ad =>
    refine wpList_append_own_at _ hgd s x 71 ho base 3 i0 (.int .i64 0) 1 8 Tryd.underlying71 hi hz0 hz1 hz2 rfl (by decide) v X.length (nis X) hs hown ad m c (nis Y) hx (by rw [nis_len]; omega) (fun j u hu => ?_) (nis_ones _) (by unfold maxLen; omega) (by omega) hbase ?_
    · obtain ⟨b, o', e, hlt, hc⟩ := hat (by
        rcases Nat.eq_zero_or_pos m with h0 | h0
        · have : Y = [] := List.length_eq_zero_iff.1 (by omega)
          subst this
          simp [nis] at hu
        · exact h0)
      injection e with e
      subst e
      rw [show (⟨b, o', none⟩ : Addr).add j = ⟨b, o' + j, none⟩ by rw [Addr.add_lit]]
      unfold nis at hu
      rw [List.getElem?_map] at hu
      cases hY : Y[j]? with
      | none => rw [hY] at hu; cases hu
      | some y => rw [hY] at hu; rw [hc j y hY]; exact hu
    · intro v' w' h1 h2 _ h4
      refine h v' w' ?_ h2 h4
      show World.ownsRow _ _ _ _ _ _ _
      rw [List.length_append, nis_append, hl]
      exact h1
/-- a slice literal of one number -/
theorem ini_one (w : World) (y : Int) : InI (w.alloc (.cells #[.int .i64 y] 3)) (some ⟨w.heap.size, 0, none⟩) 1 [y] :=
  ⟨rfl, by omega, fun _ => ⟨w.heap.size, 0, rfl, by simp, fun i x hi => by
    have h := Blk.new w 3 #[.int .i64 y]
    cases i with
    | zero => injection hi with hi; subst hi; rw [h.cell]; rfl
    | succ i => simp at hi⟩⟩
theorem wpList_min {ops : Array Oper} {rest : List Oper} {o : Oper} {a : Act} {w : World} {Q : Exit → Act → World → Prop} (hgd : o.guard = none) (x y : Operand)
    (ho : o.op = .call { callee := .builtin .min, args := #[x, y], argTypes := #[3, 3] }) (X Y : Nat) (hx : a.eval x = .int .i64 (X : Int)) (hy : a.eval y = .int .i64 (Y : Int))
    (h : wpList Tryd.prog ops Q rest (a.put o.dst (.int .i64 ((min X Y : Nat) : Int))) w) : wpList Tryd.prog ops Q (o :: rest) a w := by
  refine wpList_plain hgd fun _ hK => ?_
  unfold Oper.wp execOp
  have e : (if (Y : Int) < (X : Int) then (Y : Int) else (X : Int)) = ((min X Y : Nat) : Int) := by
    by_cases hc : Y < X
    · rw [if_pos (by omega), Nat.min_eq_right (Nat.le_of_lt hc)]
    · rw [if_neg (by omega), Nat.min_eq_left (by omega)]
  simp only [ho, resolve, invoke, builtin, Sem.run_bind, Sem.run_pure, Result.andThen_ok, List.map_toArray, List.map_cons, List.map_nil, hx, hy, Builtin.min_, List.foldlM_cons, List.foldlM_nil, Builtin.min2, e]
  exact hK _ _ h
theorem shl1_val (m : Nat) (hm : m ≤ 30) : IntKind.i64.wrap (1 * 2 ^ min (m : Int).toNat IntKind.i64.bits) = ((2 ^ m : Nat) : Int) := by
  have h2 : min (m : Int).toNat IntKind.i64.bits = m := by
    have : IntKind.i64.bits = 64 := rfl
    rw [this, Int.toNat_natCast]; omega
  have h3 : (2 : Nat) ^ m ≤ 2 ^ 30 := pow_mono2 hm
  have h4 : IntKind.i64.wrap ((1 : Int) * 2 ^ m) = ((2 ^ m : Nat) : Int) := by
    rw [Int.one_mul, show ((2 : Int) ^ m) = ((2 ^ m : Nat) : Int) by simp]
    have h5 : (2 : Nat) ^ 30 = 1073741824 := by decide
    rw [h5] at h3
    generalize 2 ^ m = z at h3 ⊢
    exact IntWalk.i64_in _ (by omega)
  rw [h2, h4]
theorem wpList_shl1 {ops : Array Oper} {rest : List Oper} {o : Oper} {a : Act} {w : World} {Q : Exit → Act → World → Prop} (hgd : o.guard = none) (y : Operand)
    (ho : o.op = .binOp .shl 3 (.const (.int .i64 1)) y 3) (m : Nat) (hy : a.eval y = .int .i64 (m : Int)) (hm : m ≤ 30)
    (h : wpList Tryd.prog ops Q rest (a.put o.dst (.int .i64 ((2 ^ m : Nat) : Int))) w) : wpList Tryd.prog ops Q (o :: rest) a w := by
  refine wpList_plain hgd fun _ hK => ?_
  unfold Oper.wp execOp
  have hc : a.eval (.const (.int .i64 1)) = .int .i64 1 := rfl
  have h1 : ¬ ((m : Int) < 0) := by omega
  simp only [ho, Sem.run_bind, hy, hc, binOp, Op.shift, h1, if_false, Result.andThen_ok, Sem.run_pure]
  rw [← shl1_val m hm] at h
  exact hK _ _ h
end Go.Proofs.YtoacjaecfabahaaDoor
/-
  What this file is for: lists of hashes: one more behind a list of one's own, the last one away, a part of a list. Nothing of the program is walked here.
-/
namespace Go.Proofs.YtoacjaecfabahaaDoor
open Go.ChangeShapes Go.WideShapes Go.ChangeAt Go.RowKit
set_option linter.unusedVariables false
set_option linter.unusedSimpArgs false
set_option maxRecDepth 20000

theorem fh_info : ∃ i0 z, Tryd.prog.info? 33 = some i0 ∧ i0.size = 32 ∧ i0.bytes = 32 ∧ i0.zero = some z ∧ z.cells.size = 32 := by
  obtain ⟨i0, hi, hs, hb⟩ : ∃ i0, Tryd.prog.info? 33 = some i0 ∧ i0.size = 32 ∧ i0.bytes = 32 := ⟨_, rfl, by kernel_rfl, by kernel_rfl⟩
  have h : (((Tryd.prog.info? 33).bind (·.zero)).map (·.cells.size)) = some 32 := by kernel_rfl
  rw [hi] at h
  cases hz : i0.zero with
  | none => simp [hz] at h
  | some z => exact ⟨i0, z, hi, hs, hb, hz, by simpa [hz] using h⟩
/-- some hashes more behind a list of one's own -/
theorem append_h {w : World} {ops : Array Oper} {rest : List Oper} {o : Oper} {a : Act} {Q : Exit → Act → World → Prop} (hgd : o.guard = none) (s x : Operand)
    (ho : o.op = .call { callee := .builtin .append, args := #[s, x], argTypes := #[22, 22] })
    (base : Nat) (v : Value) (X : List (List Int)) (hs : a.eval s = v) (hown : OwH base w v X) (A : Option Addr) (m c : Nat) (Y : List (List Int)) (hin : InH w A m Y) (hx : a.eval x = .slice A m c) (h63 : X.length + m < 1000000) (hbase : base ≤ w.heap.size)
    (h : ∀ v' w', OwH base w' v' (X ++ Y) → w.grownBy w' v.ownBlock → (v'.ownBlock = v.ownBlock ∨ v'.ownBlock = some w.heap.size) → wpList Tryd.prog ops Q rest (a.put o.dst v') w') : wpList Tryd.prog ops Q (o :: rest) a w := by
  obtain ⟨i0, z, hi, hz1, hz2, hz0, hzs⟩ := fh_info
  obtain ⟨hl, _, hok, hat⟩ := hin
  have hok2 : ∀ f ∈ X ++ Y, H32 f := fun f hf => (List.mem_append.1 hf).elim (hown.ok f) (hok f)
  cases A with
  | none =>
    have h0 : Y = [] := by
      cases Y with
      | nil => rfl
      | cons y ys => obtain ⟨b, o, e, _⟩ := hat (by rw [← hl]; simp); cases e
    subst h0
    obtain rfl : m = 0 := hl.symm
    refine wpList_append_nil' hgd s x 22 ho base 33 i0 32 Tryd.underlying22 hi v X.length (hcs X) c hs hown.row hx ?_
    exact h v w (by rw [List.append_nil]; exact hown) (World.grownBy.refl _ _) (.inl rfl)
  | some ad =>
    refine wpList_append_own_at _ hgd s x 22 ho base 33 i0 z 32 32 Tryd.underlying22 hi hz0 hz1 hz2 hzs (by decide) v X.length (hcs X) hs hown.row ad m c (hcs Y) hx (by rw [hcs_len hok]; omega) (fun j u hu => ?_) (hcs_ones _) (by unfold maxLen; omega) (by omega) hbase ?_
    · have hj : j < (hcs Y).length := by
        rcases Nat.lt_or_ge j (hcs Y).length with h1 | h1
        · exact h1
        · rw [List.getElem?_eq_none h1] at hu; cases hu
      rw [hcs_len hok] at hj
      obtain ⟨b, o', e, hlt, hc⟩ := hat (by omega)
      injection e with e
      subst e
      rw [show (⟨b, o', none⟩ : Addr).add j = ⟨b, o' + j, none⟩ by rw [Addr.add_lit]]
      have hY : Y[j / 32]? = some Y[j / 32] := List.getElem?_eq_getElem (by omega)
      have h32 := hok _ (List.getElem_mem (by omega : j / 32 < Y.length))
      have hK : (u8s Y[j / 32])[j % 32]? = some ((u8s Y[j / 32])[j % 32]'(by rw [u8s_length, h32.len]; omega)) := List.getElem?_eq_getElem _
      have h2 := hcs_at hok hY _ _ hK
      have e3 : j / 32 * 32 + j % 32 = j := by omega
      rw [e3, hu] at h2
      have h3 := hc _ _ hY _ _ hK
      rw [show o' + j / 32 * 32 + j % 32 = o' + j by omega] at h3
      rw [h3, h2]
    · intro v' w' h1 h2 _ h4
      refine h v' w' ⟨?_, hok2⟩ h2 h4
      rw [List.length_append, hcs_append, hl]
      exact h1
/-- a slice literal of one hash -/
theorem inh_blk {w : World} {g : Nat} {t : TypeId} {L : List (List Int)} (h : Blk w g t (hcs L).toArray) (hok : ∀ f ∈ L, H32 f) (hl : L.length ≤ 1000000) : InH w (some ⟨g, 0, none⟩) L.length L :=
  ⟨rfl, by omega, hok, fun _ => ⟨g, 0, rfl, h.lt, fun i K hi j v hv => by
    rw [h.cell, List.getElem?_toArray, Nat.zero_add]
    exact hcs_at hok hi j v hv⟩⟩
theorem wp_hash_one {o : Oper} {a : Act} {w : World} {K : Act → World → Prop} {Q : Exit → Act → World → Prop} (x : Operand) (ho : o.op = .buildSlice 22 1 #[(0, x)]) (f : List Int) (hf : H32 f) (hx : a.eval x = hV f)
    (h : K (a.put o.dst (.slice (some ⟨w.heap.size, 0, none⟩) 1 1)) (w.alloc (.cells (hcs [f]).toArray 33))) : o.wp Tryd.prog a w K Q := by
  obtain ⟨i0, z, hi, hz1, hz2, hz0, hzs⟩ := fh_info
  refine wp_buildSlice 22 33 1 #[(0, x)] ho (hcs [f]).toArray i0 z Tryd.underlying22 hi hz0 (by rw [hz1]; decide) (by rw [hz1]; decide) ?_ h
  have hp : (#[(0, x)].map fun ((i, x) : Nat × Operand) => (i, a.eval x)).toList = [(0, hV f)] := by simp [hx]
  rw [hp, hz1]
  have h := Great.fill_whole (s := 32) (by decide) [hV f] ((Array.range (1 * 32)).map (z.cells[· % z.cells.size]!)) (fun v hv => by
    rw [List.mem_singleton.1 hv]; exact hf.size) (by simp)
  simp only [List.flatMap_cons, List.flatMap_nil, List.append_nil] at h
  rw [hcs_one]
  exact h
theorem wpList_hash_one {ops : Array Oper} {rest : List Oper} {o : Oper} {a : Act} {w : World} {Q : Exit → Act → World → Prop} (hgd : o.guard = none) (x : Operand) (ho : o.op = .buildSlice 22 1 #[(0, x)]) (f : List Int) (hf : H32 f) (hx : a.eval x = hV f)
    (h : wpList Tryd.prog ops Q rest (a.put o.dst (.slice (some ⟨w.heap.size, 0, none⟩) 1 1)) (w.alloc (.cells (hcs [f]).toArray 33))) : wpList Tryd.prog ops Q (o :: rest) a w :=
  wpList_plain hgd fun _ hK => wp_hash_one x ho f hf hx (hK _ _ h)

/-! Parts of a list. -/
def slA (A : Option Addr) (l c s : Nat) : Option Addr := if c = l then A else A.map (·.add (l * s))
theorem size_hash : (Tryd.prog.info? 33).map (·.size) = some 32 := by kernel_rfl
theorem run_sizeH (w : World) : (sizeOf 33).run Tryd.prog w = .ok 32 w := by
  obtain ⟨i0, z, hi, hz1, _⟩ := fh_info
  simp [sizeOf, typeInfo, hi, hz1]
theorem elemH : Tryd.prog.elem 22 = 33 := by kernel_rfl
theorem run_cutLH (A : Option Addr) (n c l h : Nat) (h1 : l ≤ h) (h2 : h ≤ c) (w : World) :
    (Instr.sliceAt 22 (.slice A n c) (some (.int .i64 (l : Int))) (some (.int .i64 (h : Int))) none).run Tryd.prog w = .ok (.slice (slA A l c 32) (h - l) (c - l)) w := by
  have ht : Tryd.prog.underlying 22 = some (.slice (Tryd.prog.elem 22)) := by rw [elemH]; exact Tryd.underlying22
  rw [run_sliceAt_slice w 22 _ _ _ _ ht, run_slice_lh w 22 A n c ht .i64 .i64 _ _ (by omega) (by omega) (by omega), elemH, run_sizeH, Result.andThen_ok, Int.toNat_natCast, Int.toNat_natCast]
  rfl
theorem run_cutH (A : Option Addr) (n c h : Nat) (h2 : h ≤ c) (w : World) :
    (Instr.sliceAt 22 (.slice A n c) none (some (.int .i64 (h : Int))) none).run Tryd.prog w = .ok (.slice (slA A 0 c 32) h c) w := by
  have ht : Tryd.prog.underlying 22 = some (.slice (Tryd.prog.elem 22)) := by rw [elemH]; exact Tryd.underlying22
  rw [run_sliceAt_slice w 22 _ _ _ _ ht, run_slice_h w 22 A n c ht .i64 _ (by omega) (by omega), elemH, run_sizeH, Result.andThen_ok, Int.toNat_natCast]
  rfl
theorem run_cutL (A : Option Addr) (n c l : Nat) (h1 : l ≤ n) (w : World) :
    (Instr.sliceAt 22 (.slice A n c) (some (.int .i64 (l : Int))) none none).run Tryd.prog w = .ok (.slice (slA A l c 32) (n - l) (c - l)) w := by
  have ht : Tryd.prog.underlying 22 = some (.slice (Tryd.prog.elem 22)) := by rw [elemH]; exact Tryd.underlying22
  rw [run_sliceAt_slice w 22 _ _ _ _ ht, run_slice_l w 22 A n c ht .i64 _ (by omega) (by omega), elemH, run_sizeH, Result.andThen_ok, Int.toNat_natCast]
  rfl
section
variable {ops : Array Oper} {rest : List Oper} {o : Oper} {a : Act} {w : World} {Q : Exit → Act → World → Prop}
theorem cutLH_at (hgd : o.guard = none) (x l h : Operand) (ho : o.op = .slice 22 x (some l) (some h) none) (A : Option Addr) (n c lo hi : Nat) (hx : a.eval x = .slice A n c) (hl : a.eval l = .int .i64 (lo : Int)) (hh : a.eval h = .int .i64 (hi : Int)) (h1 : lo ≤ hi) (h2 : hi ≤ c)
    (k : wpList Tryd.prog ops Q rest (a.put o.dst (.slice (slA A lo c 32) (hi - lo) (c - lo))) w) : wpList Tryd.prog ops Q (o :: rest) a w := by
  refine wpList_plain hgd fun _ hK => ?_
  unfold Oper.wp execOp
  simp only [ho, Option.map_some, Option.map_none, hx, hl, hh, Sem.run_bind, run_cutLH A n c lo hi h1 h2 w, Result.andThen_ok]
  exact hK _ _ k
theorem cutH_at (hgd : o.guard = none) (x h : Operand) (ho : o.op = .slice 22 x none (some h) none) (A : Option Addr) (n c hi : Nat) (hx : a.eval x = .slice A n c) (hh : a.eval h = .int .i64 (hi : Int)) (h2 : hi ≤ c)
    (k : wpList Tryd.prog ops Q rest (a.put o.dst (.slice (slA A 0 c 32) hi c)) w) : wpList Tryd.prog ops Q (o :: rest) a w := by
  refine wpList_plain hgd fun _ hK => ?_
  unfold Oper.wp execOp
  simp only [ho, Option.map_some, Option.map_none, hx, hh, Sem.run_bind, run_cutH A n c hi h2 w, Result.andThen_ok]
  exact hK _ _ k
theorem cutL_at (hgd : o.guard = none) (x l : Operand) (ho : o.op = .slice 22 x (some l) none none) (A : Option Addr) (n c lo : Nat) (hx : a.eval x = .slice A n c) (hl : a.eval l = .int .i64 (lo : Int)) (h1 : lo ≤ n)
    (k : wpList Tryd.prog ops Q rest (a.put o.dst (.slice (slA A lo c 32) (n - lo) (c - lo))) w) : wpList Tryd.prog ops Q (o :: rest) a w := by
  refine wpList_plain hgd fun _ hK => ?_
  unfold Oper.wp execOp
  simp only [ho, Option.map_some, Option.map_none, hx, hl, Sem.run_bind, run_cutL A n c lo h1 w, Result.andThen_ok]
  exact hK _ _ k
end
theorem InH.cut {w : World} {A : Option Addr} {n c l m : Nat} {L : List (List Int)} (h : InH w A n L) (h1 : l + m ≤ n) (h2 : n ≤ c) : InH w (slA A l c 32) m ((L.drop l).take m) := by
  have hlen := h.1
  refine ⟨by rw [List.length_take, List.length_drop]; omega, by have := h.2.1; omega, fun f hf => h.ok f (List.mem_of_mem_drop (List.mem_of_mem_take hf)), fun hm => ?_⟩
  obtain ⟨b, o, e, hlt, hat⟩ := h.2.2.2 (by omega)
  refine ⟨b, o + l * 32, ?_, hlt, fun i K hi => ?_⟩
  · unfold slA
    rw [if_neg (by omega), e, Option.map_some, Addr.add_lit]
  · have hi2 : i < m := by
      rcases Nat.lt_or_ge i m with h3 | h3
      · exact h3
      · rw [List.getElem?_eq_none (by rw [List.length_take]; omega)] at hi; cases hi
    rw [List.getElem?_take, if_pos hi2, List.getElem?_drop] at hi
    have := hat _ _ hi
    rw [show o + l * 32 + i * 32 = o + (l + i) * 32 by omega]
    exact this
/-- a hash of a list that is read -/
theorem InH.at {w : World} {A : Option Addr} {n : Nat} {L : List (List Int)} (h : InH w A n L) {k : Nat} (hk : k < n) : ∃ b o K, A = some ⟨b, o, none⟩ ∧ L[k]? = some K ∧ H32 K ∧ b < w.heap.size ∧ w.rangeAt b (o + k * 32) (u8s K) := by
  obtain ⟨b, o, e, hlt, hat⟩ := h.2.2.2 (by omega)
  have hl := h.1
  have hs : L[k]? = some L[k] := List.getElem?_eq_getElem (by omega)
  exact ⟨b, o, _, e, hs, h.ok _ (List.getElem_mem (by omega)), hlt, hat k _ hs⟩
theorem InI.at {w : World} {A : Option Addr} {n : Nat} {L : List Int} (h : InI w A n L) {k : Nat} (hk : k < n) : ∃ b o x, A = some ⟨b, o, none⟩ ∧ L[k]? = some x ∧ b < w.heap.size ∧ w.cell? ⟨b, o + k, none⟩ = some (.int .i64 x) := by
  obtain ⟨b, o, e, hlt, hat⟩ := h.2.2 (by omega)
  have hl := h.1
  have hs : L[k]? = some L[k] := List.getElem?_eq_getElem (by omega)
  exact ⟨b, o, _, e, hs, hlt, hat k _ hs⟩
end Go.Proofs.YtoacjaecfabahaaDoor
/-
  What is proved here: the segments of a range, as the code and as the document tell them; whether a range is formed.
-/
namespace Go.Proofs.YtoacjaecfabahaaDoor
open Go.ChangeShapes Go.WideShapes Go.ChangeAt Go.RowKit
set_option linter.unusedVariables false
set_option linter.unusedSimpArgs false
set_option maxRecDepth 20000

theorem seg_next {x y p : Nat} {P : List Nat} (hp : p < y) (h : seg x y = P ++ seg p y) : seg x y = P ++ [sg p (y - p)] ++ seg (p + 2 ^ sg p (y - p)) y := by
  rw [h, seg_cons hp, List.append_assoc]; rfl
set_option maxHeartbeats 4000000 in
theorem gSegs_any (a b : Int) (w : World) : Calls Tryd.prog 41 #[.int .i64 a, .int .i64 b] w (SgA w (segI a b)) := by
  by_cases hm : mayR a b = true
  · have e : segI a b = szs (seg a.toNat b.toNat) := by unfold segI; rw [if_pos hm]
    rw [e]
    have hm2 := hm
    unfold mayR at hm2
    rw [decide_eq_true_eq] at hm2
    obtain ⟨x, rfl⟩ : ∃ x : Nat, a = (x : Int) := ⟨a.toNat, by omega⟩
    obtain ⟨y, rfl⟩ : ∃ y : Nat, b = (y : Int) := ⟨b.toNat, by omega⟩
    rw [Int.toNat_natCast, Int.toNat_natCast]
    have hxy : x ≤ y := by omega
    have hy : y ≤ 2147483647 := by omega
    have CM := hid (fun w => gMay_any (x : Int) (y : Int) w)
    rw [hm] at CM
    have FEW := hid (seg_few (a := x) (b := y) (by omega))
    clear hm e hm2
    unfold SgA
    go_enter Tryd.func41, Tryd.ntmps41
    go_wp2_with (go_at_call 53; refine (CM.out _).mono ?_; rintro e w1 ⟨rfl, rfl⟩)
    go_loopw [0, 5] (fun s0 s5 wr => ∃ (p : Nat) (P : List Nat), p ≤ y ∧ s0 = .int .i64 (p : Int) ∧ Hid (seg x y = P ++ seg p y) ∧ Hid (OwI w1.heap.size wr s5 (szs P)) ∧ Hid (Below w1.heap.size w1 wr)) (fun s _ _ => y - (intOf s).toNat)
    case atStart => exact ⟨x, [], hxy, rfl, rfl, OwI.nil _ _, Below.refl _ _⟩
    case round =>
      obtain ⟨p, P, hp, rfl, HE, HO, HB⟩ := hrel
      by_cases hlt : p < y
      · have d1 : (p : Int) < (y : Int) := by omega
        have CS := hid (gSize_any p y · hlt hy)
        obtain ⟨z, hz⟩ : ∃ z, z = 2 ^ sg p (y - p) := ⟨_, rfl⟩
        have hzl := sg_le hlt
        have hzp := pow_pos2 (sg p (y - p))
        have HN := hid (seg_next hlt HE.out)
        have HZ := hid (szs_snoc P (sg p (y - p)))
        rw [← hz] at CS HN HZ hzl hzp
        have HL : Hid ((szs P).length + 1 < 1000000) := by
          show _ < _
          have := FEW.out
          rw [HE.out, List.length_append] at this
          rw [szs_len]; omega
        clear hz
        go_wp2_with (first
          | (go_at_call 59; refine (CS.out _).mono ?_; rintro e w2 ⟨rfl, rfl⟩)
          | (at_builtin; refine append_i rfl (.tmp 17) (.tmp 19) rfl w1.heap.size _ _ rfl (HO.out.below ((Below.refl _ _).alloc (Nat.le_refl _) _)) _ _ _ [(z : Int)] (ini_one _ _) rfl HL.out (by have := HB.out.size; simp; omega) ?_; intro v' w3 ho hg hw; rw [← HZ.out] at ho; have HO3 := hid ho; have HB3 := hid (((HB.out.alloc HB.out.size _).grown hg (by have := HB.out.size; simp; omega) (fun k hk => (HO.out.lt k hk).1))); clear ho hg hw))
        go_roundw
        case rel => exact ⟨p + z, P ++ [sg p (y - p)], hzl, by go_num, HN.out, HO3.out, HB3.out⟩
        case measure => simp [intOf]; omega
      · obtain rfl : p = y := by omega
        have HN : Hid (seg x p = P) := by show _ = _; rw [HE.out, seg_nil (Nat.le_refl _), List.append_nil]
        go_wp2
        go_ret
        exact ⟨_, rfl, by rw [HN.out]; exact HO.out, HB.out⟩
  · have e : segI a b = [] := by unfold segI; rw [if_neg hm]
    rw [e]
    have hm2 : mayR a b = false := by simpa using hm
    have CM := hid (fun w => gMay_any a b w)
    rw [hm2] at CM
    clear hm e
    unfold SgA
    go_enter Tryd.func41, Tryd.ntmps41
    go_wp2_with (go_at_call 53; refine (CM.out _).mono ?_; rintro e w1 ⟨rfl, rfl⟩)
    go_ret
    exact ⟨_, rfl, OwI.nil _ _, Below.refl _ _⟩
end Go.Proofs.YtoacjaecfabahaaDoor
/-
  What is proved here: the segments of a range, as the code tells them.
-/
namespace Go.Proofs.YtoacjaecfabahaaDoor
open Go.ChangeShapes Go.WideShapes Go.ChangeAt Go.RowKit
set_option linter.unusedVariables false
set_option linter.unusedSimpArgs false
set_option maxRecDepth 20000

set_option maxHeartbeats 4000000 in
theorem fSegs_any (a b : Int) (w : World) (hT : TabD w) : Calls Tryd.prog 46 #[.int .i64 a, .int .i64 b] w (SgA w (segI a b)) := by
  by_cases hm : mayR a b = true
  · have e : segI a b = szs (seg a.toNat b.toNat) := by unfold segI; rw [if_pos hm]
    rw [e]
    have hm2 := hm
    unfold mayR at hm2
    rw [decide_eq_true_eq] at hm2
    obtain ⟨x, rfl⟩ : ∃ x : Nat, a = (x : Int) := ⟨a.toNat, by omega⟩
    obtain ⟨y, rfl⟩ : ∃ y : Nat, b = (y : Int) := ⟨b.toNat, by omega⟩
    rw [Int.toNat_natCast, Int.toNat_natCast]
    have hxy : x ≤ y := by omega
    have hy : y ≤ 2147483647 := by omega
    have CM := hid (fun w => fAre_any (x : Int) (y : Int) w)
    rw [hm] at CM
    have HT := hid hT
    have FEW := hid (seg_few (a := x) (b := y) (by omega))
    clear hm e hm2 hT
    unfold SgA
    go_enter Tryd.func46, Tryd.ntmps46
    go_wp2_with (go_at_call 45; refine (CM.out _).mono ?_; rintro e w1 ⟨rfl, rfl⟩)
    go_loopw [5, 6] (fun s5 s6 wr => ∃ (p : Nat) (P : List Nat), p ≤ y ∧ s6 = .int .i64 (p : Int) ∧ Hid (seg x y = P ++ seg p y) ∧ Hid (OwI w1.heap.size wr s5 (szs P)) ∧ Hid (Below w1.heap.size w1 wr)) (fun _ s _ => y - (intOf s).toNat)
    case atStart => exact ⟨x, [], hxy, rfl, rfl, OwI.nil _ _, Below.refl _ _⟩
    case round =>
      obtain ⟨p, P, hp, rfl, HE, HO, HB⟩ := hrel
      by_cases hlt : p < y
      · have d1 : (p : Int) < (y : Int) := by omega
        obtain ⟨d, hd⟩ : ∃ d, d = y - p := ⟨_, rfl⟩
        have d2 : (y : Int) - (p : Int) = (d : Int) := by omega
        have d3 : d < 2147483648 := by omega
        have d4 : p < 2147483648 := by omega
        obtain ⟨g, hg, hg30, hg1, hg2⟩ := bitLen_spec (x := d) (by omega) d3
        clear hg1 hg2
        obtain ⟨sb1, sb2⟩ := sg_bits (a := p) (l := d) (by omega) d3 (by omega)
        rw [hg, Nat.add_sub_cancel] at sb1
        have C1 := hid (len32_any d (by omega))
        have C2 := hid (fun (w2 : World) (hb : Below w1.heap.size w1 w2) => tz32_any p (by omega) w2 (HT.out.below hb))
        rw [hg, hd] at C1
        obtain ⟨t, ht⟩ : ∃ t, t = Lib.ctz 32 p := ⟨_, rfl⟩
        rw [← ht] at C2 sb1
        obtain ⟨z, hz⟩ : ∃ z, z = 2 ^ sg p (y - p) := ⟨_, rfl⟩
        have hzl := sg_le hlt
        have hzp := pow_pos2 (sg p (y - p))
        have HN := hid (seg_next hlt HE.out)
        have HZ := hid (szs_snoc P (sg p (y - p)))
        rw [← hz] at HN HZ hzl hzp
        rw [← hd] at hz
        have hzm : z = 2 ^ min t g := by rw [hz, sb1]
        have hm30 : min t g ≤ 30 := by rw [← sb1]; exact sb2
        have HL : Hid ((szs P).length + 1 < 1000000) := by
          show _ < _
          have := FEW.out
          rw [HE.out, List.length_append] at this
          rw [szs_len]; omega
        have HM30 := hid hm30
        have HZM : Hid (((2 ^ min t g : Nat) : Int) = (z : Int)) := by show _ = _; rw [hzm]
        clear hz sb1 sb2 ht hg hzm hm30
        go_wp2_with (first
          | (go_at_call 65; refine (C1.out _).mono ?_; rintro e w2 ⟨rfl, rfl⟩)
          | (go_at_call 66; refine (C2.out _ HB.out).mono ?_; rintro e w2 ⟨rfl, rfl⟩)
          | (refine wpList_min rfl (.tmp 25) (.tmp 26) rfl t g rfl rfl ?_)
          | (refine wpList_shl1 rfl (.tmp 27) rfl (min t g) rfl HM30.out ?_; rw [HZM.out])
          | (at_builtin; refine append_i rfl (.tmp 29) (.tmp 31) rfl w1.heap.size _ _ rfl (HO.out.below ((Below.refl _ _).alloc (Nat.le_refl _) _)) _ _ _ [(z : Int)] (ini_one _ _) rfl HL.out (by have := HB.out.size; simp; omega) ?_; intro v' w3 ho hg hw; rw [← HZ.out] at ho; have HO3 := hid ho; have HB3 := hid (((HB.out.alloc HB.out.size _).grown hg (by have := HB.out.size; simp; omega) (fun k hk => (HO.out.lt k hk).1))); clear ho hg hw))
        go_roundw
        case rel => exact ⟨p + z, P ++ [sg p (y - p)], hzl, by go_num, HN.out, HO3.out, HB3.out⟩
        case measure => simp [intOf]; omega
      · obtain rfl : p = y := by omega
        have HN : Hid (seg x p = P) := by show _ = _; rw [HE.out, seg_nil (Nat.le_refl _), List.append_nil]
        go_wp2
        go_ret
        exact ⟨_, rfl, by rw [HN.out]; exact HO.out, HB.out⟩
  · have e : segI a b = [] := by unfold segI; rw [if_neg hm]
    rw [e]
    have hm2 : mayR a b = false := by simpa using hm
    have CM := hid (fun w => fAre_any a b w)
    rw [hm2] at CM
    clear hm e
    unfold SgA
    go_enter Tryd.func46, Tryd.ntmps46
    go_wp2_with (go_at_call 45; refine (CM.out _).mono ?_; rintro e w1 ⟨rfl, rfl⟩)
    go_ret
    exact ⟨_, rfl, OwI.nil _ _, Below.refl _ _⟩
end Go.Proofs.YtoacjaecfabahaaDoor
/-
  What is proved here: whether a range is formed, as the code and as the document tell it.
-/
namespace Go.Proofs.YtoacjaecfabahaaDoor
open Go.ChangeShapes Go.WideShapes Go.ChangeAt Go.RowKit
set_option linter.unusedVariables false
set_option linter.unusedSimpArgs false
set_option maxRecDepth 20000

/-- a range's cells -/
abbrev rgc (a b : Int) (v : Value) : Array Value := #[.int .i64 a, .int .i64 b, v]
def frm (a b : Int) (n : Nat) : Bool := mayR a b && decide (n = (segI a b).length)
set_option maxHeartbeats 4000000 in
theorem fFormed_any (a b : Int) (A : Option Addr) (n c : Nat) (w : World) (hT : TabD w) (hn : n < 1000000) : Calls Tryd.prog 18 #[.agg (rgc a b (.slice A n c))] w fun e w' => e = .returned (.bool (frm a b n)) ∧ Below w.heap.size w w' := by
  have KB := hid (Blk.new w 25 (rgc a b (.slice A n c)))
  have B1 := hid ((Below.refl w.heap.size w).alloc (Nat.le_refl _) (.cells (rgc a b (.slice A n c)) 25))
  have CM : Hid (∀ w' : World, Calls Tryd.prog 45 #[.int .i64 a, .int .i64 b] w' fun e w'' => e = .returned (.bool (mayR a b)) ∧ Below w'.heap.size w' w'') := fun w' => (fAre_any a b w').mono fun e w'' ⟨h1, h2⟩ => ⟨h1, by rw [h2]; exact Below.refl _ _⟩
  have CS : Hid (∀ w2 : World, Below (w.alloc (.cells (rgc a b (.slice A n c)) 25)).heap.size (w.alloc (.cells (rgc a b (.slice A n c)) 25)) w2 → Calls Tryd.prog 46 #[.int .i64 a, .int .i64 b] w2 (SgA w2 (segI a b))) := fun w2 hb => fSegs_any a b w2 (hT.below (B1.out.trans (hb.mono B1.out.size)))
  clear hT
  have HLS := hid (segI_len a b)
  have HNN := hid hn
  obtain ⟨L, hL⟩ : ∃ L, L = segI a b := ⟨_, rfl⟩
  rw [← hL] at CS HLS
  unfold SgA at CS
  by_cases hm : mayR a b = true
  · have HR : Hid (Ending.returned (.bool (decide ((n : Int) = (L.length : Int)))) = Ending.returned (.bool (frm a b n))) := by
      show _ = _
      unfold frm
      rw [hm, Bool.true_and, ← hL]
      congr 2
      exact decide_eq_decide.2 (by omega)
    rw [hm] at CM
    clear hm hL hn
    go_enter Tryd.func18, Tryd.ntmps18
    go_wp2
    have SZ1 := hid B1.out.size
    generalize hg : w.heap.size = g at KB
    generalize w.alloc (.cells (rgc a b (.slice A n c)) 25) = w1 at KB B1 CS
    refine wp_region_held (S := fun w' => Hid (Below w1.heap.size w1 w')) (by kernel_rfl) ?_
    change wpAnyH _ _ _ _ _ _ _ _ w1.drew
    have Gx0 : Hid (Below w1.heap.size w1 w1.drew) := (Below.refl _ _).drew
    generalize w1.drew = x0 at Gx0  ⊢
    refine wpAnyH_take (i := 0) (oi := { dst := some 3, op := _, type := _, pos := _, after := _, guard := _ }) (v := ?_) rfl (by kernel_rfl) (by kernel_rfl) (by kernel_rfl) (fun _ _ _ h => h) (Or.inl ⟨by kernel_rfl, ?_⟩) Gx0 ?_
    rotate_left
    · (intro w hSw; go_simp; try with_reducible rfl)
    try simp only [Act.put, List.setIfInBounds_toArray, List.set_cons_zero, List.set_cons_succ]
    refine wpAnyH_take (i := 1) (oi := { dst := some 4, op := _, type := _, pos := _, after := _, guard := _ }) (v := ?_) rfl (by kernel_rfl) (by kernel_rfl) (by kernel_rfl) (fun _ _ _ h => h) (Or.inl ⟨by kernel_rfl, ?_⟩) Gx0 ?_
    rotate_left
    · (intro w hSw; have c0 : w.cell? ⟨g, 0, none⟩ = some (.int .i64 a) := (KB.out.below hSw.out).cell 0; go_simp; try with_reducible rfl)
    try simp only [Act.put, List.setIfInBounds_toArray, List.set_cons_zero, List.set_cons_succ]
    refine wpAnyH_take (i := 2) (oi := { dst := some 5, op := _, type := _, pos := _, after := _, guard := _ }) (v := ?_) rfl (by kernel_rfl) (by kernel_rfl) (by kernel_rfl) (fun _ _ _ h => h) (Or.inl ⟨by kernel_rfl, ?_⟩) Gx0 ?_
    rotate_left
    · (intro w hSw; go_simp; try with_reducible rfl)
    try simp only [Act.put, List.setIfInBounds_toArray, List.set_cons_zero, List.set_cons_succ]
    refine wpAnyH_take (i := 3) (oi := { dst := some 6, op := _, type := _, pos := _, after := _, guard := _ }) (v := ?_) rfl (by kernel_rfl) (by kernel_rfl) (by kernel_rfl) (fun _ _ _ h => h) (Or.inl ⟨by kernel_rfl, ?_⟩) Gx0 ?_
    rotate_left
    · (intro w hSw; have c1 : w.cell? ⟨g, 1, none⟩ = some (.int .i64 b) := (KB.out.below hSw.out).cell 1; go_simp; try with_reducible rfl)
    try simp only [Act.put, List.setIfInBounds_toArray, List.set_cons_zero, List.set_cons_succ]
    refine wpAnyH_ready (rs := [4]) (by kernel_rfl) (by simp) ?_
    refine (AllReadyH.cons (o := { dst := some 7, op := _, type := _, pos := _, after := _, guard := _ }) rfl (fun Qc hQc => ?_) AllReadyH.nil)
    go_simp
    go_at_call 45
    refine (CM.out x0).mono ?_
    rintro e x1 ⟨rfl, hb⟩
    have Gx1 := hid (Gx0.out.trans (hb.mono Gx0.out.size))
    clear hb
    go_wp2_with fail
    refine hQc.out _ _ Gx1 (fun hHeld => ?_)
    clear hQc Qc hHeld
    try simp only [Act.put, List.setIfInBounds_toArray, List.set_cons_zero, List.set_cons_succ]
    refine wpAnyH_take (i := 5) (oi := { dst := some 8, op := _, type := _, pos := _, after := _, guard := _ }) (v := ?_) rfl (by kernel_rfl) (by kernel_rfl) (by kernel_rfl) (fun _ _ _ h => h) (Or.inl ⟨by kernel_rfl, ?_⟩) Gx1 ?_
    rotate_left
    · (intro w hSw; go_simp; try with_reducible rfl)
    try simp only [Act.put, List.setIfInBounds_toArray, List.set_cons_zero, List.set_cons_succ]
    refine wpAnyH_take (i := 6) (oi := { dst := some 9, op := _, type := _, pos := _, after := _, guard := _ }) (v := ?_) rfl (by kernel_rfl) (by kernel_rfl) (by kernel_rfl) (fun _ _ _ h => h) (Or.inl ⟨by kernel_rfl, ?_⟩) Gx1 ?_
    rotate_left
    · (intro w hSw; go_simp; try with_reducible rfl)
    try simp only [Act.put, List.setIfInBounds_toArray, List.set_cons_zero, List.set_cons_succ]
    refine wpAnyH_take (i := 7) (oi := { dst := some 10, op := _, type := _, pos := _, after := _, guard := _ }) (v := ?_) rfl (by kernel_rfl) (by kernel_rfl) (by kernel_rfl) (fun _ _ _ h => h) (Or.inl ⟨by kernel_rfl, ?_⟩) Gx1 ?_
    rotate_left
    · (intro w hSw; have c2 : w.cell? ⟨g, 2, none⟩ = some (.slice A n c) := (KB.out.below hSw.out).cell 2; go_simp; try with_reducible rfl)
    try simp only [Act.put, List.setIfInBounds_toArray, List.set_cons_zero, List.set_cons_succ]
    refine wpAnyH_take (i := 8) (oi := { dst := some 11, op := _, type := _, pos := _, after := _, guard := _ }) (v := ?_) rfl (by kernel_rfl) (by kernel_rfl) (by kernel_rfl) (fun _ _ _ h => h) (Or.inl ⟨by kernel_rfl, ?_⟩) Gx1 ?_
    rotate_left
    · (intro w hSw; go_simp; try with_reducible rfl)
    try simp only [Act.put, List.setIfInBounds_toArray, List.set_cons_zero, List.set_cons_succ]
    refine wpAnyH_take (i := 9) (oi := { dst := some 12, op := _, type := _, pos := _, after := _, guard := _ }) (v := ?_) rfl (by kernel_rfl) (by kernel_rfl) (by kernel_rfl) (fun _ _ _ h => h) (Or.inl ⟨by kernel_rfl, ?_⟩) Gx1 ?_
    rotate_left
    · (intro w hSw; go_simp; try with_reducible rfl)
    try simp only [Act.put, List.setIfInBounds_toArray, List.set_cons_zero, List.set_cons_succ]
    refine wpAnyH_take (i := 10) (oi := { dst := some 13, op := _, type := _, pos := _, after := _, guard := _ }) (v := ?_) rfl (by kernel_rfl) (by kernel_rfl) (by kernel_rfl) (fun _ _ _ h => h) (Or.inl ⟨by kernel_rfl, ?_⟩) Gx1 ?_
    rotate_left
    · (intro w hSw; have c0 : w.cell? ⟨g, 0, none⟩ = some (.int .i64 a) := (KB.out.below hSw.out).cell 0; go_simp; try with_reducible rfl)
    try simp only [Act.put, List.setIfInBounds_toArray, List.set_cons_zero, List.set_cons_succ]
    refine wpAnyH_take (i := 11) (oi := { dst := some 14, op := _, type := _, pos := _, after := _, guard := _ }) (v := ?_) rfl (by kernel_rfl) (by kernel_rfl) (by kernel_rfl) (fun _ _ _ h => h) (Or.inl ⟨by kernel_rfl, ?_⟩) Gx1 ?_
    rotate_left
    · (intro w hSw; go_simp; try with_reducible rfl)
    try simp only [Act.put, List.setIfInBounds_toArray, List.set_cons_zero, List.set_cons_succ]
    refine wpAnyH_take (i := 12) (oi := { dst := some 15, op := _, type := _, pos := _, after := _, guard := _ }) (v := ?_) rfl (by kernel_rfl) (by kernel_rfl) (by kernel_rfl) (fun _ _ _ h => h) (Or.inl ⟨by kernel_rfl, ?_⟩) Gx1 ?_
    rotate_left
    · (intro w hSw; have c1 : w.cell? ⟨g, 1, none⟩ = some (.int .i64 b) := (KB.out.below hSw.out).cell 1; go_simp; try with_reducible rfl)
    try simp only [Act.put, List.setIfInBounds_toArray, List.set_cons_zero, List.set_cons_succ]
    refine wpAnyH_ready (rs := [13]) (by kernel_rfl) (by simp) ?_
    refine (AllReadyH.cons (o := { dst := some 16, op := _, type := _, pos := _, after := _, guard := _ }) rfl (fun Qc hQc => ?_) AllReadyH.nil)
    go_simp
    go_at_call 46
    refine (CS.out x1 Gx1.out).mono ?_
    rintro e x2 ⟨v9, rfl, ho9, hb⟩
    obtain ⟨A9, c9, rfl, _, _⟩ := ho9.len
    have Gx2 := hid (Gx1.out.trans (hb.mono Gx1.out.size))
    clear hb ho9
    go_wp2_with fail
    refine hQc.out _ _ Gx2 (fun hHeld => ?_)
    clear hQc Qc hHeld
    try simp only [Act.put, List.setIfInBounds_toArray, List.set_cons_zero, List.set_cons_succ]
    refine wpAnyH_take (i := 14) (oi := { dst := some 17, op := _, type := _, pos := _, after := _, guard := _ }) (v := ?_) rfl (by kernel_rfl) (by kernel_rfl) (by kernel_rfl) (fun _ _ _ h => h) (Or.inl ⟨by kernel_rfl, ?_⟩) Gx2 ?_
    rotate_left
    · (intro w hSw; go_simp; try with_reducible rfl)
    try simp only [Act.put, List.setIfInBounds_toArray, List.set_cons_zero, List.set_cons_succ]
    refine wpAnyH_take (i := 15) (oi := { dst := some 18, op := _, type := _, pos := _, after := _, guard := _ }) (v := ?_) rfl (by kernel_rfl) (by kernel_rfl) (by kernel_rfl) (fun _ _ _ h => h) (Or.inl ⟨by kernel_rfl, ?_⟩) Gx2 ?_
    rotate_left
    · (intro w hSw; go_simp; try with_reducible rfl)
    try simp only [Act.put, List.setIfInBounds_toArray, List.set_cons_zero, List.set_cons_succ]
    refine wpAnyH_take (i := 16) (oi := { dst := some 19, op := _, type := _, pos := _, after := _, guard := _ }) (v := ?_) rfl (by kernel_rfl) (by kernel_rfl) (by kernel_rfl) (fun _ _ _ h => h) (Or.inl ⟨by kernel_rfl, ?_⟩) Gx2 ?_
    rotate_left
    · (intro w hSw; go_simp; try with_reducible rfl)
    try simp only [Act.put, List.setIfInBounds_toArray, List.set_cons_zero, List.set_cons_succ]
    refine wpAnyH_take (i := 17) (oi := { dst := some 2, op := _, type := _, pos := _, after := _, guard := _ }) (v := ?_) rfl (by kernel_rfl) (by kernel_rfl) (by kernel_rfl) (fun _ _ _ h => h) (Or.inl ⟨by kernel_rfl, ?_⟩) Gx2 ?_
    rotate_left
    · (intro w hSw; go_simp; try with_reducible rfl)
    try simp only [Act.put, List.setIfInBounds_toArray, List.set_cons_zero, List.set_cons_succ]
    refine wpAnyH_done (by kernel_rfl) ?_ _
    try simp only [Act.put, List.setIfInBounds_toArray, List.set_cons_zero, List.set_cons_succ]
    go_wp2
    go_ret
    exact ⟨HR.out, B1.out.trans (Gx2.out.mono B1.out.size)⟩
  · have hm2 : mayR a b = false := by simpa using hm
    have e : frm a b n = false := by unfold frm; rw [hm2]; rfl
    rw [e]
    rw [hm2] at CM
    clear hm hL hn e hm2 HLS CS
    go_enter Tryd.func18, Tryd.ntmps18
    go_wp2
    have SZ1 := hid B1.out.size
    generalize hg : w.heap.size = g at KB
    generalize w.alloc (.cells (rgc a b (.slice A n c)) 25) = w1 at KB B1
    refine wp_region_held (S := fun w' => Hid (Below w1.heap.size w1 w')) (by kernel_rfl) ?_
    change wpAnyH _ _ _ _ _ _ _ _ w1.drew
    have Gx0 : Hid (Below w1.heap.size w1 w1.drew) := (Below.refl _ _).drew
    generalize w1.drew = x0 at Gx0  ⊢
    refine wpAnyH_take (i := 0) (oi := { dst := some 3, op := _, type := _, pos := _, after := _, guard := _ }) (v := ?_) rfl (by kernel_rfl) (by kernel_rfl) (by kernel_rfl) (fun _ _ _ h => h) (Or.inl ⟨by kernel_rfl, ?_⟩) Gx0 ?_
    rotate_left
    · (intro w hSw; go_simp; try with_reducible rfl)
    try simp only [Act.put, List.setIfInBounds_toArray, List.set_cons_zero, List.set_cons_succ]
    refine wpAnyH_take (i := 1) (oi := { dst := some 4, op := _, type := _, pos := _, after := _, guard := _ }) (v := ?_) rfl (by kernel_rfl) (by kernel_rfl) (by kernel_rfl) (fun _ _ _ h => h) (Or.inl ⟨by kernel_rfl, ?_⟩) Gx0 ?_
    rotate_left
    · (intro w hSw; have c0 : w.cell? ⟨g, 0, none⟩ = some (.int .i64 a) := (KB.out.below hSw.out).cell 0; go_simp; try with_reducible rfl)
    try simp only [Act.put, List.setIfInBounds_toArray, List.set_cons_zero, List.set_cons_succ]
    refine wpAnyH_take (i := 2) (oi := { dst := some 5, op := _, type := _, pos := _, after := _, guard := _ }) (v := ?_) rfl (by kernel_rfl) (by kernel_rfl) (by kernel_rfl) (fun _ _ _ h => h) (Or.inl ⟨by kernel_rfl, ?_⟩) Gx0 ?_
    rotate_left
    · (intro w hSw; go_simp; try with_reducible rfl)
    try simp only [Act.put, List.setIfInBounds_toArray, List.set_cons_zero, List.set_cons_succ]
    refine wpAnyH_take (i := 3) (oi := { dst := some 6, op := _, type := _, pos := _, after := _, guard := _ }) (v := ?_) rfl (by kernel_rfl) (by kernel_rfl) (by kernel_rfl) (fun _ _ _ h => h) (Or.inl ⟨by kernel_rfl, ?_⟩) Gx0 ?_
    rotate_left
    · (intro w hSw; have c1 : w.cell? ⟨g, 1, none⟩ = some (.int .i64 b) := (KB.out.below hSw.out).cell 1; go_simp; try with_reducible rfl)
    try simp only [Act.put, List.setIfInBounds_toArray, List.set_cons_zero, List.set_cons_succ]
    refine wpAnyH_ready (rs := [4]) (by kernel_rfl) (by simp) ?_
    refine (AllReadyH.cons (o := { dst := some 7, op := _, type := _, pos := _, after := _, guard := _ }) rfl (fun Qc hQc => ?_) AllReadyH.nil)
    go_simp
    go_at_call 45
    refine (CM.out x0).mono ?_
    rintro e x1 ⟨rfl, hb⟩
    have Gx1 := hid (Gx0.out.trans (hb.mono Gx0.out.size))
    clear hb
    go_wp2_with fail
    refine hQc.out _ _ Gx1 (fun hHeld => ?_)
    clear hQc Qc hHeld
    try simp only [Act.put, List.setIfInBounds_toArray, List.set_cons_zero, List.set_cons_succ]
    refine wpAnyH_take (i := 5) (oi := { dst := some 8, op := _, type := _, pos := _, after := _, guard := _ }) (v := ?_) rfl (by kernel_rfl) (by kernel_rfl) (by kernel_rfl) (fun _ _ _ h => h) (Or.inl ⟨by kernel_rfl, ?_⟩) Gx1 ?_
    rotate_left
    · (intro w hSw; go_simp; try with_reducible rfl)
    try simp only [Act.put, List.setIfInBounds_toArray, List.set_cons_zero, List.set_cons_succ]
    refine wpAnyH_take (i := 6) (oi := { dst := some 9, op := _, type := _, pos := _, after := _, guard := _ }) (v := undef) rfl (by kernel_rfl) (by kernel_rfl) (by kernel_rfl) (fun _ _ _ h => h) (Or.inr ⟨by rfl, rfl⟩) Gx1 ?_
    try simp only [Act.put, List.setIfInBounds_toArray, List.set_cons_zero, List.set_cons_succ]
    refine wpAnyH_take (i := 7) (oi := { dst := some 10, op := _, type := _, pos := _, after := _, guard := _ }) (v := undef) rfl (by kernel_rfl) (by kernel_rfl) (by kernel_rfl) (fun _ _ _ h => h) (Or.inr ⟨by rfl, rfl⟩) Gx1 ?_
    try simp only [Act.put, List.setIfInBounds_toArray, List.set_cons_zero, List.set_cons_succ]
    refine wpAnyH_take (i := 8) (oi := { dst := some 11, op := _, type := _, pos := _, after := _, guard := _ }) (v := undef) rfl (by kernel_rfl) (by kernel_rfl) (by kernel_rfl) (fun _ _ _ h => h) (Or.inr ⟨by rfl, rfl⟩) Gx1 ?_
    try simp only [Act.put, List.setIfInBounds_toArray, List.set_cons_zero, List.set_cons_succ]
    refine wpAnyH_take (i := 9) (oi := { dst := some 12, op := _, type := _, pos := _, after := _, guard := _ }) (v := undef) rfl (by kernel_rfl) (by kernel_rfl) (by kernel_rfl) (fun _ _ _ h => h) (Or.inr ⟨by rfl, rfl⟩) Gx1 ?_
    try simp only [Act.put, List.setIfInBounds_toArray, List.set_cons_zero, List.set_cons_succ]
    refine wpAnyH_take (i := 10) (oi := { dst := some 13, op := _, type := _, pos := _, after := _, guard := _ }) (v := undef) rfl (by kernel_rfl) (by kernel_rfl) (by kernel_rfl) (fun _ _ _ h => h) (Or.inr ⟨by rfl, rfl⟩) Gx1 ?_
    try simp only [Act.put, List.setIfInBounds_toArray, List.set_cons_zero, List.set_cons_succ]
    refine wpAnyH_take (i := 11) (oi := { dst := some 14, op := _, type := _, pos := _, after := _, guard := _ }) (v := undef) rfl (by kernel_rfl) (by kernel_rfl) (by kernel_rfl) (fun _ _ _ h => h) (Or.inr ⟨by rfl, rfl⟩) Gx1 ?_
    try simp only [Act.put, List.setIfInBounds_toArray, List.set_cons_zero, List.set_cons_succ]
    refine wpAnyH_take (i := 12) (oi := { dst := some 15, op := _, type := _, pos := _, after := _, guard := _ }) (v := undef) rfl (by kernel_rfl) (by kernel_rfl) (by kernel_rfl) (fun _ _ _ h => h) (Or.inr ⟨by rfl, rfl⟩) Gx1 ?_
    try simp only [Act.put, List.setIfInBounds_toArray, List.set_cons_zero, List.set_cons_succ]
    refine wpAnyH_take (i := 13) (oi := { dst := some 16, op := _, type := _, pos := _, after := _, guard := _ }) (v := undef) rfl (by kernel_rfl) (by kernel_rfl) (by kernel_rfl) (fun _ _ _ h => h) (Or.inr ⟨by rfl, rfl⟩) Gx1 ?_
    try simp only [Act.put, List.setIfInBounds_toArray, List.set_cons_zero, List.set_cons_succ]
    refine wpAnyH_take (i := 14) (oi := { dst := some 17, op := _, type := _, pos := _, after := _, guard := _ }) (v := undef) rfl (by kernel_rfl) (by kernel_rfl) (by kernel_rfl) (fun _ _ _ h => h) (Or.inr ⟨by rfl, rfl⟩) Gx1 ?_
    try simp only [Act.put, List.setIfInBounds_toArray, List.set_cons_zero, List.set_cons_succ]
    refine wpAnyH_take (i := 15) (oi := { dst := some 18, op := _, type := _, pos := _, after := _, guard := _ }) (v := undef) rfl (by kernel_rfl) (by kernel_rfl) (by kernel_rfl) (fun _ _ _ h => h) (Or.inr ⟨by rfl, rfl⟩) Gx1 ?_
    try simp only [Act.put, List.setIfInBounds_toArray, List.set_cons_zero, List.set_cons_succ]
    refine wpAnyH_take (i := 16) (oi := { dst := some 19, op := _, type := _, pos := _, after := _, guard := _ }) (v := ?_) rfl (by kernel_rfl) (by kernel_rfl) (by kernel_rfl) (fun _ _ _ h => h) (Or.inl ⟨by kernel_rfl, ?_⟩) Gx1 ?_
    rotate_left
    · (intro w hSw; go_simp; try with_reducible rfl)
    try simp only [Act.put, List.setIfInBounds_toArray, List.set_cons_zero, List.set_cons_succ]
    refine wpAnyH_take (i := 17) (oi := { dst := some 2, op := _, type := _, pos := _, after := _, guard := _ }) (v := ?_) rfl (by kernel_rfl) (by kernel_rfl) (by kernel_rfl) (fun _ _ _ h => h) (Or.inl ⟨by kernel_rfl, ?_⟩) Gx1 ?_
    rotate_left
    · (intro w hSw; go_simp; try with_reducible rfl)
    try simp only [Act.put, List.setIfInBounds_toArray, List.set_cons_zero, List.set_cons_succ]
    refine wpAnyH_done (by kernel_rfl) ?_ _
    try simp only [Act.put, List.setIfInBounds_toArray, List.set_cons_zero, List.set_cons_succ]
    go_wp2
    go_ret
    exact ⟨rfl, B1.out.trans (Gx1.out.mono B1.out.size)⟩
set_option maxHeartbeats 4000000 in
theorem gFormed_any (a b : Int) (A : Option Addr) (n c : Nat) (w : World) (hn : n < 1000000) : Calls Tryd.prog 23 #[.agg (rgc a b (.slice A n c))] w fun e w' => e = .returned (.bool (frm a b n)) ∧ Below w.heap.size w w' := by
  have KB := hid (Blk.new w 29 (rgc a b (.slice A n c)))
  have B1 := hid ((Below.refl w.heap.size w).alloc (Nat.le_refl _) (.cells (rgc a b (.slice A n c)) 29))
  have CM : Hid (∀ w' : World, Calls Tryd.prog 53 #[.int .i64 a, .int .i64 b] w' fun e w'' => e = .returned (.bool (mayR a b)) ∧ Below w'.heap.size w' w'') := fun w' => (gMay_any a b w').mono fun e w'' ⟨h1, h2⟩ => ⟨h1, by rw [h2]; exact Below.refl _ _⟩
  have CS : Hid (∀ w2 : World, Below (w.alloc (.cells (rgc a b (.slice A n c)) 29)).heap.size (w.alloc (.cells (rgc a b (.slice A n c)) 29)) w2 → Calls Tryd.prog 41 #[.int .i64 a, .int .i64 b] w2 (SgA w2 (segI a b))) := fun w2 _ => gSegs_any a b w2
  have HLS := hid (segI_len a b)
  have HNN := hid hn
  obtain ⟨L, hL⟩ : ∃ L, L = segI a b := ⟨_, rfl⟩
  rw [← hL] at CS HLS
  unfold SgA at CS
  by_cases hm : mayR a b = true
  · have HR : Hid (Ending.returned (.bool (decide ((n : Int) = (L.length : Int)))) = Ending.returned (.bool (frm a b n))) := by
      show _ = _
      unfold frm
      rw [hm, Bool.true_and, ← hL]
      congr 2
      exact decide_eq_decide.2 (by omega)
    rw [hm] at CM
    clear hm hL hn
    go_enter Tryd.func23, Tryd.ntmps23
    go_wp2
    have SZ1 := hid B1.out.size
    generalize hg : w.heap.size = g at KB
    generalize w.alloc (.cells (rgc a b (.slice A n c)) 29) = w1 at KB B1 CS
    refine wp_region_held (S := fun w' => Hid (Below w1.heap.size w1 w')) (by kernel_rfl) ?_
    change wpAnyH _ _ _ _ _ _ _ _ w1.drew
    have Gx0 : Hid (Below w1.heap.size w1 w1.drew) := (Below.refl _ _).drew
    generalize w1.drew = x0 at Gx0  ⊢
    refine wpAnyH_take (i := 0) (oi := { dst := some 3, op := _, type := _, pos := _, after := _, guard := _ }) (v := ?_) rfl (by kernel_rfl) (by kernel_rfl) (by kernel_rfl) (fun _ _ _ h => h) (Or.inl ⟨by kernel_rfl, ?_⟩) Gx0 ?_
    rotate_left
    · (intro w hSw; go_simp; try with_reducible rfl)
    try simp only [Act.put, List.setIfInBounds_toArray, List.set_cons_zero, List.set_cons_succ]
    refine wpAnyH_take (i := 1) (oi := { dst := some 4, op := _, type := _, pos := _, after := _, guard := _ }) (v := ?_) rfl (by kernel_rfl) (by kernel_rfl) (by kernel_rfl) (fun _ _ _ h => h) (Or.inl ⟨by kernel_rfl, ?_⟩) Gx0 ?_
    rotate_left
    · (intro w hSw; have c0 : w.cell? ⟨g, 0, none⟩ = some (.int .i64 a) := (KB.out.below hSw.out).cell 0; go_simp; try with_reducible rfl)
    try simp only [Act.put, List.setIfInBounds_toArray, List.set_cons_zero, List.set_cons_succ]
    refine wpAnyH_take (i := 2) (oi := { dst := some 5, op := _, type := _, pos := _, after := _, guard := _ }) (v := ?_) rfl (by kernel_rfl) (by kernel_rfl) (by kernel_rfl) (fun _ _ _ h => h) (Or.inl ⟨by kernel_rfl, ?_⟩) Gx0 ?_
    rotate_left
    · (intro w hSw; go_simp; try with_reducible rfl)
    try simp only [Act.put, List.setIfInBounds_toArray, List.set_cons_zero, List.set_cons_succ]
    refine wpAnyH_take (i := 3) (oi := { dst := some 6, op := _, type := _, pos := _, after := _, guard := _ }) (v := ?_) rfl (by kernel_rfl) (by kernel_rfl) (by kernel_rfl) (fun _ _ _ h => h) (Or.inl ⟨by kernel_rfl, ?_⟩) Gx0 ?_
    rotate_left
    · (intro w hSw; have c1 : w.cell? ⟨g, 1, none⟩ = some (.int .i64 b) := (KB.out.below hSw.out).cell 1; go_simp; try with_reducible rfl)
    try simp only [Act.put, List.setIfInBounds_toArray, List.set_cons_zero, List.set_cons_succ]
    refine wpAnyH_ready (rs := [4]) (by kernel_rfl) (by simp) ?_
    refine (AllReadyH.cons (o := { dst := some 7, op := _, type := _, pos := _, after := _, guard := _ }) rfl (fun Qc hQc => ?_) AllReadyH.nil)
    go_simp
    go_at_call 53
    refine (CM.out x0).mono ?_
    rintro e x1 ⟨rfl, hb⟩
    have Gx1 := hid (Gx0.out.trans (hb.mono Gx0.out.size))
    clear hb
    go_wp2_with fail
    refine hQc.out _ _ Gx1 (fun hHeld => ?_)
    clear hQc Qc hHeld
    try simp only [Act.put, List.setIfInBounds_toArray, List.set_cons_zero, List.set_cons_succ]
    refine wpAnyH_take (i := 5) (oi := { dst := some 8, op := _, type := _, pos := _, after := _, guard := _ }) (v := ?_) rfl (by kernel_rfl) (by kernel_rfl) (by kernel_rfl) (fun _ _ _ h => h) (Or.inl ⟨by kernel_rfl, ?_⟩) Gx1 ?_
    rotate_left
    · (intro w hSw; go_simp; try with_reducible rfl)
    try simp only [Act.put, List.setIfInBounds_toArray, List.set_cons_zero, List.set_cons_succ]
    refine wpAnyH_take (i := 6) (oi := { dst := some 9, op := _, type := _, pos := _, after := _, guard := _ }) (v := ?_) rfl (by kernel_rfl) (by kernel_rfl) (by kernel_rfl) (fun _ _ _ h => h) (Or.inl ⟨by kernel_rfl, ?_⟩) Gx1 ?_
    rotate_left
    · (intro w hSw; go_simp; try with_reducible rfl)
    try simp only [Act.put, List.setIfInBounds_toArray, List.set_cons_zero, List.set_cons_succ]
    refine wpAnyH_take (i := 7) (oi := { dst := some 10, op := _, type := _, pos := _, after := _, guard := _ }) (v := ?_) rfl (by kernel_rfl) (by kernel_rfl) (by kernel_rfl) (fun _ _ _ h => h) (Or.inl ⟨by kernel_rfl, ?_⟩) Gx1 ?_
    rotate_left
    · (intro w hSw; have c2 : w.cell? ⟨g, 2, none⟩ = some (.slice A n c) := (KB.out.below hSw.out).cell 2; go_simp; try with_reducible rfl)
    try simp only [Act.put, List.setIfInBounds_toArray, List.set_cons_zero, List.set_cons_succ]
    refine wpAnyH_take (i := 8) (oi := { dst := some 11, op := _, type := _, pos := _, after := _, guard := _ }) (v := ?_) rfl (by kernel_rfl) (by kernel_rfl) (by kernel_rfl) (fun _ _ _ h => h) (Or.inl ⟨by kernel_rfl, ?_⟩) Gx1 ?_
    rotate_left
    · (intro w hSw; go_simp; try with_reducible rfl)
    try simp only [Act.put, List.setIfInBounds_toArray, List.set_cons_zero, List.set_cons_succ]
    refine wpAnyH_take (i := 9) (oi := { dst := some 12, op := _, type := _, pos := _, after := _, guard := _ }) (v := ?_) rfl (by kernel_rfl) (by kernel_rfl) (by kernel_rfl) (fun _ _ _ h => h) (Or.inl ⟨by kernel_rfl, ?_⟩) Gx1 ?_
    rotate_left
    · (intro w hSw; go_simp; try with_reducible rfl)
    try simp only [Act.put, List.setIfInBounds_toArray, List.set_cons_zero, List.set_cons_succ]
    refine wpAnyH_take (i := 10) (oi := { dst := some 13, op := _, type := _, pos := _, after := _, guard := _ }) (v := ?_) rfl (by kernel_rfl) (by kernel_rfl) (by kernel_rfl) (fun _ _ _ h => h) (Or.inl ⟨by kernel_rfl, ?_⟩) Gx1 ?_
    rotate_left
    · (intro w hSw; have c0 : w.cell? ⟨g, 0, none⟩ = some (.int .i64 a) := (KB.out.below hSw.out).cell 0; go_simp; try with_reducible rfl)
    try simp only [Act.put, List.setIfInBounds_toArray, List.set_cons_zero, List.set_cons_succ]
    refine wpAnyH_take (i := 11) (oi := { dst := some 14, op := _, type := _, pos := _, after := _, guard := _ }) (v := ?_) rfl (by kernel_rfl) (by kernel_rfl) (by kernel_rfl) (fun _ _ _ h => h) (Or.inl ⟨by kernel_rfl, ?_⟩) Gx1 ?_
    rotate_left
    · (intro w hSw; go_simp; try with_reducible rfl)
    try simp only [Act.put, List.setIfInBounds_toArray, List.set_cons_zero, List.set_cons_succ]
    refine wpAnyH_take (i := 12) (oi := { dst := some 15, op := _, type := _, pos := _, after := _, guard := _ }) (v := ?_) rfl (by kernel_rfl) (by kernel_rfl) (by kernel_rfl) (fun _ _ _ h => h) (Or.inl ⟨by kernel_rfl, ?_⟩) Gx1 ?_
    rotate_left
    · (intro w hSw; have c1 : w.cell? ⟨g, 1, none⟩ = some (.int .i64 b) := (KB.out.below hSw.out).cell 1; go_simp; try with_reducible rfl)
    try simp only [Act.put, List.setIfInBounds_toArray, List.set_cons_zero, List.set_cons_succ]
    refine wpAnyH_ready (rs := [13]) (by kernel_rfl) (by simp) ?_
    refine (AllReadyH.cons (o := { dst := some 16, op := _, type := _, pos := _, after := _, guard := _ }) rfl (fun Qc hQc => ?_) AllReadyH.nil)
    go_simp
    go_at_call 41
    refine (CS.out x1 Gx1.out).mono ?_
    rintro e x2 ⟨v9, rfl, ho9, hb⟩
    obtain ⟨A9, c9, rfl, _, _⟩ := ho9.len
    have Gx2 := hid (Gx1.out.trans (hb.mono Gx1.out.size))
    clear hb ho9
    go_wp2_with fail
    refine hQc.out _ _ Gx2 (fun hHeld => ?_)
    clear hQc Qc hHeld
    try simp only [Act.put, List.setIfInBounds_toArray, List.set_cons_zero, List.set_cons_succ]
    refine wpAnyH_take (i := 14) (oi := { dst := some 17, op := _, type := _, pos := _, after := _, guard := _ }) (v := ?_) rfl (by kernel_rfl) (by kernel_rfl) (by kernel_rfl) (fun _ _ _ h => h) (Or.inl ⟨by kernel_rfl, ?_⟩) Gx2 ?_
    rotate_left
    · (intro w hSw; go_simp; try with_reducible rfl)
    try simp only [Act.put, List.setIfInBounds_toArray, List.set_cons_zero, List.set_cons_succ]
    refine wpAnyH_take (i := 15) (oi := { dst := some 18, op := _, type := _, pos := _, after := _, guard := _ }) (v := ?_) rfl (by kernel_rfl) (by kernel_rfl) (by kernel_rfl) (fun _ _ _ h => h) (Or.inl ⟨by kernel_rfl, ?_⟩) Gx2 ?_
    rotate_left
    · (intro w hSw; go_simp; try with_reducible rfl)
    try simp only [Act.put, List.setIfInBounds_toArray, List.set_cons_zero, List.set_cons_succ]
    refine wpAnyH_take (i := 16) (oi := { dst := some 19, op := _, type := _, pos := _, after := _, guard := _ }) (v := ?_) rfl (by kernel_rfl) (by kernel_rfl) (by kernel_rfl) (fun _ _ _ h => h) (Or.inl ⟨by kernel_rfl, ?_⟩) Gx2 ?_
    rotate_left
    · (intro w hSw; go_simp; try with_reducible rfl)
    try simp only [Act.put, List.setIfInBounds_toArray, List.set_cons_zero, List.set_cons_succ]
    refine wpAnyH_take (i := 17) (oi := { dst := some 2, op := _, type := _, pos := _, after := _, guard := _ }) (v := ?_) rfl (by kernel_rfl) (by kernel_rfl) (by kernel_rfl) (fun _ _ _ h => h) (Or.inl ⟨by kernel_rfl, ?_⟩) Gx2 ?_
    rotate_left
    · (intro w hSw; go_simp; try with_reducible rfl)
    try simp only [Act.put, List.setIfInBounds_toArray, List.set_cons_zero, List.set_cons_succ]
    refine wpAnyH_done (by kernel_rfl) ?_ _
    try simp only [Act.put, List.setIfInBounds_toArray, List.set_cons_zero, List.set_cons_succ]
    go_wp2
    go_ret
    exact ⟨HR.out, B1.out.trans (Gx2.out.mono B1.out.size)⟩
  · have hm2 : mayR a b = false := by simpa using hm
    have e : frm a b n = false := by unfold frm; rw [hm2]; rfl
    rw [e]
    rw [hm2] at CM
    clear hm hL hn e hm2 HLS CS
    go_enter Tryd.func23, Tryd.ntmps23
    go_wp2
    have SZ1 := hid B1.out.size
    generalize hg : w.heap.size = g at KB
    generalize w.alloc (.cells (rgc a b (.slice A n c)) 29) = w1 at KB B1
    refine wp_region_held (S := fun w' => Hid (Below w1.heap.size w1 w')) (by kernel_rfl) ?_
    change wpAnyH _ _ _ _ _ _ _ _ w1.drew
    have Gx0 : Hid (Below w1.heap.size w1 w1.drew) := (Below.refl _ _).drew
    generalize w1.drew = x0 at Gx0  ⊢
    refine wpAnyH_take (i := 0) (oi := { dst := some 3, op := _, type := _, pos := _, after := _, guard := _ }) (v := ?_) rfl (by kernel_rfl) (by kernel_rfl) (by kernel_rfl) (fun _ _ _ h => h) (Or.inl ⟨by kernel_rfl, ?_⟩) Gx0 ?_
    rotate_left
    · (intro w hSw; go_simp; try with_reducible rfl)
    try simp only [Act.put, List.setIfInBounds_toArray, List.set_cons_zero, List.set_cons_succ]
    refine wpAnyH_take (i := 1) (oi := { dst := some 4, op := _, type := _, pos := _, after := _, guard := _ }) (v := ?_) rfl (by kernel_rfl) (by kernel_rfl) (by kernel_rfl) (fun _ _ _ h => h) (Or.inl ⟨by kernel_rfl, ?_⟩) Gx0 ?_
    rotate_left
    · (intro w hSw; have c0 : w.cell? ⟨g, 0, none⟩ = some (.int .i64 a) := (KB.out.below hSw.out).cell 0; go_simp; try with_reducible rfl)
    try simp only [Act.put, List.setIfInBounds_toArray, List.set_cons_zero, List.set_cons_succ]
    refine wpAnyH_take (i := 2) (oi := { dst := some 5, op := _, type := _, pos := _, after := _, guard := _ }) (v := ?_) rfl (by kernel_rfl) (by kernel_rfl) (by kernel_rfl) (fun _ _ _ h => h) (Or.inl ⟨by kernel_rfl, ?_⟩) Gx0 ?_
    rotate_left
    · (intro w hSw; go_simp; try with_reducible rfl)
    try simp only [Act.put, List.setIfInBounds_toArray, List.set_cons_zero, List.set_cons_succ]
    refine wpAnyH_take (i := 3) (oi := { dst := some 6, op := _, type := _, pos := _, after := _, guard := _ }) (v := ?_) rfl (by kernel_rfl) (by kernel_rfl) (by kernel_rfl) (fun _ _ _ h => h) (Or.inl ⟨by kernel_rfl, ?_⟩) Gx0 ?_
    rotate_left
    · (intro w hSw; have c1 : w.cell? ⟨g, 1, none⟩ = some (.int .i64 b) := (KB.out.below hSw.out).cell 1; go_simp; try with_reducible rfl)
    try simp only [Act.put, List.setIfInBounds_toArray, List.set_cons_zero, List.set_cons_succ]
    refine wpAnyH_ready (rs := [4]) (by kernel_rfl) (by simp) ?_
    refine (AllReadyH.cons (o := { dst := some 7, op := _, type := _, pos := _, after := _, guard := _ }) rfl (fun Qc hQc => ?_) AllReadyH.nil)
    go_simp
    go_at_call 53
    refine (CM.out x0).mono ?_
    rintro e x1 ⟨rfl, hb⟩
    have Gx1 := hid (Gx0.out.trans (hb.mono Gx0.out.size))
    clear hb
    go_wp2_with fail
    refine hQc.out _ _ Gx1 (fun hHeld => ?_)
    clear hQc Qc hHeld
    try simp only [Act.put, List.setIfInBounds_toArray, List.set_cons_zero, List.set_cons_succ]
    refine wpAnyH_take (i := 5) (oi := { dst := some 8, op := _, type := _, pos := _, after := _, guard := _ }) (v := ?_) rfl (by kernel_rfl) (by kernel_rfl) (by kernel_rfl) (fun _ _ _ h => h) (Or.inl ⟨by kernel_rfl, ?_⟩) Gx1 ?_
    rotate_left
    · (intro w hSw; go_simp; try with_reducible rfl)
    try simp only [Act.put, List.setIfInBounds_toArray, List.set_cons_zero, List.set_cons_succ]
    refine wpAnyH_take (i := 6) (oi := { dst := some 9, op := _, type := _, pos := _, after := _, guard := _ }) (v := undef) rfl (by kernel_rfl) (by kernel_rfl) (by kernel_rfl) (fun _ _ _ h => h) (Or.inr ⟨by rfl, rfl⟩) Gx1 ?_
    try simp only [Act.put, List.setIfInBounds_toArray, List.set_cons_zero, List.set_cons_succ]
    refine wpAnyH_take (i := 7) (oi := { dst := some 10, op := _, type := _, pos := _, after := _, guard := _ }) (v := undef) rfl (by kernel_rfl) (by kernel_rfl) (by kernel_rfl) (fun _ _ _ h => h) (Or.inr ⟨by rfl, rfl⟩) Gx1 ?_
    try simp only [Act.put, List.setIfInBounds_toArray, List.set_cons_zero, List.set_cons_succ]
    refine wpAnyH_take (i := 8) (oi := { dst := some 11, op := _, type := _, pos := _, after := _, guard := _ }) (v := undef) rfl (by kernel_rfl) (by kernel_rfl) (by kernel_rfl) (fun _ _ _ h => h) (Or.inr ⟨by rfl, rfl⟩) Gx1 ?_
    try simp only [Act.put, List.setIfInBounds_toArray, List.set_cons_zero, List.set_cons_succ]
    refine wpAnyH_take (i := 9) (oi := { dst := some 12, op := _, type := _, pos := _, after := _, guard := _ }) (v := undef) rfl (by kernel_rfl) (by kernel_rfl) (by kernel_rfl) (fun _ _ _ h => h) (Or.inr ⟨by rfl, rfl⟩) Gx1 ?_
    try simp only [Act.put, List.setIfInBounds_toArray, List.set_cons_zero, List.set_cons_succ]
    refine wpAnyH_take (i := 10) (oi := { dst := some 13, op := _, type := _, pos := _, after := _, guard := _ }) (v := undef) rfl (by kernel_rfl) (by kernel_rfl) (by kernel_rfl) (fun _ _ _ h => h) (Or.inr ⟨by rfl, rfl⟩) Gx1 ?_
    try simp only [Act.put, List.setIfInBounds_toArray, List.set_cons_zero, List.set_cons_succ]
    refine wpAnyH_take (i := 11) (oi := { dst := some 14, op := _, type := _, pos := _, after := _, guard := _ }) (v := undef) rfl (by kernel_rfl) (by kernel_rfl) (by kernel_rfl) (fun _ _ _ h => h) (Or.inr ⟨by rfl, rfl⟩) Gx1 ?_
    try simp only [Act.put, List.setIfInBounds_toArray, List.set_cons_zero, List.set_cons_succ]
    refine wpAnyH_take (i := 12) (oi := { dst := some 15, op := _, type := _, pos := _, after := _, guard := _ }) (v := undef) rfl (by kernel_rfl) (by kernel_rfl) (by kernel_rfl) (fun _ _ _ h => h) (Or.inr ⟨by rfl, rfl⟩) Gx1 ?_
    try simp only [Act.put, List.setIfInBounds_toArray, List.set_cons_zero, List.set_cons_succ]
    refine wpAnyH_take (i := 13) (oi := { dst := some 16, op := _, type := _, pos := _, after := _, guard := _ }) (v := undef) rfl (by kernel_rfl) (by kernel_rfl) (by kernel_rfl) (fun _ _ _ h => h) (Or.inr ⟨by rfl, rfl⟩) Gx1 ?_
    try simp only [Act.put, List.setIfInBounds_toArray, List.set_cons_zero, List.set_cons_succ]
    refine wpAnyH_take (i := 14) (oi := { dst := some 17, op := _, type := _, pos := _, after := _, guard := _ }) (v := undef) rfl (by kernel_rfl) (by kernel_rfl) (by kernel_rfl) (fun _ _ _ h => h) (Or.inr ⟨by rfl, rfl⟩) Gx1 ?_
    try simp only [Act.put, List.setIfInBounds_toArray, List.set_cons_zero, List.set_cons_succ]
    refine wpAnyH_take (i := 15) (oi := { dst := some 18, op := _, type := _, pos := _, after := _, guard := _ }) (v := undef) rfl (by kernel_rfl) (by kernel_rfl) (by kernel_rfl) (fun _ _ _ h => h) (Or.inr ⟨by rfl, rfl⟩) Gx1 ?_
    try simp only [Act.put, List.setIfInBounds_toArray, List.set_cons_zero, List.set_cons_succ]
    refine wpAnyH_take (i := 16) (oi := { dst := some 19, op := _, type := _, pos := _, after := _, guard := _ }) (v := ?_) rfl (by kernel_rfl) (by kernel_rfl) (by kernel_rfl) (fun _ _ _ h => h) (Or.inl ⟨by kernel_rfl, ?_⟩) Gx1 ?_
    rotate_left
    · (intro w hSw; go_simp; try with_reducible rfl)
    try simp only [Act.put, List.setIfInBounds_toArray, List.set_cons_zero, List.set_cons_succ]
    refine wpAnyH_take (i := 17) (oi := { dst := some 2, op := _, type := _, pos := _, after := _, guard := _ }) (v := ?_) rfl (by kernel_rfl) (by kernel_rfl) (by kernel_rfl) (fun _ _ _ h => h) (Or.inl ⟨by kernel_rfl, ?_⟩) Gx1 ?_
    rotate_left
    · (intro w hSw; go_simp; try with_reducible rfl)
    try simp only [Act.put, List.setIfInBounds_toArray, List.set_cons_zero, List.set_cons_succ]
    refine wpAnyH_done (by kernel_rfl) ?_ _
    try simp only [Act.put, List.setIfInBounds_toArray, List.set_cons_zero, List.set_cons_succ]
    go_wp2
    go_ret
    exact ⟨rfl, B1.out.trans (Gx1.out.mono B1.out.size)⟩
end Go.Proofs.YtoacjaecfabahaaDoor
