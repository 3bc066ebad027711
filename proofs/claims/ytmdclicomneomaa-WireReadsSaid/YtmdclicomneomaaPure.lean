/-
  What is proved here, of numbers and lists alone: what a field puts is what is taken again.
-/
import Derived.Test.YtmdclicomneomaaSpoiled
namespace Go.Proofs.Ytmdclicomneomaa
open Go.RowKit
set_option linter.unusedVariables false

/-- the bytes that a field puts; none: it may not be put -/
def fb (k x : Int) (bb : List Int) : Option (List Int) :=
  if k = 1 then (if wrap64 x < 0 ∨ 255 < wrap64 x then none else some (be (wrap64 x) 1)) else
  if k = 2 then (if wrap64 x < 0 ∨ 65535 < wrap64 x then none else some (be (wrap64 x) 2)) else
  if k = 3 then some (be (x % 4294967296) 4) else
  if k = 4 then some (be x 8) else
  if k = 5 then some [x % 2] else
  if k = 6 then some bb else
  if k = 7 then (if 8192 < bb.length then none else some (be bb.length 2 ++ bb)) else
  if k = 8 then (if wrap64 x < 0 ∨ 4096 < wrap64 x then none else some (be (wrap64 x) 2)) else some []

def ofB (bs : List Int) : Option (List Int) → WS
  | none => .bad
  | some ys => .good (bs ++ ys)
theorem up_good (bs : List Int) (m x : Int) (n : Nat) : (WS.good bs).up m x n = ofB bs (if x < 0 ∨ m < x then none else some (be x n)) := by
  unfold WS.up
  split <;> rfl
theorem fStep_good (bs : List Int) (k x : Int) (bb : List Int) : fStep (.good bs) k x bb = ofB bs (fb k x bb) := by
  unfold fStep fb
  by_cases h1 : k = 1
  · rw [if_pos h1, if_pos h1, up_good]
  by_cases h2 : k = 2
  · rw [if_neg h1, if_neg h1, if_pos h2, if_pos h2, up_good]
  by_cases h3 : k = 3
  · rw [if_neg h1, if_neg h1, if_neg h2, if_neg h2, if_pos h3, if_pos h3]; rfl
  by_cases h4 : k = 4
  · rw [if_neg h1, if_neg h1, if_neg h2, if_neg h2, if_neg h3, if_neg h3, if_pos h4, if_pos h4]; rfl
  by_cases h5 : k = 5
  · rw [if_neg h1, if_neg h1, if_neg h2, if_neg h2, if_neg h3, if_neg h3, if_neg h4, if_neg h4, if_pos h5, if_pos h5]; rfl
  by_cases h6 : k = 6
  · rw [if_neg h1, if_neg h1, if_neg h2, if_neg h2, if_neg h3, if_neg h3, if_neg h4, if_neg h4, if_neg h5, if_neg h5, if_pos h6, if_pos h6]; rfl
  by_cases h7 : k = 7
  · rw [if_neg h1, if_neg h1, if_neg h2, if_neg h2, if_neg h3, if_neg h3, if_neg h4, if_neg h4, if_neg h5, if_neg h5, if_neg h6, if_neg h6, if_pos h7, if_pos h7]
    unfold WS.str
    split
    · rfl
    · simp [ofB, WS.put]
  by_cases h8 : k = 8
  · rw [if_neg h1, if_neg h1, if_neg h2, if_neg h2, if_neg h3, if_neg h3, if_neg h4, if_neg h4, if_neg h5, if_neg h5, if_neg h6, if_neg h6, if_neg h7, if_neg h7, if_pos h8, if_pos h8, up_good]
  · rw [if_neg h1, if_neg h1, if_neg h2, if_neg h2, if_neg h3, if_neg h3, if_neg h4, if_neg h4, if_neg h5, if_neg h5, if_neg h6, if_neg h6, if_neg h7, if_neg h7, if_neg h8, if_neg h8]
    simp [ofB]

/-- the bytes of some fields; none: one may not be put -/
def allB : List (Int × Int × List Int) → Option (List Int)
  | [] => some []
  | f :: l => match fb f.1 f.2.1 f.2.2 with
    | none => none
    | some ys => (allB l).map (ys ++ ·)
theorem stAfter_good (l : List (Int × Int × List Int)) (bs : List Int) : stAfter (.good bs) l = ofB bs (allB l) := by
  induction l generalizing bs with
  | nil => simp [stAfter, allB, ofB]
  | cons f l ih =>
    have e : stAfter (.good bs) (f :: l) = stAfter (fStep (.good bs) f.1 f.2.1 f.2.2) l := rfl
    rw [e, fStep_good]
    unfold allB
    cases hfb : fb f.1 f.2.1 f.2.2 with
    | none => exact stAfter_bad l
    | some ys =>
      show stAfter (.good (bs ++ ys)) l = _
      rw [ih]
      cases allB l with
      | none => rfl
      | some zs => simp [ofB]

theorem emod_split (x d : Int) (hd : 0 < d) : x % (d * 256) = x / d % 256 * d + x % d := by
  have h1 := Int.mul_ediv_add_emod x d
  have h2 := Int.mul_ediv_add_emod (x / d) 256
  have r0 := Int.emod_nonneg x (Int.ne_of_gt hd)
  have r1 := Int.emod_lt_of_pos x hd
  have q0 := Int.emod_nonneg (x / d) (show (256 : Int) ≠ 0 by decide)
  have q1 := Int.emod_lt_of_pos (x / d) (show (0 : Int) < 256 by decide)
  have hq0 : 0 ≤ x / d % 256 * d := Int.mul_nonneg q0 (Int.le_of_lt hd)
  have hq1 : x / d % 256 * d ≤ 255 * d := Int.mul_le_mul_of_nonneg_right (by omega) (Int.le_of_lt hd)
  have e : x = (x / d % 256 * d + x % d) + d * 256 * (x / d / 256) := by
    have : d * (x / d) = d * (256 * (x / d / 256) + x / d % 256) := by rw [h2]
    rw [Int.mul_add, ← Int.mul_assoc, Int.mul_comm d (x / d % 256)] at this
    omega
  have h3 : x % (d * 256) = (x / d % 256 * d + x % d) % (d * 256) := by
    conv => lhs; rw [e]
    exact Int.add_mul_emod_self_left ..
  rw [h3]
  exact Int.emod_eq_of_lt (by omega) (by omega)
theorem val_be (x : Int) (n : Nat) (h0 : 0 ≤ x) (h1 : x < 256 ^ n) : val (be x n) = x := by
  have key : ∀ (n : Nat) (x a : Int), 0 ≤ x → (be x n).foldl (fun x b => x * 256 + b) a = a * 256 ^ n + x % 256 ^ n := by
    intro n
    induction n with
    | zero => intro x a h; simp [be, Int.emod_one]
    | succ n ih =>
      intro x a hx
      simp only [be, List.foldl_cons]
      rw [ih x _ hx]
      have e1 : x % 256 ^ (n + 1) = x / 256 ^ n % 256 * 256 ^ n + x % 256 ^ n := by
        rw [Int.pow_succ]
        exact emod_split x _ (Int.pow_pos (by decide))
      rw [e1, Int.pow_succ, Int.add_mul]
      have : a * 256 * 256 ^ n = a * (256 ^ n * 256) := by rw [Int.mul_assoc, Int.mul_comm 256]
      omega
  have h := key n x 0 h0
  unfold val
  rw [h, Int.zero_mul, Int.zero_add, Int.emod_eq_of_lt h0 h1]

theorem num_app (v : Int) (n : Nat) (most : Int) (rest : List Int) (h0 : 0 ≤ v) (h1 : v < 256 ^ n) (h2 : v ≤ most) : (RS.got false (be v n ++ rest)).num n most = (v, .got false rest) := by
  have hl := be_length v n
  have ht : (be v n ++ rest).take n = be v n := by rw [List.take_append_of_le_length (by omega), List.take_of_length_le (by omega)]
  have hd : (be v n ++ rest).drop n = rest := by rw [List.drop_append, List.drop_of_length_le (by omega), hl, Nat.sub_self]; rfl
  simp only [RS.num]
  rw [if_neg (by rw [List.length_append]; omega), ht, val_be v n h0 h1, if_neg (by omega), hd]
theorem plain_app (bb rest : List Int) (n : Int) (hn : n = bb.length) : (RS.got false (bb ++ rest)).plain n = (bb, .got false rest) := by
  subst hn
  simp only [RS.plain]
  rw [if_neg (by rw [List.length_append]; omega), Int.toNat_natCast, List.take_append_of_le_length (Nat.le_refl _), List.take_of_length_le (Nat.le_refl _), List.drop_append, List.drop_of_length_le (Nat.le_refl _), Nat.sub_self]
  rfl
theorem wrap_small (x : Int) (h0 : 0 ≤ x) (h1 : x ≤ 4611686018427387904) : wrap64 x = x := by unfold wrap64; omega

/-- what is to come back -/
def want (k x : Int) : Int := if k = 3 then x % 4294967296 else if k = 5 then x % 2 else if k = 1 ∨ k = 2 ∨ k = 4 ∨ k = 8 then x else 0
def wantB (k : Int) (bb : List Int) : List Int := if k = 6 ∨ k = 7 then bb else []
def mostOf (k : Int) (bb : List Int) : Int := if k = 6 then bb.length else 9000

theorem tk_back (k x : Int) (bb ys rest : List Int) (hfb : fb k x bb = some ys) (h0 : 0 ≤ x) (h1 : x < 18446744073709551616) (hs : x ≤ 4611686018427387904 ∨ k = 4) (hb : bb.length ≤ 9000) :
    tk (.got false (ys ++ rest)) k (mostOf k bb) = (want k x, wantB k bb, .got false rest) := by
  by_cases k1 : k = 1
  · subst k1
    have hx : wrap64 x = x := wrap_small x h0 (by omega)
    simp only [fb, if_true, hx] at hfb
    split at hfb
    · cases hfb
    · injection hfb with hfb
      subst hfb
      have e := num_app x 1 255 rest h0 (by omega) (by omega)
      show ((RS.num _ 1 255).1, [], (RS.num _ 1 255).2) = _
      rw [e]; rfl
  by_cases k2 : k = 2
  · subst k2
    have hx : wrap64 x = x := wrap_small x h0 (by omega)
    have hfb : (if wrap64 x < 0 ∨ 65535 < wrap64 x then none else some (be (wrap64 x) 2)) = some ys := hfb
    rw [hx] at hfb
    split at hfb
    · cases hfb
    · injection hfb with hfb
      subst hfb
      have e := num_app x 2 65535 rest h0 (by omega) (by omega)
      show ((RS.num _ 2 65535).1, [], (RS.num _ 2 65535).2) = _
      rw [e]; rfl
  by_cases k3 : k = 3
  · subst k3
    have hfb : some (be (x % 4294967296) 4) = some ys := hfb
    injection hfb with hfb
    subst hfb
    have e := num_app (x % 4294967296) 4 4294967295 rest (by omega) (by omega) (by omega)
    show ((RS.num _ 4 4294967295).1, [], (RS.num _ 4 4294967295).2) = _
    rw [e]; rfl
  by_cases k4 : k = 4
  · subst k4
    have hfb : some (be x 8) = some ys := hfb
    injection hfb with hfb
    subst hfb
    have e := num_app x 8 18446744073709551615 rest h0 (by omega) (by omega)
    show ((RS.num _ 8 18446744073709551615).1, [], (RS.num _ 8 18446744073709551615).2) = _
    rw [e]; rfl
  by_cases k5 : k = 5
  · subst k5
    have hfb : some [x % 2] = some ys := hfb
    injection hfb with hfb
    subst hfb
    have e := num_app (x % 2) 1 1 rest (by omega) (by omega) (by omega)
    have e1 : be (x % 2) 1 = [x % 2] := by simp only [be]; congr 1; omega
    rw [e1] at e
    show (if (RS.num _ 1 1).1 = 1 then 1 else 0, [], (RS.num _ 1 1).2) = _
    rw [e]
    have : (if x % 2 = 1 then (1 : Int) else 0) = x % 2 := by split <;> omega
    simp only [this]; rfl
  by_cases k6 : k = 6
  · subst k6
    have hfb : some bb = some ys := hfb
    injection hfb with hfb
    subst hfb
    show (0, RS.plain _ (wrap64 (mostOf 6 bb))) = _
    have hm : wrap64 (mostOf 6 bb) = bb.length := wrap_small bb.length (by omega) (by omega)
    rw [hm, plain_app bb rest _ rfl]
    rfl
  by_cases k7 : k = 7
  · subst k7
    have hfb : (if 8192 < bb.length then none else some (be bb.length 2 ++ bb)) = some ys := hfb
    split at hfb
    · cases hfb
    · injection hfb with hfb
      subst hfb
      show (0, RS.str _ (wrap64 (mostOf 7 bb))) = _
      have hm : wrap64 (mostOf 7 bb) = 9000 := wrap_small 9000 (by decide) (by decide)
      have e := num_app bb.length 2 65535 (bb ++ rest) (by omega) (by omega) (by omega)
      rw [hm, List.append_assoc]
      simp only [RS.str]
      rw [e]
      simp only
      rw [plain_app bb rest _ rfl, if_neg (by simp [RS.fails]; omega)]
      rfl
  by_cases k8 : k = 8
  · subst k8
    have hx : wrap64 x = x := wrap_small x h0 (by omega)
    have hfb : (if wrap64 x < 0 ∨ 4096 < wrap64 x then none else some (be (wrap64 x) 2)) = some ys := hfb
    rw [hx] at hfb
    split at hfb
    · cases hfb
    · injection hfb with hfb
      subst hfb
      have e := num_app x 2 4096 rest h0 (by omega) (by omega)
      have hm : wrap64 (mostOf 8 bb) = 9000 := wrap_small 9000 (by decide) (by decide)
      show ((RS.count _ (wrap64 (mostOf 8 bb))).1, [], (RS.count _ (wrap64 (mostOf 8 bb))).2) = _
      rw [hm]
      have hc : ∀ st : RS, st.count 9000 = st.num 2 4096 := fun st => rfl
      rw [hc, e]; rfl
  · have hfb2 : fb k x bb = some [] := by unfold fb; rw [if_neg k1, if_neg k2, if_neg k3, if_neg k4, if_neg k5, if_neg k6, if_neg k7, if_neg k8]
    rw [hfb2] at hfb
    injection hfb with hfb
    subst hfb
    unfold tk want wantB
    rw [if_neg k1, if_neg k2, if_neg k3, if_neg k4, if_neg k5, if_neg k6, if_neg k7, if_neg k8, if_neg k3, if_neg k5, if_neg (by omega), if_neg (by omega)]
    rfl

/-- behind the first of some fields -/
theorem allB_cons (f : Int × Int × List Int) (l : List (Int × Int × List Int)) (zs : List Int) (h : allB (f :: l) = some zs) : ∃ ys rest, fb f.1 f.2.1 f.2.2 = some ys ∧ zs = ys ++ rest ∧ allB l = some rest := by
  unfold allB at h
  cases hfb : fb f.1 f.2.1 f.2.2 with
  | none => rw [hfb] at h; cases h
  | some ys =>
    rw [hfb] at h
    cases hl : allB l with
    | none => rw [hl] at h; cases h
    | some rest => rw [hl] at h; injection h with h; exact ⟨ys, rest, rfl, h.symm, rfl⟩
end Go.Proofs.Ytmdclicomneomaa
