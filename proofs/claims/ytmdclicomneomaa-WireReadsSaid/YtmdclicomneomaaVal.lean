/-
  What is proved here: what the document's own number of some bytes is, and what is taken from bytes, as numbers and lists alone.
-/
import Derived.Test.YtmdclicomneomaaPure
import Derived.Test.YtmdclicomneomaaSame
namespace Go.Proofs.Ytmdclicomneomaa
open Go.ChangeShapes Go.WideShapes Go.ChangeAt Go.RowKit
set_option linter.unusedVariables false

set_option maxRecDepth 5000 in
set_option maxHeartbeats 1000000 in
theorem Value_any (A : Option Addr) (c : Nat) (xs : List Int) (w : World) (hr : Rp w none A xs) (hb : Bs xs) (hn : xs.length ≤ 8) :
    Calls Try.prog 41 #[.slice A xs.length c] w fun e w' => e = .returned (.int .u64 (val xs)) ∧ w = w' := by
  obtain ⟨n, hN⟩ : ∃ n, n = xs.length := ⟨_, rfl⟩
  rw [← hN] at hn ⊢
  have HN := hid hN; have HR := hid hr; have HB := hid hb
  clear hr hb hN
  go_enter Try.func41, Try.ntmps41
  go_wp2
  go_loop [3, 4] (fun xv iv => ∃ k : Nat, k ≤ n ∧ iv = .int .i64 k ∧ xv = .int .u64 (val (xs.take k))) (fun _ iv => n - (intOf iv).toNat)
  case atStart => exact ⟨0, by omega, rfl, rfl⟩
  case round =>
    obtain ⟨k, hk, rfl, rfl⟩ := hrel
    by_cases hlt : k < n
    · have hn := HN.out
      obtain ⟨ad, rfl, hc⟩ := HR.out.get (by omega)
      have hck := hc k (by omega)
      have HT := hid (val_take xs k (by omega))
      have hy := HB.out.at k
      obtain ⟨y, hyy⟩ : ∃ y, y = xs[k]?.getD 0 := ⟨_, rfl⟩
      rw [← hyy] at hck HT hy
      have hX := val_bound (xs.take k) (HB.out.take k)
      rw [List.length_take] at hX
      have h7 := pow_seven (min k xs.length) (by omega)
      obtain ⟨X, hXX⟩ : ∃ X, X = val (xs.take k) := ⟨_, rfl⟩
      rw [← hXX] at hX HT ⊢
      have HX := hid hX; have H7 := hid h7; have HY := hid hy
      obtain ⟨hy0, hy1⟩ := hy
      clear hX h7 hc hn hyy hXX
      go_wp2
      go_round
      case rel =>
        refine ⟨k + 1, by omega, by go_num, ?_⟩
        have h1 := HX.out; have h2 := H7.out; have h3 := HY.out
        rw [HT.out]
        first
          | rfl
          | (congr 1; rw [u64_keep (X * 256) (by omega) (by omega), u64_keep _ (by omega) (by omega)])
          | (congr 1; rw [u64_keep _ (by omega) (by omega)])
          | (congr 1; simp [IntKind.wrap, IntKind.bits, IntKind.signed]; omega)
      case measure => simp [intOf]; omega
    · have hkn : k = n := by omega
      have e : val (xs.take k) = val xs := by rw [List.take_of_length_le (by have := HN.out; omega)]
      rw [e]
      clear e
      go_wp2
      go_ret
      exact ⟨rfl, rfl⟩

/-- what the document takes: the number, the bytes, what is left; none: there is none -/
def tkR (b : List Int) (k most : Int) : Option (Int × List Int × List Int) :=
  if k = 6 then (if (b.length : Int) < most then none else some (0, b.take most.toNat, b.drop most.toNat)) else
  let n : Nat := if k = 7 then 2 else if k = 1 ∨ k = 5 then 1 else if k = 2 ∨ k = 8 then 2 else if k = 3 then 4 else if k = 4 then 8 else 0
  if b.length < n then none else
  let x := val (b.take n)
  if (k = 5 ∧ 1 < x) ∨ (k = 8 ∧ (most < x ∨ 4096 < x)) then none else
  if k = 7 then (if most < x ∨ 8192 < x ∨ (b.length : Int) - 2 < x then none else some (0, (b.drop 2).take x.toNat, (b.drop 2).drop x.toNat)) else some (x, [], b.drop n)

def ofT (b : List Int) : Option (Int × List Int × List Int) → Int × List Int × RS
  | none => (0, [], .got true b)
  | some (x, ys, rest) => (x, ys, .got false rest)

theorem val_take_bound (b : List Int) (n : Nat) (hb : Bs b) : 0 ≤ val (b.take n) ∧ val (b.take n) < 256 ^ n := by
  have h := val_bound (b.take n) (hb.take n)
  refine ⟨h.1, Int.lt_of_lt_of_le h.2 ?_⟩
  have h1 : (256 : Nat) ^ (b.take n).length ≤ 256 ^ n := Nat.pow_le_pow_right (by decide) (by rw [List.length_take]; omega)
  have h2 : (((256 : Nat) ^ (b.take n).length : Nat) : Int) ≤ ((256 ^ n : Nat) : Int) := by omega
  rw [Int.natCast_pow, Int.natCast_pow] at h2
  exact h2
theorem num_le (b : List Int) (n : Nat) (M : Int) (hb : Bs b) (hM : 256 ^ n ≤ M + 1) : (RS.got false b).num n M = if b.length < n then (0, .got true b) else (val (b.take n), .got false (b.drop n)) := by
  have h := val_take_bound b n hb
  simp only [RS.num]
  split
  · rfl
  · rw [if_neg (by omega)]

theorem tk_ref (b : List Int) (k most : Int) (hb : Bs b) (hk : 1 ≤ k ∧ k ≤ 8) (hm : 0 ≤ most) (hs : most ≤ 4611686018427387904 ∨ k = 4) (hl : b.length < 1000000) : tk (.got false b) k most = ofT b (tkR b k most) := by
  have hw : k ≠ 4 → wrap64 most = most := fun h => wrap_small most hm (by omega)
  have hk' : k = 1 ∨ k = 2 ∨ k = 3 ∨ k = 4 ∨ k = 5 ∨ k = 6 ∨ k = 7 ∨ k = 8 := by omega
  rcases hk' with rfl | rfl | rfl | rfl | rfl | rfl | rfl | rfl
  · show ((RS.num _ 1 255).1, [], (RS.num _ 1 255).2) = ofT b (if b.length < 1 then none else if _ then none else some (val (b.take 1), [], b.drop 1))
    rw [num_le b 1 255 hb (by decide)]
    split
    · rfl
    · rw [if_neg (by omega)]; rfl
  · show ((RS.num _ 2 65535).1, [], (RS.num _ 2 65535).2) = ofT b (if b.length < 2 then none else if _ then none else some (val (b.take 2), [], b.drop 2))
    rw [num_le b 2 65535 hb (by decide)]
    split
    · rfl
    · rw [if_neg (by omega)]; rfl
  · show ((RS.num _ 4 4294967295).1, [], (RS.num _ 4 4294967295).2) = ofT b (if b.length < 4 then none else if _ then none else some (val (b.take 4), [], b.drop 4))
    rw [num_le b 4 4294967295 hb (by decide)]
    split
    · rfl
    · rw [if_neg (by omega)]; rfl
  · show ((RS.num _ 8 18446744073709551615).1, [], (RS.num _ 8 18446744073709551615).2) = ofT b (if b.length < 8 then none else if _ then none else some (val (b.take 8), [], b.drop 8))
    rw [num_le b 8 18446744073709551615 hb (by decide)]
    split
    · rfl
    · rw [if_neg (by omega)]; rfl
  · show (if (RS.num _ 1 1).1 = 1 then 1 else 0, [], (RS.num _ 1 1).2) = ofT b (if b.length < 1 then none else if (((5 : Int) = 5 ∧ 1 < val (b.take 1)) ∨ ((5 : Int) = 8 ∧ (most < val (b.take 1) ∨ 4096 < val (b.take 1)))) then none else some (val (b.take 1), [], b.drop 1))
    have h := val_take_bound b 1 hb
    by_cases h0 : b.length < 1
    · have e : (RS.got false b).num 1 1 = (0, .got true b) := by simp only [RS.num]; rw [if_pos h0]
      rw [e, if_pos h0]; rfl
    · by_cases h1 : 1 < val (b.take 1)
      · have e : (RS.got false b).num 1 1 = (0, .got true b) := by simp only [RS.num]; rw [if_neg h0, if_pos h1]
        rw [e, if_neg h0, if_pos (Or.inl ⟨rfl, h1⟩)]; rfl
      · have e : (RS.got false b).num 1 1 = (val (b.take 1), .got false (b.drop 1)) := by simp only [RS.num]; rw [if_neg h0, if_neg h1]
        rw [e, if_neg h0, if_neg (show ¬ (((5 : Int) = 5 ∧ 1 < val (b.take 1)) ∨ ((5 : Int) = 8 ∧ (most < val (b.take 1) ∨ 4096 < val (b.take 1)))) by omega)]
        have e2 : (if val (b.take 1) = 1 then (1 : Int) else 0) = val (b.take 1) := by split <;> omega
        show (if val (b.take 1) = 1 then (1 : Int) else 0, _, _) = _
        rw [e2]; rfl
  · show (0, RS.plain _ (wrap64 most)) = ofT b (if (b.length : Int) < most then none else some (0, b.take most.toNat, b.drop most.toNat))
    rw [hw (by decide)]
    simp only [RS.plain]
    by_cases h : (b.length : Int) < most
    · rw [if_pos (.inr h), if_pos h]; rfl
    · rw [if_neg (by omega), if_neg h]; rfl
  · show (0, RS.str _ (wrap64 most)) = ofT b (if b.length < 2 then none else if (((7 : Int) = 5 ∧ 1 < val (b.take 2)) ∨ ((7 : Int) = 8 ∧ (most < val (b.take 2) ∨ 4096 < val (b.take 2)))) then none else if most < val (b.take 2) ∨ 8192 < val (b.take 2) ∨ (b.length : Int) - 2 < val (b.take 2) then none else some (0, (b.drop 2).take (val (b.take 2)).toNat, (b.drop 2).drop (val (b.take 2)).toNat))
    rw [hw (by decide)]
    have h := val_take_bound b 2 hb
    simp only [RS.str]
    rw [num_le b 2 65535 hb (by decide)]
    by_cases h2 : b.length < 2
    · rw [if_pos h2, if_pos h2]
      simp [RS.plain, RS.fails, ofT]
    · rw [if_neg h2, if_neg h2, if_neg (show ¬ (((7 : Int) = 5 ∧ 1 < val (b.take 2)) ∨ ((7 : Int) = 8 ∧ (most < val (b.take 2) ∨ 4096 < val (b.take 2)))) by omega)]
      by_cases h3 : ((b.drop 2).length : Int) < val (b.take 2)
      · have ep : (RS.got false (b.drop 2)).plain (val (b.take 2)) = ([], .got true (b.drop 2)) := by simp only [RS.plain]; rw [if_pos (Or.inr h3)]
        simp only
        rw [ep, if_pos (show (([], RS.got true (b.drop 2)) : List Int × RS).2.fails = true ∨ min most 8192 < val (b.take 2) from Or.inl rfl), if_pos (show most < val (b.take 2) ∨ 8192 < val (b.take 2) ∨ (b.length : Int) - 2 < val (b.take 2) from Or.inr (Or.inr (by rw [List.length_drop] at h3; omega)))]; rfl
      · have ep : (RS.got false (b.drop 2)).plain (val (b.take 2)) = ((b.drop 2).take (val (b.take 2)).toNat, .got false ((b.drop 2).drop (val (b.take 2)).toNat)) := by simp only [RS.plain]; rw [if_neg (by omega)]
        simp only
        rw [ep]
        rw [List.length_drop] at h3
        by_cases h4 : min most 8192 < val (b.take 2)
        · rw [if_pos (Or.inr h4), if_pos (show most < val (b.take 2) ∨ 8192 < val (b.take 2) ∨ (b.length : Int) - 2 < val (b.take 2) by omega)]; rfl
        · rw [if_neg (show ¬ ((RS.got false ((b.drop 2).drop (val (b.take 2)).toNat)).fails = true ∨ min most 8192 < val (b.take 2)) from fun h => h.elim (fun h => by cases h) h4), if_neg (show ¬ (most < val (b.take 2) ∨ 8192 < val (b.take 2) ∨ (b.length : Int) - 2 < val (b.take 2)) by omega)]; rfl
  · show ((RS.count _ (wrap64 most)).1, [], (RS.count _ (wrap64 most)).2) = ofT b (if b.length < 2 then none else if (((8 : Int) = 5 ∧ 1 < val (b.take 2)) ∨ ((8 : Int) = 8 ∧ (most < val (b.take 2) ∨ 4096 < val (b.take 2)))) then none else some (val (b.take 2), [], b.drop 2))
    rw [hw (by decide)]
    have e : (RS.got false b).count most = (RS.got false b).num 2 (min most 4096) := by unfold RS.count; rw [if_neg (by omega)]
    rw [e]
    by_cases h0 : b.length < 2
    · have e1 : (RS.got false b).num 2 (min most 4096) = (0, .got true b) := by simp only [RS.num]; rw [if_pos h0]
      rw [e1, if_pos h0]; rfl
    · by_cases h4 : min most 4096 < val (b.take 2)
      · have e1 : (RS.got false b).num 2 (min most 4096) = (0, .got true b) := by simp only [RS.num]; rw [if_neg h0, if_pos h4]
        rw [e1, if_neg h0, if_pos (show (((8 : Int) = 5 ∧ 1 < val (b.take 2)) ∨ ((8 : Int) = 8 ∧ (most < val (b.take 2) ∨ 4096 < val (b.take 2)))) by omega)]; rfl
      · have e1 : (RS.got false b).num 2 (min most 4096) = (val (b.take 2), .got false (b.drop 2)) := by simp only [RS.num]; rw [if_neg h0, if_neg h4]
        rw [e1, if_neg h0, if_neg (show ¬ (((8 : Int) = 5 ∧ 1 < val (b.take 2)) ∨ ((8 : Int) = 8 ∧ (most < val (b.take 2) ∨ 4096 < val (b.take 2)))) by omega)]; rfl
end Go.Proofs.Ytmdclicomneomaa
