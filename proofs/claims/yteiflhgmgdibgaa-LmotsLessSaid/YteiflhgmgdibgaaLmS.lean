/-
  What is proved here: the document's own numbers of a kind (bits, chains, greatest digit, size), and a digit of some bytes.
-/
import Derived.Test.YteiflhgmgdibgaaLm0
namespace Go.Proofs.Yteiflhgmgdibgaa
open Go.ChangeShapes Go.WideShapes Go.ChangeAt Go.RowKit
set_option linter.unusedVariables false

theorem kd_cases (k : Int) : k = 1 ∨ k = 2 ∨ k = 3 ∨ k = 4 ∨ (k ≠ 1 ∧ k ≠ 2 ∧ k ≠ 3 ∧ k ≠ 4) := by omega
theorem kbits_no {k : Int} (h : k ≠ 1 ∧ k ≠ 2 ∧ k ≠ 3 ∧ k ≠ 4) : kbits k = 0 := by
  unfold kbits
  rw [if_neg h.1, if_neg h.2.1, if_neg h.2.2.1, if_neg h.2.2.2]
theorem kchains_no {k : Int} (h : k ≠ 1 ∧ k ≠ 2 ∧ k ≠ 3 ∧ k ≠ 4) : kchains k = 0 := by
  unfold kchains
  rw [if_neg h.1, if_neg h.2.1, if_neg h.2.2.1, if_neg h.2.2.2]
theorem kbits_le (k : Int) : kbits k ≤ 8 := by rcases kd_cases k with rfl | rfl | rfl | rfl | h <;> first | decide | (rw [kbits_no h]; omega)
theorem kchains_le (k : Int) : kchains k ≤ 265 := by rcases kd_cases k with rfl | rfl | rfl | rfl | h <;> first | decide | (rw [kchains_no h]; omega)
theorem kBits_any (k : Int) (w : World) : Calls Try.prog 14 #[.int .i64 k] w fun e w' => e = .returned (.int .i64 (kbits k : Nat)) ∧ w = w' := by
  rcases kd_cases k with rfl | rfl | rfl | rfl | h
  · go_enter Try.func14, Try.ntmps14; go_wp2; go_ret; exact ⟨rfl, rfl⟩
  · go_enter Try.func14, Try.ntmps14; go_wp2; go_ret; exact ⟨rfl, rfl⟩
  · go_enter Try.func14, Try.ntmps14; go_wp2; go_ret; exact ⟨rfl, rfl⟩
  · go_enter Try.func14, Try.ntmps14; go_wp2; go_ret; exact ⟨rfl, rfl⟩
  · rw [kbits_no h]
    have e1 : (k == 1) = false := by simpa using h.1
    have e2 : (k == 2) = false := by simpa using h.2.1
    have e3 : (k == 3) = false := by simpa using h.2.2.1
    have e4 : (k == 4) = false := by simpa using h.2.2.2
    clear h
    go_enter Try.func14, Try.ntmps14; go_wp2; go_ret; exact ⟨rfl, rfl⟩
theorem kChains_any (k : Int) (w : World) : Calls Try.prog 7 #[.int .i64 k] w fun e w' => e = .returned (.int .i64 (kchains k : Nat)) ∧ w = w' := by
  rcases kd_cases k with rfl | rfl | rfl | rfl | h
  · go_enter Try.func7, Try.ntmps7; go_wp2; go_ret; exact ⟨rfl, rfl⟩
  · go_enter Try.func7, Try.ntmps7; go_wp2; go_ret; exact ⟨rfl, rfl⟩
  · go_enter Try.func7, Try.ntmps7; go_wp2; go_ret; exact ⟨rfl, rfl⟩
  · go_enter Try.func7, Try.ntmps7; go_wp2; go_ret; exact ⟨rfl, rfl⟩
  · rw [kchains_no h]
    have e1 : (k == 1) = false := by simpa using h.1
    have e2 : (k == 2) = false := by simpa using h.2.1
    have e3 : (k == 3) = false := by simpa using h.2.2.1
    have e4 : (k == 4) = false := by simpa using h.2.2.2
    clear h
    go_enter Try.func7, Try.ntmps7; go_wp2; go_ret; exact ⟨rfl, rfl⟩
theorem pow_le8 (n : Nat) (h : n ≤ 8) : (2 : Int) ^ n ≤ 256 := by
  have : n = 0 ∨ n = 1 ∨ n = 2 ∨ n = 3 ∨ n = 4 ∨ n = 5 ∨ n = 6 ∨ n = 7 ∨ n = 8 := by omega
  rcases this with rfl | rfl | rfl | rfl | rfl | rfl | rfl | rfl | rfl <;> decide
theorem kMost_any (k : Int) (w : World) : Calls Try.prog 16 #[.int .i64 k] w fun e w' => e = .returned (.int .i64 (kmost k)) ∧ w = w' := by
  have hb := kbits_le k
  have CB := hid (kBits_any k)
  unfold kmost
  generalize kbits k = b at hb CB ⊢
  go_enter Try.func16, Try.ntmps16
  go_wp2_with fail
  go_loop [3, 4] (fun n i => ∃ j : Nat, j ≤ b ∧ i = .int .i64 j ∧ n = .int .i64 (2 ^ j)) (fun _ i => b - (intOf i).toNat)
  case atStart => exact ⟨0, Nat.zero_le _, rfl, rfl⟩
  case round =>
    obtain ⟨j, hj, rfl, rfl⟩ := hrel
    have hp := pow_le8 j (by omega)
    have hq : (0 : Int) < 2 ^ j := Int.pow_pos (by decide)
    have HS : Hid ((2 : Int) ^ (j + 1) = 2 * 2 ^ j) := by show _ = _; rw [Int.pow_succ, Int.mul_comm]
    by_cases hlt : j < b
    · go_wp2_with (go_at_call 14; refine (CB.out _).mono ?_; rintro e w1 ⟨rfl, rfl⟩)
      go_round
      case rel => exact ⟨j + 1, by omega, by go_num, by rw [HS.out]⟩
      case measure => simp [intOf]; omega
    · obtain rfl : j = b := by omega
      go_wp2_with (go_at_call 14; refine (CB.out _).mono ?_; rintro e w1 ⟨rfl, rfl⟩)
      go_ret
      exact ⟨rfl, rfl⟩
theorem kSize_any (k : Int) (w : World) : Calls Try.prog 9 #[.int .i64 k] w fun e w' => e = .returned (.int .i64 (ksize k : Nat)) ∧ w = w' := by
  have CB := hid (kBits_any k)
  have CC := hid (kChains_any k)
  by_cases h : kbits k = 0
  · have hs : ksize k = 0 := by unfold ksize; rw [if_pos h]
    rw [h] at CB
    rw [hs]
    clear h hs
    go_enter Try.func9, Try.ntmps9
    go_wp2_with (go_at_call 14; refine (CB.out _).mono ?_; rintro e w1 ⟨rfl, rfl⟩)
    go_ret
    exact ⟨rfl, rfl⟩
  · have hs : ksize k = 36 + 32 * kchains k := by unfold ksize; rw [if_neg h]
    have hc := kchains_le k
    have hz : (((kbits k : Nat) : Int) == 0) = false := by simpa using h
    rw [hs]
    generalize kchains k = c at CC hc ⊢
    generalize kbits k = b at CB hz
    clear h hs
    go_enter Try.func9, Try.ntmps9
    go_wp2_with (first | (go_at_call 14; refine (CB.out _).mono ?_; rintro e w1 ⟨rfl, rfl⟩) | (go_at_call 7; refine (CC.out _).mono ?_; rintro e w1 ⟨rfl, rfl⟩))
    go_ret
    exact ⟨congrArg (fun q => Ending.returned (.int .i64 q)) (by omega), rfl⟩
theorem div_pow (x : Int) (a b : Nat) : x / 2 ^ a / 2 ^ b = x / 2 ^ (a + b) := by
  rw [Int.ediv_ediv_of_nonneg (Int.pow_nonneg (by decide)), Int.pow_add]
set_option maxHeartbeats 1000000 in
theorem kdigit_1 (A : Option Addr) (c : Nat) (xs : List Int) (n : Nat) (w : World) (hr : Rp w none A xs) (hb : Bs xs) (hn : n / 8 < xs.length) (hn2 : n < 1000000) :
    Calls Try.prog 17 #[.slice A xs.length c, .int .i64 n, .int .i64 1] w fun e w' => e = .returned (.int .i64 (dig xs n 1 8)) ∧ w = w' := by
  obtain ⟨ad, rfl, hcell⟩ := hr.get (by omega)
  have hc := hcell (n / 8) hn
  have hx := hb.at (n / 8)
  have hD : dig xs n 1 8 = (xs[n / 8]?.getD 0) / 2 ^ (1 * (8 - 1 - n % 8)) % 2 ^ 1 := rfl
  rw [hD]
  clear hD
  generalize xs[n / 8]?.getD 0 = x at hc hx ⊢
  obtain ⟨L, hL⟩ : ∃ L, L = xs.length := ⟨_, rfl⟩
  rw [← hL] at hn ⊢
  have hqL : (n : Int) / 8 < (L : Int) := by omega
  have hq0 : (0 : Int) ≤ (n : Int) / 8 := by omega
  have hqn : ((n : Int) / 8).toNat = n / 8 := by omega
  obtain ⟨r, hrr⟩ : ∃ r, r = n % 8 := ⟨_, rfl⟩
  have hri : (n : Int) % 8 = (r : Int) := by rw [hrr]; omega
  have hr8 : r < 8 := by rw [hrr]; omega
  rw [← hrr]
  obtain ⟨x0, x1⟩ := hx
  clear hcell hL hrr


  go_enter Try.func17, Try.ntmps17
  go_wp2
  go_loop [8, 9, 10] (fun y k _ => ∃ j : Nat, r ≤ j ∧ j ≤ 8 - 1 ∧ k = .int .i64 j ∧ y = .int .i64 (x / 2 ^ (1 * (j - r)))) (fun _ k _ => 8 - (intOf k).toNat)
  case atStart => exact ⟨r, Nat.le_refl _, by omega, by first | rfl | (rw [hri]), by simp⟩
  case round =>
    obtain ⟨j, hj1, hj2, rfl, rfl⟩ := hrel
    have y0 : 0 ≤ x / 2 ^ (1 * (j - r)) := Int.ediv_nonneg x0 (Int.pow_nonneg (by decide))
    have y1 : x / 2 ^ (1 * (j - r)) < 256 := Int.lt_of_le_of_lt (Int.ediv_le_self _ x0) x1
    by_cases hlt : j < 8 - 1
    · have HD := hid (div_pow x (1 * (j - r)) 1)
      rw [show 1 * (j - r) + 1 = 1 * (j + 1 - r) by omega] at HD
      generalize x / 2 ^ (1 * (j - r)) = y at y0 y1 HD ⊢
      go_wp2
      go_loop [8, 10] (fun z i => ∃ t : Nat, t ≤ 1 ∧ i = .int .i64 t ∧ z = .int .i64 (y / 2 ^ t)) (fun _ i => 1 - (intOf i).toNat)
      case atStart => exact ⟨0, Nat.zero_le _, rfl, by simp⟩
      case round =>
        obtain ⟨t, ht, rfl, rfl⟩ := hrel
        have z0 : 0 ≤ y / 2 ^ t := Int.ediv_nonneg y0 (Int.pow_nonneg (by decide))
        have z1 : y / 2 ^ t < 256 := Int.lt_of_le_of_lt (Int.ediv_le_self _ y0) y1
        have HE := hid (div_pow y t 1)
        by_cases hti : t < 1
        · go_wp2
          go_round
          case rel => exact ⟨t + 1, by omega, by go_num, by rw [← HE.out]; simp⟩
          case measure => simp [intOf]; omega
        · obtain rfl : t = 1 := by omega
          go_wp2
          go_round
          case rel => exact ⟨j + 1, by omega, by omega, by go_num, by first | (rw [← HD.out]; done) | (have hd := HD.out; simp at hd; exact hd) | (have hd := HD.out; simp at hd ⊢; exact hd)⟩
          case measure => simp [intOf]; omega
    · obtain rfl : j = 8 - 1 := by omega
      go_wp2
      go_loop [11, 12] (fun z i => ∃ t : Nat, t ≤ 1 ∧ i = .int .i64 t ∧ z = .int .i64 (2 ^ t)) (fun _ i => 1 - (intOf i).toNat)
      case atStart => exact ⟨0, Nat.zero_le _, rfl, rfl⟩
      case round =>
        obtain ⟨t, ht, rfl, rfl⟩ := hrel
        have p0 := pow_le8 t (by omega)
        have p1 : (0 : Int) < 2 ^ t := Int.pow_pos (by decide)
        have HS : Hid ((2 : Int) ^ (t + 1) = 2 * 2 ^ t) := by show _ = _; rw [Int.pow_succ, Int.mul_comm]
        by_cases hti : t < 1
        · go_wp2
          go_round
          case rel => exact ⟨t + 1, by omega, by go_num, by rw [HS.out]⟩
          case measure => simp [intOf]; omega
        · obtain rfl : t = 1 := by omega
          go_wp2
          go_ret
          exact ⟨congrArg (fun q => Ending.returned (.int .i64 q)) (by first | exact Int.tmod_eq_emod_of_nonneg y0 | exact Int.tmod_eq_emod_of_nonneg (by simpa using y0)), rfl⟩
set_option maxHeartbeats 1000000 in
theorem kdigit_2 (A : Option Addr) (c : Nat) (xs : List Int) (n : Nat) (w : World) (hr : Rp w none A xs) (hb : Bs xs) (hn : n / 4 < xs.length) (hn2 : n < 1000000) :
    Calls Try.prog 17 #[.slice A xs.length c, .int .i64 n, .int .i64 2] w fun e w' => e = .returned (.int .i64 (dig xs n 2 4)) ∧ w = w' := by
  obtain ⟨ad, rfl, hcell⟩ := hr.get (by omega)
  have hc := hcell (n / 4) hn
  have hx := hb.at (n / 4)
  have hD : dig xs n 2 4 = (xs[n / 4]?.getD 0) / 2 ^ (2 * (4 - 1 - n % 4)) % 2 ^ 2 := rfl
  rw [hD]
  clear hD
  generalize xs[n / 4]?.getD 0 = x at hc hx ⊢
  obtain ⟨L, hL⟩ : ∃ L, L = xs.length := ⟨_, rfl⟩
  rw [← hL] at hn ⊢
  have hqL : (n : Int) / 4 < (L : Int) := by omega
  have hq0 : (0 : Int) ≤ (n : Int) / 4 := by omega
  have hqn : ((n : Int) / 4).toNat = n / 4 := by omega
  obtain ⟨r, hrr⟩ : ∃ r, r = n % 4 := ⟨_, rfl⟩
  have hri : (n : Int) % 4 = (r : Int) := by rw [hrr]; omega
  have hr8 : r < 4 := by rw [hrr]; omega
  rw [← hrr]
  obtain ⟨x0, x1⟩ := hx
  clear hcell hL hrr


  go_enter Try.func17, Try.ntmps17
  go_wp2
  go_loop [8, 9, 10] (fun y k _ => ∃ j : Nat, r ≤ j ∧ j ≤ 4 - 1 ∧ k = .int .i64 j ∧ y = .int .i64 (x / 2 ^ (2 * (j - r)))) (fun _ k _ => 4 - (intOf k).toNat)
  case atStart => exact ⟨r, Nat.le_refl _, by omega, by first | rfl | (rw [hri]), by simp⟩
  case round =>
    obtain ⟨j, hj1, hj2, rfl, rfl⟩ := hrel
    have y0 : 0 ≤ x / 2 ^ (2 * (j - r)) := Int.ediv_nonneg x0 (Int.pow_nonneg (by decide))
    have y1 : x / 2 ^ (2 * (j - r)) < 256 := Int.lt_of_le_of_lt (Int.ediv_le_self _ x0) x1
    by_cases hlt : j < 4 - 1
    · have HD := hid (div_pow x (2 * (j - r)) 2)
      rw [show 2 * (j - r) + 2 = 2 * (j + 1 - r) by omega] at HD
      generalize x / 2 ^ (2 * (j - r)) = y at y0 y1 HD ⊢
      go_wp2
      go_loop [8, 10] (fun z i => ∃ t : Nat, t ≤ 2 ∧ i = .int .i64 t ∧ z = .int .i64 (y / 2 ^ t)) (fun _ i => 2 - (intOf i).toNat)
      case atStart => exact ⟨0, Nat.zero_le _, rfl, by simp⟩
      case round =>
        obtain ⟨t, ht, rfl, rfl⟩ := hrel
        have z0 : 0 ≤ y / 2 ^ t := Int.ediv_nonneg y0 (Int.pow_nonneg (by decide))
        have z1 : y / 2 ^ t < 256 := Int.lt_of_le_of_lt (Int.ediv_le_self _ y0) y1
        have HE := hid (div_pow y t 1)
        by_cases hti : t < 2
        · go_wp2
          go_round
          case rel => exact ⟨t + 1, by omega, by go_num, by rw [← HE.out]; simp⟩
          case measure => simp [intOf]; omega
        · obtain rfl : t = 2 := by omega
          go_wp2
          go_round
          case rel => exact ⟨j + 1, by omega, by omega, by go_num, by first | (rw [← HD.out]; done) | (have hd := HD.out; simp at hd; exact hd) | (have hd := HD.out; simp at hd ⊢; exact hd)⟩
          case measure => simp [intOf]; omega
    · obtain rfl : j = 4 - 1 := by omega
      go_wp2
      go_loop [11, 12] (fun z i => ∃ t : Nat, t ≤ 2 ∧ i = .int .i64 t ∧ z = .int .i64 (2 ^ t)) (fun _ i => 2 - (intOf i).toNat)
      case atStart => exact ⟨0, Nat.zero_le _, rfl, rfl⟩
      case round =>
        obtain ⟨t, ht, rfl, rfl⟩ := hrel
        have p0 := pow_le8 t (by omega)
        have p1 : (0 : Int) < 2 ^ t := Int.pow_pos (by decide)
        have HS : Hid ((2 : Int) ^ (t + 1) = 2 * 2 ^ t) := by show _ = _; rw [Int.pow_succ, Int.mul_comm]
        by_cases hti : t < 2
        · go_wp2
          go_round
          case rel => exact ⟨t + 1, by omega, by go_num, by rw [HS.out]⟩
          case measure => simp [intOf]; omega
        · obtain rfl : t = 2 := by omega
          go_wp2
          go_ret
          exact ⟨congrArg (fun q => Ending.returned (.int .i64 q)) (by first | exact Int.tmod_eq_emod_of_nonneg y0 | exact Int.tmod_eq_emod_of_nonneg (by simpa using y0)), rfl⟩
set_option maxHeartbeats 1000000 in
theorem kdigit_4 (A : Option Addr) (c : Nat) (xs : List Int) (n : Nat) (w : World) (hr : Rp w none A xs) (hb : Bs xs) (hn : n / 2 < xs.length) (hn2 : n < 1000000) :
    Calls Try.prog 17 #[.slice A xs.length c, .int .i64 n, .int .i64 4] w fun e w' => e = .returned (.int .i64 (dig xs n 4 2)) ∧ w = w' := by
  obtain ⟨ad, rfl, hcell⟩ := hr.get (by omega)
  have hc := hcell (n / 2) hn
  have hx := hb.at (n / 2)
  have hD : dig xs n 4 2 = (xs[n / 2]?.getD 0) / 2 ^ (4 * (2 - 1 - n % 2)) % 2 ^ 4 := rfl
  rw [hD]
  clear hD
  generalize xs[n / 2]?.getD 0 = x at hc hx ⊢
  obtain ⟨L, hL⟩ : ∃ L, L = xs.length := ⟨_, rfl⟩
  rw [← hL] at hn ⊢
  have hqL : (n : Int) / 2 < (L : Int) := by omega
  have hq0 : (0 : Int) ≤ (n : Int) / 2 := by omega
  have hqn : ((n : Int) / 2).toNat = n / 2 := by omega
  obtain ⟨r, hrr⟩ : ∃ r, r = n % 2 := ⟨_, rfl⟩
  have hri : (n : Int) % 2 = (r : Int) := by rw [hrr]; omega
  have hr8 : r < 2 := by rw [hrr]; omega
  rw [← hrr]
  obtain ⟨x0, x1⟩ := hx
  clear hcell hL hrr


  go_enter Try.func17, Try.ntmps17
  go_wp2
  go_loop [8, 9, 10] (fun y k _ => ∃ j : Nat, r ≤ j ∧ j ≤ 2 - 1 ∧ k = .int .i64 j ∧ y = .int .i64 (x / 2 ^ (4 * (j - r)))) (fun _ k _ => 2 - (intOf k).toNat)
  case atStart => exact ⟨r, Nat.le_refl _, by omega, by first | rfl | (rw [hri]), by simp⟩
  case round =>
    obtain ⟨j, hj1, hj2, rfl, rfl⟩ := hrel
    have y0 : 0 ≤ x / 2 ^ (4 * (j - r)) := Int.ediv_nonneg x0 (Int.pow_nonneg (by decide))
    have y1 : x / 2 ^ (4 * (j - r)) < 256 := Int.lt_of_le_of_lt (Int.ediv_le_self _ x0) x1
    by_cases hlt : j < 2 - 1
    · have HD := hid (div_pow x (4 * (j - r)) 4)
      rw [show 4 * (j - r) + 4 = 4 * (j + 1 - r) by omega] at HD
      generalize x / 2 ^ (4 * (j - r)) = y at y0 y1 HD ⊢
      go_wp2
      go_loop [8, 10] (fun z i => ∃ t : Nat, t ≤ 4 ∧ i = .int .i64 t ∧ z = .int .i64 (y / 2 ^ t)) (fun _ i => 4 - (intOf i).toNat)
      case atStart => exact ⟨0, Nat.zero_le _, rfl, by simp⟩
      case round =>
        obtain ⟨t, ht, rfl, rfl⟩ := hrel
        have z0 : 0 ≤ y / 2 ^ t := Int.ediv_nonneg y0 (Int.pow_nonneg (by decide))
        have z1 : y / 2 ^ t < 256 := Int.lt_of_le_of_lt (Int.ediv_le_self _ y0) y1
        have HE := hid (div_pow y t 1)
        by_cases hti : t < 4
        · go_wp2
          go_round
          case rel => exact ⟨t + 1, by omega, by go_num, by rw [← HE.out]; simp⟩
          case measure => simp [intOf]; omega
        · obtain rfl : t = 4 := by omega
          go_wp2
          go_round
          case rel => exact ⟨j + 1, by omega, by omega, by go_num, by first | (rw [← HD.out]; done) | (have hd := HD.out; simp at hd; exact hd) | (have hd := HD.out; simp at hd ⊢; exact hd)⟩
          case measure => simp [intOf]; omega
    · obtain rfl : j = 2 - 1 := by omega
      go_wp2
      go_loop [11, 12] (fun z i => ∃ t : Nat, t ≤ 4 ∧ i = .int .i64 t ∧ z = .int .i64 (2 ^ t)) (fun _ i => 4 - (intOf i).toNat)
      case atStart => exact ⟨0, Nat.zero_le _, rfl, rfl⟩
      case round =>
        obtain ⟨t, ht, rfl, rfl⟩ := hrel
        have p0 := pow_le8 t (by omega)
        have p1 : (0 : Int) < 2 ^ t := Int.pow_pos (by decide)
        have HS : Hid ((2 : Int) ^ (t + 1) = 2 * 2 ^ t) := by show _ = _; rw [Int.pow_succ, Int.mul_comm]
        by_cases hti : t < 4
        · go_wp2
          go_round
          case rel => exact ⟨t + 1, by omega, by go_num, by rw [HS.out]⟩
          case measure => simp [intOf]; omega
        · obtain rfl : t = 4 := by omega
          go_wp2
          go_ret
          exact ⟨congrArg (fun q => Ending.returned (.int .i64 q)) (by first | exact Int.tmod_eq_emod_of_nonneg y0 | exact Int.tmod_eq_emod_of_nonneg (by simpa using y0)), rfl⟩
set_option maxHeartbeats 1000000 in
theorem kdigit_8 (A : Option Addr) (c : Nat) (xs : List Int) (n : Nat) (w : World) (hr : Rp w none A xs) (hb : Bs xs) (hn : n < xs.length) (hn2 : n < 1000000) :
    Calls Try.prog 17 #[.slice A xs.length c, .int .i64 n, .int .i64 8] w fun e w' => e = .returned (.int .i64 (dig xs n 8 1)) ∧ w = w' := by
  obtain ⟨ad, rfl, hcell⟩ := hr.get (by omega)
  have hc := hcell n hn
  have hx := hb.at n
  have hD : dig xs n 8 1 = (xs[n]?.getD 0) := by
    unfold dig
    simp
    omega
  rw [hD]
  clear hD
  generalize xs[n]?.getD 0 = x at hc hx ⊢
  obtain ⟨L, hL⟩ : ∃ L, L = xs.length := ⟨_, rfl⟩
  rw [← hL] at hn ⊢
  have n0 : (0 : Int) ≤ (n : Int) := by omega
  have n1 : (n : Int) < (L : Int) := by omega
  obtain ⟨x0, x1⟩ := hx
  clear hcell hL
  go_enter Try.func17, Try.ntmps17
  go_wp2
  go_loop [8, 9, 10] (fun y k _ => y = .int .i64 x ∧ k = .int .i64 0) (fun _ _ _ => 0)
  case atStart => exact ⟨rfl, rfl⟩
  case round =>
    obtain ⟨rfl, rfl⟩ := hrel
    go_wp2
    go_loop [11, 12] (fun z i => ∃ t : Nat, t ≤ 8 ∧ i = .int .i64 t ∧ z = .int .i64 (2 ^ t)) (fun _ i => 8 - (intOf i).toNat)
    case atStart => exact ⟨0, Nat.zero_le _, rfl, rfl⟩
    case round =>
      obtain ⟨t, ht, rfl, rfl⟩ := hrel
      have p0 := pow_le8 t (by omega)
      have p1 : (0 : Int) < 2 ^ t := Int.pow_pos (by decide)
      have HS : Hid ((2 : Int) ^ (t + 1) = 2 * 2 ^ t) := by show _ = _; rw [Int.pow_succ, Int.mul_comm]
      by_cases hti : t < 8
      · go_wp2
        go_round
        case rel => exact ⟨t + 1, by omega, by go_num, by rw [HS.out]⟩
        case measure => simp [intOf]; omega
      · obtain rfl : t = 8 := by omega
        go_wp2
        go_ret
        have hm : x % 256 = x := by omega
        exact ⟨congrArg (fun q => Ending.returned (.int .i64 q)) hm, rfl⟩
end Go.Proofs.Yteiflhgmgdibgaa
