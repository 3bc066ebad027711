/-
  What is proved here: the document's own digits of a hash and its check sum.
-/
import Derived.Test.YteiflhgmgdibgaaLmD0
namespace Go.Proofs.Yteiflhgmgdibgaa
open Go.ChangeShapes Go.WideShapes Go.ChangeAt Go.RowKit
set_option linter.unusedVariables false
theorem be2 (x : Int) (h0 : 0 ≤ x) (h1 : x < 65536) : be x 2 = [x / 256, x % 256] := by
  simp only [be]
  rw [show (256 : Int) ^ 1 = 256 by decide, show (256 : Int) ^ 0 = 1 by decide, Int.ediv_one, Int.emod_eq_of_lt (by omega) (by omega)]
set_option maxRecDepth 5000 in
set_option maxHeartbeats 4000000 in
theorem kDigits_1 (h : List Int) (w : World) (hh : Ky h) :
    Calls Try.prog 12 #[.int .i64 1, .agg (u8s h).toArray] w fun e w' => ∃ A c, e = .returned (.slice A 265 c) ∧ RpI w' A (digits 1 h) ∧ Below w.heap.size w w' := by
  have CB : Hid (∀ w, Calls Try.prog 14 #[.int .i64 1] w fun e w' => e = .returned (.int .i64 1) ∧ w = w') := kBits_any 1
  have CM : Hid (∀ w, Calls Try.prog 16 #[.int .i64 1] w fun e w' => e = .returned (.int .i64 1) ∧ w = w') := kMost_any 1
  have CC : Hid (∀ w, Calls Try.prog 7 #[.int .i64 1] w fun e w' => e = .returned (.int .i64 265) ∧ w = w') := kChains_any 1
  have K0 : Hid (Blk (w.alloc (.cells (u8s h).toArray 23)) w.heap.size 23 (u8s h).toArray) := Blk.new w 23 _
  have B0 : Hid (Below w.heap.size w (w.alloc (.cells (u8s h).toArray 23))) := (Below.refl _ _).alloc (Nat.le_refl _) _
  have HH := hid hh
  have RI := hid (blk_rp K0.out)
  have O0 := hid (own_none (w.alloc (.cells (u8s h).toArray 23)) (w.heap.size + 1))
  have S0 : Hid (w.heap.size + 1 ≤ (w.alloc (.cells (u8s h).toArray 23)).heap.size) := by show _ ≤ _; simp
  have HXX := hid (ksum_bound (k := 1) (by unfold Kd; omega) h)
  go_enter Try.func12, Try.ntmps12
  go_wp2_with (go_at_call 14; refine (CB.out _).mono ?_; rintro e w1 ⟨rfl, rfl⟩)
  generalize w.alloc (.cells (u8s h).toArray 23) = w0 at K0 B0 RI O0 S0 ⊢
  go_loop [7, 8] (fun s n => ∃ j : Nat, j ≤ 256 ∧ n = .int .i64 j ∧ s = .int .i64 (ksum 1 h j)) (fun _ n => 256 - (intOf n).toNat)
  case atStart => exact ⟨0, Nat.zero_le _, rfl, rfl⟩
  case round =>
    obtain ⟨j, hj, rfl, rfl⟩ := hrel
    have hs := ksum_lo 1 h j
    have hm1 : kmost 1 = 1 := rfl
    rw [hm1] at hs
    clear hm1
    have s0 : 0 ≤ ksum 1 h j := hs.1
    have s1 : ksum 1 h j ≤ 100000 := by omega
    clear hs
    have HS : Hid (ksum 1 h (j + 1) = ksum 1 h j + (1 - digH 1 h j)) := rfl
    have d0 := dig_lo h j 1 8
    have d1 := dig_hi h j 1 8
    have hd : digH 1 h j = dig h j 1 8 := rfl
    by_cases hlt : j < 256
    · have CD := hid (fun w1 hr => kdigit_1 (some ⟨w.heap.size, 0, none⟩) 32 h j w1 hr HH.out.bs (by rw [HH.out.len]; omega) (by omega))
      rw [HH.out.len, ← hd] at CD
      rw [← hd] at d0 d1
      clear hd
      generalize digH 1 h j = d at CD d0 d1 HS
      simp at d1
      have hji : (j : Int) < 256 := by omega
      go_wp2_with (first
        | (go_at_call 16; refine (CM.out _).mono ?_; rintro e w1 ⟨rfl, rfl⟩)
        | (go_at_call 17; refine (CD.out _ (blk_rp K0.out)).mono ?_; rintro e w1 ⟨rfl, rfl⟩))
      go_round
      case rel => exact ⟨j + 1, by omega, by go_num, by rw [HS.out]⟩
      case measure => simp [intOf]; omega
    · obtain rfl : j = 256 := by omega
      clear hd d0 d1 HS
      have HSU : Hid (kcheck 1 h = ksum 1 h 256 * 2 ^ 7) := rfl
      have HX := hid (ksum_lo 1 h 256)
      generalize ksum 1 h 256 = S at s0 s1 HSU HX ⊢
      have IX : ∀ w1 : World, (Instr.index 39 (.agg #[.int .i64 0, .int .i64 7, .int .i64 6, .int .i64 4, .int .i64 0]) (.int .i64 1)).run Try.prog w1 = .ok (.int .i64 7) w1 := fun _ => by kernel_rfl
      clear hlt hj
      go_wp2_with fail
      go_loop [7, 10] (fun s n => ∃ j : Nat, j ≤ 7 ∧ n = .int .i64 j ∧ s = .int .i64 (S * 2 ^ j)) (fun _ n => 7 - (intOf n).toNat)
      case atStart => exact ⟨0, Nat.zero_le _, rfl, by simp⟩
      case round =>
        obtain ⟨j, hj, rfl, rfl⟩ := hrel
        have hp := pow_le8 j (by omega)
        have hq : (0 : Int) < 2 ^ j := Int.pow_pos (by decide)
        have HS : Hid (S * 2 ^ (j + 1) = 2 * (S * 2 ^ j)) := by show _ = _; rw [Int.pow_succ, ← Int.mul_assoc, Int.mul_comm]
        have t0 : 0 ≤ S * 2 ^ j := Int.mul_nonneg s0 (by omega)
        have t1 : S * 2 ^ j ≤ 100000 * 256 := Int.mul_le_mul s1 hp (by omega) (by decide)
        clear hp hq
        by_cases hlt : j < 7
        · generalize S * 2 ^ j = y at t0 t1 HS ⊢
          have hji : (j : Int) < 7 := by omega
          go_wp2_with fail
          go_round
          case rel => exact ⟨j + 1, by omega, by go_num, by rw [HS.out]⟩
          case measure => simp [intOf]; omega
        · obtain rfl : j = 7 := by omega
          generalize S * 2 ^ 7 = T at t0 t1 HSU ⊢
          clear HS hlt hj
          have HT := HXX
          rw [HSU.out] at HT
          have tb := HT.out.2
          have s2 : IntKind.u64.wrap T = T := by simp [IntKind.wrap, IntKind.bits, IntKind.signed]; omega
          have NQ : Hid (∀ w, Calls Try.prog 18 #[.int .u64 T, .int .i64 2] w fun e w' => ∃ A c, e = .returned (.slice A 2 c) ∧ 2 ≤ c ∧ Fresh w w' A (be T 2) ∧ Below w.heap.size w w') := fun w => Number_any T 2 w ⟨t0, by omega⟩ (by decide)
          have HALL : Hid ([] ++ h ++ be T 2 = kall 1 h) := by show _ = _; rw [List.nil_append, be2 T HT.out.1 HT.out.2, kall, HSU.out]
          have L3 : Hid (([] ++ h).length + (be T 2).length < 1000000000000) := by show _ < _; simp [be_length, HH.out.len]
          clear HT HSU HXX HX
          go_wp2_with (first
            | (at_builtin; refine append_rpm rfl (.tmp 44) (.tmp 45) rfl (w.heap.size + 1) (w.heap.size + 1) _ [] rfl O0.out (some ⟨w.heap.size, 0, none⟩) 32 32 h HH.out.len.symm rfl RI.out (by rw [HH.out.len]; decide) S0.out (Nat.le_refl _) ?_; intro v1 w1 O1 B1; have Z1 := hid (Nat.le_trans S0.out B1.out.size))
            | (go_at_call 18; (with_reducible refine (NQ.out _).mono ?_); rintro e w2 ⟨A2, c2, rfl, hc2, hf2, hb2⟩; have F2 := hid hf2.rp0; have O2 := hid (own_below O1.out hb2); have B2 := hid (B1.out.trans (hb2.mono Z1.out)); have Z2 := hid (Nat.le_trans Z1.out hb2.size); clear hc2 hf2 hb2)
            | (at_builtin; refine append_rpm rfl (.tmp 47) (.tmp 50) rfl (w.heap.size + 1) (w.heap.size + 1) _ ([] ++ h) rfl O2.out A2 2 c2 (be T 2) (by rw [be_length]) rfl F2.out L3.out Z2.out (Nat.le_refl _) ?_; intro v3 w3 O3 B3; have Z3 := hid (Nat.le_trans Z2.out B3.out.size); have B4 := hid (B0.out.trans ((B2.out.trans B3.out).mono (by omega)))))
          rw [HALL.out] at O3
          obtain ⟨A7, c7, rfl, _, hc7, hf7⟩ := fresh_of_own (w := w) O3.out (by omega)
          have F7 := hid hf7.rp0
          have HDT : Hid (∀ n, n < 265 → (digits 1 h).take (n + 1) = (digits 1 h).take n ++ [dig (kall 1 h) n 1 8]) := fun n hn => digits_take 1 h n hn
          have HXB : Hid (Bs (kall 1 h)) := by show Bs _; rw [← HALL.out]; exact bs_append (by rw [List.nil_append]; exact HH.out.bs) (be_bs _ _)
          have HXL : Hid ((kall 1 h).length = 34) := by show _ = _; rw [← HALL.out]; simp [be_length, HH.out.len]
          have DL : Hid ((digits 1 h).length = 265) := digits_length 1 h
          clear hc7 hf7 O3 O2 O1 HALL F2
          generalize kall 1 h = X at F7 HDT HXB HXL ⊢
          obtain ⟨D, hD⟩ : ∃ D, D = digits 1 h := ⟨_, rfl⟩
          rw [← hD] at HDT DL
          have HDE := hid hD
          clear hD
          go_loopw [12, 13] (fun o n wr => ∃ j : Nat, j ≤ 265 ∧ n = .int .i64 j ∧ Hid (wr.ownsRow w3.heap.size 3 1 o j (i64s (D.take j))) ∧ Hid (Below w3.heap.size w3 wr)) (fun _ n _ => 265 - (intOf n).toNat)
          case atStart => exact ⟨0, Nat.zero_le _, rfl, own_none_int _ _, Below.refl _ _⟩
          case round =>
            obtain ⟨j, hj, rfl, HO, HBW⟩ := hrel
            by_cases hlt : j < 265
            · obtain ⟨d, hd⟩ : ∃ d, d = dig X j 1 8 := ⟨_, rfl⟩
              have CD := hid (kdigit_1 A7 c7 X j wr (F7.out.belowN HBW.out) HXB.out (by rw [HXL.out]; omega) (by omega))
              rw [← hd] at CD
              have HJ : Hid (D.take (j + 1) = D.take j ++ [d]) := by show _ = _; rw [hd]; exact HDT.out j hlt
              have HLJ : Hid (j = (D.take j).length) := by show _ = _; rw [List.length_take, DL.out]; omega
              have HOA := hid (HO.out.alloc (.cells #[.int .i64 d] 3))
              have HBA : Hid (Below w3.heap.size w3 (wr.alloc (.cells #[.int .i64 d] 3))) := HBW.out.alloc HBW.out.size _
              have HC : Hid ((wr.alloc (.cells #[.int .i64 d] 3)).cell? ⟨wr.heap.size, 0, none⟩ = some (.int .i64 d)) := by show _ = _; rw [(Blk.new wr 3 #[.int .i64 d]).cell]; rfl
              have hji : (j : Int) < 265 := by omega
              clear hd HO
              go_wp2_with (first
                | (go_at_call 7; refine (CC.out _).mono ?_; rintro e w1 ⟨rfl, rfl⟩)
                | (go_at_call 17; refine CD.out.mono ?_; rintro e w1 ⟨rfl, rfl⟩)
                | (at_builtin; refine append_int rfl (.tmp 58) (.tmp 63) rfl w3.heap.size w3.heap.size _ (D.take j) j HLJ.out rfl HOA.out ⟨wr.heap.size, 0, none⟩ d rfl HC.out (by omega) HBA.out.size (Nat.le_refl _) ?_; intro v9 w9 O9 B9))
              exact ⟨⟨j + 1, by omega, by go_num, by (show World.ownsRow _ _ _ _ _ _ _); rw [HJ.out]; exact O9.out, HBA.out.trans B9.out⟩, by simp [intOf]; omega⟩
            · obtain rfl : j = 265 := by omega
              obtain ⟨A9, c9, rfl, _, hr9⟩ := ints_of_own HO.out
              have H9 := hid hr9
              have HTK : Hid (D.take 265 = D) := by show _ = _; rw [← DL.out]; exact List.take_length
              rw [HTK.out] at H9
              clear hr9 HO
              go_wp2_with (go_at_call 7; refine (CC.out _).mono ?_; rintro e w1 ⟨rfl, rfl⟩)
              go_ret
              rw [← HDE.out]
              exact ⟨A9, c9, rfl, H9.out, B4.out.trans (HBW.out.mono B4.out.size)⟩
set_option maxRecDepth 5000 in
set_option maxHeartbeats 4000000 in
theorem kDigits_2 (h : List Int) (w : World) (hh : Ky h) :
    Calls Try.prog 12 #[.int .i64 2, .agg (u8s h).toArray] w fun e w' => ∃ A c, e = .returned (.slice A 133 c) ∧ RpI w' A (digits 2 h) ∧ Below w.heap.size w w' := by
  have CB : Hid (∀ w, Calls Try.prog 14 #[.int .i64 2] w fun e w' => e = .returned (.int .i64 2) ∧ w = w') := kBits_any 2
  have CM : Hid (∀ w, Calls Try.prog 16 #[.int .i64 2] w fun e w' => e = .returned (.int .i64 3) ∧ w = w') := kMost_any 2
  have CC : Hid (∀ w, Calls Try.prog 7 #[.int .i64 2] w fun e w' => e = .returned (.int .i64 133) ∧ w = w') := kChains_any 2
  have K0 : Hid (Blk (w.alloc (.cells (u8s h).toArray 23)) w.heap.size 23 (u8s h).toArray) := Blk.new w 23 _
  have B0 : Hid (Below w.heap.size w (w.alloc (.cells (u8s h).toArray 23))) := (Below.refl _ _).alloc (Nat.le_refl _) _
  have HH := hid hh
  have RI := hid (blk_rp K0.out)
  have O0 := hid (own_none (w.alloc (.cells (u8s h).toArray 23)) (w.heap.size + 1))
  have S0 : Hid (w.heap.size + 1 ≤ (w.alloc (.cells (u8s h).toArray 23)).heap.size) := by show _ ≤ _; simp
  have HXX := hid (ksum_bound (k := 2) (by unfold Kd; omega) h)
  go_enter Try.func12, Try.ntmps12
  go_wp2_with (go_at_call 14; refine (CB.out _).mono ?_; rintro e w1 ⟨rfl, rfl⟩)
  generalize w.alloc (.cells (u8s h).toArray 23) = w0 at K0 B0 RI O0 S0 ⊢
  go_loop [7, 8] (fun s n => ∃ j : Nat, j ≤ 128 ∧ n = .int .i64 j ∧ s = .int .i64 (ksum 2 h j)) (fun _ n => 128 - (intOf n).toNat)
  case atStart => exact ⟨0, Nat.zero_le _, rfl, rfl⟩
  case round =>
    obtain ⟨j, hj, rfl, rfl⟩ := hrel
    have hs := ksum_lo 2 h j
    have hm2 : kmost 2 = 3 := rfl
    rw [hm2] at hs
    clear hm2
    have s0 : 0 ≤ ksum 2 h j := hs.1
    have s1 : ksum 2 h j ≤ 100000 := by omega
    clear hs
    have HS : Hid (ksum 2 h (j + 1) = ksum 2 h j + (3 - digH 2 h j)) := rfl
    have d0 := dig_lo h j 2 4
    have d1 := dig_hi h j 2 4
    have hd : digH 2 h j = dig h j 2 4 := rfl
    by_cases hlt : j < 128
    · have CD := hid (fun w1 hr => kdigit_2 (some ⟨w.heap.size, 0, none⟩) 32 h j w1 hr HH.out.bs (by rw [HH.out.len]; omega) (by omega))
      rw [HH.out.len, ← hd] at CD
      rw [← hd] at d0 d1
      clear hd
      generalize digH 2 h j = d at CD d0 d1 HS
      simp at d1
      have hji : (j : Int) < 128 := by omega
      go_wp2_with (first
        | (go_at_call 16; refine (CM.out _).mono ?_; rintro e w1 ⟨rfl, rfl⟩)
        | (go_at_call 17; refine (CD.out _ (blk_rp K0.out)).mono ?_; rintro e w1 ⟨rfl, rfl⟩))
      go_round
      case rel => exact ⟨j + 1, by omega, by go_num, by rw [HS.out]⟩
      case measure => simp [intOf]; omega
    · obtain rfl : j = 128 := by omega
      clear hd d0 d1 HS
      have HSU : Hid (kcheck 2 h = ksum 2 h 128 * 2 ^ 6) := rfl
      have HX := hid (ksum_lo 2 h 128)
      generalize ksum 2 h 128 = S at s0 s1 HSU HX ⊢
      have IX : ∀ w1 : World, (Instr.index 39 (.agg #[.int .i64 0, .int .i64 7, .int .i64 6, .int .i64 4, .int .i64 0]) (.int .i64 2)).run Try.prog w1 = .ok (.int .i64 6) w1 := fun _ => by kernel_rfl
      clear hlt hj
      go_wp2_with fail
      go_loop [7, 10] (fun s n => ∃ j : Nat, j ≤ 6 ∧ n = .int .i64 j ∧ s = .int .i64 (S * 2 ^ j)) (fun _ n => 6 - (intOf n).toNat)
      case atStart => exact ⟨0, Nat.zero_le _, rfl, by simp⟩
      case round =>
        obtain ⟨j, hj, rfl, rfl⟩ := hrel
        have hp := pow_le8 j (by omega)
        have hq : (0 : Int) < 2 ^ j := Int.pow_pos (by decide)
        have HS : Hid (S * 2 ^ (j + 1) = 2 * (S * 2 ^ j)) := by show _ = _; rw [Int.pow_succ, ← Int.mul_assoc, Int.mul_comm]
        have t0 : 0 ≤ S * 2 ^ j := Int.mul_nonneg s0 (by omega)
        have t1 : S * 2 ^ j ≤ 100000 * 256 := Int.mul_le_mul s1 hp (by omega) (by decide)
        clear hp hq
        by_cases hlt : j < 6
        · generalize S * 2 ^ j = y at t0 t1 HS ⊢
          have hji : (j : Int) < 6 := by omega
          go_wp2_with fail
          go_round
          case rel => exact ⟨j + 1, by omega, by go_num, by rw [HS.out]⟩
          case measure => simp [intOf]; omega
        · obtain rfl : j = 6 := by omega
          generalize S * 2 ^ 6 = T at t0 t1 HSU ⊢
          clear HS hlt hj
          have HT := HXX
          rw [HSU.out] at HT
          have tb := HT.out.2
          have s2 : IntKind.u64.wrap T = T := by simp [IntKind.wrap, IntKind.bits, IntKind.signed]; omega
          have NQ : Hid (∀ w, Calls Try.prog 18 #[.int .u64 T, .int .i64 2] w fun e w' => ∃ A c, e = .returned (.slice A 2 c) ∧ 2 ≤ c ∧ Fresh w w' A (be T 2) ∧ Below w.heap.size w w') := fun w => Number_any T 2 w ⟨t0, by omega⟩ (by decide)
          have HALL : Hid ([] ++ h ++ be T 2 = kall 2 h) := by show _ = _; rw [List.nil_append, be2 T HT.out.1 HT.out.2, kall, HSU.out]
          have L3 : Hid (([] ++ h).length + (be T 2).length < 1000000000000) := by show _ < _; simp [be_length, HH.out.len]
          clear HT HSU HXX HX
          go_wp2_with (first
            | (at_builtin; refine append_rpm rfl (.tmp 44) (.tmp 45) rfl (w.heap.size + 1) (w.heap.size + 1) _ [] rfl O0.out (some ⟨w.heap.size, 0, none⟩) 32 32 h HH.out.len.symm rfl RI.out (by rw [HH.out.len]; decide) S0.out (Nat.le_refl _) ?_; intro v1 w1 O1 B1; have Z1 := hid (Nat.le_trans S0.out B1.out.size))
            | (go_at_call 18; (with_reducible refine (NQ.out _).mono ?_); rintro e w2 ⟨A2, c2, rfl, hc2, hf2, hb2⟩; have F2 := hid hf2.rp0; have O2 := hid (own_below O1.out hb2); have B2 := hid (B1.out.trans (hb2.mono Z1.out)); have Z2 := hid (Nat.le_trans Z1.out hb2.size); clear hc2 hf2 hb2)
            | (at_builtin; refine append_rpm rfl (.tmp 47) (.tmp 50) rfl (w.heap.size + 1) (w.heap.size + 1) _ ([] ++ h) rfl O2.out A2 2 c2 (be T 2) (by rw [be_length]) rfl F2.out L3.out Z2.out (Nat.le_refl _) ?_; intro v3 w3 O3 B3; have Z3 := hid (Nat.le_trans Z2.out B3.out.size); have B4 := hid (B0.out.trans ((B2.out.trans B3.out).mono (by omega)))))
          rw [HALL.out] at O3
          obtain ⟨A7, c7, rfl, _, hc7, hf7⟩ := fresh_of_own (w := w) O3.out (by omega)
          have F7 := hid hf7.rp0
          have HDT : Hid (∀ n, n < 133 → (digits 2 h).take (n + 1) = (digits 2 h).take n ++ [dig (kall 2 h) n 2 4]) := fun n hn => digits_take 2 h n hn
          have HXB : Hid (Bs (kall 2 h)) := by show Bs _; rw [← HALL.out]; exact bs_append (by rw [List.nil_append]; exact HH.out.bs) (be_bs _ _)
          have HXL : Hid ((kall 2 h).length = 34) := by show _ = _; rw [← HALL.out]; simp [be_length, HH.out.len]
          have DL : Hid ((digits 2 h).length = 133) := digits_length 2 h
          clear hc7 hf7 O3 O2 O1 HALL F2
          generalize kall 2 h = X at F7 HDT HXB HXL ⊢
          obtain ⟨D, hD⟩ : ∃ D, D = digits 2 h := ⟨_, rfl⟩
          rw [← hD] at HDT DL
          have HDE := hid hD
          clear hD
          go_loopw [12, 13] (fun o n wr => ∃ j : Nat, j ≤ 133 ∧ n = .int .i64 j ∧ Hid (wr.ownsRow w3.heap.size 3 1 o j (i64s (D.take j))) ∧ Hid (Below w3.heap.size w3 wr)) (fun _ n _ => 133 - (intOf n).toNat)
          case atStart => exact ⟨0, Nat.zero_le _, rfl, own_none_int _ _, Below.refl _ _⟩
          case round =>
            obtain ⟨j, hj, rfl, HO, HBW⟩ := hrel
            by_cases hlt : j < 133
            · obtain ⟨d, hd⟩ : ∃ d, d = dig X j 2 4 := ⟨_, rfl⟩
              have CD := hid (kdigit_2 A7 c7 X j wr (F7.out.belowN HBW.out) HXB.out (by rw [HXL.out]; omega) (by omega))
              rw [← hd] at CD
              have HJ : Hid (D.take (j + 1) = D.take j ++ [d]) := by show _ = _; rw [hd]; exact HDT.out j hlt
              have HLJ : Hid (j = (D.take j).length) := by show _ = _; rw [List.length_take, DL.out]; omega
              have HOA := hid (HO.out.alloc (.cells #[.int .i64 d] 3))
              have HBA : Hid (Below w3.heap.size w3 (wr.alloc (.cells #[.int .i64 d] 3))) := HBW.out.alloc HBW.out.size _
              have HC : Hid ((wr.alloc (.cells #[.int .i64 d] 3)).cell? ⟨wr.heap.size, 0, none⟩ = some (.int .i64 d)) := by show _ = _; rw [(Blk.new wr 3 #[.int .i64 d]).cell]; rfl
              have hji : (j : Int) < 133 := by omega
              clear hd HO
              go_wp2_with (first
                | (go_at_call 7; refine (CC.out _).mono ?_; rintro e w1 ⟨rfl, rfl⟩)
                | (go_at_call 17; refine CD.out.mono ?_; rintro e w1 ⟨rfl, rfl⟩)
                | (at_builtin; refine append_int rfl (.tmp 58) (.tmp 63) rfl w3.heap.size w3.heap.size _ (D.take j) j HLJ.out rfl HOA.out ⟨wr.heap.size, 0, none⟩ d rfl HC.out (by omega) HBA.out.size (Nat.le_refl _) ?_; intro v9 w9 O9 B9))
              exact ⟨⟨j + 1, by omega, by go_num, by (show World.ownsRow _ _ _ _ _ _ _); rw [HJ.out]; exact O9.out, HBA.out.trans B9.out⟩, by simp [intOf]; omega⟩
            · obtain rfl : j = 133 := by omega
              obtain ⟨A9, c9, rfl, _, hr9⟩ := ints_of_own HO.out
              have H9 := hid hr9
              have HTK : Hid (D.take 133 = D) := by show _ = _; rw [← DL.out]; exact List.take_length
              rw [HTK.out] at H9
              clear hr9 HO
              go_wp2_with (go_at_call 7; refine (CC.out _).mono ?_; rintro e w1 ⟨rfl, rfl⟩)
              go_ret
              rw [← HDE.out]
              exact ⟨A9, c9, rfl, H9.out, B4.out.trans (HBW.out.mono B4.out.size)⟩
set_option maxRecDepth 5000 in
set_option maxHeartbeats 4000000 in
theorem kDigits_3 (h : List Int) (w : World) (hh : Ky h) :
    Calls Try.prog 12 #[.int .i64 3, .agg (u8s h).toArray] w fun e w' => ∃ A c, e = .returned (.slice A 67 c) ∧ RpI w' A (digits 3 h) ∧ Below w.heap.size w w' := by
  have CB : Hid (∀ w, Calls Try.prog 14 #[.int .i64 3] w fun e w' => e = .returned (.int .i64 4) ∧ w = w') := kBits_any 3
  have CM : Hid (∀ w, Calls Try.prog 16 #[.int .i64 3] w fun e w' => e = .returned (.int .i64 15) ∧ w = w') := kMost_any 3
  have CC : Hid (∀ w, Calls Try.prog 7 #[.int .i64 3] w fun e w' => e = .returned (.int .i64 67) ∧ w = w') := kChains_any 3
  have K0 : Hid (Blk (w.alloc (.cells (u8s h).toArray 23)) w.heap.size 23 (u8s h).toArray) := Blk.new w 23 _
  have B0 : Hid (Below w.heap.size w (w.alloc (.cells (u8s h).toArray 23))) := (Below.refl _ _).alloc (Nat.le_refl _) _
  have HH := hid hh
  have RI := hid (blk_rp K0.out)
  have O0 := hid (own_none (w.alloc (.cells (u8s h).toArray 23)) (w.heap.size + 1))
  have S0 : Hid (w.heap.size + 1 ≤ (w.alloc (.cells (u8s h).toArray 23)).heap.size) := by show _ ≤ _; simp
  have HXX := hid (ksum_bound (k := 3) (by unfold Kd; omega) h)
  go_enter Try.func12, Try.ntmps12
  go_wp2_with (go_at_call 14; refine (CB.out _).mono ?_; rintro e w1 ⟨rfl, rfl⟩)
  generalize w.alloc (.cells (u8s h).toArray 23) = w0 at K0 B0 RI O0 S0 ⊢
  go_loop [7, 8] (fun s n => ∃ j : Nat, j ≤ 64 ∧ n = .int .i64 j ∧ s = .int .i64 (ksum 3 h j)) (fun _ n => 64 - (intOf n).toNat)
  case atStart => exact ⟨0, Nat.zero_le _, rfl, rfl⟩
  case round =>
    obtain ⟨j, hj, rfl, rfl⟩ := hrel
    have hs := ksum_lo 3 h j
    have hm3 : kmost 3 = 15 := rfl
    rw [hm3] at hs
    clear hm3
    have s0 : 0 ≤ ksum 3 h j := hs.1
    have s1 : ksum 3 h j ≤ 100000 := by omega
    clear hs
    have HS : Hid (ksum 3 h (j + 1) = ksum 3 h j + (15 - digH 3 h j)) := rfl
    have d0 := dig_lo h j 4 2
    have d1 := dig_hi h j 4 2
    have hd : digH 3 h j = dig h j 4 2 := rfl
    by_cases hlt : j < 64
    · have CD := hid (fun w1 hr => kdigit_4 (some ⟨w.heap.size, 0, none⟩) 32 h j w1 hr HH.out.bs (by rw [HH.out.len]; omega) (by omega))
      rw [HH.out.len, ← hd] at CD
      rw [← hd] at d0 d1
      clear hd
      generalize digH 3 h j = d at CD d0 d1 HS
      simp at d1
      have hji : (j : Int) < 64 := by omega
      go_wp2_with (first
        | (go_at_call 16; refine (CM.out _).mono ?_; rintro e w1 ⟨rfl, rfl⟩)
        | (go_at_call 17; refine (CD.out _ (blk_rp K0.out)).mono ?_; rintro e w1 ⟨rfl, rfl⟩))
      go_round
      case rel => exact ⟨j + 1, by omega, by go_num, by rw [HS.out]⟩
      case measure => simp [intOf]; omega
    · obtain rfl : j = 64 := by omega
      clear hd d0 d1 HS
      have HSU : Hid (kcheck 3 h = ksum 3 h 64 * 2 ^ 4) := rfl
      have HX := hid (ksum_lo 3 h 64)
      generalize ksum 3 h 64 = S at s0 s1 HSU HX ⊢
      have IX : ∀ w1 : World, (Instr.index 39 (.agg #[.int .i64 0, .int .i64 7, .int .i64 6, .int .i64 4, .int .i64 0]) (.int .i64 3)).run Try.prog w1 = .ok (.int .i64 4) w1 := fun _ => by kernel_rfl
      clear hlt hj
      go_wp2_with fail
      go_loop [7, 10] (fun s n => ∃ j : Nat, j ≤ 4 ∧ n = .int .i64 j ∧ s = .int .i64 (S * 2 ^ j)) (fun _ n => 4 - (intOf n).toNat)
      case atStart => exact ⟨0, Nat.zero_le _, rfl, by simp⟩
      case round =>
        obtain ⟨j, hj, rfl, rfl⟩ := hrel
        have hp := pow_le8 j (by omega)
        have hq : (0 : Int) < 2 ^ j := Int.pow_pos (by decide)
        have HS : Hid (S * 2 ^ (j + 1) = 2 * (S * 2 ^ j)) := by show _ = _; rw [Int.pow_succ, ← Int.mul_assoc, Int.mul_comm]
        have t0 : 0 ≤ S * 2 ^ j := Int.mul_nonneg s0 (by omega)
        have t1 : S * 2 ^ j ≤ 100000 * 256 := Int.mul_le_mul s1 hp (by omega) (by decide)
        clear hp hq
        by_cases hlt : j < 4
        · generalize S * 2 ^ j = y at t0 t1 HS ⊢
          have hji : (j : Int) < 4 := by omega
          go_wp2_with fail
          go_round
          case rel => exact ⟨j + 1, by omega, by go_num, by rw [HS.out]⟩
          case measure => simp [intOf]; omega
        · obtain rfl : j = 4 := by omega
          generalize S * 2 ^ 4 = T at t0 t1 HSU ⊢
          clear HS hlt hj
          have HT := HXX
          rw [HSU.out] at HT
          have tb := HT.out.2
          have s2 : IntKind.u64.wrap T = T := by simp [IntKind.wrap, IntKind.bits, IntKind.signed]; omega
          have NQ : Hid (∀ w, Calls Try.prog 18 #[.int .u64 T, .int .i64 2] w fun e w' => ∃ A c, e = .returned (.slice A 2 c) ∧ 2 ≤ c ∧ Fresh w w' A (be T 2) ∧ Below w.heap.size w w') := fun w => Number_any T 2 w ⟨t0, by omega⟩ (by decide)
          have HALL : Hid ([] ++ h ++ be T 2 = kall 3 h) := by show _ = _; rw [List.nil_append, be2 T HT.out.1 HT.out.2, kall, HSU.out]
          have L3 : Hid (([] ++ h).length + (be T 2).length < 1000000000000) := by show _ < _; simp [be_length, HH.out.len]
          clear HT HSU HXX HX
          go_wp2_with (first
            | (at_builtin; refine append_rpm rfl (.tmp 44) (.tmp 45) rfl (w.heap.size + 1) (w.heap.size + 1) _ [] rfl O0.out (some ⟨w.heap.size, 0, none⟩) 32 32 h HH.out.len.symm rfl RI.out (by rw [HH.out.len]; decide) S0.out (Nat.le_refl _) ?_; intro v1 w1 O1 B1; have Z1 := hid (Nat.le_trans S0.out B1.out.size))
            | (go_at_call 18; (with_reducible refine (NQ.out _).mono ?_); rintro e w2 ⟨A2, c2, rfl, hc2, hf2, hb2⟩; have F2 := hid hf2.rp0; have O2 := hid (own_below O1.out hb2); have B2 := hid (B1.out.trans (hb2.mono Z1.out)); have Z2 := hid (Nat.le_trans Z1.out hb2.size); clear hc2 hf2 hb2)
            | (at_builtin; refine append_rpm rfl (.tmp 47) (.tmp 50) rfl (w.heap.size + 1) (w.heap.size + 1) _ ([] ++ h) rfl O2.out A2 2 c2 (be T 2) (by rw [be_length]) rfl F2.out L3.out Z2.out (Nat.le_refl _) ?_; intro v3 w3 O3 B3; have Z3 := hid (Nat.le_trans Z2.out B3.out.size); have B4 := hid (B0.out.trans ((B2.out.trans B3.out).mono (by omega)))))
          rw [HALL.out] at O3
          obtain ⟨A7, c7, rfl, _, hc7, hf7⟩ := fresh_of_own (w := w) O3.out (by omega)
          have F7 := hid hf7.rp0
          have HDT : Hid (∀ n, n < 67 → (digits 3 h).take (n + 1) = (digits 3 h).take n ++ [dig (kall 3 h) n 4 2]) := fun n hn => digits_take 3 h n hn
          have HXB : Hid (Bs (kall 3 h)) := by show Bs _; rw [← HALL.out]; exact bs_append (by rw [List.nil_append]; exact HH.out.bs) (be_bs _ _)
          have HXL : Hid ((kall 3 h).length = 34) := by show _ = _; rw [← HALL.out]; simp [be_length, HH.out.len]
          have DL : Hid ((digits 3 h).length = 67) := digits_length 3 h
          clear hc7 hf7 O3 O2 O1 HALL F2
          generalize kall 3 h = X at F7 HDT HXB HXL ⊢
          obtain ⟨D, hD⟩ : ∃ D, D = digits 3 h := ⟨_, rfl⟩
          rw [← hD] at HDT DL
          have HDE := hid hD
          clear hD
          go_loopw [12, 13] (fun o n wr => ∃ j : Nat, j ≤ 67 ∧ n = .int .i64 j ∧ Hid (wr.ownsRow w3.heap.size 3 1 o j (i64s (D.take j))) ∧ Hid (Below w3.heap.size w3 wr)) (fun _ n _ => 67 - (intOf n).toNat)
          case atStart => exact ⟨0, Nat.zero_le _, rfl, own_none_int _ _, Below.refl _ _⟩
          case round =>
            obtain ⟨j, hj, rfl, HO, HBW⟩ := hrel
            by_cases hlt : j < 67
            · obtain ⟨d, hd⟩ : ∃ d, d = dig X j 4 2 := ⟨_, rfl⟩
              have CD := hid (kdigit_4 A7 c7 X j wr (F7.out.belowN HBW.out) HXB.out (by rw [HXL.out]; omega) (by omega))
              rw [← hd] at CD
              have HJ : Hid (D.take (j + 1) = D.take j ++ [d]) := by show _ = _; rw [hd]; exact HDT.out j hlt
              have HLJ : Hid (j = (D.take j).length) := by show _ = _; rw [List.length_take, DL.out]; omega
              have HOA := hid (HO.out.alloc (.cells #[.int .i64 d] 3))
              have HBA : Hid (Below w3.heap.size w3 (wr.alloc (.cells #[.int .i64 d] 3))) := HBW.out.alloc HBW.out.size _
              have HC : Hid ((wr.alloc (.cells #[.int .i64 d] 3)).cell? ⟨wr.heap.size, 0, none⟩ = some (.int .i64 d)) := by show _ = _; rw [(Blk.new wr 3 #[.int .i64 d]).cell]; rfl
              have hji : (j : Int) < 67 := by omega
              clear hd HO
              go_wp2_with (first
                | (go_at_call 7; refine (CC.out _).mono ?_; rintro e w1 ⟨rfl, rfl⟩)
                | (go_at_call 17; refine CD.out.mono ?_; rintro e w1 ⟨rfl, rfl⟩)
                | (at_builtin; refine append_int rfl (.tmp 58) (.tmp 63) rfl w3.heap.size w3.heap.size _ (D.take j) j HLJ.out rfl HOA.out ⟨wr.heap.size, 0, none⟩ d rfl HC.out (by omega) HBA.out.size (Nat.le_refl _) ?_; intro v9 w9 O9 B9))
              exact ⟨⟨j + 1, by omega, by go_num, by (show World.ownsRow _ _ _ _ _ _ _); rw [HJ.out]; exact O9.out, HBA.out.trans B9.out⟩, by simp [intOf]; omega⟩
            · obtain rfl : j = 67 := by omega
              obtain ⟨A9, c9, rfl, _, hr9⟩ := ints_of_own HO.out
              have H9 := hid hr9
              have HTK : Hid (D.take 67 = D) := by show _ = _; rw [← DL.out]; exact List.take_length
              rw [HTK.out] at H9
              clear hr9 HO
              go_wp2_with (go_at_call 7; refine (CC.out _).mono ?_; rintro e w1 ⟨rfl, rfl⟩)
              go_ret
              rw [← HDE.out]
              exact ⟨A9, c9, rfl, H9.out, B4.out.trans (HBW.out.mono B4.out.size)⟩
set_option maxRecDepth 5000 in
set_option maxHeartbeats 4000000 in
theorem kDigits_4 (h : List Int) (w : World) (hh : Ky h) :
    Calls Try.prog 12 #[.int .i64 4, .agg (u8s h).toArray] w fun e w' => ∃ A c, e = .returned (.slice A 34 c) ∧ RpI w' A (digits 4 h) ∧ Below w.heap.size w w' := by
  have CB : Hid (∀ w, Calls Try.prog 14 #[.int .i64 4] w fun e w' => e = .returned (.int .i64 8) ∧ w = w') := kBits_any 4
  have CM : Hid (∀ w, Calls Try.prog 16 #[.int .i64 4] w fun e w' => e = .returned (.int .i64 255) ∧ w = w') := kMost_any 4
  have CC : Hid (∀ w, Calls Try.prog 7 #[.int .i64 4] w fun e w' => e = .returned (.int .i64 34) ∧ w = w') := kChains_any 4
  have K0 : Hid (Blk (w.alloc (.cells (u8s h).toArray 23)) w.heap.size 23 (u8s h).toArray) := Blk.new w 23 _
  have B0 : Hid (Below w.heap.size w (w.alloc (.cells (u8s h).toArray 23))) := (Below.refl _ _).alloc (Nat.le_refl _) _
  have HH := hid hh
  have RI := hid (blk_rp K0.out)
  have O0 := hid (own_none (w.alloc (.cells (u8s h).toArray 23)) (w.heap.size + 1))
  have S0 : Hid (w.heap.size + 1 ≤ (w.alloc (.cells (u8s h).toArray 23)).heap.size) := by show _ ≤ _; simp
  have HXX := hid (ksum_bound (k := 4) (by unfold Kd; omega) h)
  go_enter Try.func12, Try.ntmps12
  go_wp2_with (go_at_call 14; refine (CB.out _).mono ?_; rintro e w1 ⟨rfl, rfl⟩)
  generalize w.alloc (.cells (u8s h).toArray 23) = w0 at K0 B0 RI O0 S0 ⊢
  go_loop [7, 8] (fun s n => ∃ j : Nat, j ≤ 32 ∧ n = .int .i64 j ∧ s = .int .i64 (ksum 4 h j)) (fun _ n => 32 - (intOf n).toNat)
  case atStart => exact ⟨0, Nat.zero_le _, rfl, rfl⟩
  case round =>
    obtain ⟨j, hj, rfl, rfl⟩ := hrel
    have hs := ksum_lo 4 h j
    have hm4 : kmost 4 = 255 := rfl
    rw [hm4] at hs
    clear hm4
    have s0 : 0 ≤ ksum 4 h j := hs.1
    have s1 : ksum 4 h j ≤ 100000 := by omega
    clear hs
    have HS : Hid (ksum 4 h (j + 1) = ksum 4 h j + (255 - digH 4 h j)) := rfl
    have d0 := dig_lo h j 8 1
    have d1 := dig_hi h j 8 1
    have hd : digH 4 h j = dig h j 8 1 := rfl
    by_cases hlt : j < 32
    · have CD := hid (fun w1 hr => kdigit_8 (some ⟨w.heap.size, 0, none⟩) 32 h j w1 hr HH.out.bs (by rw [HH.out.len]; omega) (by omega))
      rw [HH.out.len, ← hd] at CD
      rw [← hd] at d0 d1
      clear hd
      generalize digH 4 h j = d at CD d0 d1 HS
      simp at d1
      have hji : (j : Int) < 32 := by omega
      go_wp2_with (first
        | (go_at_call 16; refine (CM.out _).mono ?_; rintro e w1 ⟨rfl, rfl⟩)
        | (go_at_call 17; refine (CD.out _ (blk_rp K0.out)).mono ?_; rintro e w1 ⟨rfl, rfl⟩))
      go_round
      case rel => exact ⟨j + 1, by omega, by go_num, by rw [HS.out]⟩
      case measure => simp [intOf]; omega
    · obtain rfl : j = 32 := by omega
      clear hd d0 d1 HS
      have HSU : Hid (kcheck 4 h = ksum 4 h 32 * 2 ^ 0) := rfl
      have HX := hid (ksum_lo 4 h 32)
      generalize ksum 4 h 32 = S at s0 s1 HSU HX ⊢
      have IX : ∀ w1 : World, (Instr.index 39 (.agg #[.int .i64 0, .int .i64 7, .int .i64 6, .int .i64 4, .int .i64 0]) (.int .i64 4)).run Try.prog w1 = .ok (.int .i64 0) w1 := fun _ => by kernel_rfl
      clear hlt hj
      go_wp2_with fail
      go_loop [7, 10] (fun s n => ∃ j : Nat, j ≤ 0 ∧ n = .int .i64 j ∧ s = .int .i64 (S * 2 ^ j)) (fun _ n => 0 - (intOf n).toNat)
      case atStart => exact ⟨0, Nat.zero_le _, rfl, by simp⟩
      case round =>
        obtain ⟨j, hj, rfl, rfl⟩ := hrel
        have hp := pow_le8 j (by omega)
        have hq : (0 : Int) < 2 ^ j := Int.pow_pos (by decide)
        have HS : Hid (S * 2 ^ (j + 1) = 2 * (S * 2 ^ j)) := by show _ = _; rw [Int.pow_succ, ← Int.mul_assoc, Int.mul_comm]
        have t0 : 0 ≤ S * 2 ^ j := Int.mul_nonneg s0 (by omega)
        have t1 : S * 2 ^ j ≤ 100000 * 256 := Int.mul_le_mul s1 hp (by omega) (by decide)
        clear hp hq
        by_cases hlt : j < 0
        · generalize S * 2 ^ j = y at t0 t1 HS ⊢
          have hji : (j : Int) < 0 := by omega
          go_wp2_with fail
          go_round
          case rel => exact ⟨j + 1, by omega, by go_num, by rw [HS.out]⟩
          case measure => simp [intOf]; omega
        · obtain rfl : j = 0 := by omega
          generalize S * 2 ^ 0 = T at t0 t1 HSU ⊢
          clear HS hlt hj
          have HT := HXX
          rw [HSU.out] at HT
          have tb := HT.out.2
          have s2 : IntKind.u64.wrap T = T := by simp [IntKind.wrap, IntKind.bits, IntKind.signed]; omega
          have NQ : Hid (∀ w, Calls Try.prog 18 #[.int .u64 T, .int .i64 2] w fun e w' => ∃ A c, e = .returned (.slice A 2 c) ∧ 2 ≤ c ∧ Fresh w w' A (be T 2) ∧ Below w.heap.size w w') := fun w => Number_any T 2 w ⟨t0, by omega⟩ (by decide)
          have HALL : Hid ([] ++ h ++ be T 2 = kall 4 h) := by show _ = _; rw [List.nil_append, be2 T HT.out.1 HT.out.2, kall, HSU.out]
          have L3 : Hid (([] ++ h).length + (be T 2).length < 1000000000000) := by show _ < _; simp [be_length, HH.out.len]
          clear HT HSU HXX HX
          go_wp2_with (first
            | (at_builtin; refine append_rpm rfl (.tmp 44) (.tmp 45) rfl (w.heap.size + 1) (w.heap.size + 1) _ [] rfl O0.out (some ⟨w.heap.size, 0, none⟩) 32 32 h HH.out.len.symm rfl RI.out (by rw [HH.out.len]; decide) S0.out (Nat.le_refl _) ?_; intro v1 w1 O1 B1; have Z1 := hid (Nat.le_trans S0.out B1.out.size))
            | (go_at_call 18; (with_reducible refine (NQ.out _).mono ?_); rintro e w2 ⟨A2, c2, rfl, hc2, hf2, hb2⟩; have F2 := hid hf2.rp0; have O2 := hid (own_below O1.out hb2); have B2 := hid (B1.out.trans (hb2.mono Z1.out)); have Z2 := hid (Nat.le_trans Z1.out hb2.size); clear hc2 hf2 hb2)
            | (at_builtin; refine append_rpm rfl (.tmp 47) (.tmp 50) rfl (w.heap.size + 1) (w.heap.size + 1) _ ([] ++ h) rfl O2.out A2 2 c2 (be T 2) (by rw [be_length]) rfl F2.out L3.out Z2.out (Nat.le_refl _) ?_; intro v3 w3 O3 B3; have Z3 := hid (Nat.le_trans Z2.out B3.out.size); have B4 := hid (B0.out.trans ((B2.out.trans B3.out).mono (by omega)))))
          rw [HALL.out] at O3
          obtain ⟨A7, c7, rfl, _, hc7, hf7⟩ := fresh_of_own (w := w) O3.out (by omega)
          have F7 := hid hf7.rp0
          have HDT : Hid (∀ n, n < 34 → (digits 4 h).take (n + 1) = (digits 4 h).take n ++ [dig (kall 4 h) n 8 1]) := fun n hn => digits_take 4 h n hn
          have HXB : Hid (Bs (kall 4 h)) := by show Bs _; rw [← HALL.out]; exact bs_append (by rw [List.nil_append]; exact HH.out.bs) (be_bs _ _)
          have HXL : Hid ((kall 4 h).length = 34) := by show _ = _; rw [← HALL.out]; simp [be_length, HH.out.len]
          have DL : Hid ((digits 4 h).length = 34) := digits_length 4 h
          clear hc7 hf7 O3 O2 O1 HALL F2
          generalize kall 4 h = X at F7 HDT HXB HXL ⊢
          obtain ⟨D, hD⟩ : ∃ D, D = digits 4 h := ⟨_, rfl⟩
          rw [← hD] at HDT DL
          have HDE := hid hD
          clear hD
          go_loopw [12, 13] (fun o n wr => ∃ j : Nat, j ≤ 34 ∧ n = .int .i64 j ∧ Hid (wr.ownsRow w3.heap.size 3 1 o j (i64s (D.take j))) ∧ Hid (Below w3.heap.size w3 wr)) (fun _ n _ => 34 - (intOf n).toNat)
          case atStart => exact ⟨0, Nat.zero_le _, rfl, own_none_int _ _, Below.refl _ _⟩
          case round =>
            obtain ⟨j, hj, rfl, HO, HBW⟩ := hrel
            by_cases hlt : j < 34
            · obtain ⟨d, hd⟩ : ∃ d, d = dig X j 8 1 := ⟨_, rfl⟩
              have CD := hid (kdigit_8 A7 c7 X j wr (F7.out.belowN HBW.out) HXB.out (by rw [HXL.out]; omega) (by omega))
              rw [← hd] at CD
              have HJ : Hid (D.take (j + 1) = D.take j ++ [d]) := by show _ = _; rw [hd]; exact HDT.out j hlt
              have HLJ : Hid (j = (D.take j).length) := by show _ = _; rw [List.length_take, DL.out]; omega
              have HOA := hid (HO.out.alloc (.cells #[.int .i64 d] 3))
              have HBA : Hid (Below w3.heap.size w3 (wr.alloc (.cells #[.int .i64 d] 3))) := HBW.out.alloc HBW.out.size _
              have HC : Hid ((wr.alloc (.cells #[.int .i64 d] 3)).cell? ⟨wr.heap.size, 0, none⟩ = some (.int .i64 d)) := by show _ = _; rw [(Blk.new wr 3 #[.int .i64 d]).cell]; rfl
              have hji : (j : Int) < 34 := by omega
              clear hd HO
              go_wp2_with (first
                | (go_at_call 7; refine (CC.out _).mono ?_; rintro e w1 ⟨rfl, rfl⟩)
                | (go_at_call 17; refine CD.out.mono ?_; rintro e w1 ⟨rfl, rfl⟩)
                | (at_builtin; refine append_int rfl (.tmp 58) (.tmp 63) rfl w3.heap.size w3.heap.size _ (D.take j) j HLJ.out rfl HOA.out ⟨wr.heap.size, 0, none⟩ d rfl HC.out (by omega) HBA.out.size (Nat.le_refl _) ?_; intro v9 w9 O9 B9))
              exact ⟨⟨j + 1, by omega, by go_num, by (show World.ownsRow _ _ _ _ _ _ _); rw [HJ.out]; exact O9.out, HBA.out.trans B9.out⟩, by simp [intOf]; omega⟩
            · obtain rfl : j = 34 := by omega
              obtain ⟨A9, c9, rfl, _, hr9⟩ := ints_of_own HO.out
              have H9 := hid hr9
              have HTK : Hid (D.take 34 = D) := by show _ = _; rw [← DL.out]; exact List.take_length
              rw [HTK.out] at H9
              clear hr9 HO
              go_wp2_with (go_at_call 7; refine (CC.out _).mono ?_; rintro e w1 ⟨rfl, rfl⟩)
              go_ret
              rw [← HDE.out]
              exact ⟨A9, c9, rfl, H9.out, B4.out.trans (HBW.out.mono B4.out.size)⟩
theorem kDigits_any (k : Int) (h : List Int) (w : World) (hh : Ky h) :
    Calls Try.prog 12 #[.int .i64 k, .agg (u8s h).toArray] w fun e w' => ∃ A c, e = .returned (.slice A (kchains k) c) ∧ RpI w' A (digits k h) ∧ Below w.heap.size w w' := by
  rcases kd_cases k with rfl | rfl | rfl | rfl | hk
  · exact kDigits_1 h w hh
  · exact kDigits_2 h w hh
  · exact kDigits_3 h w hh
  · exact kDigits_4 h w hh
  · refine (kDigits_no k h w (kbits_no hk)).mono ?_
    rintro e w' ⟨rfl, hb⟩
    have h0 := kchains_no hk
    exact ⟨none, 0, by rw [h0], fun hx => by rw [digits_length, h0] at hx; omega, hb⟩
end Go.Proofs.Yteiflhgmgdibgaa
