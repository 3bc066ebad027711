/-
  What is proved here: a byte's turning, and what Bit answers, the code's and the document's.
-/
import Derived.Test.YtdaobhclcpgjbaaPBase
namespace Go.Proofs.Ytdaobhclcpgjbaa
open Go.ChangeShapes Go.WideShapes Go.ChangeAt Go.RowKit
set_option linter.unusedVariables false

/-- a byte turned to the left -/
def rot (x : Int) (s : Nat) : Int := bits .or .u8 (x * 2 ^ s % 256) (x / 2 ^ (8 - s))
theorem cnt_up : ∀ t : Fin 8, bits .and .u64 (IntKind.u64.wrap ((t.val : Int) + 1)) 7 = (((t.val + 1) % 8 : Nat) : Int) := by decide +kernel
theorem cnt_down : ∀ t : Fin 8, bits .and .u64 (IntKind.u64.wrap (-((t.val : Int) + 1))) 7 = ((7 - t.val : Nat) : Int) := by decide +kernel
theorem rot_bit_f : ∀ t : Fin 8, ∀ x : Fin 256, bits .and .u8 (rot (x.val : Int) ((t.val + 1) % 8)) 1 = bt (x.val : Int) t.val := by decide +kernel
theorem rot_bit (x : Int) (h0 : 0 ≤ x) (h1 : x < 256) (t : Nat) (ht : t < 8) : bits .and .u8 (rot x ((t + 1) % 8)) 1 = bt x t := by
  have h := rot_bit_f ⟨t, ht⟩ ⟨x.toNat, by omega⟩
  simp only at h
  rwa [show ((x.toNat : Nat) : Int) = x by omega] at h

set_option maxHeartbeats 400000 in
theorem rotb_any (x : Int) (h0 : 0 ≤ x) (h1 : x < 256) (k : Int) (s : Nat) (hs : s < 8) (hc : bits .and .u64 (IntKind.u64.wrap k) 7 = (s : Int)) (w : World) :
    Calls Try.prog 28 #[.int .u8 x, .int .i64 k] w fun e w' => e = .returned (.int .u8 (rot x s)) ∧ w = w' := by
  go_enter Try.func28, Try.ntmps28
  go_wp2
  go_ret
  exact ⟨rfl, rfl⟩

set_option maxHeartbeats 400000 in
theorem pBit_in (K : List Int) (hK : Ky K) (i : Nat) (hi : i < 256) (w : World) :
    Calls Try.prog 10 #[.agg (kc K), .int .i64 i] w fun e w' => e = .returned (.int .i64 (bit K i)) ∧ Below w.heap.size w w' := by
  have hc := kc_at hK (i / 8) (by omega)
  have hb := hK.bs.at (i / 8)
  have hr := fun w => rotb_any (K[i / 8]?.getD 0) hb.1 hb.2 (↑i % 8 + 1) ((i % 8 + 1) % 8) (by omega) (by have := cnt_up ⟨i % 8, by omega⟩; simpa using this) w
  have hx : bits .and .u8 (rot (K[i / 8]?.getD 0) ((i % 8 + 1) % 8)) 1 = bit K i := rot_bit _ hb.1 hb.2 (i % 8) (by omega)
  generalize rot (K[i / 8]?.getD 0) ((i % 8 + 1) % 8) = r at hr hx
  have b01 := bit01 K i
  have b0 : 0 ≤ bit K i := by omega
  have b1 : bit K i ≤ 1 := by omega
  generalize bit K i = v at hx b0 b1 ⊢
  have HR := hid hr
  clear hr b01
  go_enter Try.func10, Try.ntmps10
  go_wp2_with (go_at_call 28; refine (HR.out _).mono ?_; rintro e w1 ⟨rfl, rfl⟩)
  go_ret
  exact ⟨rfl, (Below.refl _ _).alloc (Nat.le_refl _) _⟩
set_option maxHeartbeats 400000 in
theorem pBit_out (K : List Int) (i : Int) (hi : i < 0 ∨ 256 ≤ i) (w : World) :
    Calls Try.prog 10 #[.agg (kc K), .int .i64 i] w fun e w' => e = .returned (.int .i64 0) ∧ Below w.heap.size w w' := by
  rcases hi with hi | hi
  · go_enter Try.func10, Try.ntmps10
    go_wp2
    go_ret
    exact ⟨rfl, (Below.refl _ _).alloc (Nat.le_refl _) _⟩
  · have h0 : ¬ i < 0 := by omega
    go_enter Try.func10, Try.ntmps10
    go_wp2
    go_ret
    exact ⟨rfl, (Below.refl _ _).alloc (Nat.le_refl _) _⟩
theorem pBit_any (K : List Int) (hK : Ky K) (i : Int) (w : World) :
    Calls Try.prog 10 #[.agg (kc K), .int .i64 i] w fun e w' => e = .returned (.int .i64 (bitI K i)) ∧ Below w.heap.size w w' := by
  by_cases h : i < 0 ∨ 256 ≤ i
  · rw [bitI_out K i h]; exact pBit_out K i h w
  · obtain ⟨n, rfl⟩ : ∃ n : Nat, i = n := ⟨i.toNat, by omega⟩
    rw [bitI_in K n (by omega)]; exact pBit_in K hK n (by omega) w

theorem div_step (x : Int) (n : Nat) : x / 2 ^ n / 2 = x / 2 ^ (n + 1) := by
  rw [Int.ediv_ediv_of_nonneg (Int.pow_nonneg (by decide)), Int.pow_succ]
set_option maxHeartbeats 400000 in
theorem rBit_in (K : List Int) (hK : Ky K) (i : Nat) (hi : i < 256) (w : World) :
    Calls Try.prog 11 #[.agg (kc K), .int .i64 i] w fun e w' => e = .returned (.int .i64 (bit K i)) ∧ Below w.heap.size w w' := by
  have hc := kc_at hK (i / 8) (by omega)
  have hb := hK.bs.at (i / 8)
  have hbit : bit K i = (K[i / 8]?.getD 0) / 2 ^ (7 - i % 8) % 2 := rfl
  generalize K[i / 8]?.getD 0 = x at hc hb hbit
  obtain ⟨b0, b1⟩ := hb
  rw [hbit]
  clear hbit
  obtain ⟨m, hm, hm2⟩ : ∃ m : Nat, m = 7 - i % 8 ∧ (7 : Int) - (i : Int) % 8 = m := ⟨_, rfl, by omega⟩
  have HM := hid hm
  rw [← hm]
  clear hm
  go_enter Try.func11, Try.ntmps11
  go_wp2
  go_loop [5, 6] (fun y n => ∃ k : Nat, k ≤ m ∧ n = .int .i64 k ∧ y = .int .i64 (x / 2 ^ k)) (fun _ n => m - (intOf n).toNat)
  case atStart => exact ⟨0, Nat.zero_le _, rfl, by simp⟩
  case round =>
    obtain ⟨k, hk, rfl, rfl⟩ := hrel
    have hq0 : 0 ≤ x / 2 ^ k := Int.ediv_nonneg b0 (Int.pow_nonneg (by decide))
    have hq1 : x / 2 ^ k < 256 := Int.lt_of_le_of_lt (Int.ediv_le_self _ b0) b1
    have hs := div_step x k
    have HS := hid hs
    have hm7 : m ≤ 7 := by have := HM.out; omega
    clear hs
    by_cases hlt : k < m
    · go_wp2
      go_round
      case rel => exact ⟨k + 1, by omega, by go_num, by rw [← HS.out]⟩
      case measure => simp [intOf]; omega
    · have he : k = m := by omega
      subst he
      go_wp2
      go_ret
      exact ⟨rfl, (Below.refl _ _).alloc (Nat.le_refl _) _⟩
set_option maxHeartbeats 400000 in
theorem rBit_out (K : List Int) (i : Int) (hi : i < 0 ∨ 256 ≤ i) (w : World) :
    Calls Try.prog 11 #[.agg (kc K), .int .i64 i] w fun e w' => e = .returned (.int .i64 0) ∧ Below w.heap.size w w' := by
  rcases hi with hi | hi
  · go_enter Try.func11, Try.ntmps11
    go_wp2
    go_ret
    exact ⟨rfl, (Below.refl _ _).alloc (Nat.le_refl _) _⟩
  · have h0 : ¬ i < 0 := by omega
    go_enter Try.func11, Try.ntmps11
    go_wp2
    go_ret
    exact ⟨rfl, (Below.refl _ _).alloc (Nat.le_refl _) _⟩
theorem rBit_any (K : List Int) (hK : Ky K) (i : Int) (w : World) :
    Calls Try.prog 11 #[.agg (kc K), .int .i64 i] w fun e w' => e = .returned (.int .i64 (bitI K i)) ∧ Below w.heap.size w w' := by
  by_cases h : i < 0 ∨ 256 ≤ i
  · rw [bitI_out K i h]; exact rBit_out K i h w
  · obtain ⟨n, rfl⟩ : ∃ n : Nat, i = n := ⟨i.toNat, by omega⟩
    rw [bitI_in K n (by omega)]; exact rBit_in K hK n (by omega) w
end Go.Proofs.Ytdaobhclcpgjbaa
