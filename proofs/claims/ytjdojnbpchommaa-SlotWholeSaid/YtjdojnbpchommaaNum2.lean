/-
  What is proved here: what the document's own bytes of a number are.
-/
import Derived.Test.YtjdojnbpchommaaVal2
namespace Go.Proofs.Ytjdojnbpchommaa
open Go.ChangeShapes Go.WideShapes Go.ChangeAt Go.RowKit
set_option linter.unusedVariables false
set_option maxRecDepth 20000

/-- the bytes of a number, the least significant first -/
def le (x : Int) : Nat → List Int
  | 0 => []
  | n + 1 => x % 256 :: le (x / 256) n
theorem le_length (x : Int) (n : Nat) : (le x n).length = n := by
  induction n generalizing x with
  | zero => rfl
  | succ n ih => simp [le, ih]
theorem le_snoc (x : Int) (n : Nat) : le x (n + 1) = le x n ++ [x / 256 ^ n % 256] := by
  induction n generalizing x with
  | zero => simp [le]
  | succ n ih =>
    show x % 256 :: le (x / 256) (n + 1) = _
    rw [ih]
    show _ = x % 256 :: (le (x / 256) n ++ [x / 256 ^ (n + 1) % 256])
    have : x / 256 / 256 ^ n = x / 256 ^ (n + 1) := by
      rw [Int.ediv_ediv_of_nonneg (by decide), Int.pow_succ, Int.mul_comm]
    rw [this]
theorem be_rev (x : Int) (n : Nat) : be x n = (le x n).reverse := by
  induction n with
  | zero => rfl
  | succ n ih => rw [le_snoc, List.reverse_append, ← ih]; rfl
set_option maxRecDepth 5000 in
set_option maxHeartbeats 2000000 in
theorem Number_own (x : Int) (n : Nat) (w : World) (hx : 0 ≤ x ∧ x < 18446744073709551616) (hn : n ≤ 8) :
    Calls Try.prog 43 #[.int .u64 x, .int .i64 n] w fun e w' => ∃ v, e = .returned v ∧ w'.ownsRow w.heap.size 5 1 v n (u8s (be x n)) ∧ Below w.heap.size w w' := by
  obtain ⟨i0, hi, hz0, hz1, hz2⟩ := info_parts info_u8
  obtain ⟨hx0, hx1⟩ := hx
  have HX1 := hid hx1
  clear hx1
  go_enter Try.func43, Try.ntmps43
  go_wp2
  go_loopw [0, 5, 7] (fun xv tv iv wr => ∃ k : Nat, k ≤ n ∧ iv = .int .i64 k ∧ xv = .int .u64 (x / 256 ^ k) ∧ wr.ownsRow w.heap.size 5 1 tv k (u8s (le x k)) ∧ Below w.heap.size w wr) (fun _ _ iv _ => n - (intOf iv).toNat)
  case atStart => exact ⟨0, by omega, rfl, by simp, World.ownsRow_nil _ _ _ _, Below.refl _ _⟩
  case round =>
    obtain ⟨k, hk, rfl, rfl, hown, hbl⟩ := hrel
    have HOWN := hid hown; have HB := hid hbl
    clear hown hbl
    by_cases hlt : k < n
    · obtain ⟨X, hX⟩ : ∃ X, X = x / 256 ^ k := ⟨_, rfl⟩
      rw [← hX]
      have hX0 : 0 ≤ X := by rw [hX]; exact Int.ediv_nonneg hx0 (Int.le_of_lt (Int.pow_pos (by decide)))
      have HXX := hid hX
      have HXB : Hid (X < 18446744073709551616) := by
        have h1 := Int.ediv_le_self (256 ^ k) hx0
        have h2 := HX1.out
        show X < _
        rw [hX]; omega
      have HS := hid (one_src wr (X % 256))
      clear hX
      go_wp2_with (at_builtin; refine wpList_append_own _ rfl (.tmp 14) (.tmp 18) 31 rfl w.heap.size 5 i0 (.int .u8 0) 1 1 Try.underlying31 hi hz0 hz1 hz2 rfl (by decide) _ k (u8s (le x k)) rfl (HOWN.out.alloc _) ⟨wr.heap.size, 0, none⟩ 1 1 [.int .u8 (X % 256)] rfl rfl HS.out (by simp [Value.oneCell']) (by unfold maxLen; omega) (by omega) (Nat.le_trans HB.out.size (by simp)) ?_; intro v2 w2 hown2 hg2 _; have HOWN2 := hid hown2; have HB2 := hid ((HB.out.alloc HB.out.size (.cells #[.int .u8 (X % 256)] 5)).grown hg2 (Nat.le_trans HB.out.size (by simp)) (fun b hb => ((HOWN.out.alloc (.cells #[.int .u8 (X % 256)] 5)).lt b hb).1)); clear hown2 hg2)
      go_roundw
      case rel =>
        refine ⟨k + 1, by omega, by go_num, ?_, ?_, HB2.out⟩
        · have h1 := HXX.out
          have h2 := HXB.out
          have e : X / 256 = x / 256 ^ (k + 1) := by rw [h1, Int.ediv_ediv_of_nonneg (Int.le_of_lt (Int.pow_pos (by decide))), Int.pow_succ]
          rw [← e, Int.tdiv_eq_ediv_of_nonneg hX0, u64_keep _ (by omega) (by omega)]
        · rw [le_snoc, u8s_snoc, ← HXX.out]; exact HOWN2.out
      case measure => simp [intOf]; omega
    · obtain rfl : k = n := by omega
      obtain ⟨wo, rfl⟩ : ∃ wo : World, wo = wr := ⟨_, rfl⟩
      obtain ⟨A', c', rfl, _, hc', hf⟩ := fresh_of_own HOWN.out (Nat.le_refl _)
      have HF := hid hf
      have HBE := hid (be_rev x k)
      clear hf hc' HOWN
      go_wp2
      go_loopw [6, 8] (fun ov iv wr => ∃ j : Nat, j ≤ k ∧ iv = .int .i64 ((k : Int) - 1 - j) ∧ wr.ownsRow wo.heap.size 5 1 ov j (u8s ((be x k).take j)) ∧ Below wo.heap.size wo wr) (fun _ iv _ => (intOf iv + 1).toNat)
      case atStart => exact ⟨0, by omega, by simp, World.ownsRow_nil _ _ _ _, Below.refl _ _⟩
      case round =>
        obtain ⟨j, hj, rfl, hown, hbl⟩ := hrel
        have HOWN := hid hown; have HBO := hid hbl
        clear hown hbl
        by_cases hlt2 : j < k
        · have hlen : (le x k).length = k := le_length x k
          obtain ⟨g, cur, rfl, hg, hb, hcc⟩ := HF.out (by omega)
          obtain ⟨i, hi'⟩ : ∃ i : Nat, i = k - 1 - j := ⟨_, rfl⟩
          have hi2 : (k : Int) - 1 - j = i := by omega
          rw [hi2]
          have hik : i < k := by omega
          have hbl := hb.same (HBO.out.block g hb.lt)
          obtain ⟨y, hy⟩ : ∃ y, y = (le x k)[i]?.getD 0 := ⟨_, rfl⟩
          have cy : wr.cell? ⟨g, i, none⟩ = some (.int .u8 y) := by rw [hbl.cell, hcc i (by omega), hy]
          have HY := hid hy; have HI := hid hi'; have HI2 := hid hi2; have HLL := hid hlen
          have HS := hid (one_src wr y)
          clear hcc hb hbl hy hi' hi2 hlen hg
          go_wp2_with (at_builtin; refine wpList_append_own _ rfl (.tmp 28) (.tmp 33) 31 rfl wo.heap.size 5 i0 (.int .u8 0) 1 1 Try.underlying31 hi hz0 hz1 hz2 rfl (by decide) _ j (u8s ((be x k).take j)) rfl (HOWN.out.alloc _) ⟨wr.heap.size, 0, none⟩ 1 1 [.int .u8 y] rfl rfl HS.out (by simp [Value.oneCell']) (by unfold maxLen; omega) (by omega) (Nat.le_trans HBO.out.size (by simp)) ?_; intro v2 w2 hown2 hg2 _; have HOWN2 := hid hown2; have HB2 := hid ((HBO.out.alloc HBO.out.size (.cells #[.int .u8 y] 5)).grown hg2 (Nat.le_trans HBO.out.size (by simp)) (fun b hb => ((HOWN.out.alloc (.cells #[.int .u8 y] 5)).lt b hb).1)); clear hown2 hg2)
          go_roundw
          case rel =>
            refine ⟨j + 1, by omega, by rw [← HI2.out]; go_num, ?_, HB2.out⟩
            have e : (be x k).take (j + 1) = (be x k).take j ++ [y] := by
              rw [List.take_succ_eq_append_getElem (by rw [be_length]; omega)]
              congr 2
              have h1 : (be x k)[j]? = (le x k)[k - 1 - j]? := by
                rw [HBE.out, List.getElem?_reverse (by rw [HLL.out]; omega), HLL.out]
              have h2 := HY.out
              rw [HI.out, ← h1, List.getElem?_eq_getElem (by rw [be_length]; omega)] at h2
              exact h2.symm
            rw [e, u8s_snoc]
            exact HOWN2.out
          case measure => first | (simp [intOf]; done) | (simp [intOf]; omega)
        · have hjk : j = k := by omega
          subst hjk
          have hw := HOWN.out
          rw [List.take_of_length_le (by rw [be_length]; omega)] at hw
          have HW2 := hid (own_mono hw HB.out.size)
          clear hw
          go_wp2
          go_ret
          exact ⟨_, rfl, HW2.out, HB.out.trans (HBO.out.mono HB.out.size)⟩
theorem Number_any (x : Int) (n : Nat) (w : World) (hx : 0 ≤ x ∧ x < 18446744073709551616) (hn : n ≤ 8) :
    Calls Try.prog 43 #[.int .u64 x, .int .i64 n] w fun e w' => ∃ A c, e = .returned (.slice A n c) ∧ n ≤ c ∧ Fresh w w' A (be x n) ∧ Below w.heap.size w w' :=
  (Number_own x n w hx hn).mono fun e w' ⟨v, he, ho, hb⟩ => by
    obtain ⟨A, c, rfl, _, hc, hf⟩ := fresh_of_own ho (Nat.le_refl _)
    exact ⟨A, c, he, hc, hf, hb⟩
end Go.Proofs.Ytjdojnbpchommaa
