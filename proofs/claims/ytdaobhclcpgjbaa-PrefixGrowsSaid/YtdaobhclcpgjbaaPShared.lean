/-
  What is proved here: how many first bits two keys share, as the code and as the document tell it.
-/
import Derived.Test.YtdaobhclcpgjbaaPBit
import Derived.Test.YtdaobhclcpgjbaaKc
namespace Go.Proofs.Ytdaobhclcpgjbaa
open Go.ChangeShapes Go.WideShapes Go.ChangeAt Go.RowKit
set_option linter.unusedVariables false

theorem below_drewN {B : Nat} {a w : World} (h : Below B a w) (n : Nat) : Below B a (w.drewN n) := ⟨h.os, h.tape, h.output, h.size, h.block⟩
theorem lenb_any (x : Int) (h0 : 0 ≤ x) (h1 : x ≤ 255) (w : World) :
    Calls Try.prog 32 #[.int .u8 x] w fun e w' => e = .returned (.int .i64 (Lib.bitLen x.toNat)) ∧ w = w' := by
  have hq : wrap64 (Lib.len8 x) = (Lib.bitLen x.toNat : Int) := by
    have h := Lib.len8_int x h0 h1
    rw [← h]
    unfold wrap64
    rfl
  go_enter Try.func32, Try.ntmps32
  go_wp2
  go_ret
  exact ⟨congrArg (fun q => Ending.returned (.int .i64 q)) hq, rfl⟩
theorem lzb_any (c : Nat) (h : c < 256) (w : World) :
    Calls Try.prog 29 #[.int .u8 c] w fun e w' => e = .returned (.int .i64 (8 - (Lib.bitLen c : Int))) ∧ w' = w := by
  have l := Lib.bitLen_le8 ⟨c, h⟩
  simp only at l
  have hl := fun w => lenb_any c (by omega) (by omega) w
  rw [show ((c : Nat) : Int).toNat = c by omega] at hl
  generalize Lib.bitLen c = n at l hl ⊢
  have HL := hid hl
  clear hl
  go_enter Try.func29, Try.ntmps29
  go_wp2_with (go_at_call 32; refine (HL.out _).mono ?_; rintro e w' ⟨rfl, rfl⟩)
  go_ret
  exact ⟨rfl, rfl⟩

set_option maxHeartbeats 1000000 in
theorem pShared_any (K L : List Int) (hK : Ky K) (hL : Ky L) (w : World) :
    Calls Try.prog 12 #[.agg (kc K), .agg (kc L)] w fun e w' => e = .returned (.int .i64 (shr K L)) ∧ Below w.heap.size w w' := by
  have hk1 : Blk ((w.alloc (.cells (kc K) 23)).alloc (.cells (kc L) 23)) w.heap.size 23 (kc K) := (Blk.new w 23 _).alloc _
  have hk2 : Blk ((w.alloc (.cells (kc K) 23)).alloc (.cells (kc L) 23)) (w.heap.size + 1) 23 (kc L) := by
    have := Blk.new (w.alloc (.cells (kc K) 23)) 23 (kc L)
    rwa [show (w.alloc (.cells (kc K) 23)).heap.size = w.heap.size + 1 by simp] at this
  have hb0 : Below w.heap.size w ((w.alloc (.cells (kc K) 23)).alloc (.cells (kc L) 23)) := ((Below.refl _ _).alloc (Nat.le_refl _) _).alloc (by simp) _
  have K1 := hid hk1; have K2 := hid hk2; have B0 := hid hb0
  clear hk1 hk2 hb0
  obtain ⟨S, hS⟩ : ∃ S, S = shr K L := ⟨_, rfl⟩
  have HS := hid hS
  rw [← hS]
  clear hS
  go_enter Try.func12, Try.ntmps12
  go_wp2
  generalize (w.alloc (.cells (kc K) 23)).alloc (.cells (kc L) 23) = w0 at K1 K2 B0 ⊢
  go_loopw [5, 6] (fun _ n wr => ∃ k : Nat, k ≤ 32 ∧ n = .int .i64 k ∧ Hid (∀ i, i < k → K[i]?.getD 0 = L[i]?.getD 0) ∧ Hid (Blk wr w.heap.size 23 (kc K)) ∧ Hid (Blk wr (w.heap.size + 1) 23 (kc L)) ∧ Hid (Below w.heap.size w wr)) (fun _ n _ => 32 - (intOf n).toNat)
  case atStart => exact ⟨0, Nat.zero_le _, rfl, fun i hi => by omega, K1.out, K2.out, B0.out⟩
  case round =>
    obtain ⟨k, hk, rfl, HE, HK1, HK2, HB⟩ := hrel
    clear K1 K2 B0
    by_cases hlt : k < 32
    · obtain ⟨x, hx⟩ : ∃ x, x = K[k]?.getD 0 := ⟨_, rfl⟩
      obtain ⟨y, hy⟩ : ∃ y, y = L[k]?.getD 0 := ⟨_, rfl⟩
      have c1 : wr.cell? ⟨w.heap.size, k, none⟩ = some (.int .u8 x) := by rw [HK1.out.cell, hx]; exact kc_at hK k hlt
      have c2 : wr.cell? ⟨w.heap.size + 1, k, none⟩ = some (.int .u8 y) := by rw [HK2.out.cell, hy]; exact kc_at hL k hlt
      have i0 : (0 : Int) ≤ (k : Int) := by omega
      have i1 : (k : Int) < 32 := by omega
      have HX := hid hx; have HY := hid hy
      clear hx hy
      by_cases he : x = y
      · subst he
        go_wp2
        go_quiet (fail)
        go_wp2
        exact ⟨⟨k + 1, by omega, by go_num, fun i hi => by
          rcases Nat.lt_or_ge i k with h | h
          · exact HE.out i h
          · rw [show i = k by omega, ← HX.out, ← HY.out], HK1.out, HK2.out, ⟨HB.out.os, HB.out.tape, HB.out.output, HB.out.size, HB.out.block⟩⟩, by simp [intOf]; omega⟩
      · have h1 : (x == y) = false := by simpa using he
        have h2 : (x != y) = true := by simpa using he
        obtain ⟨c, hc, hcl, hc8, hc0, hsh⟩ := shr_xor hK hL k hlt HE.out (by rw [← HX.out, ← HY.out]; exact he)
        rw [← HX.out, ← HY.out] at hc
        have HSH := hid hsh
        have HL := hid (fun w => lzb_any c hcl w)
        generalize Lib.bitLen c = n at hc8 hc0 HSH HL
        have s1 : IntKind.i64.wrap (8 * (k : Int)) = 8 * k := IntWalk.i64_in _ (by omega)
        have s2 : IntKind.i64.wrap (8 - (n : Int)) = 8 - n := IntWalk.i64_in _ (by omega)
        have s3 : IntKind.i64.wrap (8 * (k : Int) + (8 - (n : Int))) = 8 * k + (8 - n) := IntWalk.i64_in _ (by omega)
        clear hsh he
        go_wp2
        go_quiet (fail)
        have d1 : (wr.drewN nq).cell? ⟨w.heap.size, k, none⟩ = some (.int .u8 x) := c1
        have d2 : (wr.drewN nq).cell? ⟨w.heap.size + 1, k, none⟩ = some (.int .u8 y) := c2
        have HB2 : Hid (Below w.heap.size w (wr.drewN nq)) := ⟨HB.out.os, HB.out.tape, HB.out.output, HB.out.size, HB.out.block⟩
        clear c1 c2 HB
        generalize wr.drewN nq = wd at d1 d2 HB2 ⊢
        go_wp2
        go_quiet ((go_at_call 29; exact Calls.quiet_of_same (HL.out _)))
        go_wp2
        have HSI : Hid (8 * (k : Int) + (8 - (n : Int)) = (S : Int)) := by
          have h1 := HSH.out; have h2 := HS.out
          show _ = _
          omega
        go_ret
        exact ⟨congrArg (fun q => Ending.returned (.int .i64 q)) HSI.out, below_drewN HB2.out _⟩
    · have he : k = 32 := by omega
      subst he
      have HS2 : Hid (S = 256) := by show _ = _; rw [HS.out]; exact shr_full HE.out
      go_wp2
      go_ret
      exact ⟨congrArg (fun q : Nat => Ending.returned (.int .i64 (q : Int))) HS2.out.symm, HB.out⟩
end Go.Proofs.Ytdaobhclcpgjbaa
