/-
  What is proved here: how many first bits two keys share, as the document tells it.
-/
import Derived.Test.YtdaobhclcpgjbaaPQuiet
namespace Go.Proofs.Ytdaobhclcpgjbaa
open Go.ChangeShapes Go.WideShapes Go.ChangeAt Go.RowKit
set_option linter.unusedVariables false

set_option maxHeartbeats 1000000 in
theorem rShared_any (K L : List Int) (hK : Ky K) (hL : Ky L) (w : World) :
    Calls Try.prog 13 #[.agg (kc K), .agg (kc L)] w fun e w' => e = .returned (.int .i64 (shr K L)) ∧ Below w.heap.size w w' := by
  have hk1 : Blk ((w.alloc (.cells (kc K) 23)).alloc (.cells (kc L) 23)) w.heap.size 23 (kc K) := (Blk.new w 23 _).alloc _
  have hk2 : Blk ((w.alloc (.cells (kc K) 23)).alloc (.cells (kc L) 23)) (w.heap.size + 1) 23 (kc L) := by
    have := Blk.new (w.alloc (.cells (kc K) 23)) 23 (kc L)
    rwa [show (w.alloc (.cells (kc K) 23)).heap.size = w.heap.size + 1 by simp] at this
  have hb0 : Below w.heap.size w ((w.alloc (.cells (kc K) 23)).alloc (.cells (kc L) 23)) := ((Below.refl _ _).alloc (Nat.le_refl _) _).alloc (by simp) _
  have K1 := hid hk1; have K2 := hid hk2; have B0 := hid hb0
  clear hk1 hk2 hb0
  obtain ⟨S, hS⟩ : ∃ S, S = shr K L := ⟨_, rfl⟩
  have HS := hid hS
  rw [← hS]
  clear hS
  go_enter Try.func13, Try.ntmps13
  go_wp2
  generalize (w.alloc (.cells (kc K) 23)).alloc (.cells (kc L) 23) = w0 at K1 K2 B0 ⊢
  go_loopw [5] (fun n wr => ∃ k : Nat, k ≤ 256 ∧ n = .int .i64 k ∧ Hid (∀ i, i < k → bit K i = bit L i) ∧ Hid (Blk wr w.heap.size 23 (kc K)) ∧ Hid (Blk wr (w.heap.size + 1) 23 (kc L)) ∧ Hid (Below w.heap.size w wr)) (fun n _ => 256 - (intOf n).toNat)
  case atStart => exact ⟨0, Nat.zero_le _, rfl, fun i hi => by omega, K1.out, K2.out, B0.out⟩
  case round =>
    obtain ⟨k, hk, rfl, HE, HK1, HK2, HB⟩ := hrel
    clear K1 K2 B0
    by_cases hlt : k < 256
    · have CA := hid (fun w => rBit_in K hK k hlt w)
      have CB := hid (fun w => rBit_in L hL k hlt w)
      have hlti : (k : Int) < 256 := by omega
      obtain ⟨x, hx⟩ : ∃ x, x = bit K k := ⟨_, rfl⟩
      obtain ⟨y, hy⟩ : ∃ y, y = bit L k := ⟨_, rfl⟩
      rw [← hx] at CA
      rw [← hy] at CB
      have HX := hid hx; have HY := hid hy
      clear hx hy
      by_cases he : x = y
      · subst he
        go_wp2
        refine region_kept (Kp wr) (by kernel_rfl) (by kernel_rfl) (kp_begin wr) ?_
        repeat (first
          | go_big_quiet_skip
          | (go_big_quiet_want; refine quiet_load 23 (.tmp 2) rfl w.heap.size 0 rfl (u8s K) _ (fun p => kp_key HK1.out p) Try.underlying23 rfl (u8s_info hK) (kc K) rfl ?_; go_big_quiet_on; simp only [Act.put, List.setIfInBounds_toArray, List.set_cons_zero, List.set_cons_succ])
          | (go_big_quiet_want; refine quiet_load 23 (.tmp 3) rfl (w.heap.size + 1) 0 rfl (u8s L) _ (fun p => kp_key HK2.out p) Try.underlying23 rfl (u8s_info hL) (kc L) rfl ?_; go_big_quiet_on; simp only [Act.put, List.setIfInBounds_toArray, List.set_cons_zero, List.set_cons_succ])
          | (go_big_quiet_want; go_big_quiet_op; first | go_big_quiet_on | go_big_quiet_call (first | (with_reducible exact kp_call (CA.out _)) | (with_reducible exact kp_call (CB.out _)))))
        refine wpQuiet_nil ?_
        intro _ hw'
        obtain ⟨p, hw''⟩ := hw'
        subst hw''
        go_wp2
        exact ⟨⟨k + 1, by omega, by go_num, fun i hi => by
          rcases Nat.lt_or_ge i k with h | h
          · exact HE.out i h
          · rw [show i = k by omega, ← HX.out, ← HY.out], HK1.out.below p.h, HK2.out.below p.h, HB.out.trans (Below.mono p.h HB.out.size)⟩, by simp [intOf]; omega⟩
      · have h1 : (x == y) = false := by simpa using he
        have HSK : Hid (S = k) := by
          show _ = _
          rw [HS.out]
          exact (IsShr.eq ⟨by omega, HE.out, fun _ => by rw [← HX.out, ← HY.out]; exact he⟩).symm
        clear he
        go_wp2
        refine region_kept (Kp wr) (by kernel_rfl) (by kernel_rfl) (kp_begin wr) ?_
        repeat (first
          | go_big_quiet_skip
          | (go_big_quiet_want; refine quiet_load 23 (.tmp 2) rfl w.heap.size 0 rfl (u8s K) _ (fun p => kp_key HK1.out p) Try.underlying23 rfl (u8s_info hK) (kc K) rfl ?_; go_big_quiet_on; simp only [Act.put, List.setIfInBounds_toArray, List.set_cons_zero, List.set_cons_succ])
          | (go_big_quiet_want; refine quiet_load 23 (.tmp 3) rfl (w.heap.size + 1) 0 rfl (u8s L) _ (fun p => kp_key HK2.out p) Try.underlying23 rfl (u8s_info hL) (kc L) rfl ?_; go_big_quiet_on; simp only [Act.put, List.setIfInBounds_toArray, List.set_cons_zero, List.set_cons_succ])
          | (go_big_quiet_want; go_big_quiet_op; first | go_big_quiet_on | go_big_quiet_call (first | (with_reducible exact kp_call (CA.out _)) | (with_reducible exact kp_call (CB.out _)))))
        refine wpQuiet_nil ?_
        intro _ hw'
        obtain ⟨p, hw''⟩ := hw'
        subst hw''
        go_wp2
        go_ret
        exact ⟨congrArg (fun q : Nat => Ending.returned (.int .i64 (q : Int))) HSK.out.symm, HB.out.trans (Below.mono p.h HB.out.size)⟩
    · have he : k = 256 := by omega
      subst he
      have HS2 : Hid (S = 256) := by
        show _ = _
        rw [HS.out]
        exact (IsShr.eq ⟨Nat.le_refl _, HE.out, fun h => absurd h (by decide)⟩).symm
      go_wp2
      refine region_kept (Kp wr) (by kernel_rfl) (by kernel_rfl) (kp_begin wr) ?_
      repeat (first
        | go_big_quiet_skip
        | (go_big_quiet_want; go_big_quiet_op; go_big_quiet_on))
      refine wpQuiet_nil ?_
      intro _ hw'
      obtain ⟨p, hw''⟩ := hw'
      subst hw''
      go_wp2
      go_ret
      exact ⟨congrArg (fun q : Nat => Ending.returned (.int .i64 (q : Int))) HS2.out.symm, HB.out.trans (Below.mono p.h HB.out.size)⟩
end Go.Proofs.Ytdaobhclcpgjbaa
