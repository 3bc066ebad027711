/-
  What is proved here: which of two keys is less, as the code and as the document tell it.
-/
import Derived.Test.YtdaobhclcpgjbaaPSharedR
import Derived.Test.YtdaobhclcpgjbaaKd
import Derived.Laws.Externs
namespace Go.Proofs.Ytdaobhclcpgjbaa
open Go.ChangeShapes Go.WideShapes Go.ChangeAt Go.RowKit
set_option linter.unusedVariables false

theorem blk_bytes {w : World} {g : Nat} {t : TypeId} {K : List Int} (h : Blk w g t (kc K)) :
    (Extern.Bytes.bytesOf (.slice (some ⟨g, 0, none⟩) K.length K.length)).run Try.prog w = .ok ⟨(Lib.bytesOf K).toArray⟩ w := by
  have hl := Lib.run_loadBytesX (P := Try.prog) w K ⟨g, 0, none⟩ .empty (fun j x hj => by
    rw [Addr.add_mid, h.cell, Nat.zero_add, kc, List.getElem?_toArray]
    unfold u8s
    rw [List.getElem?_map, hj]; rfl)
  have e : (ByteArray.empty.data ++ (Lib.bytesOf K).toArray) = (Lib.bytesOf K).toArray := by show (#[] ++ _) = _; simp
  rw [e] at hl
  exact hl
theorem baComp_run {w : World} {g1 g2 : Nat} {t1 t2 : TypeId} {K L : List Int} (hK : Ky K) (hL : Ky L) (h1 : Blk w g1 t1 (kc K)) (h2 : Blk w g2 t2 (kc L)) :
    (callFunc 33 #[.slice (some ⟨g1, 0, none⟩) 32 32, .slice (some ⟨g2, 0, none⟩) 32 32]).run Try.prog w = .ok (.value (.int .i64 (Lib.compareBytes (Lib.bytesOf K) (Lib.bytesOf L)))) w := by
  rw [run_callFunc_extern Try.func33 (by kernel_rfl) (by kernel_rfl) (by kernel_rfl) (e := Extern.BytealgCompare.compare) (by kernel_rfl)]
  have e1 := blk_bytes h1
  have e2 := blk_bytes h2
  rw [hK.len] at e1
  rw [hL.len] at e2
  change (Sem.run Try.prog (do pure (goInt (Extern.BytealgCompare.cmp (← Extern.Bytes.bytesOf (.slice (some ⟨g1, 0, none⟩) 32 32)) (← Extern.Bytes.bytesOf (.slice (some ⟨g2, 0, none⟩) 32 32))))) w).andThen _ = _
  simp only [Sem.run_bind, e1, e2, Result.andThen_ok, Sem.run_pure, Lib.cmp_eq]
  rfl
theorem bComp_any {w : World} {g1 g2 : Nat} {t1 t2 : TypeId} {K L : List Int} (hK : Ky K) (hL : Ky L) (h1 : Blk w g1 t1 (kc K)) (h2 : Blk w g2 t2 (kc L)) :
    Calls Try.prog 30 #[.slice (some ⟨g1, 0, none⟩) 32 32, .slice (some ⟨g2, 0, none⟩) 32 32] w fun e w' => e = .returned (.int .i64 (Lib.compareBytes (Lib.bytesOf K) (Lib.bytesOf L))) ∧ w' = w := by
  have hr := baComp_run hK hL h1 h2
  clear h1 h2 hK hL
  go_enter Try.func30, Try.ntmps30
  go_wp2
  go_ret
  exact ⟨rfl, rfl⟩
set_option maxHeartbeats 1000000 in
theorem pLess_any (K L : List Int) (hK : Ky K) (hL : Ky L) (w : World) :
    Calls Try.prog 14 #[.agg (kc K), .agg (kc L)] w fun e w' => e = .returned (.bool (lss K L)) ∧ Below w.heap.size w w' := by
  have hk1 : Blk ((w.alloc (.cells (kc K) 23)).alloc (.cells (kc L) 23)) w.heap.size 23 (kc K) := (Blk.new w 23 _).alloc _
  have hk2 : Blk ((w.alloc (.cells (kc K) 23)).alloc (.cells (kc L) 23)) (w.heap.size + 1) 23 (kc L) := by
    have := Blk.new (w.alloc (.cells (kc K) 23)) 23 (kc L)
    rwa [show (w.alloc (.cells (kc K) 23)).heap.size = w.heap.size + 1 by simp] at this
  have hb0 : Below w.heap.size w ((w.alloc (.cells (kc K) 23)).alloc (.cells (kc L) 23)) := ((Below.refl _ _).alloc (Nat.le_refl _) _).alloc (by simp) _
  have K1 := hid hk1; have K2 := hid hk2; have B0 := hid hb0
  clear hk1 hk2 hb0
  have HC := hid (comp_lss hK hL)
  go_enter Try.func14, Try.ntmps14
  go_wp2
  generalize (w.alloc (.cells (kc K) 23)).alloc (.cells (kc L) 23) = w0 at K1 K2 B0 ⊢
  have CC := hid (fun n => bComp_any (w := w0.drewN n) hK hL (K1.out.same rfl) (K2.out.same rfl))
  generalize Lib.compareBytes (Lib.bytesOf K) (Lib.bytesOf L) = c at CC HC
  go_quiet ((go_at_call 30; exact Calls.quiet_of_same (CC.out _)))
  go_wp2
  go_ret
  exact ⟨congrArg (fun q : Bool => Ending.returned (.bool q)) HC.out, below_drewN B0.out _⟩
theorem two_blks (w : World) (A B : Array Value) (t s : TypeId) : Blk ((w.alloc (.cells A t)).alloc (.cells B s)) w.heap.size t A ∧ Blk ((w.alloc (.cells A t)).alloc (.cells B s)) (w.heap.size + 1) s B ∧ Below w.heap.size w ((w.alloc (.cells A t)).alloc (.cells B s)) := by
  refine ⟨(Blk.new w t _).alloc _, ?_, ((Below.refl _ _).alloc (Nat.le_refl _) _).alloc (by simp) _⟩
  have := Blk.new (w.alloc (.cells A t)) s B
  rwa [show (w.alloc (.cells A t)).heap.size = w.heap.size + 1 by simp] at this
set_option maxHeartbeats 1000000 in
theorem rLess_any (K L : List Int) (hK : Ky K) (hL : Ky L) (w : World) :
    Calls Try.prog 15 #[.agg (kc K), .agg (kc L)] w fun e w' => e = .returned (.bool (lss K L)) ∧ Below w.heap.size w w' := by
  obtain ⟨hk1, hk2, hb0⟩ := two_blks w (kc K) (kc L) 23 23
  have K1 := hid hk1; have K2 := hid hk2; have B0 := hid hb0
  clear hk1 hk2 hb0
  have CS := hid (fun w => rShared_any K L hK hL w)
  have hS := (shr_is K L).le
  have hq : lss K L = decide (shr K L < 256 ∧ bit K (shr K L) = 0) := rfl
  generalize shr K L = S at CS hq hS
  by_cases hlt : S < 256
  · have CB := hid (fun w => rBit_in K hK S hlt w)
    generalize bit K S = v at CB hq
    have HQ := hid hq
    clear hq
    have hlti : (S : Int) < 256 := by omega
    have tok : True := trivial
    go_enter Try.func15, Try.ntmps15
    go_wp2_with (first
      | (refine load_at rfl 23 (.tmp 2) rfl w.heap.size 0 rfl (u8s K) _ (blk_key K1.out) Try.underlying23 rfl (u8s_info hK) (kc K) rfl ?_)
      | (refine load_at rfl 23 (.tmp 3) rfl (w.heap.size + 1) 0 rfl (u8s L) _ (blk_key K2.out) Try.underlying23 rfl (u8s_info hL) (kc L) rfl ?_)
      | (go_at_call 13; refine (CS.out _).mono ?_; rintro e w1 ⟨rfl, hb1⟩; have K3 := hid (K1.out.below hb1); have B1 := hid (B0.out.trans (hb1.mono B0.out.size)); clear hb1)
      | (refine load_at rfl 23 (.tmp 2) rfl w.heap.size 0 rfl (u8s K) _ (blk_key K3.out) Try.underlying23 rfl (u8s_info hK) (kc K) rfl ?_)
      | (go_at_call 11; refine (CB.out _).mono ?_; rintro e w2 ⟨rfl, hb2⟩; have B2 := hid (B1.out.trans (hb2.mono B1.out.size)); clear hb2))
    go_ret
    refine ⟨?_, B2.out⟩
    rw [HQ.out]
    refine congrArg (fun q : Bool => Ending.returned (.bool q)) ?_
    simp [hlt]
    try rw [Bool.beq_eq_decide_eq]
  · have he : S = 256 := by omega
    subst he
    have HQ := hid hq
    clear hq
    go_enter Try.func15, Try.ntmps15
    go_wp2_with (first
      | (refine load_at rfl 23 (.tmp 2) rfl w.heap.size 0 rfl (u8s K) _ (blk_key K1.out) Try.underlying23 rfl (u8s_info hK) (kc K) rfl ?_)
      | (refine load_at rfl 23 (.tmp 3) rfl (w.heap.size + 1) 0 rfl (u8s L) _ (blk_key K2.out) Try.underlying23 rfl (u8s_info hL) (kc L) rfl ?_)
      | (go_at_call 13; refine (CS.out _).mono ?_; rintro e w1 ⟨rfl, hb1⟩; have B1 := hid (B0.out.trans (hb1.mono B0.out.size)); clear hb1))
    go_ret
    refine ⟨?_, B1.out⟩
    rw [HQ.out]
    refine congrArg (fun q : Bool => Ending.returned (.bool q)) ?_
    simp
end Go.Proofs.Ytdaobhclcpgjbaa
