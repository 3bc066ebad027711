/-
  What is proved here: whether a beginning is one, holds a key, holds another beginning: as the code tells it.
-/
import Derived.Test.YtdaobhclcpgjbaaPCut
import Derived.Test.YtdaobhclcpgjbaaPEq
namespace Go.Proofs.Ytdaobhclcpgjbaa
open Go.ChangeShapes Go.WideShapes Go.ChangeAt Go.RowKit
set_option linter.unusedVariables false

/-- whether it is a beginning -/
def frm (l : Int) (B : List Int) : Bool := decide (0 ≤ l ∧ l ≤ 256 ∧ cut B l.toNat = B)
/-- whether it holds a key -/
def hld (l : Int) (B K : List Int) : Bool := decide (0 ≤ l ∧ l ≤ 256 ∧ cut K l.toNat = B)
/-- whether it holds a beginning -/
def wth (l : Int) (B : List Int) (m : Int) (C : List Int) : Bool := frm m C && decide (l ≤ m) && hld l B C
theorem lim_in (l : Int) (h0 : 0 ≤ l) (h1 : l ≤ 256) : lim l = l.toNat := by unfold lim; omega
theorem hld_code (l : Int) (B K : List Int) : decide ((lim l : Int) = l ∧ cut K (lim l) = B) = hld l B K := by
  unfold hld
  rw [decide_eq_decide]
  by_cases h : 0 ≤ l ∧ l ≤ 256
  · rw [lim_in l h.1 h.2]
    exact ⟨fun h2 => ⟨h.1, h.2, h2.2⟩, fun h2 => ⟨by omega, h2.2.2⟩⟩
  · exact ⟨fun h2 => by have := h2.1; unfold lim at this; omega, fun h2 => absurd ⟨h2.1, h2.2.1⟩ h⟩
theorem hld_ref {l : Int} {B K : List Int} (hB : Ky B) : (frm l B && decide (l ≤ (shr B K : Int))) = hld l B K := by
  unfold frm hld
  rw [Bool.eq_iff_iff, Bool.and_eq_true, decide_eq_true_iff, decide_eq_true_iff, decide_eq_true_iff]
  constructor
  · rintro ⟨⟨h0, h1, h2⟩, h3⟩
    refine ⟨h0, h1, ?_⟩
    rw [← (le_shr_iff (by omega)).1 (show l.toNat ≤ shr B K by omega)]
    exact h2
  · rintro ⟨h0, h1, h2⟩
    have h3 : cut B l.toNat = B := by rw [← h2, cut_cut, Nat.min_self]
    refine ⟨⟨h0, h1, h3⟩, ?_⟩
    have := (le_shr_iff (K := B) (L := K) (n := l.toNat) (by omega)).2 (by rw [h3, h2])
    omega

set_option maxHeartbeats 1000000 in
theorem pHolds_any (l : Int) (B K : List Int) (hB : Ky B) (hK : Ky K) (w : World) :
    Calls Try.prog 22 #[.agg (pc l B), .agg (kc K)] w fun e w' => e = .returned (.bool (hld l B K)) ∧ Below w.heap.size w w' := by
  obtain ⟨hk1, hk2, hb0⟩ := one_blks w (pc l B) (kc K) 30 23
  have K1 := hid hk1; have K2 := hid hk2; have B0 := hid hb0
  clear hk1 hk2 hb0
  have CC := hid (fun w => pCut_any K hK l w)
  have heq := fun w => eql_pre (lim l) l (cut K (lim l)) B (cut_ky K _) hB w
  rw [hld_code] at heq
  generalize hld l B K = v at heq ⊢
  go_enter Try.func22, Try.ntmps22
  go_wp2
  generalize (w.alloc (.cells (pc l B) 30)).alloc (.cells (kc K) 23) = w0 at K1 K2 B0 ⊢
  have hl := fun p : PW (Kp w0) => kp_len K1.out p
  refine region_kept (Kp w0) (by kernel_rfl) (by kernel_rfl) (kp_begin w0) ?_
  repeat (first
    | go_big_quiet_skip
    | (go_big_quiet_want; refine quiet_load 23 (.tmp 3) rfl (w.heap.size + 1) 0 rfl (u8s K) _ (fun p => kp_key K2.out p) Try.underlying23 rfl (u8s_info hK) (kc K) rfl ?_; go_big_quiet_on; simp only [Act.put, List.setIfInBounds_toArray, List.set_cons_zero, List.set_cons_succ])
    | (go_big_quiet_want; refine quiet_load 30 (.tmp 2) rfl w.heap.size 0 rfl (.int .i64 l :: u8s B) _ (fun p => kp_pre K1.out p) Try.underlying30 rfl (pcl_info l hB) (pc l B) rfl ?_; go_big_quiet_on; simp only [Act.put, List.setIfInBounds_toArray, List.set_cons_zero, List.set_cons_succ])
    | (go_big_quiet_want; go_big_quiet_op; first | go_big_quiet_on | go_big_quiet_call (with_reducible exact kp_call (CC.out _))))
  refine wpQuiet_nil ?_
  intro _ hw'
  obtain ⟨p, hw''⟩ := hw'
  subst hw''
  go_wp2
  go_ret
  exact ⟨rfl, B0.out.trans (Below.mono p.h B0.out.size)⟩
set_option maxHeartbeats 1000000 in
theorem pFormed_any (l : Int) (B : List Int) (hB : Ky B) (w : World) :
    Calls Try.prog 20 #[.agg (pc l B)] w fun e w' => e = .returned (.bool (frm l B)) ∧ Below w.heap.size w w' := by
  have K1 : Hid (Blk (w.alloc (.cells (pc l B) 30)) w.heap.size 30 (pc l B)) := Blk.new w 30 _
  have B0 : Hid (Below w.heap.size w (w.alloc (.cells (pc l B) 30))) := (Below.refl _ _).alloc (Nat.le_refl _) _
  have CC : Hid (∀ w, Calls Try.prog 22 #[.agg (pc l B), .agg (kc B)] w fun e w' => e = .returned (.bool (frm l B)) ∧ Below w.heap.size w w') := fun w => pHolds_any l B B hB hB w
  generalize frm l B = v at CC ⊢
  go_enter Try.func20, Try.ntmps20
  go_wp2_with (first
    | (refine load_at rfl 30 (.tmp 1) rfl w.heap.size 0 rfl (.int .i64 l :: u8s B) _ (blk_pre K1.out) Try.underlying30 rfl (pcl_info l hB) (pc l B) rfl ?_)
    | (refine load_at rfl 23 (.tmp 4) rfl w.heap.size 1 rfl (u8s B) _ (pc_range K1.out) Try.underlying23 rfl (u8s_info hB) (kc B) rfl ?_)
    | (go_at_call 22; refine (CC.out _).mono ?_; rintro e w1 ⟨rfl, hb1⟩; have B1 := hid (B0.out.trans (hb1.mono B0.out.size)); clear hb1))
  go_ret
  exact ⟨rfl, B1.out⟩
end Go.Proofs.Ytdaobhclcpgjbaa
