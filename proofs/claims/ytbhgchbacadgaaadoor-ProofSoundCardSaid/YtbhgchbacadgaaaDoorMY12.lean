/-
  What is proved here: of two right proofs of one root that don't show the same some texts clash: the walk of the statement.
-/
import Derived.Test.YtbhgchbacadgaaaDoorMY9
import Derived.Test.YtbhgchbacadgaaaDoorMY1
import Derived.Test.YtbhgchbacadgaaaDoorMX20
import Derived.Deep.DeepCutAuto
import Derived.Deep.RegionLaw
set_option linter.unusedSimpArgs false
set_option linter.unusedVariables false
namespace Go.Proofs.YtbhgchbacadgaaaDoor
open Go.ChangeShapes Go.WideShapes Go.ChangeAt Go.RowKit
set_option linter.unusedVariables false
set_option linter.unusedSimpArgs false
set_option maxRecDepth 20000

theorem proof_built0 : Tryd.prog.built 66 [] = some (prc nilV qZ).toArray := by kernel_rfl
theorem chkZ (key : List Int) : chkV key emptyH qZ = .tuple #[.agg (kc zk), .bool false, .bool true] := by
  have h1 : chkB key emptyH qZ = true := by
    unfold chkB
    have h2 : leadB key qZ = true := by
      show endB key qZ (0, zk) = true
      unfold endB
      rw [if_pos (show qZ.e = 0 from rfl)]; rfl
    rw [h2, show sum (topQ key qZ) = emptyH from rfl, decide_eq_true rfl]
    rfl
  unfold chkV
  rw [if_pos h1]
  have h3 : shwO key qZ = none := if_neg (fun h => by have := h.1; exact absurd this (by decide))
  rw [h3]
  rfl
set_option maxHeartbeats 4000000 in
theorem qawake_any (w : World) (ht : Tab w) : Calls Tryd.prog 26 #[] w fun e w' => e = .returned (.bool true) ∧ Below w.heap.size w w' := by
  obtain ⟨Z, HZ, hZ0, hZs⟩ := zero_key
  have CE := hid (fun w => yEmpty_any w)
  have CC := hid (fun w1 (hb : Below w.heap.size w w1) => qCheck_any (A := none) (n := 0) (c := 0) (q := qZ) (key := k1 1) (root := emptyH) w1 (InS.nil _ _) qZ_ok (k1_ky 1 (by decide)) emptyH_ky (by decide) (ht.below hb))
  rw [chkZ] at CC
  have HPB := proof_built0
  have HK1 := built_k1 1
  have HZI := hid (kc_info zk_ky)
  have HZZ : Hid (Z.size = (kc zk).size) := by show _ = _; rw [HZ.out]
  change Hid (∀ w1, Below w.heap.size w w1 → Calls Tryd.prog 31 #[.agg (prc nilV qZ).toArray, .agg (kc (k1 1)), .agg (kc emptyH)] w1 _) at CC
  generalize (prc nilV qZ).toArray = PZ at CC HPB
  generalize kc (k1 1) = KZ at CC HK1
  clear ht
  go_enter Tryd.func26, Tryd.ntmps26
  go_wp2_with (first
    | (refine wpList_buildC rfl 66 _ rfl PZ ?hc ?_; case hc => (simp only [List.map_toArray, List.map_cons, List.map_nil, Act.eval]; exact HPB))
    | (refine wpList_buildC rfl 24 _ rfl KZ ?hc ?_; case hc => (simp only [List.map_toArray, List.map_cons, List.map_nil, Act.eval]; exact HK1))
    | (go_at_call 49; refine (CE.out _).mono ?_; rintro e w1 ⟨rfl, hb⟩; have B1 := hid hb; clear hb)
    | (go_at_call 31; refine (CC.out _ B1.out).mono ?_; rintro e w2 ⟨rfl, hb⟩; have B2 := hid (B1.out.trans (hb.mono B1.out.size)); clear hb)
    | (refine wpList_store_row rfl 24 (.tmp 1) (.tmp 9) rfl w2.heap.size (kc zk) rfl rfl 24 Z (Blk.new w2 24 Z) HZI.out HZZ.out (kc_one _) ?_))
  go_ret
  exact ⟨rfl, below_setRow (B2.out.alloc B2.out.size _) B2.out.size _⟩
theorem chk_as (key root : List Int) {q : QP} (hq : q.Ok) : ∃ a x, Ky a ∧ chkV key root q = .tuple #[.agg (kc a), .bool x, .bool (chkB key root q)] ∧ (chkB key root q = true → a = (shwO key q).getD zk ∧ x = (shwO key q).isSome) := by
  unfold chkV
  by_cases h : chkB key root q = true
  · rw [if_pos h]
    refine ⟨_, _, ?_, by rw [h], fun _ => ⟨rfl, rfl⟩⟩
    unfold shwO
    split
    · exact hq.v
    · exact zk_ky
  · rw [if_neg h]
    exact ⟨_, _, zk_ky, by rw [Bool.not_eq_true] at h; rw [h], fun h2 => absurd h2 h⟩
theorem shw_same {a b : Option (List Int)} (h : a.getD zk = b.getD zk) (h2 : a.isSome = b.isSome) : a = b := by
  cases a with
  | none => cases b with
    | none => rfl
    | some y => cases h2
  | some x => cases b with
    | none => cases h2
    | some y => exact congrArg some h
end Go.Proofs.YtbhgchbacadgaaaDoor
