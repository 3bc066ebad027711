/-
  What is proved here: of two hashes that aren't the same, some digit of the one is less than the other's, and some digit of the other one less than its: the walk of the statement.
-/
import Derived.Test.YteiflhgmgdibgaaLmZ
import Derived.Test.YteiflhgmgdibgaaLmEq
import Derived.Deep.QuietTactic
namespace Go.Proofs.Yteiflhgmgdibgaa
open Go.ChangeShapes Go.WideShapes Go.ChangeAt Go.RowKit
set_option linter.unusedVariables false

/-- some of the first numbers of the one list is less than the other's -/
def anyLt (D E : List Int) (j : Nat) : Bool := (List.range j).any fun i => decide (D[i]?.getD 0 < E[i]?.getD 0)
theorem anyLt_succ (D E : List Int) (j : Nat) : anyLt D E (j + 1) = (anyLt D E j || decide (D[j]?.getD 0 < E[j]?.getD 0)) := by simp [anyLt, List.range_succ]
theorem digits_at (k : Int) (h : List Int) (i : Nat) (hi : i < kchains k) : (digits k h)[i]?.getD 0 = dig (kall k h) i (kbits k) (8 / kbits k) := by
  unfold digits
  rw [List.getElem?_map, List.getElem?_range hi]
  rfl
theorem anyLt_digits {k : Int} (hk : Kd k) {a b : List Int} (ha : Ky a) (hb : Ky b) : anyLt (digits k a) (digits k b) (kchains k) = !decide (a = b) := by
  rw [Bool.eq_iff_iff]
  unfold anyLt
  simp only [List.any_eq_true, List.mem_range, decide_eq_true_eq, Bool.not_eq_true', decide_eq_false_iff_not]
  constructor
  · rintro ⟨i, hi, h⟩ rfl
    omega
  · intro hne
    obtain ⟨i, hi, h⟩ := some_less hk ha hb hne
    exact ⟨i, hi, by rw [digits_at k a i hi, digits_at k b i hi]; exact h⟩
theorem below_drewN {B : Nat} {a w : World} (h : Below B a w) (n : Nat) : Below B a (w.drewN n) := ⟨h.os, h.tape, h.output, h.size, h.block⟩
set_option maxRecDepth 20000 in
set_option maxHeartbeats 4000000 in
theorem less_walk (n : Int) (a b : List Int) (hn : 0 ≤ n ∧ n ≤ 255) (ha : Ky a) (hb : Ky b) (w : World) :
    Calls Try.prog 4 #[.int .u8 n, .agg (u8s a).toArray, .agg (u8s b).toArray] w fun e w' => e = .returned (.bool true) ∧ Below w.heap.size w w' := by
  obtain ⟨k, hke⟩ : ∃ k, k = 1 + n % 4 := ⟨_, rfl⟩
  have hk : Kd k := by unfold Kd; omega
  have hkr : 1 + n % 4 = k := hke.symm
  have CA := hid (fun w => lDigits_any k a w ha); have CB := hid (fun w => lDigits_any k b w hb)
  have HA := hid (hash_info ha.len); have HB := hid (hash_info hb.len)
  have HLD : Hid (kchains k = (digits k a).length) := (digits_length k a).symm
  have HLE : Hid (kchains k = (digits k b).length) := (digits_length k b).symm
  have AL := hid (anyLt_digits hk ha hb); have AM : Hid (anyLt (digits k b) (digits k a) (kchains k) = !decide (a = b)) := by show _ = _; rw [anyLt_digits hk hb ha, show decide (b = a) = decide (a = b) by rw [decide_eq_decide]; exact eq_comm]
  have NE := hid (neq_hash a b ha hb)
  have hcl := kchains_le k
  obtain ⟨hk1, hk2, hb0⟩ := blks2 w (u8s a).toArray (u8s b).toArray 23 23
  have K1 := hid hk1; have K2 := hid hk2; have B0 := hid hb0
  generalize digits k a = D at CA HLD AL AM
  generalize digits k b = E at CB HLE AL AM
  generalize kchains k = c at CA CB HLD HLE AL AM hcl
  have n0 := hn.1; have n1 := hn.2
  clear hk1 hk2 hb0 ha hb hk hke hn
  go_enter Try.func4, Try.ntmps4
  go_wp2
  generalize (w.alloc (.cells (u8s a).toArray 23)).alloc (.cells (u8s b).toArray 23) = w0 at K1 K2 B0 ⊢
  refine wp_region_held (S := fun w' => Hid (Below w0.heap.size w0 w')) (by kernel_rfl) ?_
  change wpAnyH _ _ _ _ _ _ _ _ w0.drew
  have Gx0 : Hid (Below w0.heap.size w0 w0.drew) := (Below.refl _ _).drew
  generalize w0.drew = x0 at Gx0  ⊢
  refine wpAnyH_take (i := 0) (oi := { dst := some 17, op := _, type := _, pos := _, after := _, guard := _ }) (v := ?_) rfl (by kernel_rfl) (by kernel_rfl) (by kernel_rfl) (fun _ _ _ h => h) (Or.inl ⟨by kernel_rfl, ?_⟩) (by assumption) ?_
  rotate_left
  · (intro w hSw; go_simp; try with_reducible rfl)
  try simp only [Act.put, List.setIfInBounds_toArray, List.set_cons_zero, List.set_cons_succ]
  refine wpAnyH_take (i := 1) (oi := { dst := some 18, op := _, type := _, pos := _, after := _, guard := _ }) (v := .agg ((u8s a).toArray)) rfl (by kernel_rfl) (by kernel_rfl) (by kernel_rfl) (fun _ _ _ h => h) (yieldsIf_load_mid (cs := u8s a) (by rfl) _ _ rfl _ _ rfl _ (fun w' hSw => blk_row (K1.out.below (Hid.out hSw))) Try.underlying23 rfl HA.out) (by assumption) ?_
  try simp only [Act.put, List.setIfInBounds_toArray, List.set_cons_zero, List.set_cons_succ]
  refine wpAnyH_take (i := 3) (oi := { dst := some 20, op := _, type := _, pos := _, after := _, guard := _ }) (v := ?_) rfl (by kernel_rfl) (by kernel_rfl) (by kernel_rfl) (fun _ _ _ h => h) (Or.inl ⟨by kernel_rfl, ?_⟩) (by assumption) ?_
  rotate_left
  · (intro w hSw; go_simp; try with_reducible rfl)
  try simp only [Act.put, List.setIfInBounds_toArray, List.set_cons_zero, List.set_cons_succ]
  refine wpAnyH_take (i := 4) (oi := { dst := some 21, op := _, type := _, pos := _, after := _, guard := _ }) (v := .agg ((u8s b).toArray)) rfl (by kernel_rfl) (by kernel_rfl) (by kernel_rfl) (fun _ _ _ h => h) (yieldsIf_load_mid (cs := u8s b) (by rfl) _ _ rfl _ _ rfl _ (fun w' hSw => blk_row (K2.out.below (Hid.out hSw))) Try.underlying23 rfl HB.out) (by assumption) ?_
  try simp only [Act.put, List.setIfInBounds_toArray, List.set_cons_zero, List.set_cons_succ]
  refine wpAnyH_ready (rs := [2]) (by kernel_rfl) (by simp) ?_
  refine (AllReadyH.cons (o := { dst := some 19, op := _, type := _, pos := _, after := _, guard := _ }) rfl (fun Qc hQc => ?_) AllReadyH.nil)
  go_simp
  go_at_call 11; refine (CA.out _).mono ?_; rintro e x1 ⟨A1, c1, rfl, hr1, hbx1⟩; have R1 := hid hr1; clear hr1
  have Gx1 := hid (Gx0.out.trans (hbx1.mono Gx0.out.size))
  clear hbx1
  go_wp2_with fail
  refine hQc.out _ _ Gx1 (fun hHeld => ?_)
  clear hQc Qc Gx0
  try simp only [Act.put, List.setIfInBounds_toArray, List.set_cons_zero, List.set_cons_succ]
  refine wpAnyH_ready (rs := [5]) (by kernel_rfl) (by simp) ?_
  refine (AllReadyH.cons (o := { dst := some 22, op := _, type := _, pos := _, after := _, guard := _ }) rfl (fun Qc hQc => ?_) AllReadyH.nil)
  go_simp
  go_at_call 11; refine (CB.out _).mono ?_; rintro e x2 ⟨A2, c2, rfl, hr2, hbx2⟩; have R2 := hid hr2; clear hr2
  have Gx2 := hid (Gx1.out.trans (hbx2.mono Gx1.out.size))
  have R1 := hid (R1.out.below hbx2)
  clear hbx2
  go_wp2_with fail
  refine hQc.out _ _ Gx2 (fun hHeld => ?_)
  clear hQc Qc Gx1
  try simp only [Act.put, List.setIfInBounds_toArray, List.set_cons_zero, List.set_cons_succ]
  refine wpAnyH_take (i := 6) (oi := { dst := some 8, op := _, type := _, pos := _, after := _, guard := _ }) (v := ?_) rfl (by kernel_rfl) (by kernel_rfl) (by kernel_rfl) (fun _ _ _ h => h) (Or.inl ⟨by kernel_rfl, ?_⟩) (by assumption) ?_
  rotate_left
  · (intro w hSw; go_simp; try with_reducible rfl)
  try simp only [Act.put, List.setIfInBounds_toArray, List.set_cons_zero, List.set_cons_succ]
  refine wpAnyH_take (i := 7) (oi := { dst := some 9, op := _, type := _, pos := _, after := _, guard := _ }) (v := ?_) rfl (by kernel_rfl) (by kernel_rfl) (by kernel_rfl) (fun _ _ _ h => h) (Or.inl ⟨by kernel_rfl, ?_⟩) (by assumption) ?_
  rotate_left
  · (intro w hSw; go_simp; try with_reducible rfl)
  try simp only [Act.put, List.setIfInBounds_toArray, List.set_cons_zero, List.set_cons_succ]
  refine wpAnyH_done (by kernel_rfl) ?_ _
  try simp only [Act.put, List.setIfInBounds_toArray, List.set_cons_zero, List.set_cons_succ]
  have GB := hid (B0.out.trans (Gx2.out.mono B0.out.size))
  have L1 := hid (K1.out.below Gx2.out); have L2 := hid (K2.out.below Gx2.out)
  clear Gx2 hHeld K1 K2 B0
  go_wp2
  go_loopw [10, 11, 12] (fun l m i wr => ∃ j : Nat, j ≤ c ∧ i = .int .i64 j ∧ l = .bool (anyLt D E j) ∧ m = .bool (anyLt E D j) ∧ Below x2.heap.size x2 wr) (fun _ _ i _ => c - (intOf i).toNat)
  case atStart => exact ⟨0, Nat.zero_le _, rfl, rfl, rfl, Below.refl _ _⟩
  case round =>
    obtain ⟨j, hj, rfl, rfl, rfl, hbl⟩ := hrel
    have HBL := hid hbl
    clear hbl
    by_cases hlt : j < c
    · have hld := HLD.out; have hle := HLE.out
      obtain ⟨ad, rfl, hc⟩ := (R1.out.below HBL.out).get (by omega)
      obtain ⟨ae, rfl, hd⟩ := (R2.out.below HBL.out).get (by omega)
      have hcj := hc j (by omega)
      have hdj := hd j (by omega)
      have SL := hid (anyLt_succ D E j); have SM := hid (anyLt_succ E D j)
      generalize D[j]?.getD 0 = u at hcj SL SM
      generalize E[j]?.getD 0 = v at hdj SL SM
      obtain ⟨p, hp⟩ : ∃ p, p = anyLt D E j := ⟨_, rfl⟩
      obtain ⟨q, hq⟩ : ∃ q, q = anyLt E D j := ⟨_, rfl⟩
      rw [← hp] at SL ⊢
      rw [← hq] at SM ⊢
      clear hp hq hc hd hld hle
      have hji : (j : Int) < c := by omega
      cases p <;> cases q
      all_goals
        go_wp2
        go_quiet (fail)
        go_wp2
        go_quiet (fail)
        go_wp2
        exact ⟨⟨j + 1, by omega, by go_num, by rw [SL.out]; simp, by rw [SM.out]; simp, below_drewN HBL.out _⟩, by simp [intOf]; omega⟩
    · obtain rfl : j = c := by omega
      have L3 := hid (L1.out.below HBL.out); have L4 := hid (L2.out.below HBL.out)
      have GE := hid (GB.out.trans (HBL.out.mono GB.out.size))
      rw [AL.out, AM.out]
      have ne := NE.out
      generalize decide (a = b) = d at ne ⊢
      clear AL AM hcl hkr n0 n1 L1 L2 GB HBL NE
      cases d
      all_goals
        go_wp2_with (first
          | (go_at_call 5; refine (kawake_any _).mono ?_; rintro e w7 ⟨rfl, hb7⟩; have M1 := hid (L3.out.below hb7); have M2 := hid (L4.out.below hb7); have GG := hid (GE.out.trans (hb7.mono GE.out.size)); clear hb7)
          | (refine load_at rfl 23 (.tmp 4) rfl w.heap.size 0 rfl (u8s a) _ (blk_row M1.out) Try.underlying23 rfl HA.out (u8s a).toArray rfl ?_)
          | (refine load_at rfl 23 (.tmp 5) rfl (w.heap.size + 1) 0 rfl (u8s b) _ (blk_row M2.out) Try.underlying23 rfl HB.out (u8s b).toArray rfl ?_))
        go_ret
        exact ⟨rfl, GG.out⟩
end Go.Proofs.Yteiflhgmgdibgaa
