/-
  What this file is for: a prefix, its two children, and what they hold, in plain mathematics.
-/
import Derived.Test.YtdaobhclcpgjbaaPLawCuts
import Derived.Test.YtdaobhclcpgjbaaPLawMeets
namespace Go.Proofs.Ytdaobhclcpgjbaa
open Go.ChangeShapes Go.WideShapes Go.ChangeAt Go.RowKit
set_option linter.unusedVariables false

theorem lim_nat (n : Nat) (h : n ≤ 256) : lim (n : Int) = n := by unfold lim; omega
theorem frm_cut (K : List Int) (n : Nat) (h : n ≤ 256) : frm n (cut K n) = true := by
  unfold frm
  refine decide_eq_true ⟨by omega, by omega, ?_⟩
  rw [show ((n : Int)).toNat = n by omega, cut_cut, Nat.min_self]
theorem chB_cut (K : List Int) (n : Nat) (h : n < 256) (b : Int) (hb : b = 0 ∨ b = 1) : chB n (cut K n) b = true := by
  unfold chB
  rw [frm_cut K n (by omega)]
  have : decide ((n : Int) ≠ 256) = true := decide_eq_true (by omega)
  rw [this]
  rcases hb with rfl | rfl <;> rfl
theorem ch_0 (K : List Int) (n : Nat) (h : n < 256) : chV n (cut K n) 0 = .tuple #[.agg (pc (n + 1) (cut K n)), .bool true] := by
  unfold chV
  rw [if_pos (chB_cut K n h 0 (Or.inl rfl))]; rfl
theorem ch_1 (K : List Int) (n : Nat) (h : n < 256) : chV n (cut K n) 1 = .tuple #[.agg (pc (n + 1) (setb (cut K n) n)), .bool true] := by
  unfold chV
  rw [if_pos (chB_cut K n h 1 (Or.inr rfl))]
  unfold chK
  rw [if_pos rfl, show ((n : Int)).toNat = n by omega]
theorem ch_bit (K : List Int) (n : Nat) (h : n < 256) : chV n (cut K n) (bit K n) = .tuple #[.agg (pc (n + 1) (cut K (n + 1))), .bool true] := by
  have h01 := bit01 K n
  rcases h01 with e | e
  · rw [e, ch_0 K n h, cut_same K n e]
  · rw [e, ch_1 K n h, cut_1 K n e]
theorem bit_cut_n (K : List Int) (n : Nat) (h : n < 256) : bit (cut K n) n = 0 := by rw [bit_cut K n n h, if_neg (by omega)]
theorem shr_set (K : List Int) (n : Nat) (h : n < 256) : shr (cut K n) (setb (cut K n) n) = n :=
  (IsShr.eq ⟨by omega, fun i hi => by rw [bit_setb _ _ _ (by omega), if_neg (by omega)], fun _ => by rw [bit_cut_n K n h, bit_setb _ _ _ h, if_pos rfl]; decide⟩).symm
theorem frm_ch0 (K : List Int) (n : Nat) (h : n < 256) : frm ((n : Int) + 1) (cut K n) = true := by
  unfold frm
  refine decide_eq_true ⟨by omega, by omega, ?_⟩
  rw [show ((n : Int) + 1).toNat = n + 1 by omega, cut_cut, Nat.min_eq_left (by omega)]
theorem cut_setb (K : List Int) (n m : Nat) (h : n < m) : cut (setb (cut K n) n) m = setb (cut K n) n :=
  ky_ext (cut_ky _ _) (setb_ky _ _) (fun i hi => by
    rw [bit_cut _ _ _ hi]
    by_cases him : i < m
    · rw [if_pos him]
    · rw [if_neg him, bit_setb _ _ _ hi, if_neg (by omega), bit_cut _ _ _ hi, if_neg (by omega)])
theorem frm_ch1 (K : List Int) (n : Nat) (h : n < 256) : frm ((n : Int) + 1) (setb (cut K n) n) = true := by
  unfold frm
  refine decide_eq_true ⟨by omega, by omega, ?_⟩
  rw [show ((n : Int) + 1).toNat = n + 1 by omega]
  exact cut_setb K n (n + 1) (by omega)
theorem meet_ch (K : List Int) (n : Nat) (h : n < 256) : meetV ((n : Int) + 1) (cut K n) ((n : Int) + 1) (setb (cut K n) n) = pc n (cut K n) := by
  unfold meetV
  rw [frm_ch0 K n h, frm_ch1 K n h, if_pos (by decide), shr_set K n h]
  have e : mt ((n : Int) + 1) ((n : Int) + 1) n = n := by unfold mt; omega
  rw [e, cut_cut, Nat.min_self]
theorem wth_ch0 (K : List Int) (n : Nat) (h : n < 256) : wth n (cut K n) ((n : Int) + 1) (cut K n) = true := by
  unfold wth hld
  rw [frm_ch0 K n h, decide_eq_true (show (n : Int) ≤ n + 1 by omega)]
  exact decide_eq_true ⟨by omega, by omega, by rw [show ((n : Int)).toNat = n by omega, cut_cut, Nat.min_self]⟩
theorem cut_setb_n (K : List Int) (n : Nat) (h : n < 256) : cut (setb (cut K n) n) n = cut K n := by
  rw [← (le_shr_iff (K := cut K n) (L := setb (cut K n) n) (n := n) (by omega)).1 (by rw [shr_set K n h]; exact Nat.le_refl _), cut_cut, Nat.min_self]
theorem wth_ch1 (K : List Int) (n : Nat) (h : n < 256) : wth n (cut K n) ((n : Int) + 1) (setb (cut K n) n) = true := by
  unfold wth hld
  rw [frm_ch1 K n h, decide_eq_true (show (n : Int) ≤ n + 1 by omega)]
  exact decide_eq_true ⟨by omega, by omega, by rw [show ((n : Int)).toNat = n by omega]; exact cut_setb_n K n h⟩
theorem wth_back (K : List Int) (n : Nat) (B : List Int) : wth ((n : Int) + 1) B n (cut K n) = false := by
  unfold wth
  rw [decide_eq_false (show ¬ (n : Int) + 1 ≤ n by omega)]
  simp
theorem hld_xor (K : List Int) (n : Nat) (h : n < 256) : (hld ((n : Int) + 1) (cut K n) K != hld ((n : Int) + 1) (setb (cut K n) n) K) = true := by
  have hne : cut K n ≠ setb (cut K n) n := fun e => by
    have h1 := bit_cut_n K n h
    rw [e, bit_setb _ _ _ h, if_pos rfl] at h1
    omega
  unfold hld
  rw [show ((n : Int) + 1).toNat = n + 1 by omega]
  rcases bit01 K n with e | e
  · rw [← cut_same K n e, decide_eq_true ⟨by omega, by omega, rfl⟩, decide_eq_false (fun h => hne h.2.2)]; rfl
  · rw [← cut_1 K n e, decide_eq_false (fun h => hne h.2.2.symm), decide_eq_true ⟨by omega, by omega, rfl⟩]; rfl
theorem neq_pre (l m : Int) (B C : List Int) (hB : Ky B) (hC : Ky C) (w : World) : (binOp .neq 30 (.agg (pc l B)) (.agg (pc m C))).run Try.prog w = .ok (.bool (!decide (l = m ∧ B = C))) w := by
  have h := eql_pre l m B C hB hC w
  rw [run_eql_struct] at h
  rw [run_neq_struct]
  generalize (Op.equalIn 10000 30 (.agg (pc l B)) (.agg (pc m C))).run Try.prog w = r at h ⊢
  cases r with
  | ok b w' =>
    simp only [Result.andThen_ok] at h ⊢
    injection h with h1 h2
    injection h1 with h1
    rw [h1, h2]
  | halt x w' => simp [Result.andThen] at h
end Go.Proofs.Ytdaobhclcpgjbaa
