/-
  What this file is for: a slot's pages, as lists: what a page holds, which page is right, what a slot's serial and value are, what Load and Save make of a device. Nothing of the program is walked here.
-/
import Derived.Test.YthfkooancgkjaaaMValM
import Derived.Test.YthfkooancgkjaaaMDyL
import Derived.Test.YthfkooancgkjaaaMSsB
set_option linter.unusedSimpArgs false
set_option linter.unusedVariables false
namespace Go.Proofs.Ythfkooancgkjaaa
open Go.ChangeShapes Go.WideShapes Go.ChangeAt Go.RowKit
set_option linter.unusedVariables false
set_option maxRecDepth 20000

/-- the bytes of a right page -/
def pgl (x : Int) (v : List Int) : List Int := be x 8 ++ be v.length 2 ++ v ++ List.replicate (110 - v.length) 0 ++ be x 8
theorem pgl_len (x : Int) (v : List Int) (h : v.length ≤ 110) : (pgl x v).length = 128 := by
  unfold pgl; simp only [List.length_append, be_length, List.length_replicate]; omega
theorem pgl_bs (x : Int) (v : List Int) (h : Bs v) : Bs (pgl x v) := by
  intro y hy
  unfold pgl at hy
  simp only [List.mem_append] at hy
  rcases hy with (((h1 | h1) | h1) | h1) | h1
  · exact be_bs _ _ y h1
  · exact be_bs _ _ y h1
  · exact h y h1
  · rw [List.eq_of_mem_replicate h1]; omega
  · exact be_bs _ _ y h1
theorem pgl_front (x : Int) (v : List Int) : (pgl x v).take 8 = be x 8 := by
  unfold pgl
  simp only [List.append_assoc]
  rw [List.take_append_of_le_length (by rw [be_length]; omega), List.take_of_length_le (by rw [be_length]; omega)]
theorem pgl_size (x : Int) (v : List Int) : ((pgl x v).drop 8).take 2 = be v.length 2 := by
  unfold pgl
  simp only [List.append_assoc]
  rw [List.drop_append_of_le_length (by rw [be_length]; omega), List.drop_of_length_le (by rw [be_length]; omega), List.nil_append, List.take_append_of_le_length (by rw [be_length]; omega), List.take_of_length_le (by rw [be_length]; omega)]
theorem pgl_val (x : Int) (v : List Int) : ((pgl x v).drop 10).take v.length = v := by
  have : pgl x v = (be x 8 ++ be v.length 2) ++ (v ++ (List.replicate (110 - v.length) 0 ++ be x 8)) := by unfold pgl; simp only [List.append_assoc]
  rw [this, List.drop_append_of_le_length (by rw [List.length_append, be_length, be_length]; omega), List.drop_of_length_le (by rw [List.length_append, be_length, be_length]; omega), List.nil_append, List.take_left]
theorem pgl_end (x : Int) (v : List Int) (h : v.length ≤ 110) : (pgl x v).drop 120 = be x 8 := by
  have : pgl x v = (be x 8 ++ be v.length 2 ++ v ++ List.replicate (110 - v.length) 0) ++ be x 8 := rfl
  rw [this]
  have hl : (be x 8 ++ be v.length 2 ++ v ++ List.replicate (110 - v.length) (0 : Int)).length = 120 := by simp only [List.length_append, be_length, List.length_replicate]; omega
  rw [← hl, List.drop_left]
/-- the serial and the value of the page X on the side i, if it is right; else 0 and nothing -/
def tk (X : List Int) (i : Int) : Int × List Int :=
  if val (X.take 8) = val (X.drop 120) ∧ val (X.take 8) ≠ 0 ∧ val ((X.drop 8).take 2) ≤ 110 ∧ val (X.take 8) % 2 = i then (val (X.take 8), (X.drop 10).take (val ((X.drop 8).take 2)).toNat) else (0, [])
theorem tk_pgl (x : Int) (v : List Int) (h : v.length ≤ 110) (hx : 0 < x ∧ x < 18446744073709551616) : tk (pgl x v) (x % 2) = (x, v) := by
  unfold tk
  rw [pgl_front, pgl_end x v h, pgl_size, val_be8 x (by omega), val_be2 _ (by omega), if_pos (by omega), Int.toNat_natCast, pgl_val]
theorem tk_bound (X : List Int) (i : Int) (hX : X.length = 128) (hb : Bs X) : 0 ≤ (tk X i).1 ∧ (tk X i).1 < 18446744073709551616 := by
  unfold tk
  have h := val_bound (X.take 8) (hb.take 8)
  rw [List.length_take, hX] at h
  have e : (256 : Int) ^ (min 8 128) = 18446744073709551616 := by decide
  rw [e] at h
  split
  · exact h
  · exact ⟨Int.le_refl _, by decide⟩
theorem tk_side (X : List Int) (i : Int) (h : (tk X i).1 ≠ 0) : (tk X i).1 % 2 = i := by
  unfold tk at h ⊢
  split
  · rename_i h1; exact h1.2.2.2
  · rename_i h1; rw [if_neg h1] at h; exact (h rfl).elim
theorem tk_len (X : List Int) (i : Int) : (tk X i).2.length ≤ 110 := by
  unfold tk
  split
  · rename_i h1
    have := h1.2.2.1
    simp only [List.length_take]
    omega
  · simp
theorem tk_bs (X : List Int) (i : Int) (hb : Bs X) : Bs (tk X i).2 := by
  unfold tk
  split
  · exact (hb.drop _).take _
  · intro y hy; simp at hy
/-- a slot's serial and value -/
def slv (X Y : List Int) : Int × List Int := if (tk X 0).1 < (tk Y 1).1 then tk Y 1 else tk X 0
theorem slv_bound {X Y : List Int} (hX : X.length = 128) (hY : Y.length = 128) (bX : Bs X) (bY : Bs Y) : 0 ≤ (slv X Y).1 ∧ (slv X Y).1 < 18446744073709551616 := by
  unfold slv
  split
  · exact tk_bound Y 1 hY bY
  · exact tk_bound X 0 hX bX
theorem slv_len (X Y : List Int) : (slv X Y).2.length ≤ 110 := by
  unfold slv
  split
  · exact tk_len Y 1
  · exact tk_len X 0
theorem slv_bs {X Y : List Int} (bX : Bs X) (bY : Bs Y) : Bs (slv X Y).2 := by
  unfold slv
  split
  · exact tk_bs Y 1 bY
  · exact tk_bs X 0 bX

/-! On a device. -/
/-- what Load answers: the error, the serial, the value -/
def SS.ld (s : SS) (at_ : Int) : Int × Int × List Int :=
  if (s.rd at_).1 ≠ 0 then ((s.rd at_).1, 0, []) else if (s.rd (at_ + 1)).1 ≠ 0 then ((s.rd (at_ + 1)).1, 0, []) else (0, slv (s.rd at_).2 (s.rd (at_ + 1)).2)
/-- what Save answers: the error, the serial, what is then -/
def SS.sv (s : SS) (at_ : Int) (v : List Int) : Int × Int × SS :=
  if 110 < v.length then (3, 0, s) else if (s.ld at_).1 ≠ 0 then ((s.ld at_).1, 0, s) else if (s.ld at_).2.1 = 18446744073709551615 then (5, 0, s)
  else if (s.wr (at_ + ((s.ld at_).2.1 + 1) % 2) (pgl ((s.ld at_).2.1 + 1) v)).1 ≠ 0 then ((s.wr (at_ + ((s.ld at_).2.1 + 1) % 2) (pgl ((s.ld at_).2.1 + 1) v)).1, 0, (s.wr (at_ + ((s.ld at_).2.1 + 1) % 2) (pgl ((s.ld at_).2.1 + 1) v)).2)
  else if (s.wr (at_ + ((s.ld at_).2.1 + 1) % 2) (pgl ((s.ld at_).2.1 + 1) v)).2.fl.1 ≠ 0 then ((s.wr (at_ + ((s.ld at_).2.1 + 1) % 2) (pgl ((s.ld at_).2.1 + 1) v)).2.fl.1, 0, (s.wr (at_ + ((s.ld at_).2.1 + 1) % 2) (pgl ((s.ld at_).2.1 + 1) v)).2.fl.2)
  else (0, (s.ld at_).2.1 + 1, (s.wr (at_ + ((s.ld at_).2.1 + 1) % 2) (pgl ((s.ld at_).2.1 + 1) v)).2.fl.2)
theorem SS.sv_bs {s : SS} (h : s.bs) (i : Int) (v : List Int) (hv : Bs v) : (s.sv i v).2.2.bs := by
  have h1 : ∀ j x, (s.wr j (pgl x v)).2.bs := fun j x => s.wr_bs h j _ (pgl_bs x v hv)
  unfold SS.sv
  split
  · exact h
  · split
    · exact h
    · split
      · exact h
      · split
        · exact h1 _ _
        · split
          · exact SS.fl_bs (h1 _ _)
          · exact SS.fl_bs (h1 _ _)
theorem SS.sv_len (s : SS) (i : Int) (v : List Int) : (s.sv i v).2.2.L.length = s.L.length ∧ (s.sv i v).2.2.Q.length ≤ s.Q.length + 1 := by
  have h1 : ∀ j x, (s.wr j (pgl x v)).2.L.length = s.L.length ∧ (s.wr j (pgl x v)).2.Q.length ≤ s.Q.length + 1 := fun j x => s.wr_len j _
  have h2 : ∀ j x, (s.wr j (pgl x v)).2.fl.2.L.length = s.L.length ∧ (s.wr j (pgl x v)).2.fl.2.Q.length ≤ s.Q.length + 1 := fun j x => by
    refine ⟨((s.wr j (pgl x v)).2.fl_len).1.trans (h1 j x).1, ?_⟩
    have h3 : (s.wr j (pgl x v)).2.fl.2.Q.length ≤ (s.wr j (pgl x v)).2.Q.length := by
      unfold SS.fl
      split
      · exact Nat.le_refl _
      · split
        · exact Nat.le_refl _
        · exact Nat.zero_le _
    exact Nat.le_trans h3 (h1 j x).2
  unfold SS.sv
  split
  · exact ⟨rfl, by simp⟩
  · split
    · exact ⟨rfl, by simp⟩
    · split
      · exact ⟨rfl, by simp⟩
      · split
        · exact h1 _ _
        · split
          · exact h2 _ _
          · exact h2 _ _
end Go.Proofs.Ythfkooancgkjaaa
