/-
  What this file is for: a slot's pages, as lists: what a page holds, which page is right, what a slot's serial and value are, what Load and Save make of a device. Nothing of the program is walked here.
-/
import Derived.Test.YtjdojnbpchommaaMC1
import Derived.Test.YtjdojnbpchommaaMDyL
set_option linter.unusedSimpArgs false
set_option linter.unusedVariables false
namespace Go.Proofs.Ytjdojnbpchommaa
open Go.ChangeShapes Go.WideShapes Go.ChangeAt Go.RowKit
set_option linter.unusedVariables false
set_option maxRecDepth 20000

theorem be_bs (x : Int) (n : Nat) : Bs (be x n) := by
  induction n with
  | zero => intro v hv; simp [be] at hv
  | succ n ih =>
    intro v hv
    rw [be] at hv
    rcases List.mem_cons.1 hv with h | h
    · subst h; omega
    · exact ih v h
theorem val_app (a b : List Int) : val (a ++ b) = val a * 256 ^ b.length + val b := by
  induction h : b.length generalizing b with
  | zero => have : b = [] := List.eq_nil_of_length_eq_zero h; subst this; simp [val]
  | succ n ih =>
    have hb : b = b.take n ++ [b[n]?.getD 0] := by
      have := List.take_succ_eq_append_getElem (l := b) (i := n) (by omega)
      rw [List.take_of_length_le (by omega)] at this
      rw [List.getElem?_eq_getElem (by omega)]
      exact this
    have h1 := ih (b.take n) (by simp; omega)
    have h2 := val_snoc (a ++ b.take n) (b[n]?.getD 0)
    have h3 := val_snoc (b.take n) (b[n]?.getD 0)
    rw [List.append_assoc, ← hb] at h2
    rw [← hb] at h3
    rw [h2, h3, h1, Int.pow_succ, Int.add_mul, Int.mul_assoc, Int.add_assoc]
theorem val_be' (x : Int) (n : Nat) (h0 : 0 ≤ x) : val (be x n) = x % 256 ^ n := by
  induction n with
  | zero => simp [be, val]
  | succ n ih =>
    rw [be]
    have e : val ((x / 256 ^ n % 256) :: be x n) = val ([x / 256 ^ n % 256] ++ be x n) := rfl
    rw [e, val_app, be_length, ih]
    have e1 : val [x / 256 ^ n % 256] = x / 256 ^ n % 256 := by simp [val]
    rw [e1, Int.pow_succ]
    have hm : 0 ≤ (256 : Int) ^ n := Int.le_of_lt (Int.pow_pos (by decide))
    generalize (256 : Int) ^ n = m at *
    have hq : x / (m * 256) = x / m / 256 := by rw [Int.ediv_ediv_of_nonneg hm]
    have a1 := Int.emod_def x (m * 256)
    have a2 := Int.emod_def x m
    have a3 := Int.emod_def (x / m) 256
    rw [hq] at a1
    generalize x / m = d at *
    generalize d / 256 = q at *
    rw [a1, a2, a3, Int.sub_mul]
    have b1 : 256 * q * m = m * 256 * q := by rw [Int.mul_comm (256 * q) m, Int.mul_assoc]
    have b2 : d * m = m * d := Int.mul_comm _ _
    omega
theorem val_be8 (x : Int) (h : 0 ≤ x ∧ x < 18446744073709551616) : val (be x 8) = x := by
  rw [val_be' x 8 h.1]
  have : (256 : Int) ^ 8 = 18446744073709551616 := by decide
  rw [this]; omega
theorem val_be2 (x : Int) (h : 0 ≤ x ∧ x < 65536) : val (be x 2) = x := by
  rw [val_be' x 2 h.1]
  have : (256 : Int) ^ 2 = 65536 := by decide
  rw [this]; omega
theorem val_inj : ∀ (a b : List Int), a.length = b.length → Bs a → Bs b → val a = val b → a = b := by
  intro a
  induction h : a.length generalizing a with
  | zero => intro b hb _ _ _; rw [List.eq_nil_of_length_eq_zero h, List.eq_nil_of_length_eq_zero hb.symm]
  | succ n ih =>
    intro b hb ba bb hv
    have h1 := val_take a n (by omega)
    have h2 := val_take b n (by omega)
    have e1 : a.take (n + 1) = a := List.take_of_length_le (by omega)
    have e2 : b.take (n + 1) = b := List.take_of_length_le (by omega)
    rw [e1] at h1
    rw [e2] at h2
    have a1 := ba.at n
    have b1 := bb.at n
    have hx : a[n]?.getD 0 = b[n]?.getD 0 := by omega
    have hy : val (a.take n) = val (b.take n) := by omega
    have h3 := ih (a.take n) (by simp; omega) (b.take n) (by simp; omega) (ba.take n) (bb.take n) hy
    have a2 := List.take_succ_eq_append_getElem (l := a) (i := n) (by omega)
    have b2 := List.take_succ_eq_append_getElem (l := b) (i := n) (by omega)
    rw [e1] at a2
    rw [e2] at b2
    rw [a2, b2, h3]
    congr 2
    have x1 : a[n]?.getD 0 = a[n] := by rw [List.getElem?_eq_getElem (by omega)]; rfl
    have x2 : b[n]?.getD 0 = b[n] := by rw [List.getElem?_eq_getElem (by omega)]; rfl
    rw [← x1, ← x2, hx]

/-- the bytes of a right page -/
def pgl (x : Int) (v : List Int) : List Int := be x 8 ++ be v.length 2 ++ v ++ List.replicate (110 - v.length) 0 ++ be x 8
theorem pgl_len (x : Int) (v : List Int) (h : v.length ≤ 110) : (pgl x v).length = 128 := by
  unfold pgl; simp only [List.length_append, be_length, List.length_replicate]; omega
theorem pgl_bs (x : Int) (v : List Int) (h : Bs v) : Bs (pgl x v) := by
  intro y hy
  unfold pgl at hy
  simp only [List.mem_append] at hy
  rcases hy with (((h1 | h1) | h1) | h1) | h1
  · exact be_bs _ _ y h1
  · exact be_bs _ _ y h1
  · exact h y h1
  · rw [List.eq_of_mem_replicate h1]; omega
  · exact be_bs _ _ y h1
theorem pgl_front (x : Int) (v : List Int) : (pgl x v).take 8 = be x 8 := by
  unfold pgl
  simp only [List.append_assoc]
  rw [List.take_append_of_le_length (by rw [be_length]; omega), List.take_of_length_le (by rw [be_length]; omega)]
theorem pgl_size (x : Int) (v : List Int) : ((pgl x v).drop 8).take 2 = be v.length 2 := by
  unfold pgl
  simp only [List.append_assoc]
  rw [List.drop_append_of_le_length (by rw [be_length]; omega), List.drop_of_length_le (by rw [be_length]; omega), List.nil_append, List.take_append_of_le_length (by rw [be_length]; omega), List.take_of_length_le (by rw [be_length]; omega)]
theorem pgl_val (x : Int) (v : List Int) : ((pgl x v).drop 10).take v.length = v := by
  have : pgl x v = (be x 8 ++ be v.length 2) ++ (v ++ (List.replicate (110 - v.length) 0 ++ be x 8)) := by unfold pgl; simp only [List.append_assoc]
  rw [this, List.drop_append_of_le_length (by rw [List.length_append, be_length, be_length]; omega), List.drop_of_length_le (by rw [List.length_append, be_length, be_length]; omega), List.nil_append, List.take_left]
theorem pgl_end (x : Int) (v : List Int) (h : v.length ≤ 110) : (pgl x v).drop 120 = be x 8 := by
  have : pgl x v = (be x 8 ++ be v.length 2 ++ v ++ List.replicate (110 - v.length) 0) ++ be x 8 := rfl
  rw [this]
  have hl : (be x 8 ++ be v.length 2 ++ v ++ List.replicate (110 - v.length) (0 : Int)).length = 120 := by simp only [List.length_append, be_length, List.length_replicate]; omega
  rw [← hl, List.drop_left]
/-- the serial and the value of the page X on the side i, if it is right; else 0 and nothing -/
def tk (X : List Int) (i : Int) : Int × List Int :=
  if val (X.take 8) = val (X.drop 120) ∧ val (X.take 8) ≠ 0 ∧ val ((X.drop 8).take 2) ≤ 110 ∧ val (X.take 8) % 2 = i then (val (X.take 8), (X.drop 10).take (val ((X.drop 8).take 2)).toNat) else (0, [])
theorem tk_pgl (x : Int) (v : List Int) (h : v.length ≤ 110) (hx : 0 < x ∧ x < 18446744073709551616) : tk (pgl x v) (x % 2) = (x, v) := by
  unfold tk
  rw [pgl_front, pgl_end x v h, pgl_size, val_be8 x (by omega), val_be2 _ (by omega), if_pos (by omega), Int.toNat_natCast, pgl_val]
theorem tk_bound (X : List Int) (i : Int) (hX : X.length = 128) (hb : Bs X) : 0 ≤ (tk X i).1 ∧ (tk X i).1 < 18446744073709551616 := by
  unfold tk
  have h := val_bound (X.take 8) (hb.take 8)
  rw [List.length_take, hX] at h
  have e : (256 : Int) ^ (min 8 128) = 18446744073709551616 := by decide
  rw [e] at h
  split
  · exact h
  · exact ⟨Int.le_refl _, by decide⟩
theorem tk_side (X : List Int) (i : Int) (h : (tk X i).1 ≠ 0) : (tk X i).1 % 2 = i := by
  unfold tk at h ⊢
  split
  · rename_i h1; exact h1.2.2.2
  · rename_i h1; rw [if_neg h1] at h; exact (h rfl).elim
theorem tk_len (X : List Int) (i : Int) : (tk X i).2.length ≤ 110 := by
  unfold tk
  split
  · rename_i h1
    have := h1.2.2.1
    simp only [List.length_take]
    omega
  · simp
theorem tk_bs (X : List Int) (i : Int) (hb : Bs X) : Bs (tk X i).2 := by
  unfold tk
  split
  · exact (hb.drop _).take _
  · intro y hy; simp at hy
/-- a slot's serial and value -/
def slv (X Y : List Int) : Int × List Int := if (tk X 0).1 < (tk Y 1).1 then tk Y 1 else tk X 0
theorem slv_bound {X Y : List Int} (hX : X.length = 128) (hY : Y.length = 128) (bX : Bs X) (bY : Bs Y) : 0 ≤ (slv X Y).1 ∧ (slv X Y).1 < 18446744073709551616 := by
  unfold slv
  split
  · exact tk_bound Y 1 hY bY
  · exact tk_bound X 0 hX bX
theorem slv_len (X Y : List Int) : (slv X Y).2.length ≤ 110 := by
  unfold slv
  split
  · exact tk_len Y 1
  · exact tk_len X 0
theorem slv_bs {X Y : List Int} (bX : Bs X) (bY : Bs Y) : Bs (slv X Y).2 := by
  unfold slv
  split
  · exact tk_bs Y 1 bY
  · exact tk_bs X 0 bX

/-! On a device. -/
/-- all bytes are bytes -/
def SS.bs (s : SS) : Prop := (∀ p ∈ s.L, Bs p) ∧ ∀ q ∈ s.Q, Bs q.2
/-- what Load answers: the error, the serial, the value -/
def SS.ld (s : SS) (at_ : Int) : Int × Int × List Int :=
  if (s.rd at_).1 ≠ 0 then ((s.rd at_).1, 0, []) else if (s.rd (at_ + 1)).1 ≠ 0 then ((s.rd (at_ + 1)).1, 0, []) else (0, slv (s.rd at_).2 (s.rd (at_ + 1)).2)
/-- what Save answers: the error, the serial, what is then -/
def SS.sv (s : SS) (at_ : Int) (v : List Int) : Int × Int × SS :=
  if 110 < v.length then (3, 0, s) else if (s.ld at_).1 ≠ 0 then ((s.ld at_).1, 0, s) else if (s.ld at_).2.1 = 18446744073709551615 then (5, 0, s)
  else if (s.wr (at_ + ((s.ld at_).2.1 + 1) % 2) (pgl ((s.ld at_).2.1 + 1) v)).1 ≠ 0 then ((s.wr (at_ + ((s.ld at_).2.1 + 1) % 2) (pgl ((s.ld at_).2.1 + 1) v)).1, 0, (s.wr (at_ + ((s.ld at_).2.1 + 1) % 2) (pgl ((s.ld at_).2.1 + 1) v)).2)
  else if (s.wr (at_ + ((s.ld at_).2.1 + 1) % 2) (pgl ((s.ld at_).2.1 + 1) v)).2.fl.1 ≠ 0 then ((s.wr (at_ + ((s.ld at_).2.1 + 1) % 2) (pgl ((s.ld at_).2.1 + 1) v)).2.fl.1, 0, (s.wr (at_ + ((s.ld at_).2.1 + 1) % 2) (pgl ((s.ld at_).2.1 + 1) v)).2.fl.2)
  else (0, (s.ld at_).2.1 + 1, (s.wr (at_ + ((s.ld at_).2.1 + 1) % 2) (pgl ((s.ld at_).2.1 + 1) v)).2.fl.2)
theorem pg_bs : ∀ (Q : List Wr) (L : List (List Int)), (∀ p ∈ L, Bs p) → (∀ q ∈ Q, Bs q.2) → ∀ p ∈ pg L Q, Bs p
  | [], L, h, _ => h
  | q :: Q, L, h, hq => pg_bs Q _ (fun p hp => by
      rcases List.mem_or_eq_of_mem_set hp with h1 | h1
      · exact h p h1
      · rw [h1]; exact hq q (by simp)) (fun r hr => hq r (List.mem_cons_of_mem _ hr))
theorem bs_at {L : List (List Int)} (h : ∀ p ∈ L, Bs p) (i : Nat) : Bs (L[i]?.getD []) := by
  rcases Nat.lt_or_ge i L.length with h1 | h1
  · rw [List.getElem?_eq_getElem h1]; exact h _ (List.getElem_mem h1)
  · rw [List.getElem?_eq_none h1]; intro y hy; simp at hy
theorem SS.rd_bs {s : SS} (h : s.bs) (i : Int) : Bs (s.rd i).2 := by
  unfold SS.rd
  split
  · intro y hy; simp at hy
  · split
    · intro y hy; simp at hy
    · exact bs_at (pg_bs _ _ h.1 h.2) _
theorem SS.rd_len {s : SS} (h1 : PgOk s.L) (h2 : QOk s.L.length s.Q) (i : Int) (h : (s.rd i).1 = 0) : (s.rd i).2.length = 128 := by
  unfold SS.rd at h ⊢
  split
  · rename_i h3; rw [if_pos h3] at h; simp at h
  · rename_i h3
    rw [if_neg h3] at h
    split
    · rename_i h4; rw [if_pos h4] at h; simp at h
    · rename_i h4; exact (pg_ok _ _ h1 h2).at (by rw [pg_length]; omega)
theorem SS.wr_bs {s : SS} (h : s.bs) (i : Int) (b : List Int) (hb : Bs b) : (s.wr i b).2.bs := by
  unfold SS.wr
  split
  · exact h
  · split
    · exact h
    · split
      · exact h
      · split
        · exact h
        · exact ⟨h.1, fun q hq => by
            rcases List.mem_append.1 hq with h1 | h1
            · exact h.2 q h1
            · rw [List.mem_singleton.1 h1]; exact hb⟩
theorem SS.fl_bs {s : SS} (h : s.bs) : s.fl.2.bs := by
  unfold SS.fl
  split
  · exact h
  · split
    · exact h
    · exact ⟨pg_bs _ _ h.1 h.2, fun q hq => by simp at hq⟩
theorem mixs_bs (T : Nat → Nat) {L : List (List Int)} {Q : List Wr} (h : ∀ p ∈ L, Bs p) (hq : ∀ q ∈ Q, Bs q.2) : ∀ k, ∀ p ∈ mixs T L Q k, Bs p
  | 0 => h
  | k + 1 => by
    unfold mixs
    cases hk : Q[k]? with
    | none => exact mixs_bs T h hq k
    | some q =>
      intro p hp
      rcases List.mem_or_eq_of_mem_set hp with h1 | h1
      · exact mixs_bs T h hq k p h1
      · rw [h1]
        intro y hy
        unfold mx at hy
        rcases List.mem_append.1 hy with h2 | h2
        · exact hq q (List.mem_of_getElem? hk) y (List.mem_of_mem_take h2)
        · exact bs_at (mixs_bs T h hq k) q.1 y (List.mem_of_mem_drop h2)
theorem SS.rs_bs {s : SS} (h : s.bs) (l : List Int) : (s.rs l).bs := ⟨mixs_bs _ h.1 h.2 _, fun q hq => by simp [SS.rs] at hq⟩
theorem SS.sf_bs {s : SS} (h : s.bs) (n : Int) : (s.sf n).bs := h
theorem SS.sv_bs {s : SS} (h : s.bs) (i : Int) (v : List Int) (hv : Bs v) : (s.sv i v).2.2.bs := by
  have h1 : ∀ j x, (s.wr j (pgl x v)).2.bs := fun j x => s.wr_bs h j _ (pgl_bs x v hv)
  unfold SS.sv
  split
  · exact h
  · split
    · exact h
    · split
      · exact h
      · split
        · exact h1 _ _
        · split
          · exact SS.fl_bs (h1 _ _)
          · exact SS.fl_bs (h1 _ _)
theorem SS.sv_len (s : SS) (i : Int) (v : List Int) : (s.sv i v).2.2.L.length = s.L.length ∧ (s.sv i v).2.2.Q.length ≤ s.Q.length + 1 := by
  have h1 : ∀ j x, (s.wr j (pgl x v)).2.L.length = s.L.length ∧ (s.wr j (pgl x v)).2.Q.length ≤ s.Q.length + 1 := fun j x => s.wr_len j _
  have h2 : ∀ j x, (s.wr j (pgl x v)).2.fl.2.L.length = s.L.length ∧ (s.wr j (pgl x v)).2.fl.2.Q.length ≤ s.Q.length + 1 := fun j x => by
    refine ⟨((s.wr j (pgl x v)).2.fl_len).1.trans (h1 j x).1, ?_⟩
    have h3 : (s.wr j (pgl x v)).2.fl.2.Q.length ≤ (s.wr j (pgl x v)).2.Q.length := by
      unfold SS.fl
      split
      · exact Nat.le_refl _
      · split
        · exact Nat.le_refl _
        · exact Nat.zero_le _
    exact Nat.le_trans h3 (h1 j x).2
  unfold SS.sv
  split
  · exact ⟨rfl, by simp⟩
  · split
    · exact ⟨rfl, by simp⟩
    · split
      · exact ⟨rfl, by simp⟩
      · split
        · exact h1 _ _
        · split
          · exact h2 _ _
          · exact h2 _ _
end Go.Proofs.Ytjdojnbpchommaa
