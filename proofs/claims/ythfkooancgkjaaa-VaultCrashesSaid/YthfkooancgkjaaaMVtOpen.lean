/-
  What is proved here: what the arguments of the statements on devices hold when they are read: a list of numbers, a list of calls.
-/
import Derived.Test.YthfkooancgkjaaaME1
import Derived.Test.YthfkooancgkjaaaMRowsR
set_option linter.unusedSimpArgs false
set_option linter.unusedVariables false
namespace Go.Proofs.Ythfkooancgkjaaa
open Go.ChangeShapes Go.WideShapes Go.ChangeAt Go.RowKit
set_option linter.unusedVariables false
set_option maxRecDepth 20000

/-- a call, as the document's list of calls has it -/
structure Ov where
  k : Int
  i : Int
  b : List (List Int)
  l : List Int
/-- a slice of numbers that came in -/
def InIs (w : World) (A : Option Addr) (n : Nat) (l : List Int) : Prop := l.length = n ∧ n ≤ 9223372036854775807 ∧ Ip w A l
section
variable {H : Type} {enc : TypeId × Value → H} {w : World} {base : Nat} {spare : Nat → Bool} {held : Bool}
theorem dopen_ints_b {fuel : Nat} {cs : List Value} {x : DataW H × List MemPlace} (h : DataW.trod enc Try.prog w base spare held fuel 35 cs = some x) :
    ∃ A n c xs, cs = [.slice A n c] ∧ InIs w A n xs ∧ ∀ k : Nat, -9223372036854775808 ≤ xs[k]?.getD 0 ∧ xs[k]?.getD 0 ≤ 9223372036854775807 := by
  rcases open_ints Try.underlying35 Try.underlying3 (by kernel_rfl) h with ⟨hcs, _⟩ | ⟨a, l, c, zs, hcs, _, hl, hm, hz, _, hcell, hwz⟩
  · exact ⟨none, 0, 0, [], hcs, ⟨rfl, by omega, Ip.nil _ _⟩, fun k => by simp⟩
  · refine ⟨some a, l, c, zs.take l, hcs, ⟨?_, ?_, ?_⟩, range_i64 (fun v hv => hwz v (List.mem_of_mem_take hv))⟩
    · rw [List.length_take, hz]; split <;> omega
    · unfold maxLen at hm; omega
    · intro hx
      refine ⟨a, rfl, fun j hj => ?_⟩
      have hj2 : j < l ∧ j < zs.length := by rw [List.length_take] at hj; omega
      rw [hcell j hj2.2, List.getElem?_take, if_pos hj2.1]
      simp
theorem dopen_ints {fuel : Nat} {cs : List Value} {x : DataW H × List MemPlace} (h : DataW.trod enc Try.prog w base spare held fuel 35 cs = some x) :
    ∃ A n c xs, cs = [.slice A n c] ∧ InIs w A n xs := by
  obtain ⟨A, n, c, xs, h1, h2, _⟩ := dopen_ints_b h
  exact ⟨A, n, c, xs, h1, h2⟩
/-- the cells of a call -/
def opC (o : Ov) (B : Option Addr) (c : Nat) (A : Option Addr) (d : Nat) : List Value := [.int .i64 o.k, .int .i64 o.i, .slice B o.b.length c, .slice A o.l.length d]
/-- a call that came in -/
structure OpIn (w : World) (o : Ov) (B : Option Addr) (c : Nat) (A : Option Addr) (d : Nat) : Prop where
  k : -9223372036854775808 ≤ o.k ∧ o.k ≤ 9223372036854775807
  i : -9223372036854775808 ≤ o.i ∧ o.i ≤ 9223372036854775807
  b : InR w B o.b.length o.b
  l : InIs w A o.l.length o.l
  lb : ∀ k : Nat, -9223372036854775808 ≤ o.l[k]?.getD 0 ∧ o.l[k]?.getD 0 ≤ 9223372036854775807
theorem open_op {fuel : Nat} {cs : List Value} {x : DataW H × List MemPlace} (h : DataW.trod enc Try.prog w base spare held fuel 37 cs = some x) :
    ∃ o B c A d, cs = opC o B c A d ∧ OpIn w o B c A d := by
  obtain ⟨xs, n, _, rfl, hl, hlen, hf⟩ := DataW.trod_struct Try.underlying37 h
  have hc4 : Try.prog.cellsOf 37 = 4 := by kernel_rfl
  rw [hc4] at hl
  match cs, hl with
  | [c0, c1, c2, c3], _ =>
    match xs, hlen with
    | [y0, y1, y2, y3], _ =>
      have e0 : DataW.trod enc Try.prog w base spare held n 3 ((List.drop 0 [c0, c1, c2, c3]).take (Try.prog.cellsOf 3)) = some y0 := hf 0 _ rfl
      have e1 : DataW.trod enc Try.prog w base spare held n 3 ((List.drop 1 [c0, c1, c2, c3]).take (Try.prog.cellsOf 3)) = some y1 := hf 1 _ rfl
      have e2 : DataW.trod enc Try.prog w base spare held n 31 ((List.drop 2 [c0, c1, c2, c3]).take (Try.prog.cellsOf 31)) = some y2 := hf 2 _ rfl
      have e3 : DataW.trod enc Try.prog w base spare held n 35 ((List.drop 3 [c0, c1, c2, c3]).take (Try.prog.cellsOf 35)) = some y3 := hf 3 _ rfl
      rw [show (List.drop 0 [c0, c1, c2, c3]).take (Try.prog.cellsOf 3) = [c0] by rw [show Try.prog.cellsOf 3 = 1 by kernel_rfl]; rfl] at e0
      rw [show (List.drop 1 [c0, c1, c2, c3]).take (Try.prog.cellsOf 3) = [c1] by rw [show Try.prog.cellsOf 3 = 1 by kernel_rfl]; rfl] at e1
      rw [show (List.drop 2 [c0, c1, c2, c3]).take (Try.prog.cellsOf 31) = [c2] by rw [show Try.prog.cellsOf 31 = 1 by kernel_rfl]; rfl] at e2
      rw [show (List.drop 3 [c0, c1, c2, c3]).take (Try.prog.cellsOf 35) = [c3] by rw [show Try.prog.cellsOf 35 = 1 by kernel_rfl]; rfl] at e3
      obtain ⟨k, hk, _, hwk⟩ := DataW.trod_int Try.underlying3 e0
      obtain ⟨i, hi, _, hwi⟩ := DataW.trod_int Try.underlying3 e1
      obtain ⟨B, m, c, bb, hb, hin⟩ := open_rows e2
      obtain ⟨A, m2, d, l, hl, hil, hlb9⟩ := dopen_ints_b e3
      have b1 := bounds_i64 hwk
      have b2 := bounds_i64 hwi
      injection hk with hk
      injection hi with hi
      injection hb with hb
      injection hl with hl
      have hlb := hin.1
      have hll := hil.1
      subst hlb; subst hll
      refine ⟨⟨k, i, bb, l⟩, B, c, A, d, ?_, ⟨by omega, by omega, hin, hil, hlb9⟩⟩
      subst hk; subst hi; subst hb; subst hl
      rfl
/-- a list of calls that came in: at each place a call's cells -/
def InOps (w : World) (A : Option Addr) (n : Nat) (l : List Ov) : Prop :=
  l.length = n ∧ n ≤ 9223372036854775807 ∧ (0 < n → ∃ ad, A = some ad ∧ ∀ i, i < n → ∃ o B c E d, l[i]? = some o ∧ OpIn w o B c E d ∧ ∀ j v, (opC o B c E d)[j]? = some v → w.cell? (ad.add (4 * i + j)) = some v)
theorem vopen_ops {fuel : Nat} {cs : List Value} {x : DataW H × List MemPlace} (h : DataW.trod enc Try.prog w base spare held fuel 22 cs = some x) :
    ∃ A n c l, cs = [.slice A n c] ∧ InOps w A n l := by
  have hc4 : Try.prog.cellsOf 37 = 4 := by kernel_rfl
  rcases Deep.open_slice Try.underlying22 h with ⟨hcs, _⟩ | ⟨a, len, cap, m, n, D, Pl, hcs, hb, hl, hm, hmm, _, hx⟩
  · exact ⟨none, 0, 0, [], hcs, rfl, by omega, fun h => by omega⟩
  · have each : ∀ i : Nat, ∃ o : Ov, i < len → ∃ B c E d, OpIn w o B c E d ∧ ∀ j v, (opC o B c E d)[j]? = some v → w.cell? (a.add (4 * i + j)) = some v := by
      intro i
      by_cases hi : i < len
      · obtain ⟨cs', h1, h2⟩ := hx i (by rw [hmm]; split <;> omega)
        obtain ⟨o, B, c, E, d, rfl, hin⟩ := open_op h2
        refine ⟨o, fun _ => ⟨B, c, E, d, hin, fun j v hv => ?_⟩⟩
        rw [hc4] at h1
        have hmul : i * 4 = 4 * i := by omega
        rw [hmul] at h1
        obtain ⟨hlen, _, hcell⟩ := World.cells?_some h1
        have hj : j < 4 := by
          rcases Nat.lt_or_ge j 4 with h3 | h3
          · exact h3
          · rw [List.getElem?_eq_none (by show 4 ≤ j; exact h3)] at hv; cases hv
        have z := hcell j hj
        rw [add_add] at z
        rw [z]
        exact hv
      · exact ⟨⟨0, 0, [], []⟩, fun h => absurd h hi⟩
    obtain ⟨F, hF⟩ := Classical.axiomOfChoice each
    refine ⟨some a, len, cap, (List.range len).map F, hcs, by simp, by unfold maxLen at hm; omega, fun _ => ⟨a, rfl, fun i hi => ?_⟩⟩
    obtain ⟨B, c, E, d, h1, h2⟩ := hF i hi
    exact ⟨F i, B, c, E, d, by simp [hi], h1, h2⟩
end
end Go.Proofs.Ythfkooancgkjaaa
