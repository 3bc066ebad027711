/-
  What is proved here: what the arguments of the statements hold when they are read: a field, a list of fields, bytes.
-/
import Derived.Test.YtmdclicomneomaaTake
import Derived.Deep.Slices
import Derived.ChangeOld
namespace Go.Proofs.Ytmdclicomneomaa
open Go.ChangeShapes Go.WideShapes Go.ChangeAt Go.RowKit
set_option linter.unusedVariables false

theorem own : ownKnob Try.prog.godebug = none := by kernel_rfl
theorem laidOut : laidOutB Try.prog = true := by kernel_rfl

/-- a slice of bytes that came in -/
def InB (w : World) (A : Option Addr) (n c : Nat) (xs : List Int) : Prop := xs.length = n ∧ n ≤ 9223372036854775807 ∧ Bs xs ∧ Rp w none A xs

section
variable {H : Type} {enc : TypeId × Value → H} {w : World} {base : Nat} {spare : Nat → Bool} {held : Bool}

theorem open_bytes {fuel : Nat} {cs : List Value} {x : DataW H × List MemPlace} (h : DataW.trod enc Try.prog w base spare held fuel 33 cs = some x) :
    ∃ A n c xs, cs = [.slice A n c] ∧ InB w A n c xs := by
  rcases open_ints Try.underlying33 Try.underlying5 (by kernel_rfl) h with ⟨hcs, _⟩ | ⟨a, l, c, zs, hcs, _, hl, hm, hz, _, hcell, hwz⟩
  · exact ⟨none, 0, 0, [], hcs, rfl, by omega, fun v hv => by simp at hv, Rp.nil _ _ _⟩
  · refine ⟨some a, l, c, zs.take l, hcs, ?_, ?_, ?_, ?_⟩
    · rw [List.length_take, hz]; split <;> omega
    · unfold maxLen at hm; omega
    · intro v hv
      have := bounds_u8 (hwz v (List.mem_of_mem_take hv))
      omega
    · intro hx
      refine ⟨a, rfl, (fun ⟨a, e, _⟩ => by cases e), fun j hj => ?_⟩
      have hj2 : j < l ∧ j < zs.length := by rw [List.length_take] at hj; omega
      rw [hcell j hj2.2, List.getElem?_take, if_pos hj2.1]
      simp

/-- the cells of a field that came in -/
def InF (w : World) (cs : List Value) (k x : Int) (bb : List Int) : Prop :=
  ∃ A c, cs = [.int .i64 k, .int .u64 x, .slice A bb.length c] ∧ 0 ≤ x ∧ x < 18446744073709551616 ∧ -9223372036854775808 ≤ k ∧ k ≤ 9223372036854775807 ∧ InB w A bb.length c bb

theorem open_field {fuel : Nat} {cs : List Value} {x : DataW H × List MemPlace} (h : DataW.trod enc Try.prog w base spare held fuel 35 cs = some x) :
    ∃ k y bb, InF w cs k y bb := by
  obtain ⟨xs, n, _, rfl, hl, hlen, hf⟩ := DataW.trod_struct Try.underlying35 h
  have hc3 : Try.prog.cellsOf 35 = 3 := by kernel_rfl
  rw [hc3] at hl
  match cs, hl with
  | [c0, c1, c2], _ =>
    match xs, hlen with
    | [y0, y1, y2], _ =>
      have e0 : DataW.trod enc Try.prog w base spare held n 3 ((List.drop 0 [c0, c1, c2]).take (Try.prog.cellsOf 3)) = some y0 := hf 0 _ rfl
      have e1 : DataW.trod enc Try.prog w base spare held n 32 ((List.drop 1 [c0, c1, c2]).take (Try.prog.cellsOf 32)) = some y1 := hf 1 _ rfl
      have e2 : DataW.trod enc Try.prog w base spare held n 33 ((List.drop 2 [c0, c1, c2]).take (Try.prog.cellsOf 33)) = some y2 := hf 2 _ rfl
      have k0 : (List.drop 0 [c0, c1, c2]).take (Try.prog.cellsOf 3) = [c0] := by rw [show Try.prog.cellsOf 3 = 1 by kernel_rfl]; rfl
      have k1 : (List.drop 1 [c0, c1, c2]).take (Try.prog.cellsOf 32) = [c1] := by rw [show Try.prog.cellsOf 32 = 1 by kernel_rfl]; rfl
      have k2 : (List.drop 2 [c0, c1, c2]).take (Try.prog.cellsOf 33) = [c2] := by rw [show Try.prog.cellsOf 33 = 1 by kernel_rfl]; rfl
      rw [k0] at e0
      rw [k1] at e1
      rw [k2] at e2
      obtain ⟨k, hk, _, hwk⟩ := DataW.trod_int Try.underlying3 e0
      obtain ⟨y, hy, _, hwy⟩ := DataW.trod_int Try.underlying32 e1
      obtain ⟨A, m, c, bb, hb, hin⟩ := open_bytes e2
      have hlen := hin.1
      subst hlen
      have b1 := bounds_i64 hwk
      have b2 := bounds_u64 hwy
      refine ⟨k, y, bb, A, c, ?_, by omega, by omega, by omega, by omega, hin⟩
      injection hk with hk
      injection hy with hy
      injection hb with hb
      subst hk; subst hy; subst hb
      rfl

/-- a list of fields that came in: at each place a field's cells -/
def InL (w : World) (A : Option Addr) (n : Nat) (l : List (Int × Int × List Int)) : Prop :=
  l.length = n ∧ n ≤ 9223372036854775807 ∧ (0 < n → ∃ ad, A = some ad ∧ ∀ i, i < n → ∃ k x bb B c, l[i]? = some (k, x, bb) ∧ InF w [.int .i64 k, .int .u64 x, .slice B bb.length c] k x bb ∧
    w.cell? (ad.add (3 * i)) = some (.int .i64 k) ∧ w.cell? (ad.add (3 * i + 1)) = some (.int .u64 x) ∧ w.cell? (ad.add (3 * i + 2)) = some (.slice B bb.length c))

theorem open_fields {fuel : Nat} {cs : List Value} {x : DataW H × List MemPlace} (h : DataW.trod enc Try.prog w base spare held fuel 22 cs = some x) :
    ∃ A n c l, cs = [.slice A n c] ∧ InL w A n l := by
  have hc3 : Try.prog.cellsOf 35 = 3 := by kernel_rfl
  rcases Deep.open_slice Try.underlying22 h with ⟨hcs, _⟩ | ⟨a, len, cap, m, n, D, Pl, hcs, hb, hl, hm, hmm, _, hx⟩
  · exact ⟨none, 0, 0, [], hcs, rfl, by omega, fun h => by omega⟩
  · have each : ∀ i : Nat, ∃ f : Int × Int × List Int, i < len → ∃ B c, InF w [.int .i64 f.1, .int .u64 f.2.1, .slice B f.2.2.length c] f.1 f.2.1 f.2.2 ∧
        w.cell? (a.add (3 * i)) = some (.int .i64 f.1) ∧ w.cell? (a.add (3 * i + 1)) = some (.int .u64 f.2.1) ∧ w.cell? (a.add (3 * i + 2)) = some (.slice B f.2.2.length c) := by
      intro i
      by_cases hi : i < len
      · obtain ⟨cs', h1, h2⟩ := hx i (by rw [hmm]; split <;> omega)
        obtain ⟨k, y, bb, hin⟩ := open_field h2
        refine ⟨(k, y, bb), fun _ => ?_⟩
        obtain ⟨B, c, rfl, hrest⟩ := hin
        rw [hc3] at h1
        have hmul : i * 3 = 3 * i := by omega
        rw [hmul] at h1
        obtain ⟨_, _, hcell⟩ := World.cells?_some h1
        have z0 := hcell 0 (by omega)
        have z1 := hcell 1 (by omega)
        have z2 := hcell 2 (by omega)
        rw [add_add] at z0 z1 z2
        exact ⟨B, c, ⟨B, c, rfl, hrest⟩, z0, z1, z2⟩
      · exact ⟨(0, 0, []), fun h => absurd h hi⟩
    obtain ⟨F, hF⟩ := Classical.axiomOfChoice each
    refine ⟨some a, len, cap, (List.range len).map F, hcs, by simp, by unfold maxLen at hm; omega, fun _ => ⟨a, rfl, fun i hi => ?_⟩⟩
    obtain ⟨B, c, h1, h2, h3, h4⟩ := hF i hi
    exact ⟨(F i).1, (F i).2.1, (F i).2.2, B, c, by simp [hi], h1, h2, h3, h4⟩
end
end Go.Proofs.Ytmdclicomneomaa
