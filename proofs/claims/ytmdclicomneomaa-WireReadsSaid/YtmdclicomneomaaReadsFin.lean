/-
  Whatever is taken from whatever bytes, each answer, and what is left, is the chapter's; a reader that fails once takes nothing more: the statement of the kit, for all bytes and every list of fields that can be read as data.
-/
import Derived.Test.YtmdclicomneomaaReads
namespace Go.Proofs.Ytmdclicomneomaa
open Go.ChangeShapes Go.WideShapes Go.ChangeAt Go.RowKit
set_option linter.unusedVariables false

theorem open_bytesC {H : Type} {enc : TypeId × Value → H} {w : World} {base : Nat} {spare : Nat → Bool} {held : Bool} {fuel : Nat} {cs : List Value} {x : DataW H × List MemPlace} (h : DataW.trod enc Try.prog w base spare held fuel 33 cs = some x) :
    ∃ A n c xs, cs = [.slice A n c] ∧ InB w A n c xs ∧ n ≤ c := by
  obtain ⟨A, n, c, xs, hcs, hin⟩ := open_bytes h
  refine ⟨A, n, c, xs, hcs, hin, ?_⟩
  rcases open_ints Try.underlying33 Try.underlying5 (by kernel_rfl) h with ⟨hcs2, _⟩ | ⟨a, l, c2, zs, hcs2, _, hl, _⟩
  · rw [hcs] at hcs2
    injection hcs2 with h2; injection h2 with _ h3 h4
    omega
  · rw [hcs] at hcs2
    injection hcs2 with h2; injection h2 with h3 h4 h5
    omega

theorem reads_walk (A0 A : Option Addr) (m c0 n c : Nat) (xs : List Int) (l : List (Int × Int × List Int)) (w : World) (h0 : InB w A0 m c0 xs) (hmc : m ≤ c0) (h : InL w A n l) :
    Calls Try.prog 4 #[.slice A0 m c0, .slice A n c] w fun e w' => e = .returned (.bool true) ∧ Below w.heap.size w w' := by
  cases hf : (few l 60 && sm l && decide (m ≤ 9000)) with
  | false => exact reads_few A0 A m c0 n c xs l w h0 h hf
  | true =>
    rw [Bool.and_eq_true, Bool.and_eq_true] at hf
    exact reads_good A0 A m c0 n c xs l w h0 hmc h hf.1.1 hf.1.2 (by simpa using hf.2)

set_option maxRecDepth 100000 in
theorem reads_lifted (os : Os) (started : os.Started) (H : Type) (enc : TypeId × Value → H) :
    ReturnsInHanded {} Try.checked os 4 .any (Rows.wireReadsSpec.pre6 enc Try.prog Try.f4 Rows.wireReadsRow.domain false) (Rows.wireReadsSpec.post enc Try.prog Try.f4 false true false false) := by
  refine returnsInHanded_of_change (C := Try.checked) own started (by kernel_rfl) Try.func4
    (ChangeSpec.witness6 (enc := enc) (C := Try.checked) false ⟨#[], #[.slice none 0 0, .slice none 0 0], []⟩ 8 (by kernel_rfl) (by kernel_rfl) (by kernel_rfl) (by kernel_rfl)) ?_
  intro W base args ds gs before hval0 hW hcnd _
  have hval : ∀ (j : Nat) t v, Try.f4.params[j]? = some t → args[j]? = some v → Value.okWide Try.prog W .any base t v := hval0
  have hW' := hW
  obtain ⟨p, q, hA0, hV, rfl, hfz, hnd⟩ := hW
  have hA : DataW.TrodAll enc Try.prog W 0 (fun _ => true) true Try.f4.params.toList args.toList ds p := hA0
  rw [Try.params4] at hA hval
  obtain ⟨v0, vs0, d0, ds0, p0, q0, hargs, rfl, rfl, h0, r0⟩ := trodAll_cons hA
  obtain ⟨v1, vs1, d1, ds1, p1, q1, rfl, rfl, rfl, h1, r1⟩ := trodAll_cons r0
  obtain ⟨rfl, rfl, rfl⟩ := trodAll_nil r1
  obtain rfl : args = #[v0, v1] := by cases args; simp_all
  obtain ⟨rfl, rfl⟩ := trodVars_none hV
  have k0 := h0
  have lt0 : ∀ x ∈ p0, x.block < W.heap.size := by obtain ⟨m, hm⟩ := k0; exact DataW.trod_lt m _ _ _ hm
  have k1 := h1
  have lt1 : ∀ x ∈ p1, x.block < W.heap.size := by obtain ⟨m, hm⟩ := k1; exact DataW.trod_lt m _ _ _ hm
  obtain ⟨a0, len0, cap0, rfl⟩ := okWide_slice Try.underlying33 (hval 0 33 v0 rfl rfl)
  obtain ⟨a1, len1, cap1, rfl⟩ := okWide_slice Try.underlying22 (hval 1 22 v1 rfl rfl)
  obtain ⟨fuel, hf⟩ := h0
  obtain ⟨A, n, c, xs, hcs, hin, hnc⟩ := open_bytesC hf
  obtain ⟨fuel1, hf1⟩ := h1
  obtain ⟨A1, n1, c1, l1, hcs1, hin1⟩ := open_fields hf1
  simp only [Value.cells] at hcs hcs1
  injection hcs with hcs; injection hcs with e1 e2 e3
  injection hcs1 with hcs1; injection hcs1 with g1 g2 g3
  subst e1; subst e2; subst e3; subst g1; subst g2; subst g3
  clear hA0 hval0
  refine (reads_walk _ _ _ _ _ _ xs l1 W hin hnc hin1).mono fun e W' ⟨he, bel⟩ => ?_
  subst he
  exact ⟨_, rfl, _, _, _, [], _, [], hW', trodAll_mk1 (shut_bool Try.underlying4 _), (trodAll_cons_mk (Below.trod laidOut (by kernel_rfl) (of_decide_eq_true (by kernel_rfl)) k0 bel lt0) (trodAll_cons_mk (Below.trod laidOut (by kernel_rfl) (of_decide_eq_true (by kernel_rfl)) k1 bel lt1) trodAll_mk0)), rfl, bel.frame _, fun h => by cases h⟩

theorem reads_over : Rows.wireReadsRow.holds Try.pinned (OpenSpec.ofChange Rows.wireReadsSpec) :=
  OpenClaim.holds_of_wide 4 Try.f4 rfl rfl rfl rfl rfl rfl rfl ⟨rfl, rfl, rfl, rfl, rfl⟩ rfl rfl rfl rfl rfl (by kernel_rfl) Try.func4 (by kernel_rfl)
    (of_decide_eq_true (by kernel_rfl)) (by unfold Func.isWrapper; first | (rw [if_pos (by decide +kernel)]; kernel_rfl) | (rw [if_neg (by decide +kernel)]; exact ⟨rfl, rfl⟩))
    (fun os started H enc _ => reads_lifted os started H enc)

theorem wireReads_holds : Rows.WireReadsSaid := reads_over
#print axioms wireReads_holds
end Go.Proofs.Ytmdclicomneomaa
