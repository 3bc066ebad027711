/-
  Once spoiled a writer stays so, whatever comes: the statement of the kit, for every input that can be read as data.
-/
import Derived.Test.YtoandanalfalaaaSpoiled
namespace Go.Proofs.Ytoandanalfalaaa
open Go.ChangeShapes Go.WideShapes Go.ChangeAt Go.RowKit
set_option linter.unusedVariables false

theorem spoiled_walk (A1 A2 : Option Addr) (n1 n2 c1 c2 : Nat) (l1 l2 : List (Int × Int × List Int)) (x : Int) (w : World) (h1 : InL w A1 n1 l1) (h2 : InL w A2 n2 l2) (hx : 0 ≤ x ∧ x < 4294967296) :
    Calls Try.prog 7 #[.slice A1 n1 c1, .slice A2 n2 c2, .int .u32 x] w fun e w' => e = .returned (.bool true) ∧ Below w.heap.size w w' := by
  cases hf : (few l1 60 && few l2 60) with
  | false => exact spoiled_few A1 A2 n1 n2 c1 c2 l1 l2 x w h1 h2 hf
  | true =>
    rw [Bool.and_eq_true] at hf
    have : x % 4 = 0 ∨ x % 4 = 1 ∨ x % 4 = 2 ∨ x % 4 = 3 := by omega
    rcases this with h | h | h | h
    · exact spoiled_0 A1 A2 n1 n2 c1 c2 l1 l2 x w h1 h2 hx hf.1 hf.2 h
    · exact spoiled_1 A1 A2 n1 n2 c1 c2 l1 l2 x w h1 h2 hx hf.1 hf.2 h
    · exact spoiled_2 A1 A2 n1 n2 c1 c2 l1 l2 x w h1 h2 hx hf.1 hf.2 h
    · exact spoiled_3 A1 A2 n1 n2 c1 c2 l1 l2 x w h1 h2 hx hf.1 hf.2 h

set_option maxRecDepth 100000 in
theorem spoiled_lifted (os : Os) (started : os.Started) (H : Type) (enc : TypeId × Value → H) :
    ReturnsInHanded {} Try.checked os 7 .any (Rows.wireSpoiledSpec.pre6 enc Try.prog Try.f7 Rows.wireSpoiledRow.domain false) (Rows.wireSpoiledSpec.post enc Try.prog Try.f7 false true false false) := by
  refine returnsInHanded_of_change (C := Try.checked) own started (by kernel_rfl) Try.func7
    (ChangeSpec.witness6 (enc := enc) (C := Try.checked) false ⟨#[], #[.slice none 0 0, .slice none 0 0, .int .u32 0], []⟩ 8 (by kernel_rfl) (by kernel_rfl) (by kernel_rfl) (by kernel_rfl)) ?_
  intro W base args ds gs before hval0 hW hcnd _
  have hval : ∀ (j : Nat) t v, Try.f7.params[j]? = some t → args[j]? = some v → Value.okWide Try.prog W .any base t v := hval0
  have hW' := hW
  obtain ⟨p, q, hA0, hV, rfl, hfz, hnd⟩ := hW
  have hA : DataW.TrodAll enc Try.prog W 0 (fun _ => true) true Try.f7.params.toList args.toList ds p := hA0
  rw [Try.params7] at hA hval
  obtain ⟨v0, vs0, d0, ds0, p0, q0, hargs, rfl, rfl, h0, r0⟩ := trodAll_cons hA
  obtain ⟨v1, vs1, d1, ds1, p1, q1, rfl, rfl, rfl, h1, r1⟩ := trodAll_cons r0
  obtain ⟨v2, vs2, d2, ds2, p2, q2, rfl, rfl, rfl, h2, r2⟩ := trodAll_cons r1
  obtain ⟨rfl, rfl, rfl⟩ := trodAll_nil r2
  obtain rfl : args = #[v0, v1, v2] := by cases args; simp_all
  obtain ⟨rfl, rfl⟩ := trodVars_none hV
  have k0 := h0
  have lt0 : ∀ x ∈ p0, x.block < W.heap.size := by obtain ⟨m, hm⟩ := k0; exact DataW.trod_lt m _ _ _ hm
  have k1 := h1
  have lt1 : ∀ x ∈ p1, x.block < W.heap.size := by obtain ⟨m, hm⟩ := k1; exact DataW.trod_lt m _ _ _ hm
  obtain ⟨a0, len0, cap0, rfl⟩ := okWide_slice Try.underlying22 (hval 0 22 v0 rfl rfl)
  obtain ⟨a1, len1, cap1, rfl⟩ := okWide_slice Try.underlying22 (hval 1 22 v1 rfl rfl)
  obtain ⟨x, rfl, rfl, rfl, wx⟩ := open_int Try.underlying51 (hval 2 51 v2 rfl rfl) h2
  have bx := bounds_u32 wx
  obtain ⟨fuel, hf⟩ := h0
  obtain ⟨A, n, c, l, hcs, hin⟩ := open_fields hf
  obtain ⟨fuel1, hf1⟩ := h1
  obtain ⟨A1, n1, c1, l1, hcs1, hin1⟩ := open_fields hf1
  simp only [Value.cells] at hcs hcs1
  injection hcs with hcs; injection hcs with e1 e2 e3
  injection hcs1 with hcs1; injection hcs1 with g1 g2 g3
  subst e1; subst e2; subst e3; subst g1; subst g2; subst g3
  clear hA0 hval0
  refine (spoiled_walk _ _ _ _ _ _ l l1 x W hin hin1 (by omega)).mono fun e W' ⟨he, bel⟩ => ?_
  subst he
  exact ⟨_, rfl, _, _, _, [], _, [], hW', trodAll_mk1 (shut_bool Try.underlying4 _), (trodAll_cons_mk (Below.trod laidOut (by kernel_rfl) (of_decide_eq_true (by kernel_rfl)) k0 bel lt0) (trodAll_cons_mk (Below.trod laidOut (by kernel_rfl) (of_decide_eq_true (by kernel_rfl)) k1 bel lt1) (trodAll_cons_mk (shut_int Try.underlying51 wx) trodAll_mk0))), rfl, bel.frame _, fun h => by cases h⟩

theorem spoiled_over : Rows.wireSpoiledRow.holds Try.pinned (OpenSpec.ofChange Rows.wireSpoiledSpec) :=
  OpenClaim.holds_of_wide 7 Try.f7 rfl rfl rfl rfl rfl rfl rfl ⟨rfl, rfl, rfl, rfl, rfl⟩ rfl rfl rfl rfl rfl (by kernel_rfl) Try.func7 (by kernel_rfl)
    (of_decide_eq_true (by kernel_rfl)) (by unfold Func.isWrapper; first | (rw [if_pos (by decide +kernel)]; kernel_rfl) | (rw [if_neg (by decide +kernel)]; exact ⟨rfl, rfl⟩))
    (fun os started H enc _ => spoiled_lifted os started H enc)

theorem wireSpoiled_holds : Rows.WireSpoiledSaid := spoiled_over
#print axioms wireSpoiled_holds
end Go.Proofs.Ytoandanalfalaaa
