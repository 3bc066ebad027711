/-
  No writer puts nothing, no reader takes nothing: the statement holds of every field that can be read as data.
-/
import Derived.Test.YtmdclicomneomaaIn
namespace Go.Proofs.Ytmdclicomneomaa
open Go.ChangeShapes Go.WideShapes Go.ChangeAt Go.RowKit
set_option linter.unusedVariables false

theorem tk_none (k most : Int) : tk .none k most = (0, [], .none) := by
  unfold tk
  repeat' split
  all_goals first | rfl | (simp [RS.num, RS.count, RS.fail]; done) | (unfold RS.count; split <;> rfl) | (simp_all [RS.num])
theorem fStep_none (k x : Int) (bb : List Int) : fStep .none k x bb = .none := by
  unfold fStep
  repeat' split
  all_goals first | rfl | (unfold WS.up; split <;> rfl) | (unfold WS.str; split <;> rfl)

theorem Rp.below {w w' : World} {A : Option Addr} {xs : List Int} (h : Rp w none A xs) (hb : Below w.heap.size w w') : Rp w' none A xs := h.same fun k hk _ => hb.block k hk

set_option maxHeartbeats 1000000 in
theorem nil_walk (A : Option Addr) (c : Nat) (k x : Int) (bb : List Int) (w : World) (h : InF w [.int .i64 k, .int .u64 x, .slice A bb.length c] k x bb) :
    Calls Try.prog 6 #[.agg #[.int .i64 k, .int .u64 x, .slice A bb.length c]] w fun e w' => e = .returned (.bool true) ∧ Below w.heap.size w w' := by
  obtain ⟨A', c', hcs, hx0, hx1, hk0, hk1, hlen, hmax, hbs, hrp⟩ := h
  injection hcs with _ hcs; injection hcs with _ hcs; injection hcs with hcs; injection hcs with e1 _ e2
  subst e1; subst e2
  have B1 : Below w.heap.size w (w.alloc (.cells #[.int .i64 k, .int .u64 x, .slice A bb.length c] 35)) := (Below.refl _ _).alloc (Nat.le_refl _) _
  have HBK := hid (Blk.new w 35 #[.int .i64 k, .int .u64 x, .slice A bb.length c])
  have HR := hid hrp
  have HX0 := hid hx0; have HX1 := hid hx1
  have hlt : (w.heap.size : Nat) < (w.alloc (.cells #[.int .i64 k, .int .u64 x, .slice A bb.length c] 35)).heap.size := by simp
  have HLT := hid hlt
  clear hrp hbs hlen hmax hk0 hk1 hx0 hx1 hlt
  by_cases hbig : 9000 < bb.length
  · have tok1 : True := trivial
    go_enter Try.func6, Try.ntmps6
    go_wp2_with (first
      | (go_at_call 9; have _t := tok1; refine (awake_any _).mono ?_; rintro e w1 ⟨rfl, hb1⟩; have HB1 := hid (B1.trans (hb1.mono B1.size)); have c2 := (HBK.out.same (hb1.block _ HLT.out)).cell 2; simp only [List.getElem?_toArray, List.getElem?_cons_zero, List.getElem?_cons_succ] at c2; clear tok1 hb1)
      | (go_at_call 9; refine (awake_any _).mono ?_; rintro e w2 ⟨rfl, hb2⟩; have HB2 := hid (HB1.out.trans (hb2.mono HB1.out.size)); clear hb2))
    go_ret
    exact ⟨rfl, HB2.out⟩
  · have hsmall : bb.length ≤ 9000 := by omega
    clear hbig
    go_enter Try.func6, Try.ntmps6
    go_wp2_with (first
      | (go_at_call 9; refine (awake_any _).mono ?_; rintro e w1 ⟨rfl, hb1⟩; have HB1 := hid (B1.trans (hb1.mono B1.size)); have HBK1 := hid (HBK.out.same (hb1.block _ HLT.out)); have c0 := HBK1.out.cell 0; have c1 := HBK1.out.cell 1; have c2 := HBK1.out.cell 2; simp only [List.getElem?_toArray, List.getElem?_cons_zero, List.getElem?_cons_succ] at c0 c1 c2; have HLT1 := hid HBK1.out.lt; clear hb1)
      | (go_at_call 12; refine (lput_any none .none k x A c bb _ rfl (HR.out.below HB1.out) ⟨HX0.out, HX1.out⟩ (by omega) (by simp [WS.len])).mono ?_; rintro e w2 ⟨rfl, _, ho2⟩; have hb2 := ho2.below (Nat.le_refl _) (fun k ⟨a, e, _⟩ => by cases e); have HB2 := hid (HB1.out.trans (hb2.mono HB1.out.size)); have HBK2 := hid (HBK1.out.same (hb2.block _ HLT1.out)); have d0 := HBK2.out.cell 0; have d1 := HBK2.out.cell 1; simp only [List.getElem?_toArray, List.getElem?_cons_zero, List.getElem?_cons_succ] at d0 d1; clear hb2 ho2)
      | (go_at_call 17; refine (take_any none .none k x _ rfl).mono ?_; rintro e w3 ⟨A3, c3, rfl, hc3, hf3, _, ho3⟩; have hb3 := ho3.below (Nat.le_refl _) (fun k ⟨a, e, _⟩ => by cases e); have HB3 := hid (HB2.out.trans (hb3.mono HB2.out.size)); clear hb3 ho3 hc3 hf3; rw [tk_none]; simp only [List.length_nil])
      | (go_at_call 13; refine (Out_nil _).mono ?_; rintro e w4 ⟨rfl, rfl⟩)
      | (go_at_call 20; refine (Left_any none .none _ rfl).mono ?_; rintro e w4 ⟨rfl, rfl⟩; simp only [RS.left, List.length_nil])
      | (go_at_call 19; refine (Fails_any none .none _ rfl).mono ?_; rintro e w4 ⟨rfl, rfl⟩; simp only [RS.fails])
      | (go_at_call 21; refine (Done_any none .none _ rfl).mono ?_; rintro e w4 ⟨rfl, rfl⟩; simp only [RS.done, RS.fails]))
    go_ret
    exact ⟨rfl, HB3.out.alloc HB3.out.size _⟩

set_option maxRecDepth 100000 in
theorem nil_lifted (os : Os) (started : os.Started) (H : Type) (enc : TypeId × Value → H) :
    ReturnsInHanded {} Try.checked os 6 .any (Rows.wireNilSpec.pre6 enc Try.prog Try.f6 Rows.wireNilRow.domain false) (Rows.wireNilSpec.post enc Try.prog Try.f6 false true false false) := by
  refine returnsInHanded_of_change (C := Try.checked) own started (by kernel_rfl) Try.func6
    (ChangeSpec.witness6 (enc := enc) (C := Try.checked) false ⟨#[], #[.agg #[.int .i64 0, .int .u64 0, .slice none 0 0]], []⟩ 8 (by kernel_rfl) (by kernel_rfl) (by kernel_rfl) (by kernel_rfl)) ?_
  intro W base args ds gs before hval0 hW hcnd _
  have hval : ∀ (j : Nat) t v, Try.f6.params[j]? = some t → args[j]? = some v → Value.okWide Try.prog W .any base t v := hval0
  have hW' := hW
  obtain ⟨p, q, hA0, hV, rfl, hfz, hnd⟩ := hW
  have hA : DataW.TrodAll enc Try.prog W 0 (fun _ => true) true Try.f6.params.toList args.toList ds p := hA0
  rw [Try.params6] at hA hval
  obtain ⟨v0, vs0, d0, ds0, p0, q0, hargs, rfl, rfl, h0, r0⟩ := trodAll_cons hA
  obtain ⟨rfl, rfl, rfl⟩ := trodAll_nil r0
  obtain rfl : args = #[v0] := by cases args; simp_all
  obtain ⟨rfl, rfl⟩ := trodVars_none hV
  have k0 := h0
  have lt0 : ∀ x ∈ p0, x.block < W.heap.size := by obtain ⟨m, hm⟩ := k0; exact DataW.trod_lt m _ _ _ hm
  obtain ⟨fuel, hf⟩ := h0
  obtain ⟨cs, rfl⟩ : ∃ cs, v0 = .agg cs := by
    have h := hval 0 35 v0 rfl rfl
    unfold Value.okWide at h
    rw [Try.underlying35] at h
    obtain ⟨cs, h, _⟩ := h
    exact ⟨cs, h⟩
  obtain ⟨k, y, bb, hin⟩ := open_field hf
  have hin2 := hin
  obtain ⟨A, c, hcs, _⟩ := hin2
  have hcs2 : cs = #[.int .i64 k, .int .u64 y, .slice A bb.length c] := by
    have : cs.toList = [.int .i64 k, .int .u64 y, .slice A bb.length c] := hcs
    rw [← this]
  subst hcs2
  clear hA0 hval0
  refine (nil_walk A c k y bb W hin).mono fun e W' ⟨he, bel⟩ => ?_
  subst he
  exact ⟨_, rfl, _, _, _, [], _, [], hW', trodAll_mk1 (shut_bool Try.underlying4 _), (trodAll_cons_mk (Below.trod laidOut (by kernel_rfl) (of_decide_eq_true (by kernel_rfl)) k0 bel lt0) trodAll_mk0), rfl, bel.frame _, fun h => by cases h⟩

theorem nil_over : Rows.wireNilRow.holds Try.pinned (OpenSpec.ofChange Rows.wireNilSpec) :=
  OpenClaim.holds_of_wide 6 Try.f6 rfl rfl rfl rfl rfl rfl rfl ⟨rfl, rfl, rfl, rfl, rfl⟩ rfl rfl rfl rfl rfl (by kernel_rfl) Try.func6 (by kernel_rfl)
    (of_decide_eq_true (by kernel_rfl)) (by unfold Func.isWrapper; first | (rw [if_pos (by decide +kernel)]; kernel_rfl) | (rw [if_neg (by decide +kernel)]; exact ⟨rfl, rfl⟩))
    (fun os started H enc _ => nil_lifted os started H enc)

theorem wireNil_holds : Rows.WireNilSaid := nil_over
#print axioms wireNil_holds
end Go.Proofs.Ytmdclicomneomaa
