/-
  Two texts with tags are the same just if tags and parts are: the tied card of the kit, for every two tags with parts that can be read as data; the table of constants is tied to the text of the program.
-/
import Derived.Test.YtpponjmhgfikiaaDoorApart
import Derived.Test.YtpponjmhgfikiaaDoorLaid
namespace Go.Proofs.YtpponjmhgfikiaaDoor
open Go.ChangeShapes Go.WideShapes Go.ChangeAt Go.RowKit
set_option linter.unusedVariables false
/-- the cells of a tag and parts that came in -/
theorem open_said {H : Type} {enc : TypeId × Value → H} {w : World} {base : Nat} {spare : Nat → Bool} {held : Bool} {fuel : Nat} {cs : List Value} {x : DataW H × List MemPlace} (h : DataW.trod enc Tryd.prog w base spare held fuel 37 cs = some x) :
    ∃ s A n c L, cs = [.int .u8 s, .slice A n c] ∧ (0 ≤ s ∧ s < 256) ∧ InR w A n L := by
  obtain ⟨xs, n, _, rfl, hl, hlen, hf⟩ := DataW.trod_struct Tryd.underlying37 h
  have hc2 : Tryd.prog.cellsOf 37 = 2 := by kernel_rfl
  rw [hc2] at hl
  match cs, hl with
  | [c0, c1], _ =>
    match xs, hlen with
    | [y0, y1], _ =>
      have e0 : DataW.trod enc Tryd.prog w base spare held n 5 ((List.drop 0 [c0, c1]).take (Tryd.prog.cellsOf 5)) = some y0 := hf 0 _ rfl
      have e1 : DataW.trod enc Tryd.prog w base spare held n 28 ((List.drop 1 [c0, c1]).take (Tryd.prog.cellsOf 28)) = some y1 := hf 1 _ rfl
      have k0 : (List.drop 0 [c0, c1]).take (Tryd.prog.cellsOf 5) = [c0] := by rw [show Tryd.prog.cellsOf 5 = 1 by kernel_rfl]; rfl
      have k1 : (List.drop 1 [c0, c1]).take (Tryd.prog.cellsOf 28) = [c1] := by rw [show Tryd.prog.cellsOf 28 = 1 by kernel_rfl]; rfl
      rw [k0] at e0
      rw [k1] at e1
      obtain ⟨k, hk, _, hwk⟩ := DataW.trod_int Tryd.underlying5 e0
      obtain ⟨A, m, c, L, hb, hin⟩ := open_rows e1
      have b1 := bounds_u8 hwk
      injection hk with hk
      injection hb with hb
      subst hk; subst hb
      exact ⟨k, A, m, c, L, rfl, by omega, hin⟩
set_option maxRecDepth 100000 in
theorem hashApart_lifted (os : Os) (started : os.Started) (H : Type) (enc : TypeId × Value → H) :
    ReturnsInHanded {} Tryd.checked os 5 .any (fun w args => (Rows.hashApartSpec.pre enc Tryd.prog Tryd.f5 [] false w args ∧ laidMetH Tryd.prog laidL w) ∧ sizedMet enc Tryd.prog Tryd.f5 (OpenSpec.ofChange Rows.hashApartSpec) false w args)
      (Rows.hashApartSpec.post enc Tryd.prog Tryd.f5 false true false false) := by
  refine returnsInHanded_of_change_and (C := Tryd.checked) (X := fun w _ => laidMetH Tryd.prog laidL w) (fun _ _ _ hh h => h.of_heap hh) own started (by kernel_rfl) Tryd.func5
    (ChangeSpec.witness_shaped (enc := enc) (C := Tryd.checked) (os := os) (X := fun w _ => laidMetH Tryd.prog laidL w) false (World.doorLaid Tryd.prog 400 os) #[.agg #[.int .u8 0, .slice none 0 0], .agg #[.int .u8 0, .slice none 0 0]] 8 rfl (World.shaped_of_RefB (by kernel_rfl) (by kernel_rfl)) (by kernel_rfl) (by kernel_rfl) (by kernel_rfl) (door_met os _)) ?_
  intro W base args ds gs before hval0 hW _ _ hL _
  have hval : ∀ (j : Nat) t v, Tryd.f5.params[j]? = some t → args[j]? = some v → Value.okWide Tryd.prog W .any base t v := hval0
  have hW' := hW
  obtain ⟨p, q, hA0, hV, rfl, hfz, hnd⟩ := hW
  have hA : DataW.TrodAll enc Tryd.prog W 0 (fun _ => true) true Tryd.f5.params.toList args.toList ds p := hA0
  rw [Tryd.params5] at hA hval
  obtain ⟨v0, vs0, d0, ds0, p0, q0, hargs, rfl, rfl, h0, r0⟩ := trodAll_cons hA
  obtain ⟨v1, vs1, d1, ds1, p1, q1, rfl, rfl, rfl, h1, r1⟩ := trodAll_cons r0
  obtain ⟨rfl, rfl, rfl⟩ := trodAll_nil r1
  obtain rfl : args = #[v0, v1] := by cases args; simp_all
  obtain ⟨rfl, rfl⟩ := trodVars_none hV
  have k0 := h0
  have lt0 : ∀ x ∈ p0, x.block < W.heap.size := by obtain ⟨m, hm⟩ := k0; exact DataW.trod_lt m _ _ _ hm
  obtain ⟨fuel0, hf0⟩ := h0
  obtain ⟨cs0, rfl⟩ : ∃ cs, v0 = .agg cs := by
    have h := hval 0 37 v0 rfl rfl
    unfold Value.okWide at h
    rw [Tryd.underlying37] at h
    obtain ⟨cs, h, _⟩ := h
    exact ⟨cs, h⟩
  obtain ⟨s0, A0, n0, c0, L0, hcs0, hs0, hin0⟩ := open_said hf0
  obtain rfl : cs0 = #[.int .u8 s0, .slice A0 n0 c0] := by
    have : cs0.toList = [.int .u8 s0, .slice A0 n0 c0] := hcs0
    rw [← this]
  have k1 := h1
  have lt1 : ∀ x ∈ p1, x.block < W.heap.size := by obtain ⟨m, hm⟩ := k1; exact DataW.trod_lt m _ _ _ hm
  obtain ⟨fuel1, hf1⟩ := h1
  obtain ⟨cs1, rfl⟩ : ∃ cs, v1 = .agg cs := by
    have h := hval 1 37 v1 rfl rfl
    unfold Value.okWide at h
    rw [Tryd.underlying37] at h
    obtain ⟨cs, h, _⟩ := h
    exact ⟨cs, h⟩
  obtain ⟨s1, A1, n1, c1, L1, hcs1, hs1, hin1⟩ := open_said hf1
  obtain rfl : cs1 = #[.int .u8 s1, .slice A1 n1 c1] := by
    have : cs1.toList = [.int .u8 s1, .slice A1 n1 c1] := hcs1
    rw [← this]
  have hT := of_laid hL
  clear hA0 hval0
  refine (apart_walk s0 s1 A0 A1 n0 n1 c0 c1 L0 L1 W hin0 hin1 hT hs0 hs1).mono fun e W' ⟨he, bel⟩ => ?_
  subst he
  exact ⟨_, rfl, _, _, _, [], _, [], hW', trodAll_mk1 (shut_bool Tryd.underlying4 _), (trodAll_cons_mk (Below.trod laidOut (by kernel_rfl) (of_decide_eq_true (by kernel_rfl)) k0 bel lt0) (trodAll_cons_mk (Below.trod laidOut (by kernel_rfl) (of_decide_eq_true (by kernel_rfl)) k1 bel lt1) trodAll_mk0)), rfl, bel.frame _, fun h => by cases h⟩

theorem hashApart_row_holds : Rows.HashApartSaid :=
  OpenClaim.holds_of_wide 5 Tryd.f5 rfl rfl rfl rfl rfl rfl rfl ⟨rfl, rfl, rfl, rfl, rfl⟩ rfl rfl rfl rfl rfl (by kernel_rfl) Tryd.func5 (by kernel_rfl)
    (of_decide_eq_true (by kernel_rfl)) (by unfold Func.isWrapper; first | (rw [if_pos (by decide +kernel)]; kernel_rfl) | (rw [if_neg (by decide +kernel)]; exact ⟨rfl, rfl⟩))
    (fun os started H enc _ => hashApart_lifted os started H enc)

theorem hashApart_holds : Rows.HashApartCardSaid :=
  Claim7.holds_tied_plain_at .later [] [.data] true (true, "c360beb4d2bf096569c04da053ef49be8fbc08cf0ef5f908ef843362af30625d") false
    hashApart_row_holds (fun _ h => by cases h) (by kernel_rfl) (fun _ h => by cases h) hashApart_row_tie rfl ⟨rfl, rfl⟩ (by kernel_rfl) rfl
    (fun f fn hf hfn => by
      obtain rfl : f = 5 := Option.some.inj ((show Tryd.prog.funcNamed "rolodex/rolodexlaw02.HashApart" = some 5 by kernel_rfl).symm.trans hf) |>.symm
      obtain rfl : fn = Tryd.f5 := (Option.some.inj (Tryd.func5.symm.trans hfn)).symm
      exact ⟨by kernel_rfl, fun j t ht => by
        rw [Tryd.params5] at ht
        have hm : t ∈ [37, 37] := by simpa using Array.mem_of_getElem? ht
        have hall : ([37, 37].all fun u => !Tryd.prog.wantsStandIn u) = true := by kernel_rfl
        exact (show Tryd.prog.wantsStandIn t = false by simpa using List.all_eq_true.1 hall t hm)⟩)
    (by kernel_rfl)
#print axioms hashApart_holds
end Go.Proofs.YtpponjmhgfikiaaDoor
