/-
  Whatever fields are put, the bytes are those of all fields, or the writer is spoiled just if one may not be put: the statement of the kit, for every list of fields that can be read as data.
-/
import Derived.Test.YtoandanalfalaaaSmall
import Derived.Test.YtoandanalfalaaaAll
import Derived.Test.YtoandanalfalaaaSame
namespace Go.Proofs.Ytoandanalfalaaa
open Go.ChangeShapes Go.WideShapes Go.ChangeAt Go.RowKit
set_option linter.unusedVariables false

theorem blk_rp' {w : World} {g : Nat} {xs : List Int} (h : Blk w g 5 (u8s xs).toArray) : Rp w none (some ⟨g, 0, none⟩) xs := fun _ =>
  ⟨_, rfl, (fun ⟨a, e, _⟩ => by cases e), fun j hj => by rw [Addr.add_lit, Nat.zero_add, h.cell, List.getElem?_toArray, u8s_get _ _ hj]⟩
theorem All_bad (A : Option Addr) (n c : Nat) (l : List (Int × Int × List Int)) (w : World) (h : InL w A n l) (hf1 : few l 60 = true) (hf2 : sm l = true) (hab : allB l = none) :
    Calls Try.prog 14 #[.slice A n c] w fun e w' => e = .returned (.tuple #[.slice none 0 0, .bool false]) ∧ Below w.heap.size w w' :=
  (All_any A n c l w h hf1 hf2).mono fun e w' ⟨hb, hh⟩ => by
    rcases hh with ⟨_, he⟩ | ⟨BS, _, _, h2, _⟩
    · exact ⟨he, hb⟩
    · rw [hab] at h2; cases h2
theorem All_good (A : Option Addr) (n c : Nat) (l : List (Int × Int × List Int)) (w : World) (h : InL w A n l) (hf1 : few l 60 = true) (hf2 : sm l = true) (BS : List Int) (hab : allB l = some BS) :
    Calls Try.prog 14 #[.slice A n c] w fun e w' => ∃ A' c', e = .returned (.tuple #[.slice A' BS.length c', .bool true]) ∧ Rp w' none A' BS ∧ Below w.heap.size w w' :=
  (All_any A n c l w h hf1 hf2).mono fun e w' ⟨hb, hh⟩ => by
    rcases hh with ⟨h2, _⟩ | ⟨BS', A', c', h2, he, hr⟩
    · rw [hab] at h2; cases h2
    · rw [hab] at h2
      injection h2 with h2
      subst h2
      exact ⟨A', c', he, hr, hb⟩

set_option maxRecDepth 5000 in
set_option maxHeartbeats 2000000 in
theorem writes_few (A : Option Addr) (n c : Nat) (l : List (Int × Int × List Int)) (w : World) (h : InL w A n l) (hf : (few l 60 && sm l) = false) :
    Calls Try.prog 3 #[.slice A n c] w fun e w' => e = .returned (.bool true) ∧ Below w.heap.size w w' := by
  have H := hid h
  clear h
  cases hf1 : few l 60 with
  | false =>
    have tok1 : True := trivial
    clear hf
    go_enter Try.func3, Try.ntmps3
    go_wp2_with (first
      | (go_at_call 9; have _t := tok1; refine (awake_any _).mono ?_; rintro e w1 ⟨rfl, hb1⟩; have HB1 := hid hb1; clear tok1 hb1)
      | (go_at_call 10; refine (Few_any A n c l 60 _ (H.out.below HB1.out) (by omega)).mono ?_; rintro e w2 ⟨rfl, rfl⟩)
      | (go_at_call 9; refine (awake_any _).mono ?_; rintro e w2 ⟨rfl, hb2⟩; have HB2 := hid (HB1.out.trans (hb2.mono HB1.out.size)); clear hb2))
    go_ret
    exact ⟨rfl, HB2.out⟩
  | true =>
    rw [hf1] at hf
    have hf2 : sm l = false := by simpa using hf
    have tok1 : True := trivial
    clear hf
    go_enter Try.func3, Try.ntmps3
    go_wp2_with (first
      | (go_at_call 9; have _t := tok1; refine (awake_any _).mono ?_; rintro e w1 ⟨rfl, hb1⟩; have HB1 := hid hb1; clear tok1 hb1)
      | (go_at_call 10; refine (Few_any A n c l 60 _ (H.out.below HB1.out) (by omega)).mono ?_; rintro e w2 ⟨rfl, rfl⟩)
      | (go_at_call 11; refine (small_any A n c l _ (H.out.below HB1.out)).mono ?_; rintro e w2 ⟨rfl, rfl⟩)
      | (go_at_call 9; refine (awake_any _).mono ?_; rintro e w2 ⟨rfl, hb2⟩; have HB2 := hid (HB1.out.trans (hb2.mono HB1.out.size)); clear hb2))
    go_ret
    exact ⟨rfl, HB2.out⟩

set_option maxRecDepth 5000 in
set_option maxHeartbeats 20000000 in
theorem writes_bad (A : Option Addr) (n c : Nat) (l : List (Int × Int × List Int)) (w : World) (h : InL w A n l) (hf1 : few l 60 = true) (hf2 : sm l = true) (hab : allB l = none) :
    Calls Try.prog 3 #[.slice A n c] w fun e w' => e = .returned (.bool true) ∧ Below w.heap.size w w' := by
  obtain ⟨hl, hs⟩ := few_all hf1 (by omega)
  have HSM := hid (sm_all hf2)
  have hn : n ≤ 60 := by have := h.1; omega
  have HLN := hid h.1
  have H := hid h
  have HS := hid hs; have HL := hid hl
  obtain ⟨Z, hz, hz0, z0, z1, z2, z3, z4, hZs⟩ := zero_writer
  have HAB := hid hab
  have HF1 := hid hf1; have HF2 := hid hf2
  clear h hs hl
  go_enter Try.func3, Try.ntmps3
  go_wp2_with (first
    | (go_at_call 9; refine (awake_any _).mono ?_; rintro e w1 ⟨rfl, hb1⟩; have HB1 := hid hb1; clear hb1)
    | (go_at_call 10; refine (Few_any A n c l 60 _ (H.out.below HB1.out) (by omega)).mono ?_; rintro e w2 ⟨rfl, rfl⟩)
    | (go_at_call 11; refine (small_any A n c l _ (H.out.below HB1.out)).mono ?_; rintro e w2 ⟨rfl, rfl⟩))
  have hw0 : WRep (w1.alloc (.cells Z 30)) (some ⟨w1.heap.size, 0, none⟩) (.good []) := ⟨_, rfl, new_writer (Blk.new w1 30 Z) hz z0.out z1.out z2.out z3.out⟩
  have hb0 : Below w.heap.size w (w1.alloc (.cells Z 30)) := HB1.out.alloc HB1.out.size _
  obtain ⟨g, hg⟩ : ∃ g, g = w1.heap.size := ⟨_, rfl⟩
  rw [← hg] at hw0 ⊢
  have HOF : Hid (∀ k, Of (some ⟨g, 0, none⟩) k → w.heap.size ≤ k) := by
    have := HB1.out.size
    rintro k ⟨a, ha, rfl⟩; injection ha with ha; subst ha; show _ ≤ g; omega
  have HW0 := hid hw0; have HB0 := hid hb0
  clear hw0 hb0 hg
  generalize w1.alloc (.cells Z 30) = W0 at HW0 HB0 ⊢
  clear HB1
  go_loopw [4] (fun i wr => ∃ k : Nat, k ≤ n ∧ i = .int .i64 k ∧ WRep wr (some ⟨g, 0, none⟩) (stAfter (.good []) (l.take k)) ∧ Below w.heap.size w wr) (fun i _ => n - (intOf i).toNat)
  case atStart => exact ⟨0, by omega, rfl, HW0.out, HB0.out⟩
  case round =>
    obtain ⟨k, hk, rfl, hat, hbl⟩ := hrel
    have HA := hid hat; have HB := hid hbl
    clear hat hbl HW0 HB0
    by_cases hlt : k < n
    · obtain ⟨b, o, rfl, _, hfat⟩ := H.out.at_ (by omega)
      obtain ⟨kk, y, bb, B, cc, q1, q7, q8, q9, hc⟩ := lput_at (hfat k hlt) HB.out HOF.out HS.out
      have HLP := hid (hc _ HA.out (len_good HL.out HS.out k))
      have Q1 := hid q1
      clear hfat q1 hc
      go_wp2_with (go_at_call 12; refine HLP.out.mono ?_; rintro e w3 ⟨rfl, hw3, ho3⟩; have HW3 := hid hw3; have HO3 := hid ho3; clear hw3 ho3)
      go_roundw
      case rel => exact ⟨k + 1, by omega, by go_num, by rw [stAfter_take _ _ _ _ _ _ Q1.out]; exact HW3.out, HB.out.trans (HO3.out.below HB.out.size HOF.out)⟩
      case measure => simp [intOf]; omega
    · have hst : stAfter (.good []) (l.take k) = ofB [] (allB l) := by
        have := HLN.out
        rw [List.take_of_length_le (by omega), stAfter_good]
      have hww := HA.out
      rw [hst] at hww
      have hww : WRep wr (some ⟨g, 0, none⟩) .bad := by rw [HAB.out] at hww; exact hww
      have HOut := hid (Out_bad _ _ hww)
      have HALL := hid (All_bad A n c l wr (H.out.below HB.out) HF1.out HF2.out HAB.out)
      clear hww hst
      go_wp2_with (first
        | (go_at_call 13; refine HOut.out.mono ?_; rintro e w5 ⟨rfl, rfl⟩)
        | (go_at_call 14; refine HALL.out.mono ?_; rintro e w6 ⟨rfl, hb6⟩; have HB6 := hid (HB.out.trans (hb6.mono HB.out.size)); have hsm := Same_any none none 0 0 [] [] w6 (Rp.nil _ _ _) (Rp.nil _ _ _) (by decide) (by decide); rw [decide_eq_true rfl] at hsm; simp only [List.length_nil] at hsm; have HSAME := hid hsm; clear hb6 hsm)
        | (go_at_call 15; refine HSAME.out.mono ?_; rintro e w7 ⟨rfl, hb7⟩; have HB7 := hid (HB6.out.trans (hb7.mono HB6.out.size)); clear hb7))
      go_ret
      exact ⟨rfl, HB7.out⟩

set_option maxRecDepth 5000 in
set_option maxHeartbeats 20000000 in
theorem writes_good (A : Option Addr) (n c : Nat) (l : List (Int × Int × List Int)) (w : World) (h : InL w A n l) (hf1 : few l 60 = true) (hf2 : sm l = true) (BS : List Int) (hab : allB l = some BS) :
    Calls Try.prog 3 #[.slice A n c] w fun e w' => e = .returned (.bool true) ∧ Below w.heap.size w w' := by
  obtain ⟨hl, hs⟩ := few_all hf1 (by omega)
  have HSM := hid (sm_all hf2)
  have hn : n ≤ 60 := by have := h.1; omega
  have HLN := hid h.1
  have H := hid h
  have HS := hid hs; have HL := hid hl
  obtain ⟨Z, hz, hz0, z0, z1, z2, z3, z4, hZs⟩ := zero_writer
  have HAB := hid hab
  have HF1 := hid hf1; have HF2 := hid hf2
  clear h hs hl
  go_enter Try.func3, Try.ntmps3
  go_wp2_with (first
    | (go_at_call 9; refine (awake_any _).mono ?_; rintro e w1 ⟨rfl, hb1⟩; have HB1 := hid hb1; clear hb1)
    | (go_at_call 10; refine (Few_any A n c l 60 _ (H.out.below HB1.out) (by omega)).mono ?_; rintro e w2 ⟨rfl, rfl⟩)
    | (go_at_call 11; refine (small_any A n c l _ (H.out.below HB1.out)).mono ?_; rintro e w2 ⟨rfl, rfl⟩))
  have hw0 : WRep (w1.alloc (.cells Z 30)) (some ⟨w1.heap.size, 0, none⟩) (.good []) := ⟨_, rfl, new_writer (Blk.new w1 30 Z) hz z0.out z1.out z2.out z3.out⟩
  have hb0 : Below w.heap.size w (w1.alloc (.cells Z 30)) := HB1.out.alloc HB1.out.size _
  obtain ⟨g, hg⟩ : ∃ g, g = w1.heap.size := ⟨_, rfl⟩
  rw [← hg] at hw0 ⊢
  have HOF : Hid (∀ k, Of (some ⟨g, 0, none⟩) k → w.heap.size ≤ k) := by
    have := HB1.out.size
    rintro k ⟨a, ha, rfl⟩; injection ha with ha; subst ha; show _ ≤ g; omega
  have HW0 := hid hw0; have HB0 := hid hb0
  clear hw0 hb0 hg
  generalize w1.alloc (.cells Z 30) = W0 at HW0 HB0 ⊢
  clear HB1
  go_loopw [4] (fun i wr => ∃ k : Nat, k ≤ n ∧ i = .int .i64 k ∧ WRep wr (some ⟨g, 0, none⟩) (stAfter (.good []) (l.take k)) ∧ Below w.heap.size w wr) (fun i _ => n - (intOf i).toNat)
  case atStart => exact ⟨0, by omega, rfl, HW0.out, HB0.out⟩
  case round =>
    obtain ⟨k, hk, rfl, hat, hbl⟩ := hrel
    have HA := hid hat; have HB := hid hbl
    clear hat hbl HW0 HB0
    by_cases hlt : k < n
    · obtain ⟨b, o, rfl, _, hfat⟩ := H.out.at_ (by omega)
      obtain ⟨kk, y, bb, B, cc, q1, q7, q8, q9, hc⟩ := lput_at (hfat k hlt) HB.out HOF.out HS.out
      have HLP := hid (hc _ HA.out (len_good HL.out HS.out k))
      have Q1 := hid q1
      clear hfat q1 hc
      go_wp2_with (go_at_call 12; refine HLP.out.mono ?_; rintro e w3 ⟨rfl, hw3, ho3⟩; have HW3 := hid hw3; have HO3 := hid ho3; clear hw3 ho3)
      go_roundw
      case rel => exact ⟨k + 1, by omega, by go_num, by rw [stAfter_take _ _ _ _ _ _ Q1.out]; exact HW3.out, HB.out.trans (HO3.out.below HB.out.size HOF.out)⟩
      case measure => simp [intOf]; omega
    · have hst : stAfter (.good []) (l.take k) = ofB [] (allB l) := by
        have := HLN.out
        rw [List.take_of_length_le (by omega), stAfter_good]
      have hww := HA.out
      rw [hst] at hww
      have hww : WRep wr (some ⟨g, 0, none⟩) (.good BS) := by rw [HAB.out] at hww; exact hww
      have hlen : BS.length < 800000000000 := by
        have h1 := len_good HL.out HS.out n
        have := HLN.out
        rw [List.take_of_length_le (by omega), stAfter_good, HAB.out] at h1
        simpa [ofB, WS.len] using h1
      have hout := Out_good _ BS _ hww (by omega)
      have HLEN := hid hlen
      obtain ⟨N, hN⟩ : ∃ N, N = BS.length := ⟨_, rfl⟩
      rw [← hN] at hout
      have HOut := hid hout
      have HNN := hid hN
      clear hww hst hlen hout hN
      go_wp2_with (first
        | (go_at_call 13; refine HOut.out.mono ?_; rintro e w5 ⟨rfl, hk5, hb5⟩; have HK5 := hid hk5; have HB5 := hid (HB.out.trans (hb5.mono HB.out.size)); have hall := All_good A n c l w5 (H.out.below HB5.out) HF1.out HF2.out BS HAB.out; rw [← HNN.out] at hall; have HALL := hid hall; clear hk5 hb5 hall)
        | (go_at_call 14; refine HALL.out.mono ?_; rintro e w6 ⟨A6, c6, rfl, hr6, hb6⟩; have HB6 := hid (HB5.out.trans (hb6.mono HB5.out.size)); have hsm := Same_any (some ⟨wr.heap.size, 0, none⟩) A6 N c6 BS BS w6 ((blk_rp' HK5.out).belowN hb6) hr6 (by have := HLEN.out; omega) (by have := HLEN.out; omega); rw [decide_eq_true rfl, ← HNN.out] at hsm; have HSAME := hid hsm; clear hb6 hsm hr6)
        | (go_at_call 15; refine HSAME.out.mono ?_; rintro e w7 ⟨rfl, hb7⟩; have HB7 := hid (HB6.out.trans (hb7.mono HB6.out.size)); clear hb7))
      go_ret
      exact ⟨rfl, HB7.out⟩

theorem writes_walk (A : Option Addr) (n c : Nat) (l : List (Int × Int × List Int)) (w : World) (h : InL w A n l) :
    Calls Try.prog 3 #[.slice A n c] w fun e w' => e = .returned (.bool true) ∧ Below w.heap.size w w' := by
  cases hf : (few l 60 && sm l) with
  | false => exact writes_few A n c l w h hf
  | true =>
    rw [Bool.and_eq_true] at hf
    cases hab : allB l with
    | none => exact writes_bad A n c l w h hf.1 hf.2 hab
    | some BS => exact writes_good A n c l w h hf.1 hf.2 BS hab

set_option maxRecDepth 100000 in
theorem writes_lifted (os : Os) (started : os.Started) (H : Type) (enc : TypeId × Value → H) :
    ReturnsInHanded {} Try.checked os 3 .any (Rows.wireWritesSpec.pre6 enc Try.prog Try.f3 Rows.wireWritesRow.domain false) (Rows.wireWritesSpec.post enc Try.prog Try.f3 false true false false) := by
  refine returnsInHanded_of_change (C := Try.checked) own started (by kernel_rfl) Try.func3
    (ChangeSpec.witness6 (enc := enc) (C := Try.checked) false ⟨#[], #[.slice none 0 0], []⟩ 8 (by kernel_rfl) (by kernel_rfl) (by kernel_rfl) (by kernel_rfl)) ?_
  intro W base args ds gs before hval0 hW hcnd _
  have hval : ∀ (j : Nat) t v, Try.f3.params[j]? = some t → args[j]? = some v → Value.okWide Try.prog W .any base t v := hval0
  have hW' := hW
  obtain ⟨p, q, hA0, hV, rfl, hfz, hnd⟩ := hW
  have hA : DataW.TrodAll enc Try.prog W 0 (fun _ => true) true Try.f3.params.toList args.toList ds p := hA0
  rw [Try.params3] at hA hval
  obtain ⟨v0, vs0, d0, ds0, p0, q0, hargs, rfl, rfl, h0, r0⟩ := trodAll_cons hA
  obtain ⟨rfl, rfl, rfl⟩ := trodAll_nil r0
  obtain rfl : args = #[v0] := by cases args; simp_all
  obtain ⟨rfl, rfl⟩ := trodVars_none hV
  have k0 := h0
  have lt0 : ∀ x ∈ p0, x.block < W.heap.size := by obtain ⟨m, hm⟩ := k0; exact DataW.trod_lt m _ _ _ hm
  obtain ⟨a0, len0, cap0, rfl⟩ := okWide_slice Try.underlying22 (hval 0 22 v0 rfl rfl)
  obtain ⟨fuel, hf⟩ := h0
  obtain ⟨A, n, c, l, hcs, hin⟩ := open_fields hf
  simp only [Value.cells] at hcs
  injection hcs with hcs; injection hcs with e1 e2 e3
  subst e1; subst e2; subst e3
  clear hA0 hval0
  refine (writes_walk _ _ _ l W hin).mono fun e W' ⟨he, bel⟩ => ?_
  subst he
  exact ⟨_, rfl, _, _, _, [], _, [], hW', trodAll_mk1 (shut_bool Try.underlying4 _), (trodAll_cons_mk (Below.trod laidOut (by kernel_rfl) (of_decide_eq_true (by kernel_rfl)) k0 bel lt0) trodAll_mk0), rfl, bel.frame _, fun h => by cases h⟩

theorem writes_over : Rows.wireWritesRow.holds Try.pinned (OpenSpec.ofChange Rows.wireWritesSpec) :=
  OpenClaim.holds_of_wide 3 Try.f3 rfl rfl rfl rfl rfl rfl rfl ⟨rfl, rfl, rfl, rfl, rfl⟩ rfl rfl rfl rfl rfl (by kernel_rfl) Try.func3 (by kernel_rfl)
    (of_decide_eq_true (by kernel_rfl)) (by unfold Func.isWrapper; first | (rw [if_pos (by decide +kernel)]; kernel_rfl) | (rw [if_neg (by decide +kernel)]; exact ⟨rfl, rfl⟩))
    (fun os started H enc _ => writes_lifted os started H enc)

theorem wireWrites_holds : Rows.WireWritesSaid := writes_over
#print axioms wireWrites_holds
end Go.Proofs.Ytoandanalfalaaa
