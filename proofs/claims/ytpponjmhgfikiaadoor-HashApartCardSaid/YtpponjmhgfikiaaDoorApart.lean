/-
  Two texts with tags are the same just if tags and parts are: the walk of the statement.
-/
import Derived.Test.YtpponjmhgfikiaaDoorSameR
namespace Go.Proofs.YtpponjmhgfikiaaDoor
open Go.ChangeShapes Go.WideShapes Go.ChangeAt Go.RowKit
set_option linter.unusedVariables false

theorem Fresh.belowF {w0 w w' : World} {A : Option Addr} {xs : List Int} (h : Fresh w0 w A xs) (hb : Below w.heap.size w w') : Fresh w0 w' A xs := h.below hb

set_option maxRecDepth 5000 in
set_option maxHeartbeats 2000000 in
theorem apart_few (s t : Int) (A B : Option Addr) (n m c d : Nat) (L M : List (List Int)) (w : World) (hL : InR w A n L) (hM : InR w B m M) (ht : Tab w) (hf : (fewR L 20 300 && fewR M 20 300) = false) :
    Calls Tryd.prog 5 #[.agg #[.int .u8 s, .slice A n c], .agg #[.int .u8 t, .slice B m d]] w fun e w' => e = .returned (.bool true) ∧ Below w.heap.size w w' := by
  have HL := hid hL; have HM := hid hM; have HT := hid ht
  have B0 := hid (((Below.refl w.heap.size w).alloc (Nat.le_refl _) (.cells #[.int .u8 s, .slice A n c] 37)).alloc (by simp) (.cells #[.int .u8 t, .slice B m d] 37))
  have HAW := hid (fun (w1 : World) (hb : Below w.heap.size w w1) => hawake_any w1 (ht.below hb))
  clear hL hM ht
  cases hf1 : fewR L 20 300 with
  | false =>
    have tok1 : True := trivial
    clear hf
    go_enter Tryd.func5, Tryd.ntmps5
    go_wp2
    go_region
    go_wp2_with (first
      | (go_at_call 8; have _t := tok1; refine (HAW.out _ B0.out.drew).mono ?_; rintro e w1 ⟨rfl, hb1⟩; have HB1 := hid (B0.out.drew.trans (hb1.mono B0.out.drew.size)); clear tok1 hb1)
      | (go_at_call 11; refine (RFew_any A n c L _ (HL.out.below HB1.out)).mono ?_; rintro e w2 ⟨rfl, rfl⟩)
      | (go_at_call 8; refine (HAW.out _ HB1.out).mono ?_; rintro e w2 ⟨rfl, hb2⟩; have HB2 := hid (HB1.out.trans (hb2.mono HB1.out.size)); clear hb2))
    go_ret
    exact ⟨rfl, HB2.out⟩
  | true =>
    rw [hf1] at hf
    have hf2 : fewR M 20 300 = false := by simpa using hf
    have tok1 : True := trivial
    have tok2 : True := trivial
    clear hf
    go_enter Tryd.func5, Tryd.ntmps5
    go_wp2
    go_region
    go_wp2_with (first
      | (go_at_call 8; have _t := tok1; refine (HAW.out _ B0.out.drew).mono ?_; rintro e w1 ⟨rfl, hb1⟩; have HB1 := hid (B0.out.drew.trans (hb1.mono B0.out.drew.size)); clear tok1 hb1)
      | (go_at_call 11; have _t := tok2; refine (RFew_any A n c L _ (HL.out.below HB1.out)).mono ?_; rintro e w2 ⟨rfl, rfl⟩; clear tok2)
      | (go_at_call 11; refine (RFew_any B m d M _ (HM.out.below HB1.out)).mono ?_; rintro e w2 ⟨rfl, rfl⟩)
      | (go_at_call 8; refine (HAW.out _ HB1.out).mono ?_; rintro e w2 ⟨rfl, hb2⟩; have HB2 := hid (HB1.out.trans (hb2.mono HB1.out.size)); clear hb2))
    go_ret
    exact ⟨rfl, HB2.out⟩

set_option maxRecDepth 5000 in
set_option maxHeartbeats 2000000 in
theorem apart_good (s t : Int) (A B : Option Addr) (n m c d : Nat) (L M : List (List Int)) (w : World) (hL : InR w A n L) (hM : InR w B m M) (ht : Tab w) (hf1 : fewR L 20 300 = true) (hf2 : fewR M 20 300 = true)
    (hs : 0 ≤ s ∧ s < 256) (hta : 0 ≤ t ∧ t < 256) :
    Calls Tryd.prog 5 #[.agg #[.int .u8 s, .slice A n c], .agg #[.int .u8 t, .slice B m d]] w fun e w' => e = .returned (.bool true) ∧ Below w.heap.size w w' := by
  obtain ⟨l1, l2⟩ := fewR_all hf1 (by omega)
  obtain ⟨m1, m2⟩ := fewR_all hf2 (by omega)
  have hn : n ≤ 20 := by have := hL.1; omega
  have hm : m ≤ 20 := by have := hM.1; omega
  have HL := hid hL; have HM := hid hM; have HT := hid ht
  have B0 := hid (((Below.refl w.heap.size w).alloc (Nat.le_refl _) (.cells #[.int .u8 s, .slice A n c] 37)).alloc (by simp) (.cells #[.int .u8 t, .slice B m d] 37))
  have HAW := hid (fun (w1 : World) (hb : Below w.heap.size w w1) => hawake_any w1 (ht.below hb))
  have HT1 := hid (fun (w1 : World) (hb : Below w.heap.size w w1) => Text_any s A n c L w1 (hL.below hb) hn l2 hs)
  have HT2 := hid (fun (w1 : World) (hb : Below w.heap.size w w1) => Text_any t B m d M w1 (hM.below hb) hm m2 hta)
  have HSL := hid (fun (w1 : World) (hb : Below w.heap.size w w1) => RSameL_any A B n m c d L M w1 (hL.below hb) (hM.below hb) l2 m2)
  obtain ⟨X, hX⟩ : ∃ X, X = textL s L := ⟨_, rfl⟩
  obtain ⟨Y, hY⟩ : ∃ Y, Y = textL t M := ⟨_, rfl⟩
  have hXl : X.length ≤ 10000 := by
    have := textL_len s L n l2
    rw [List.take_of_length_le (by have := hL.1; omega), ← hX] at this; omega
  have hYl : Y.length ≤ 10000 := by
    have := textL_len t M m m2
    rw [List.take_of_length_le (by have := hM.1; omega), ← hY] at this; omega
  rw [← hX] at HT1
  rw [← hY] at HT2
  obtain ⟨p, hp⟩ : ∃ p, p = decide (L = M) := ⟨_, rfl⟩
  rw [← hp] at HSL
  have hinj := textL_inj s t L M l2 m2
  rw [← hX, ← hY] at hinj
  have HSM := hid (fun (A1 A2 : Option Addr) (c1 c2 : Nat) (w1 : World) (h1 : Rp w1 none A1 X) (h2 : Rp w1 none A2 Y) => Same_quiet A1 A2 c1 c2 X Y w1 h1 h2 (by omega) (by omega))
  by_cases hst : s = t
  · have hsb : ((s : Int) == t) = true := by simp [hst]
    have hxy : decide (X = Y) = p := by
      rw [hp, decide_eq_decide, hinj]
      exact ⟨fun h => h.2, fun h => ⟨hst, h⟩⟩
    rw [hxy] at HSM
    clear hL hM ht l1 m1 l2 m2 hn hm hX hY hXl hYl hp hinj hst hxy hs hta
    have tok1 : True := trivial
    have tok2 : True := trivial
    go_enter Tryd.func5, Tryd.ntmps5
    go_wp2
    go_region
    go_wp2_with (first
      | (go_at_call 8; refine (HAW.out _ B0.out.drew).mono ?_; rintro e w1 ⟨rfl, hb1⟩; have HB1 := hid (B0.out.drew.trans (hb1.mono B0.out.drew.size)); clear hb1)
      | (go_at_call 11; have _t := tok2; refine (RFew_any A n c L _ (HL.out.below HB1.out)).mono ?_; rintro e w2 ⟨rfl, rfl⟩; clear tok2)
      | (go_at_call 11; refine (RFew_any B m d M _ (HM.out.below HB1.out)).mono ?_; rintro e w2 ⟨rfl, rfl⟩)
      | (go_at_call 13; have _t := tok1; refine (HT1.out _ HB1.out).mono ?_; rintro e w2 ⟨A2, c2, rfl, hc2, hf2, hb2⟩; have HF2 := hid hf2; have HB2 := hid (HB1.out.trans (hb2.mono HB1.out.size)); clear tok1 hc2 hf2 hb2)
      | (go_at_call 13; refine (HT2.out _ HB2.out).mono ?_; rintro e w3 ⟨A3, c3, rfl, hc3, hf3, hb3⟩; have HF3 := hid hf3; have HF2b := hid (HF2.out.below hb3); have HB3 := hid (HB2.out.trans (hb3.mono HB2.out.size)); clear hc3 hf3 hb3)
      | (go_at_call 12; refine (HSM.out A2 A3 c2 c3 w3 HF2b.out.rp0 HF3.out.rp0).mono ?_; rintro e w4 ⟨rfl, q4, rfl⟩)
      | (go_at_call 17; refine (HSL.out _ (below_drewN HB3.out q4)).mono ?_; rintro e w5 ⟨rfl, q5, rfl⟩))
    go_ret
    exact ⟨by cases p <;> rfl, below_drewN HB3.out (q4 + q5)⟩
  · have hsb : ((s : Int) == t) = false := by simp [hst]
    have hxy : decide (X = Y) = false := by
      apply decide_eq_false
      intro h
      exact hst (hinj.1 h).1
    rw [hxy] at HSM
    clear hL hM ht l1 m1 l2 m2 hn hm hX hY hXl hYl hp hinj hst hxy hs hta
    have tok1 : True := trivial
    have tok2 : True := trivial
    go_enter Tryd.func5, Tryd.ntmps5
    go_wp2
    go_region
    go_wp2_with (first
      | (go_at_call 8; refine (HAW.out _ B0.out.drew).mono ?_; rintro e w1 ⟨rfl, hb1⟩; have HB1 := hid (B0.out.drew.trans (hb1.mono B0.out.drew.size)); clear hb1)
      | (go_at_call 11; have _t := tok2; refine (RFew_any A n c L _ (HL.out.below HB1.out)).mono ?_; rintro e w2 ⟨rfl, rfl⟩; clear tok2)
      | (go_at_call 11; refine (RFew_any B m d M _ (HM.out.below HB1.out)).mono ?_; rintro e w2 ⟨rfl, rfl⟩)
      | (go_at_call 13; have _t := tok1; refine (HT1.out _ HB1.out).mono ?_; rintro e w2 ⟨A2, c2, rfl, hc2, hf2, hb2⟩; have HF2 := hid hf2; have HB2 := hid (HB1.out.trans (hb2.mono HB1.out.size)); clear tok1 hc2 hf2 hb2)
      | (go_at_call 13; refine (HT2.out _ HB2.out).mono ?_; rintro e w3 ⟨A3, c3, rfl, hc3, hf3, hb3⟩; have HF3 := hid hf3; have HF2b := hid (HF2.out.below hb3); have HB3 := hid (HB2.out.trans (hb3.mono HB2.out.size)); clear hc3 hf3 hb3)
      | (go_at_call 12; refine (HSM.out A2 A3 c2 c3 w3 HF2b.out.rp0 HF3.out.rp0).mono ?_; rintro e w4 ⟨rfl, q4, rfl⟩))
    go_ret
    exact ⟨rfl, below_drewN HB3.out q4⟩
theorem apart_walk (s t : Int) (A B : Option Addr) (n m c d : Nat) (L M : List (List Int)) (w : World) (hL : InR w A n L) (hM : InR w B m M) (ht : Tab w) (hs : 0 ≤ s ∧ s < 256) (hta : 0 ≤ t ∧ t < 256) :
    Calls Tryd.prog 5 #[.agg #[.int .u8 s, .slice A n c], .agg #[.int .u8 t, .slice B m d]] w fun e w' => e = .returned (.bool true) ∧ Below w.heap.size w w' := by
  cases hf : (fewR L 20 300 && fewR M 20 300) with
  | false => exact apart_few s t A B n m c d L M w hL hM ht hf
  | true =>
    rw [Bool.and_eq_true] at hf
    exact apart_good s t A B n m c d L M w hL hM ht hf.1 hf.2 hs hta
end Go.Proofs.YtpponjmhgfikiaaDoor
