/-
  All parts have the text with the tag that the chapter says, and its hash: the walk of the statement.
-/
import Derived.Test.YtpponjmhgfikiaaDoorTaggedR
namespace Go.Proofs.YtpponjmhgfikiaaDoor
open Go.ChangeShapes Go.WideShapes Go.ChangeAt Go.RowKit
set_option linter.unusedVariables false

set_option maxRecDepth 5000 in
set_option maxHeartbeats 1000000 in
theorem htexts_walk (tag : Int) (A : Option Addr) (n c : Nat) (L : List (List Int)) (w : World) (h : InR w A n L) (hT : Tab w) (ht : 0 ≤ tag ∧ tag < 256) :
    Calls Tryd.prog 4 #[.int .u8 tag, .slice A n c] w fun e w' => e = .returned (.bool true) ∧ Below w.heap.size w w' := by
  have HAW := hid (fun (w1 : World) (hb : Below w.heap.size w w1) => hawake_any w1 (hT.below hb))
  have B0 := hid (Below.refl w.heap.size w)
  have H := hid h
  cases hf : fewR L 20 300 with
  | false =>
    have tok1 : True := trivial
    clear h hT ht
    go_enter Tryd.func4, Tryd.ntmps4
    go_wp2_with (first
      | (go_at_call 8; have _t := tok1; refine (HAW.out _ B0.out).mono ?_; rintro e w1 ⟨rfl, hb1⟩; have HB1 := hid hb1; clear tok1 hb1)
      | (go_at_call 11; refine (RFew_any A n c L _ (H.out.below HB1.out)).mono ?_; rintro e w2 ⟨rfl, rfl⟩)
      | (go_at_call 8; refine (HAW.out _ HB1.out).mono ?_; rintro e w2 ⟨rfl, hb2⟩; have HB2 := hid (HB1.out.trans (hb2.mono HB1.out.size)); clear hb2))
    go_ret
    exact ⟨rfl, HB2.out⟩
  | true =>
    obtain ⟨h1, h2⟩ := fewR_all hf (by omega)
    have hn : n ≤ 20 := by have := h.1; omega
    have HX := hid (fun (w1 : World) (hb : Below w.heap.size w w1) => Text_any tag A n c L w1 (h.below hb) hn h2 ht)
    have HY := hid (fun (w1 : World) (hb : Below w.heap.size w w1) => RText_any tag A n c L w1 (h.below hb) hn h2 ht)
    have HTX := hid (fun (w1 : World) (hb : Below w.heap.size w w1) => Tagged_any tag A n c L w1 (h.below hb) hn h2 ht (hT.below hb))
    have HTY := hid (fun (w1 : World) (hb : Below w.heap.size w w1) => RTagged_any tag A n c L w1 (h.below hb) hn h2 ht)
    have HXL := textL_all tag L n h.1 hn h2
    obtain ⟨X, hX⟩ : ∃ X, X = textL tag L := ⟨_, rfl⟩
    have heq : ∀ w : World, (binOp .eql 25 (.agg (u8s (sum X)).toArray) (.agg (u8s (sum X)).toArray)).run Tryd.prog w = .ok (.bool true) w := fun w => by
      have h := eql_hash (sum X) (sum X) (sum_bs X) (sum_bs X) (sum_length X) (sum_length X) w
      rw [decide_eq_true rfl] at h
      exact h
    obtain ⟨S, hS⟩ : ∃ S, S = sum X := ⟨_, rfl⟩
    rw [← hX] at HX HY HXL HTX HTY
    rw [← hS] at heq HTX HTY
    have HSM := hid (fun (A1 A2 : Option Addr) (c1 c2 : Nat) (w1 : World) (h1 : Rp w1 none A1 X) (h2 : Rp w1 none A2 X) => Same_quiet A1 A2 c1 c2 X X w1 h1 h2 (by omega) (by omega))
    rw [decide_eq_true rfl] at HSM
    clear h hT ht hX hS h1 h2 hn HXL
    go_enter Tryd.func4, Tryd.ntmps4
    go_wp2_with (first
      | (go_at_call 8; refine (HAW.out _ B0.out).mono ?_; rintro e w1 ⟨rfl, hb1⟩; have HB1 := hid hb1; clear hb1)
      | (go_at_call 11; refine (RFew_any A n c L _ (H.out.below HB1.out)).mono ?_; rintro e w2 ⟨rfl, rfl⟩)
      | (go_at_call 13; refine (HX.out _ HB1.out).mono ?_; rintro e w2 ⟨A2, c2, rfl, hc2, hf2, hb2⟩; have HF2 := hid hf2; have HB2 := hid (HB1.out.trans (hb2.mono HB1.out.size)); clear hc2 hf2 hb2)
      | (go_at_call 14; refine (HY.out _ HB2.out).mono ?_; rintro e w3 ⟨A3, c3, rfl, hc3, hf3, hb3⟩; have HF3 := hid hf3; have HF2b := hid (HF2.out.below hb3); have HB3 := hid (HB2.out.trans (hb3.mono HB2.out.size)); clear hc3 hf3 hb3)
      | (go_at_call 12; refine (HSM.out A2 A3 c2 c3 w3 HF2b.out.rp0 HF3.out.rp0).mono ?_; rintro e w4 ⟨rfl, q4, rfl⟩; have HB4 := hid (below_drewN HB3.out q4))
      | (go_at_call 15; refine (HTX.out _ HB4.out).mono ?_; rintro e w5 ⟨rfl, hb5⟩; have HB5 := hid (HB4.out.trans (hb5.mono HB4.out.size)); clear hb5)
      | (go_at_call 16; refine (HTY.out _ HB5.out).mono ?_; rintro e w6 ⟨rfl, hb6⟩; have HB6 := hid (HB5.out.trans (hb6.mono HB5.out.size)); clear hb6))
    go_ret
    exact ⟨rfl, HB6.out⟩
end Go.Proofs.YtpponjmhgfikiaaDoor
