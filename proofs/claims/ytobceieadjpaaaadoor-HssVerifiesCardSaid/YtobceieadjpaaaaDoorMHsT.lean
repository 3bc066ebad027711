/-
  What is proved here: the code's and the document's hash of a text with a tag, and the document's own text.
-/
import Derived.Test.YtobceieadjpaaaaDoorMHa2
set_option linter.unusedSimpArgs false
set_option linter.unusedVariables false
namespace Go.Proofs.YtobceieadjpaaaaDoor
open Go.ChangeShapes Go.WideShapes Go.ChangeAt Go.RowKit
set_option linter.unusedVariables false

theorem textL_all (tag : Int) (L : List (List Int)) (n : Nat) (hn : L.length = n) (h20 : n ≤ 20) (hL : ∀ f ∈ L, f.length ≤ 300) : (textL tag L).length ≤ 10000 := by
  have := textL_len tag L n hL
  rw [List.take_of_length_le (by omega)] at this
  omega
theorem InR.bsAll {w : World} {A : Option Addr} {n : Nat} {L : List (List Int)} (h : InR w A n L) : ∀ f ∈ L, Bs f := by
  intro f hf
  obtain ⟨i, hi⟩ := List.mem_iff_getElem?.1 hf
  have hlt : i < L.length := by
    rcases Nat.lt_or_ge i L.length with h1 | h1
    · exact h1
    · rw [List.getElem?_eq_none h1] at hi; cases hi
  have hl := h.1
  obtain ⟨b, o, _, _, hat⟩ := h.2.2 (by omega)
  obtain ⟨B, c, xs, h1, _, h3, _⟩ := hat i (by omega)
  rw [hi] at h1
  injection h1 with h1
  rw [h1]; exact h3
theorem textL_bs (tag : Int) (L : List (List Int)) (ht : 0 ≤ tag ∧ tag < 256) (hL : ∀ f ∈ L, Bs f) : Bs (textL tag L) := by
  intro v hv
  unfold textL at hv
  simp only [List.mem_cons, List.mem_flatMap] at hv
  rcases hv with rfl | ⟨f, hf, hv⟩
  · exact ht
  · unfold part at hv
    rcases List.mem_append.1 hv with h | h
    · exact be_bs _ _ v h
    · exact hL f hf v h

set_option maxRecDepth 5000 in
set_option maxHeartbeats 1000000 in
theorem Tagged_any (tag : Int) (A : Option Addr) (n c : Nat) (L : List (List Int)) (w : World) (h : InR w A n L) (hn : n ≤ 20) (hL : ∀ f ∈ L, f.length ≤ 300) (ht : 0 ≤ tag ∧ tag < 256) (hT : Tab w) :
    Calls Tryd.prog 92 #[.int .u8 tag, .slice A n c] w fun e w' => e = .returned (.agg (u8s (sum (textL tag L))).toArray) ∧ Below w.heap.size w w' := by
  obtain ⟨Z, HZ, hZ0, hZs⟩ := zero_Hash
  have B0 : Hid (Below w.heap.size w (w.alloc (.cells Z 26))) := (Below.refl _ _).alloc (Nat.le_refl _) _
  have KZ : Hid (Blk (w.alloc (.cells Z 26)) w.heap.size 26 Z) := Blk.new w 26 Z
  have HTX := hid (Text_any tag A n c L (w.alloc (.cells Z 26)) (h.below B0.out) hn hL ht)
  have HSM := hid (fun (w1 : World) (hb : Below w.heap.size w w1) (A1 : Option Addr) (c1 : Nat) (hc : (textL tag L).length ≤ c1) (hr : Rp w1 none A1 (textL tag L)) => Sum_any A1 c1 (textL tag L) w1 hr (textL_bs tag L ht h.bsAll) (by have := textL_all tag L n h.1 hn hL; omega) hc (hT.below hb))
  unfold hashV at HSM
  obtain ⟨S, hS⟩ : ∃ S, S = sum (textL tag L) := ⟨_, rfl⟩
  have HI : Hid ((Tryd.prog.info? 26).map (·.size) = some (u8s S).toArray.size) := info_hash S (by rw [hS]; exact sum_length _)
  have HZ32 : Hid (Z.size = (u8s S).toArray.size) := by
    show _ = _
    rw [HZ.out, List.size_toArray, List.size_toArray, u8s_length, u8s_length, hS, sum_length]; simp
  rw [← hS] at HSM ⊢
  clear h hL ht hT hS
  go_enter Tryd.func92, Tryd.ntmps92
  go_wp2_with fail
  refine HTX.out.mono ?_
  rintro e w1 ⟨A1, c1, rfl, hc1, hf1, hb1⟩
  have B1 := hid (B0.out.trans (hb1.mono B0.out.size))
  have KZ1 := hid (KZ.out.same (hb1.block _ KZ.out.lt))
  have HC1 := hid hc1; have HF1 := hid hf1
  clear hc1 hf1 hb1
  go_wp2_with fail
  refine (HSM.out _ B1.out A1 c1 HC1.out HF1.out.rp0).mono ?_
  rintro e w2 ⟨rfl, hb2⟩
  have B2 := hid (B1.out.trans (hb2.mono B1.out.size))
  have KZ2 := hid (KZ1.out.same (hb2.block _ KZ1.out.lt))
  clear hb2
  go_wp2_with (refine wpList_store_row rfl 26 (.tmp 4) (.tmp 8) rfl w.heap.size (u8s S).toArray rfl rfl 26 Z KZ2.out HI.out HZ32.out (u8s_all S) ?_)
  try go_frame
  refine bodyPost_ret (results_cell_row Tryd.results92 _ _ w.heap.size 26 (u8s S).toArray (0, 0) _ rfl (KZ2.out.row _) Tryd.underlying26 rfl HI.out) rfl ?_
  exact ⟨rfl, below_setRow B2.out (Nat.le_refl _) _⟩

set_option maxRecDepth 5000 in
set_option maxHeartbeats 2000000 in
theorem RText_any (tag : Int) (A : Option Addr) (n c : Nat) (L : List (List Int)) (w : World) (h : InR w A n L) (hn : n ≤ 20) (hL : ∀ f ∈ L, f.length ≤ 300) (ht : 0 ≤ tag ∧ tag < 256) :
    Calls Tryd.prog 109 #[.int .u8 tag, .slice A n c] w fun e w' => ∃ A' c', e = .returned (.slice A' (textL tag L).length c') ∧ (textL tag L).length ≤ c' ∧ Fresh w w' A' (textL tag L) ∧ Below w.heap.size w w' := by
  have H := hid h; have HLL := hid hL; have HLN := hid h.1
  have HO1 : Hid ((w.alloc (.cells #[.int .u8 tag] 5)).ownsRow w.heap.size 5 1 (.slice (some ⟨w.heap.size, 0, none⟩) 1 1) [tag].length (u8s [tag])) :=
    ⟨by simp [u8s], .inr ⟨w.heap.size, 1, #[.int .u8 tag], rfl, Nat.le_refl _, heap_alloc_new w _, by simp, by unfold maxLen; omega, by simp, by simp [u8s]⟩⟩
  have HBL1 : Hid (Below w.heap.size w (w.alloc (.cells #[.int .u8 tag] 5))) := (Below.refl _ _).alloc (Nat.le_refl _) _
  have hst : textL tag (L.take 0) = [tag] := by simp [textL]
  have HST := hid hst
  clear h hL hst ht
  go_enter Tryd.func109, Tryd.ntmps109
  go_wp2
  go_loopw [5, 6] (fun v i wr => ∃ (j : Nat) (acc : List Int), j ≤ n ∧ i = .int .i64 j ∧ Hid (acc = textL tag (L.take j)) ∧ Hid (wr.ownsRow w.heap.size 5 1 v acc.length (u8s acc)) ∧ Hid (Below w.heap.size w wr)) (fun _ i _ => n - (intOf i).toNat)
  case atStart => exact ⟨0, [tag], by omega, rfl, HST.out.symm, HO1.out, HBL1.out⟩
  case round =>
    obtain ⟨j, acc, hj, rfl, HACC, HOWN, HBL⟩ := hrel
    clear HO1 HBL1
    by_cases hlt2 : j < n
    · obtain ⟨b, o, rfl, hbw, hat⟩ := H.out.2.2 (by omega)
      obtain ⟨B, cc, bb, h1, h9, h2, h3, h4, h6⟩ := hat j hlt2
      have HT := hid (textL_take tag L j bb h1)
      have hlen := textL_len tag L (j + 1) HLL.out
      have hbb : bb.length ≤ 300 := HLL.out _ (List.mem_of_getElem? h1)
      have hcell : wr.cell? ⟨b, o + j, none⟩ = some (.slice B bb.length cc) := (HBL.out.cell hbw).trans h9
      obtain ⟨m, hm⟩ : ∃ m, m = bb.length := ⟨_, rfl⟩
      rw [← hm] at hcell h6 hbb
      have HM := hid hm
      have hal : acc.length ≤ 7000 := by
        have h7 := HACC.out
        rw [HT.out, ← h7, List.length_append] at hlen
        omega
      have hal4 : acc.length + (be (m : Int) 4).length < 1000000000000 := by rw [be_length]; omega
      have halb : (acc ++ be (m : Int) 4).length + bb.length < 1000000000000 := by rw [List.length_append, be_length]; omega
      have HAL4 := hid hal4; have HALB := hid halb
      have HRB := hid h3
      have HNM := hid (fun (wx : World) => Number_any (m : Int) 4 wx (by omega) (by omega))
      have HCX : Hid (∀ w3, Below w.heap.size w w3 → w3.cell? ⟨b, o + j, none⟩ = some (.slice B m cc)) := fun w3 hb3 => by
        rw [hm]; exact (hb3.cell hbw).trans h9
      have HBW : Hid (b < w.heap.size) := hbw
      clear hat h1 h2 h3 h4 hm hlen h9 hal hal4 halb hbw
      go_wp2_with (first
        | (go_at_call 89; refine (HNM.out _).mono ?_; rintro e w4 ⟨A4, c4, rfl, hc4, hf4, hb4⟩; have HF4 := hid hf4.rp0; have HO4 := hid (own_below HOWN.out hb4); have HB4 := hid (HBL.out.trans (hb4.mono HBL.out.size)); clear hc4 hf4 hb4)
        | (at_builtin; refine append_rpm rfl (.tmp 15) (.tmp 22) rfl w.heap.size w.heap.size _ acc rfl HO4.out A4 4 c4 (be (m : Int) 4) (by rw [be_length]) rfl HF4.out HAL4.out HB4.out.size (Nat.le_refl _) ?_; intro v5 w5 HO5 HB5; have HB6 := hid (HB4.out.trans HB5.out); have z1 := HCX.out w5 HB6.out; clear HCX)
        | (at_builtin; refine append_rpm rfl (.tmp 24) (.tmp 28) rfl w.heap.size w.heap.size _ (acc ++ be (m : Int) 4) rfl HO5.out B m cc bb HM.out rfl (HRB.out.belowN HB6.out) HALB.out HB6.out.size (Nat.le_refl _) ?_; intro v6 w6 HO6 HB7))
      go_roundw
      case rel =>
        refine ⟨j + 1, acc ++ be (m : Int) 4 ++ bb, by omega, by go_num, ?_, HO6.out, HB6.out.trans HB7.out⟩
        show _ = _
        rw [HT.out, ← HACC.out, part, ← HM.out, List.append_assoc]
      case measure => simp [intOf]; omega
    · have hacc : acc = textL tag L := by
        rw [HACC.out, List.take_of_length_le (by have := HLN.out; omega)]
      obtain ⟨A2, c2, rfl, _, hc2, hf2⟩ := fresh_of_own HOWN.out (Nat.le_refl _)
      have HF2 := hid hf2; have HAC := hid hacc
      clear hf2 hacc HOWN
      go_wp2
      go_ret
      rw [← HAC.out]
      exact ⟨A2, c2, rfl, hc2, HF2.out, HBL.out⟩

set_option maxRecDepth 5000 in
set_option maxHeartbeats 1000000 in
theorem RTagged_any (tag : Int) (A : Option Addr) (n c : Nat) (L : List (List Int)) (w : World) (h : InR w A n L) (hn : n ≤ 20) (hL : ∀ f ∈ L, f.length ≤ 300) (ht : 0 ≤ tag ∧ tag < 256) :
    Calls Tryd.prog 93 #[.int .u8 tag, .slice A n c] w fun e w' => e = .returned (.agg (u8s (sum (textL tag L))).toArray) ∧ Below w.heap.size w w' := by
  obtain ⟨Z, HZ, hZ0, hZs⟩ := zero_Hash
  have B0 : Hid (Below w.heap.size w (w.alloc (.cells Z 26))) := (Below.refl _ _).alloc (Nat.le_refl _) _
  have KZ : Hid (Blk (w.alloc (.cells Z 26)) w.heap.size 26 Z) := Blk.new w 26 Z
  have HTX := hid (RText_any tag A n c L (w.alloc (.cells Z 26)) (h.below B0.out) hn hL ht)
  have HSM := hid (fun (w1 : World) (A1 : Option Addr) (c1 : Nat) (hr : Rp w1 none A1 (textL tag L)) => RSum_any A1 c1 (textL tag L) w1 hr (textL_bs tag L ht h.bsAll) (by have := textL_all tag L n h.1 hn hL; omega))
  unfold hashV at HSM
  obtain ⟨S, hS⟩ : ∃ S, S = sum (textL tag L) := ⟨_, rfl⟩
  have HI : Hid ((Tryd.prog.info? 26).map (·.size) = some (u8s S).toArray.size) := info_hash S (by rw [hS]; exact sum_length _)
  have HZ32 : Hid (Z.size = (u8s S).toArray.size) := by
    show _ = _
    rw [HZ.out, List.size_toArray, List.size_toArray, u8s_length, u8s_length, hS, sum_length]; simp
  rw [← hS] at HSM ⊢
  clear h hL ht hS
  go_enter Tryd.func93, Tryd.ntmps93
  go_wp2_with fail
  refine HTX.out.mono ?_
  rintro e w1 ⟨A1, c1, rfl, hc1, hf1, hb1⟩
  have B1 := hid (B0.out.trans (hb1.mono B0.out.size))
  have KZ1 := hid (KZ.out.same (hb1.block _ KZ.out.lt))
  have HC1 := hid hc1; have HF1 := hid hf1
  clear hc1 hf1 hb1
  go_wp2_with fail
  refine (HSM.out _ A1 c1 HF1.out.rp0).mono ?_
  rintro e w2 ⟨rfl, hb2⟩
  have B2 := hid (B1.out.trans (hb2.mono B1.out.size))
  have KZ2 := hid (KZ1.out.same (hb2.block _ KZ1.out.lt))
  clear hb2
  go_wp2_with (refine wpList_store_row rfl 26 (.tmp 4) (.tmp 8) rfl w.heap.size (u8s S).toArray rfl rfl 26 Z KZ2.out HI.out HZ32.out (u8s_all S) ?_)
  try go_frame
  refine bodyPost_ret (results_cell_row Tryd.results93 _ _ w.heap.size 26 (u8s S).toArray (0, 0) _ rfl (KZ2.out.row _) Tryd.underlying26 rfl HI.out) rfl ?_
  exact ⟨rfl, below_setRow B2.out (Nat.le_refl _) _⟩
end Go.Proofs.YtobceieadjpaaaaDoor
