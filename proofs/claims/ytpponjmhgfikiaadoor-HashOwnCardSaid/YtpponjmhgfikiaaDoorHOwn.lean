/-
  Bytes that are handed in stay; the same is answered again; a text's size is that of its parts: the walk of the statement.
-/
import Derived.Test.YtpponjmhgfikiaaDoorHOwn0
import Derived.Deep.RegionHeld3
import Derived.Deep.MidRow
namespace Go.Proofs.YtpponjmhgfikiaaDoor
open Go.ChangeShapes Go.WideShapes Go.ChangeAt Go.RowKit
set_option linter.unusedVariables false

theorem made_of {wo w2 : World} {v2 : Value} {bb : List Int} {m : Nat} (h : Hid (w2.ownsRow wo.heap.size 5 1 v2 ([] ++ bb).length (u8s ([] ++ bb)))) (hm : Hid (m = bb.length)) :
    ∃ A2 c2, v2 = .slice A2 m c2 ∧ Hid (Rp w2 none A2 bb ∧ bb.length ≤ c2 ∧ Fresh wo w2 A2 bb) := by
  have h1 : w2.ownsRow wo.heap.size 5 1 v2 m (u8s bb) := by rw [hm.out]; exact h.out
  obtain ⟨A2, c2, e, e1, e2, e3⟩ := fresh_of_own (w := wo) h1 (Nat.le_refl _)
  exact ⟨A2, c2, e, e3.rp0, by omega, e3⟩
theorem apart_of {base k : Nat} {wo w2 : World} {v : Value} {L : List (List Int)} {A2 : Option Addr} {c2 : Nat} {bb : List Int} (ho : Hid (OwnR base wo v k L)) (hf : Hid (Rp w2 none A2 bb ∧ bb.length ≤ c2 ∧ Fresh wo w2 A2 bb)) :
    0 < bb.length → ∀ a, A2 = some a → v.ownBlock ≠ some a.block := by
  intro hx a ha e
  obtain ⟨vs, h1, _⟩ := ho.out
  obtain ⟨g, cur, e2, hg, _⟩ := hf.out.2.2 hx
  rw [ha] at e2
  injection e2 with e2
  subst e2
  have := (h1.lt _ e).2
  simp only at this
  omega

/-- what stays, whatever is made besides -/
def Kept (w : World) (A Ao : Option Addr) (k : Nat) (L : List (List Int)) (g2 gh : Nat) (tag : Int) (Y : List Int) (cs : List Value) (w' : World) : Prop :=
  Below w.heap.size w w' ∧ InR w' A k L ∧ InR w' Ao k L ∧ Rp w' none (some ⟨g2, 0, none⟩) (tag :: Y) ∧ Blk w' gh 25 cs.toArray
section
variable {w : World} {A Ao : Option Addr} {k : Nat} {L : List (List Int)} {g2 gh : Nat} {tag : Int} {Y : List Int} {cs : List Value}
theorem Kept.step {w1 w2 : World} (h : Kept w A Ao k L g2 gh tag Y cs w1) (hb : Below w1.heap.size w1 w2) : Kept w A Ao k L g2 gh tag Y cs w2 :=
  ⟨h.1.trans (hb.mono h.1.size), h.2.1.below hb, h.2.2.1.below hb, h.2.2.2.1.belowN hb, h.2.2.2.2.same (hb.block _ h.2.2.2.2.lt)⟩
theorem Kept.all {w1 : World} (h : Hid (Kept w A Ao k L g2 gh tag Y cs w1)) : w1.cell? ⟨g2, 0, none⟩ = some (.int .u8 tag) ∧ w1.rangeAt gh 0 cs ∧ Hid (Kept w A Ao k L g2 gh tag Y cs w1) := by
  refine ⟨?_, ?_, h⟩
  · obtain ⟨ad, e, _, hc⟩ := h.out.2.2.2.1 (by simp)
    injection e with e
    subst e
    have := hc 0 (by simp)
    rw [Addr.add_lit] at this
    exact this
  · intro j v hv
    rw [Nat.zero_add, h.out.2.2.2.2.cell]
    simpa using hv
end

set_option maxRecDepth 50000 in
set_option maxHeartbeats 30000000 in
theorem hown_walk (tag : Int) (A : Option Addr) (n c : Nat) (L : List (List Int)) (w : World) (h : InR w A n L) (hT : Tab w) (ht : 0 ≤ tag ∧ tag < 256) :
    Calls Tryd.prog 7 #[.int .u8 tag, .slice A n c] w fun e w' => e = .returned (.bool true) ∧ Below w.heap.size w w' := by
  have HAW := hid (fun (w1 : World) (hb : Below w.heap.size w w1) => hawake_any w1 (hT.below hb))
  have B0 := hid (Below.refl w.heap.size w)
  have H := hid h
  cases hf : fewR L 20 300 with
  | false =>
    have tok1 : True := trivial
    clear h hT ht
    go_enter Tryd.func7, Tryd.ntmps7
    go_wp2_with (first
      | (go_at_call 8; have _t := tok1; refine (HAW.out _ B0.out).mono ?_; rintro e w1 ⟨rfl, hb1⟩; have HB1 := hid hb1; clear tok1 hb1)
      | (go_at_call 11; refine (RFew_any A n c L _ (H.out.below HB1.out)).mono ?_; rintro e w2 ⟨rfl, rfl⟩)
      | (go_at_call 8; refine (HAW.out _ HB1.out).mono ?_; rintro e w2 ⟨rfl, hb2⟩; have HB2 := hid (HB1.out.trans (hb2.mono HB1.out.size)); clear hb2))
    go_ret
    exact ⟨rfl, HB2.out⟩
  | true =>
    obtain ⟨h1, h2⟩ := fewR_all hf (by omega)
    have hn : n ≤ 20 := by have := h.1; omega
    have HLL := hid h2; have HLN := hid h.1; have HT := hid hT; have HTG := hid ht
    clear h hT h1 ht h2
    go_enter Tryd.func7, Tryd.ntmps7
    go_wp2_with (first
      | (go_at_call 8; refine (HAW.out _ B0.out).mono ?_; rintro e w1 ⟨rfl, hb1⟩; have HB1 := hid hb1; clear hb1)
      | (go_at_call 11; refine (RFew_any A n c L _ (H.out.below HB1.out)).mono ?_; rintro e w2 ⟨rfl, rfl⟩))
    go_loopw [5, 6, 7, 8] (fun v s i _ wr => ∃ k S : Nat, k ≤ n ∧ S ≤ 7000 ∧ i = .int .i64 k ∧ s = .int .i64 S ∧ Hid (S = (textL tag (L.take k)).length) ∧ Hid (OwnR w1.heap.size wr v k L) ∧ Hid (Below w.heap.size w wr) ∧ Hid (w1.heap.size ≤ wr.heap.size)) (fun _ _ i _ _ => n - (intOf i).toNat)
    case atStart => exact ⟨0, 1, by omega, by omega, rfl, rfl, by show _ = _; simp [textL], OwnR.start _ _ _, HB1.out, Nat.le_refl _⟩
    case round =>
      obtain ⟨k, S, hk, hS, rfl, rfl, HS, HO, HB, HSZ⟩ := hrel
      obtain ⟨wo, rfl⟩ : ∃ wo : World, wo = wr := ⟨_, rfl⟩
      by_cases hlt : k < n
      · obtain ⟨b, o, rfl, hbw, hat⟩ := H.out.2.2 (by omega)
        obtain ⟨B, cc, bb, e1, e9, e2, e3, e4, e6⟩ := hat k hlt
        have HTK := hid (textL_take tag L k bb e1)
        have hlen := textL_len tag L (k + 1) HLL.out
        have hbb : bb.length ≤ 300 := HLL.out _ (List.mem_of_getElem? e1)
        have hcell : ∀ w' : World, Below w.heap.size w w' → w'.cell? ⟨b, o + k, none⟩ = some (.slice B bb.length cc) := fun w' hb => (hb.cell hbw).trans e9
        obtain ⟨m, hm⟩ : ∃ m, m = bb.length := ⟨_, rfl⟩
        rw [← hm] at hcell e6 hbb
        have c0 := hcell wo HB.out
        have HCELL := hid hcell
        have HM := hid hm
        have HLE := hid hlen
        have HRB := hid e3
        have HE1 := hid e1
        have HK20 : Hid (k ≤ 20) := by show _ ≤ _; omega
        have HM3 : Hid (([] : List Int).length + bb.length < 1000000000000) := by show _ < _; simp; omega
        have HN0 : Hid (wo.ownsRow wo.heap.size 5 1 (.slice none 0 0) ([] : List Int).length (u8s [])) := ⟨rfl, .inl ⟨rfl, rfl⟩⟩
        clear hat e1 e2 e3 e4 hm hlen e9 hcell
        go_wp2_with (first
          | (at_builtin; refine append_rpm rfl (.tmp 25) (.tmp 29) rfl wo.heap.size wo.heap.size _ [] rfl HN0.out B m cc bb HM.out rfl (HRB.out.belowN HB.out) HM3.out (Nat.le_refl _) (Nat.le_refl _) ?_; intro v2 w2 HO2 HB2; obtain ⟨A2, c2, rfl, HF2⟩ := made_of HO2 HM; have HBX := hid (HB.out.trans (HB2.out.mono HB.out.size)))
          | (at_builtin; refine append_row rfl (.tmp 31) (.tmp 33) rfl w1.heap.size w.heap.size _ k L A2 c2 m bb w2 HM.out rfl rfl rfl (HO.out.below HB2.out) HF2.out.1 (apart_of HO HF2) HF2.out.2.1 HE1.out HK20.out (Nat.le_trans HSZ.out HB2.out.size) HB1.out.size ?_; intro v3 w3 HO3 HB3; have HBY := hid (HBX.out.trans (((Below.refl _ _).alloc HBX.out.size _).trans HB3.out)); have c3 := HCELL.out w3 HBY.out; have HSY := hid (Nat.le_trans HSZ.out (Nat.le_trans HB2.out.size (Nat.le_trans (by simp) HB3.out.size)))))
        go_roundw
        case rel =>
          refine ⟨k + 1, S + (4 + m), by omega, ?_, by go_num, by go_num, ?_, HO3, HBY, HSY⟩
          · have := HLE.out
            have h5 := HS.out
            have h7 := HM.out
            rw [HTK.out, List.length_append, part_length] at this
            omega
          · show _ = _
            rw [HTK.out, List.length_append, part_length, ← HS.out, ← HM.out]
        case measure => simp [intOf]; omega
      · obtain rfl : k = n := by omega
        obtain ⟨Ao, co, rfl, hino⟩ := HO.out.inR HLN.out hn H.out.bsAll HLL.out
        have hSX : S = (textL tag L).length := by
          have := HS.out
          rwa [List.take_of_length_le (by have := HLN.out; omega)] at this
        have hK : ∀ (g2 gh : Nat) (Y : List Int) (cs : List Value) (w2 : World), Kept w A Ao k L g2 gh tag Y cs w2 → True := fun _ _ _ _ _ _ => trivial
        have HTX := hid (Text_any tag A k c L wo (H.out.below HB.out) hn HLL.out HTG.out)
        have HTA := hid (fun (w2 : World) (hb : Below w.heap.size w w2) => Tagged_any tag A k c L w2 (H.out.below hb) hn HLL.out HTG.out (HT.out.below hb))
        have KSL : ∀ (gh : Nat) (Y : List Int) (cs : List Value) (g2 : Nat) (w2 : World), Hid (Kept w A Ao k L g2 gh tag Y cs w2) → Calls Tryd.prog 17 #[.slice Ao k co, .slice A k c] w2 fun e w' => e = .returned (.bool true) ∧ Hid (Kept w A Ao k L g2 gh tag Y cs w') := by
          intro gh Y cs g2 w2 hk
          refine (RSameL_any Ao A k k co c L L w2 hk.out.2.2.1 hk.out.2.1 HLL.out HLL.out).mono ?_
          rintro e w' ⟨rfl, q, rfl⟩
          exact ⟨by rw [decide_eq_true rfl], hk.out.step (below_drewN (Below.refl _ _) q)⟩
        have KSM : ∀ (gh : Nat) (g2 c1 : Nat) (w2 : World), S ≤ c1 → Hid (Kept w A Ao k L g2 gh tag (L.flatMap part) (u8s (sum (textL tag L))) w2) → Calls Tryd.prog 9 #[.slice (some ⟨g2, 0, none⟩) S c1] w2 fun e w' => e = .returned (.agg (u8s (sum (textL tag L))).toArray) ∧ Hid (Kept w A Ao k L g2 gh tag (L.flatMap part) (u8s (sum (textL tag L))) w') := by
          intro gh g2 c1 w2 hc hk
          have h0 := Sum_any (some ⟨g2, 0, none⟩) c1 (textL tag L) w2 hk.out.2.2.2.1 (textL_bs tag L HTG.out H.out.bsAll) (by have := textL_all tag L k HLN.out hn HLL.out; omega) (by omega) (HT.out.below hk.out.1)
          rw [← hSX] at h0
          refine h0.mono ?_
          rintro e w' ⟨rfl, hb⟩
          exact ⟨rfl, hk.out.step hb⟩
        have KTO : ∀ (gh : Nat) (g2 : Nat) (w2 : World), Hid (Kept w A Ao k L g2 gh tag (L.flatMap part) (u8s (sum (textL tag L))) w2) → Calls Tryd.prog 15 #[.int .u8 tag, .slice Ao k co] w2 fun e w' => e = .returned (.agg (u8s (sum (textL tag L))).toArray) ∧ Hid (Kept w A Ao k L g2 gh tag (L.flatMap part) (u8s (sum (textL tag L))) w') := by
          intro gh g2 w2 hk
          refine (Tagged_any tag Ao k co L w2 hk.out.2.2.1 hn HLL.out HTG.out (HT.out.below hk.out.1)).mono ?_
          rintro e w' ⟨rfl, hb⟩
          exact ⟨rfl, hk.out.step hb⟩
        have KS : ∀ (gh g2 : Nat) (w2 : World), Below w.heap.size w w2 → InR w2 Ao k L → Rp w2 none (some ⟨g2, 0, none⟩) (textL tag L) → Blk w2 gh 25 (u8s (sum (textL tag L))).toArray → Hid (Kept w A Ao k L g2 gh tag (L.flatMap part) (u8s (sum (textL tag L))) w2) := fun gh g2 w2 hb hi hr hk => ⟨hb, H.out.below hb, hi, hr, hk⟩
        have hX0 : 0 < (textL tag L).length := by simp [textL]
        have heq0 : ∀ w : World, (binOp .eql 25 (.agg (u8s (sum (textL tag L))).toArray) (.agg (u8s (sum (textL tag L))).toArray)).run Tryd.prog w = .ok (.bool true) w := fun w => by
          have h := eql_hash (sum (textL tag L)) (sum (textL tag L)) (sum_bs _) (sum_bs _) (sum_length _) (sum_length _) w
          rw [decide_eq_true rfl] at h
          exact h
        have hI : (Tryd.prog.info? 25).map (·.size) = some (u8s (sum (textL tag L))).toArray.size := info_hash _ (sum_length _)
        have hAll := u8s_all (sum (textL tag L))
        obtain ⟨Z, HZ, hZ0, hZs⟩ := zero_Hash
        have HZ32 : Hid (Z.size = (u8s (sum (textL tag L))).toArray.size) := by
          show _ = _
          rw [HZ.out, List.size_toArray, List.size_toArray, u8s_length, u8s_length, sum_length]; simp
        obtain ⟨Y, hY⟩ : ∃ Y, Y = L.flatMap part := ⟨_, rfl⟩
        have hl32 : (u8s (sum (textL tag L))).length = 32 := by rw [u8s_length, sum_length]
        obtain ⟨cs, hcs⟩ : ∃ cs, cs = u8s (sum (textL tag L)) := ⟨_, rfl⟩
        rw [← hcs] at KSM KTO KS heq0 hI hAll HZ32 hl32
        rw [← hY] at KSM KTO KS
        have HTA2 : Hid (∀ w2 : World, Below w.heap.size w w2 → Calls Tryd.prog 15 #[.int .u8 tag, .slice A k c] w2 fun e w' => e = .returned (.agg cs.toArray) ∧ Below w2.heap.size w2 w') := by
          show ∀ w2 : World, _
          rw [hcs]; exact HTA.out
        obtain ⟨X, hX⟩ : ∃ X, X = textL tag L := ⟨_, rfl⟩
        rw [← hX] at HTX KS hX0 hSX
        rw [← hSX] at HTX hX0
        have HX0 : Hid (0 < X.length) := by show _ < _; omega
        have HINO := hid hino; have HKS := hid KS; have HKSM := hid KSM; have HKTO := hid KTO; have HKSL := hid KSL; have HI := hid hI; have HA := hid hAll; have HL32 := hid hl32
        have hSi : (0 : Int) < (S : Int) := by omega
        clear hino KS KSM KTO KSL hK HTA hY hcs hX hX0 hSX HO HS hI hAll hl32
        go_wp2_with (first
          | (go_at_call 13; refine HTX.out.mono ?_; rintro e w2 ⟨A2, c2, rfl, hc2, hf2, hb2⟩; have HC2 := hid hc2; obtain ⟨g2, cur2, rfl, hf3⟩ := hf2 HX0.out; have HF2 := hid hf2; have HB2 := hid (HB.out.trans (hb2.mono HB.out.size)); have HIN2 := hid (HINO.out.below hb2); clear hc2 hf2 hb2 hf3)
          | (go_at_call 15; refine (HTA2.out _ HB2.out).mono ?_; rintro e w3 ⟨rfl, hb3⟩; have HB3 := hid (HB2.out.trans (hb3.mono HB2.out.size)); have HF3 := hid (HF2.out.below hb3); have HIN3 := hid (HIN2.out.below hb3); clear hb3)
          | (refine wpList_store_row rfl 25 (.tmp 10) (.tmp 48) rfl w3.heap.size cs.toArray rfl rfl 25 Z (Blk.new w3 25 Z) HI.out HZ32.out HA.out ?_))
        try go_frame
        have hB4 : Below w.heap.size w ((w3.alloc (.cells Z 25)).setRow w3.heap.size cs.toArray) := below_setRow (HB3.out.alloc HB3.out.size _) HB3.out.size _
        have hB34 : Below w3.heap.size w3 ((w3.alloc (.cells Z 25)).setRow w3.heap.size cs.toArray) := below_setRow ((Below.refl _ _).alloc (Nat.le_refl _) _) (Nat.le_refl _) _
        have K0 := HKS.out w3.heap.size g2 _ hB4 (HIN3.out.below hB34) (HF3.out.below hB34).rp0 ((Blk.new w3 25 Z).row _)
        generalize ((w3.alloc (.cells Z 25)).setRow w3.heap.size cs.toArray) = w4 at K0 ⊢
        clear hB4 hB34
        generalize w3.heap.size = gh at K0 ⊢
        have KD : Hid (Kept w A Ao k L g2 gh tag Y cs w4.drew) := K0.out.step ⟨rfl, rfl, rfl, Nat.le_refl _, fun _ _ => rfl⟩
        have hu := Tryd.underlying25
        have hl := HL32.out
        have hi : (Tryd.prog.info? 25).map (·.size) = some cs.length := by simpa using HI.out
        have HK2 := hid HKSM.out
        clear K0 HB3 HF3 HIN3 HB2 HF2 HIN2 HTX HTA2 HKS HINO HI HA HL32 hZs HZ HZ32 hZ0 hf HAW HSZ HB H hk hlt
        refine wp_region_held (S := fun w' => Hid (Kept w A Ao k L g2 gh tag Y cs w')) (by kernel_rfl) ?_
        change wpAnyH _ _ _ _ _ _ _ _ w4.drew
        generalize w4.drew = w5 at KD ⊢
        have hSn : 0 < S := by omega
        have hS0 : (0 : Int) ≤ (S : Int) := by omega
        refine wpAnyH_take (i := 0) (oi := { dst := some 49, op := _, type := _, pos := _, after := _, guard := _ }) (v := ?_) rfl (by kernel_rfl) (by kernel_rfl) (by kernel_rfl) (fun _ _ _ h => h) (Or.inl ⟨by kernel_rfl, ?_⟩) (by assumption) ?_
        rotate_left
        · (intro w hSw; go_simp; try with_reducible rfl)
        try simp only [Act.put, List.setIfInBounds_toArray, List.set_cons_zero, List.set_cons_succ]
        refine wpAnyH_take (i := 1) (oi := { dst := some 50, op := _, type := _, pos := _, after := _, guard := _ }) (v := ?_) rfl (by kernel_rfl) (by kernel_rfl) (by kernel_rfl) (fun _ _ _ h => h) (Or.inl ⟨by kernel_rfl, ?_⟩) (by assumption) ?_
        rotate_left
        · (intro w hSw; go_simp; try with_reducible rfl)
        try simp only [Act.put, List.setIfInBounds_toArray, List.set_cons_zero, List.set_cons_succ]
        refine wpAnyH_take (i := 2) (oi := { dst := some 51, op := _, type := _, pos := _, after := _, guard := _ }) (v := ?_) rfl (by kernel_rfl) (by kernel_rfl) (by kernel_rfl) (fun _ _ _ h => h) (Or.inl ⟨by kernel_rfl, ?_⟩) (by assumption) ?_
        rotate_left
        · (intro w hSw; go_simp; try with_reducible rfl)
        try simp only [Act.put, List.setIfInBounds_toArray, List.set_cons_zero, List.set_cons_succ]
        refine wpAnyH_take (i := 3) (oi := { dst := some 52, op := _, type := _, pos := _, after := _, guard := _ }) (v := ?_) rfl (by kernel_rfl) (by kernel_rfl) (by kernel_rfl) (fun _ _ _ h => h) (Or.inl ⟨by kernel_rfl, ?_⟩) (by assumption) ?_
        rotate_left
        · (intro w hSw; go_simp; try with_reducible rfl)
        try simp only [Act.put, List.setIfInBounds_toArray, List.set_cons_zero, List.set_cons_succ]
        refine wpAnyH_take (i := 4) (oi := { dst := some 53, op := _, type := _, pos := _, after := _, guard := _ }) (v := ?_) rfl (by kernel_rfl) (by kernel_rfl) (by kernel_rfl) (fun _ _ _ h => h) (Or.inl ⟨by kernel_rfl, ?_⟩) (by assumption) ?_
        rotate_left
        · (intro w hSw; go_simp; try with_reducible rfl)
        try simp only [Act.put, List.setIfInBounds_toArray, List.set_cons_zero, List.set_cons_succ]
        refine wpAnyH_take (i := 5) (oi := { dst := some 54, op := _, type := _, pos := _, after := _, guard := _ }) (v := ?_) rfl (by kernel_rfl) (by kernel_rfl) (by kernel_rfl) (fun _ _ _ h => h) (Or.inl ⟨by kernel_rfl, ?_⟩) (by assumption) ?_
        rotate_left
        · (intro w hSw; go_simp; try with_reducible rfl)
        try simp only [Act.put, List.setIfInBounds_toArray, List.set_cons_zero, List.set_cons_succ]
        refine wpAnyH_take (i := 6) (oi := { dst := some 55, op := _, type := _, pos := _, after := _, guard := _ }) (v := ?_) rfl (by kernel_rfl) (by kernel_rfl) (by kernel_rfl) (fun _ _ _ h => h) (Or.inl ⟨by kernel_rfl, ?_⟩) (by assumption) ?_
        rotate_left
        · (intro w hSw; go_simp; try with_reducible rfl)
        try simp only [Act.put, List.setIfInBounds_toArray, List.set_cons_zero, List.set_cons_succ]
        refine wpAnyH_take (i := 7) (oi := { dst := some 56, op := _, type := _, pos := _, after := _, guard := _ }) (v := ?_) rfl (by kernel_rfl) (by kernel_rfl) (by kernel_rfl) (fun _ _ _ h => h) (Or.inl ⟨by kernel_rfl, ?_⟩) (by assumption) ?_
        rotate_left
        · (intro w hSw; have hc := (Kept.all hSw).1; go_simp; try with_reducible rfl)
        try simp only [Act.put, List.setIfInBounds_toArray, List.set_cons_zero, List.set_cons_succ]
        refine wpAnyH_take (i := 8) (oi := { dst := some 57, op := _, type := _, pos := _, after := _, guard := _ }) (v := ?_) rfl (by kernel_rfl) (by kernel_rfl) (by kernel_rfl) (fun _ _ _ h => h) (Or.inl ⟨by kernel_rfl, ?_⟩) (by assumption) ?_
        rotate_left
        · (intro w hSw; go_simp; try with_reducible rfl)
        try simp only [Act.put, List.setIfInBounds_toArray, List.set_cons_zero, List.set_cons_succ]
        refine wpAnyH_take (i := 9) (oi := { dst := some 58, op := _, type := _, pos := _, after := _, guard := _ }) (v := ?_) rfl (by kernel_rfl) (by kernel_rfl) (by kernel_rfl) (fun _ _ _ h => h) (Or.inl ⟨by kernel_rfl, ?_⟩) (by assumption) ?_
        rotate_left
        · (intro w hSw; go_simp; try with_reducible rfl)
        try simp only [Act.put, List.setIfInBounds_toArray, List.set_cons_zero, List.set_cons_succ]
        refine wpAnyH_take (i := 10) (oi := { dst := some 59, op := _, type := _, pos := _, after := _, guard := _ }) (v := ?_) rfl (by kernel_rfl) (by kernel_rfl) (by kernel_rfl) (fun _ _ _ h => h) (Or.inl ⟨by kernel_rfl, ?_⟩) (by assumption) ?_
        rotate_left
        · (intro w hSw; go_simp; try with_reducible rfl)
        try simp only [Act.put, List.setIfInBounds_toArray, List.set_cons_zero, List.set_cons_succ]
        refine wpAnyH_take (i := 11) (oi := { dst := some 60, op := _, type := _, pos := _, after := _, guard := _ }) (v := ?_) rfl (by kernel_rfl) (by kernel_rfl) (by kernel_rfl) (fun _ _ _ h => h) (Or.inl ⟨by kernel_rfl, ?_⟩) (by assumption) ?_
        rotate_left
        · (intro w hSw; go_simp; try with_reducible rfl)
        try simp only [Act.put, List.setIfInBounds_toArray, List.set_cons_zero, List.set_cons_succ]
        refine wpAnyH_take (i := 12) (oi := { dst := some 61, op := _, type := _, pos := _, after := _, guard := _ }) (v := ?_) rfl (by kernel_rfl) (by kernel_rfl) (by kernel_rfl) (fun _ _ _ h => h) (Or.inl ⟨by kernel_rfl, ?_⟩) (by assumption) ?_
        rotate_left
        · (intro w hSw; go_simp; try with_reducible rfl)
        try simp only [Act.put, List.setIfInBounds_toArray, List.set_cons_zero, List.set_cons_succ]
        refine wpAnyH_take (i := 13) (oi := { dst := some 62, op := _, type := _, pos := _, after := _, guard := _ }) (v := ?_) rfl (by kernel_rfl) (by kernel_rfl) (by kernel_rfl) (fun _ _ _ h => h) (Or.inl ⟨by kernel_rfl, ?_⟩) (by assumption) ?_
        rotate_left
        · (intro w hSw; go_simp; try with_reducible rfl)
        try simp only [Act.put, List.setIfInBounds_toArray, List.set_cons_zero, List.set_cons_succ]
        refine wpAnyH_ready (rs := [14]) (by kernel_rfl) (by simp) ?_
        refine AllReadyH.cons (o := { dst := some 63, op := _, type := _, pos := _, after := _, guard := _ }) rfl (fun K hK => ?_) AllReadyH.nil
        go_simp
        go_at_call 17; refine (HKSL.out gh Y cs g2 _ ?_).mono ?_; (assumption); rintro e w6 ⟨rfl, hk6⟩
        go_wp2_with fail
        refine hK.out _ _ ?_ (fun hHeld => ?_)
        · assumption
        clear hK K
        try simp only [Act.put, List.setIfInBounds_toArray, List.set_cons_zero, List.set_cons_succ]
        refine wpAnyH_take (i := 15) (oi := { dst := some 64, op := _, type := _, pos := _, after := _, guard := _ }) (v := ?_) rfl (by kernel_rfl) (by kernel_rfl) (by kernel_rfl) (fun _ _ _ h => h) (Or.inl ⟨by kernel_rfl, ?_⟩) (by assumption) ?_
        rotate_left
        · (intro w hSw; go_simp; try with_reducible rfl)
        try simp only [Act.put, List.setIfInBounds_toArray, List.set_cons_zero, List.set_cons_succ]
        refine wpAnyH_take (i := 16) (oi := { dst := some 65, op := _, type := _, pos := _, after := _, guard := _ }) (v := ?_) rfl (by kernel_rfl) (by kernel_rfl) (by kernel_rfl) (fun _ _ _ h => h) (Or.inl ⟨by kernel_rfl, ?_⟩) (by assumption) ?_
        rotate_left
        · (intro w hSw; go_simp; try with_reducible rfl)
        try simp only [Act.put, List.setIfInBounds_toArray, List.set_cons_zero, List.set_cons_succ]
        refine wpAnyH_take (i := 17) (oi := { dst := some 66, op := _, type := _, pos := _, after := _, guard := _ }) (v := ?_) rfl (by kernel_rfl) (by kernel_rfl) (by kernel_rfl) (fun _ _ _ h => h) (Or.inl ⟨by kernel_rfl, ?_⟩) (by assumption) ?_
        rotate_left
        · (intro w hSw; go_simp; try with_reducible rfl)
        try simp only [Act.put, List.setIfInBounds_toArray, List.set_cons_zero, List.set_cons_succ]
        refine wpAnyH_take (i := 19) (oi := { dst := some 68, op := _, type := _, pos := _, after := _, guard := _ }) (v := _) rfl (by kernel_rfl) (by kernel_rfl) (by kernel_rfl) (fun _ _ _ h => h) (yieldsIf_load_mid (by rfl) _ _ rfl _ _ rfl _ _ (fun w' hSw => (Kept.all hSw).2.1) hu rfl hi) (by assumption) ?_
        try simp only [Act.put, List.setIfInBounds_toArray, List.set_cons_zero, List.set_cons_succ]
        refine wpAnyH_ready (rs := [18]) (by kernel_rfl) (by simp) ?_
        refine AllReadyH.cons (o := { dst := some 67, op := _, type := _, pos := _, after := _, guard := _ }) rfl (fun K hK => ?_) AllReadyH.nil
        go_simp
        go_at_call 9; refine (HKSM.out gh g2 c2 _ HC2.out ?_).mono ?_; (assumption); rintro e w7 ⟨rfl, hk7⟩
        go_wp2_with fail
        refine hK.out _ _ ?_ (fun hHeld => ?_)
        · assumption
        clear hK K
        try simp only [Act.put, List.setIfInBounds_toArray, List.set_cons_zero, List.set_cons_succ]
        refine wpAnyH_take (i := 20) (oi := { dst := some 69, op := _, type := _, pos := _, after := _, guard := _ }) (v := ?_) rfl (by kernel_rfl) (by kernel_rfl) (by kernel_rfl) (fun _ _ _ h => h) (Or.inl ⟨by kernel_rfl, ?_⟩) (by assumption) ?_
        rotate_left
        · (intro w hSw; have hq := heq0 w; go_simp; try with_reducible rfl)
        try simp only [Act.put, List.setIfInBounds_toArray, List.set_cons_zero, List.set_cons_succ]
        refine wpAnyH_take (i := 21) (oi := { dst := some 70, op := _, type := _, pos := _, after := _, guard := _ }) (v := ?_) rfl (by kernel_rfl) (by kernel_rfl) (by kernel_rfl) (fun _ _ _ h => h) (Or.inl ⟨by kernel_rfl, ?_⟩) (by assumption) ?_
        rotate_left
        · (intro w hSw; go_simp; try with_reducible rfl)
        try simp only [Act.put, List.setIfInBounds_toArray, List.set_cons_zero, List.set_cons_succ]
        refine wpAnyH_take (i := 22) (oi := { dst := some 71, op := _, type := _, pos := _, after := _, guard := _ }) (v := ?_) rfl (by kernel_rfl) (by kernel_rfl) (by kernel_rfl) (fun _ _ _ h => h) (Or.inl ⟨by kernel_rfl, ?_⟩) (by assumption) ?_
        rotate_left
        · (intro w hSw; go_simp; try with_reducible rfl)
        try simp only [Act.put, List.setIfInBounds_toArray, List.set_cons_zero, List.set_cons_succ]
        refine wpAnyH_take (i := 23) (oi := { dst := some 72, op := _, type := _, pos := _, after := _, guard := _ }) (v := ?_) rfl (by kernel_rfl) (by kernel_rfl) (by kernel_rfl) (fun _ _ _ h => h) (Or.inl ⟨by kernel_rfl, ?_⟩) (by assumption) ?_
        rotate_left
        · (intro w hSw; go_simp; try with_reducible rfl)
        try simp only [Act.put, List.setIfInBounds_toArray, List.set_cons_zero, List.set_cons_succ]
        refine wpAnyH_take (i := 24) (oi := { dst := some 73, op := _, type := _, pos := _, after := _, guard := _ }) (v := ?_) rfl (by kernel_rfl) (by kernel_rfl) (by kernel_rfl) (fun _ _ _ h => h) (Or.inl ⟨by kernel_rfl, ?_⟩) (by assumption) ?_
        rotate_left
        · (intro w hSw; go_simp; try with_reducible rfl)
        try simp only [Act.put, List.setIfInBounds_toArray, List.set_cons_zero, List.set_cons_succ]
        refine wpAnyH_take (i := 26) (oi := { dst := some 75, op := _, type := _, pos := _, after := _, guard := _ }) (v := _) rfl (by kernel_rfl) (by kernel_rfl) (by kernel_rfl) (fun _ _ _ h => h) (yieldsIf_load_mid (by rfl) _ _ rfl _ _ rfl _ _ (fun w' hSw => (Kept.all hSw).2.1) hu rfl hi) (by assumption) ?_
        try simp only [Act.put, List.setIfInBounds_toArray, List.set_cons_zero, List.set_cons_succ]
        refine wpAnyH_ready (rs := [25]) (by kernel_rfl) (by simp) ?_
        refine AllReadyH.cons (o := { dst := some 74, op := _, type := _, pos := _, after := _, guard := _ }) rfl (fun K hK => ?_) AllReadyH.nil
        go_simp
        go_at_call 15; refine (HKTO.out gh g2 _ ?_).mono ?_; (assumption); rintro e w8 ⟨rfl, hk8⟩
        go_wp2_with fail
        refine hK.out _ _ ?_ (fun hHeld => ?_)
        · assumption
        clear hK K
        try simp only [Act.put, List.setIfInBounds_toArray, List.set_cons_zero, List.set_cons_succ]
        refine wpAnyH_take (i := 27) (oi := { dst := some 76, op := _, type := _, pos := _, after := _, guard := _ }) (v := ?_) rfl (by kernel_rfl) (by kernel_rfl) (by kernel_rfl) (fun _ _ _ h => h) (Or.inl ⟨by kernel_rfl, ?_⟩) (by assumption) ?_
        rotate_left
        · (intro w hSw; have hq := heq0 w; go_simp; try with_reducible rfl)
        try simp only [Act.put, List.setIfInBounds_toArray, List.set_cons_zero, List.set_cons_succ]
        refine wpAnyH_take (i := 28) (oi := { dst := some 77, op := _, type := _, pos := _, after := _, guard := _ }) (v := ?_) rfl (by kernel_rfl) (by kernel_rfl) (by kernel_rfl) (fun _ _ _ h => h) (Or.inl ⟨by kernel_rfl, ?_⟩) (by assumption) ?_
        rotate_left
        · (intro w hSw; go_simp; try with_reducible rfl)
        try simp only [Act.put, List.setIfInBounds_toArray, List.set_cons_zero, List.set_cons_succ]
        refine wpAnyH_take (i := 29) (oi := { dst := some 4, op := _, type := _, pos := _, after := _, guard := _ }) (v := ?_) rfl (by kernel_rfl) (by kernel_rfl) (by kernel_rfl) (fun _ _ _ h => h) (Or.inl ⟨by kernel_rfl, ?_⟩) (by assumption) ?_
        rotate_left
        · (intro w hSw; go_simp; try with_reducible rfl)
        try simp only [Act.put, List.setIfInBounds_toArray, List.set_cons_zero, List.set_cons_succ]
        refine wpAnyH_done (by kernel_rfl) ?_ _
        try simp only [Act.put, List.setIfInBounds_toArray, List.set_cons_zero, List.set_cons_succ]
        go_wp2
        go_ret
        refine ⟨?_, hk8.out.1⟩
        first | rfl | kernel_rfl | (simp; done) | (simp [Act.eval]; done)
end Go.Proofs.YtpponjmhgfikiaaDoor
