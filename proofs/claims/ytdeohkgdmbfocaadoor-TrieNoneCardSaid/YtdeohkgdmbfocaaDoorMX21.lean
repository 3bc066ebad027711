/-
  What is proved here: no forest has no tree; numbers that are no tree's are refused: the walk of the statement.
-/
import Derived.Test.YtdeohkgdmbfocaaDoorMX21b
set_option linter.unusedSimpArgs false
set_option linter.unusedVariables false
namespace Go.Proofs.YtdeohkgdmbfocaaDoor
open Go.ChangeShapes Go.WideShapes Go.ChangeAt Go.RowKit
set_option linter.unusedVariables false
set_option linter.unusedSimpArgs false
set_option maxRecDepth 20000

theorem built_leaf0 : Tryd.prog.built 56 [(0, .bool true)] = some (nc { ndZ with leaf := true }).toArray := by kernel_rfl
theorem leaf0_ok : NdOk { ndZ with leaf := true } := ⟨ky_zero, ky_zero, ky_zero, ky_zero⟩
set_option maxHeartbeats 8000000 in
theorem none_walk (i : Int) (K V : List Int) (hK : Ky K) (hV : Ky V) (w : World) (ht : Tab w) : Calls Tryd.prog 8 #[.int .i64 i, .agg (kc K), .agg (kc V)] w fun e w' => e = .returned (.bool true) ∧ Below w.heap.size w w' := by
  obtain ⟨Z, HZ, hZ0, hZs⟩ := zero_key
  obtain ⟨hk1, hk2, hk3, hb0⟩ := three_blks w (kc K) (kc V) #[.slice none 0 0, .pointer none] 24 24 30
  have K1 := hid hk1; have K2 := hid hk2; have KF := hid hk3; have B0 := hid hb0
  have HKI := hid (u8s_info hK); have HVI := hid (u8s_info hV)
  have HI := hid (kc_info zk_ky)
  have HIE := hid (kc_info emptyH_ky)
  have hzs : Hid (Z.size = (kc zk).size) := by show _ = _; rw [HZ.out]
  have hze : Hid (Z.size = (kc emptyH).size) := by show _ = _; rw [HZ.out, kc_size zk_ky, kc_size emptyH_ky]
  have CP := hid (fun w => xPut_bad (w := w) (p := none) (i := i) hK hV (fun w1 _ => (xisTree_nil i w1)))
  have CR := hid (fun w => xRoot_bad (w := w) (p := none) (i := -1) (fun w1 _ => (xisTree_nil (-1) w1)))
  have CG := hid (fun w => xGet_bad (w := w) (p := none) (i := -1) hK (fun w1 _ => (xisTree_nil (-1) w1)))
  have CA := hid (fun w => xAdd_nil { ndZ with leaf := true } w leaf0_ok)
  have hbf := built_forest
  have hbl := built_leaf0
  obtain ⟨NL, hNL⟩ : ∃ NL, NL = (nc { ndZ with leaf := true }).toArray := ⟨_, rfl⟩
  rw [← hNL] at hbl CA
  have HT := hid ht; have HK := hid hK; have HV := hid hV
  clear hk1 hk2 hk3 hb0 hK hV ht hNL
  go_enter Tryd.func8, Tryd.ntmps8
  go_upto_region 4 with (first
    | (refine wpList_buildC rfl 30 _ rfl #[.slice none 0 0, .pointer none] ?hc ?_; case hc => (simp only [List.map_toArray, List.map_cons, List.map_nil, Act.eval]; exact hbf))
    | (refine load_at rfl 24 (.tmp 4) rfl w.heap.size 0 rfl (u8s K) _ (blk_key K1.out) Tryd.underlying24 rfl HKI.out (kc K) rfl ?_)
    | (refine load_at rfl 24 (.tmp 5) rfl (w.heap.size + 1) 0 rfl (u8s V) _ (blk_key K2.out) Tryd.underlying24 rfl HVI.out (kc V) rfl ?_)
    | (go_at_call 10; refine (CP.out _).mono ?_; rintro e w3 ⟨rfl, hb⟩; have L1 := hid (K1.out.below hb); have L2 := hid (K2.out.below hb); have LF := hid (KF.out.below hb); have B3 := hid (B0.out.trans (hb.mono B0.out.size)); clear hb))
  go_upto_region 5 with (first
    | (go_at_call 12; refine (CR.out _).mono ?_; rintro e w4 ⟨rfl, hb⟩; have M1 := hid (L1.out.below hb); have M2 := hid (L2.out.below hb); have MF := hid (LF.out.below hb); have B4 := hid (B3.out.trans (hb.mono B3.out.size)); unfold hV; clear hb)
    | (refine wpList_store_row rfl 24 (.tmp 11) (.tmp 34) rfl w4.heap.size (kc zk) rfl rfl 24 Z (Blk.new w4 24 Z) HI.out hzs.out (kc_one _) ?_))
  have BB : Hid (Below w4.heap.size w4 ((w4.alloc (.cells Z 24)).setRow w4.heap.size (kc zk))) := below_setRow ((Below.refl _ _).alloc (Nat.le_refl _) _) (Nat.le_refl _) _
  generalize (w4.alloc (.cells Z 24)).setRow w4.heap.size (kc zk) = w5 at BB ⊢
  have P1 := hid (M1.out.below BB.out); have P2 := hid (M2.out.below BB.out); have PF := hid (MF.out.below BB.out); have B5 := hid (B4.out.trans (BB.out.mono B4.out.size))
  clear K1 K2 KF L1 L2 LF M1 M2 MF B0 B3 B4 BB
  go_upto_region 6 with (first
    | (refine load_at rfl 24 (.tmp 4) rfl w.heap.size 0 rfl (u8s K) _ (blk_key P1.out) Tryd.underlying24 rfl HKI.out (kc K) rfl ?_)
    | (go_at_call 13; refine (CG.out _).mono ?_; rintro e w6 ⟨rfl, hb⟩; have Q1 := hid (P1.out.below hb); have Q2 := hid (P2.out.below hb); have QF := hid (PF.out.below hb); have B6 := hid (B5.out.trans (hb.mono B5.out.size)); unfold hV; clear hb)
    | (refine wpList_store_row rfl 24 (.tmp 13) (.tmp 40) rfl w6.heap.size (kc zk) rfl rfl 24 Z (Blk.new w6 24 Z) HI.out hzs.out (kc_one _) ?_))
  have BB : Hid (Below w6.heap.size w6 ((w6.alloc (.cells Z 24)).setRow w6.heap.size (kc zk))) := below_setRow ((Below.refl _ _).alloc (Nat.le_refl _) _) (Nat.le_refl _) _
  generalize (w6.alloc (.cells Z 24)).setRow w6.heap.size (kc zk) = w7 at BB ⊢
  have R1 := hid (Q1.out.below BB.out); have R2 := hid (Q2.out.below BB.out); have RF := hid (QF.out.below BB.out); have B7 := hid (B6.out.trans (BB.out.mono B6.out.size))
  clear P1 P2 PF Q1 Q2 QF B5 B6 BB
  go_upto_region 7 with (first
    | (refine wpList_buildC rfl 56 _ rfl NL ?hc ?_; case hc => (simp only [List.map_toArray, List.map_cons, List.map_nil, Act.eval]; exact hbl))
    | (go_at_call 28; refine (CA.out _).mono ?_; rintro e w8 ⟨rfl, hb⟩; have S1 := hid (R1.out.below hb); have S2 := hid (R2.out.below hb); have SF := hid (RF.out.below hb); have B8 := hid (B7.out.trans (hb.mono B7.out.size)); clear hb))
  clear R1 R2 RF B7 CP CR CG CA hbf hbl
  by_cases hi : i = -1
  · subst hi
    have CPN := hid (put_none (fo_new SF.out) fr_new HK.out HV.out (by show (0 : Nat) < 100000; decide) (HT.out.below B8.out))
    go_upto_region 8 with (first
      | (refine load_at rfl 24 (.tmp 4) rfl w.heap.size 0 rfl (u8s K) _ (blk_key S1.out) Tryd.underlying24 rfl HKI.out (kc K) rfl ?_)
      | (refine load_at rfl 24 (.tmp 5) rfl (w.heap.size + 1) 0 rfl (u8s V) _ (blk_key S2.out) Tryd.underlying24 rfl HVI.out (kc V) rfl ?_)
      | (go_at_call 10; refine CPN.out.mono ?_; rintro e w9 ⟨M, top, rfl, hgr, hrep, hfr, hm⟩; have HG := hid hgr; clear hgr hrep hfr hm))
    obtain ⟨g', b', A', c', tv', hfo, hg, hb, ho⟩ := HG.out.parts
    have FO := hid hfo
    have fs : w.heap.size + 1 + 1 < w8.heap.size := SF.out.lt
    have B9 := hid (B8.out.trans ((ho.below (B := w.heap.size) B8.out.size (fun k hk => by rcases hk with h | h | h <;> omega))))
    clear HG hfo hg hb ho fs CPN S1 S2 SF B8
    have CRN := hid (xRoot_none (p := some ⟨w.heap.size + 1 + 1, 0, none⟩) (w := w9) (HT.out.below B9.out) (fun w1 hb => xisTree_at (FO.out.below hb) (-1)))
    have CW := hid (fun w1 (hb : Below w.heap.size w w1) => xawake_any w1 (HT.out.below hb))
    have CZ := hid xSize_nil
    have CL := hid (fun w => xList_nil (-1) w)
    go_upto_region 9 with (first
      | (go_at_call 12; refine CRN.out.mono ?_; rintro e w10 ⟨rfl, hb⟩; have B10 := hid (B9.out.trans (hb.mono B9.out.size)); unfold hV; clear hb)
      | (refine wpList_store_row rfl 24 (.tmp 19) (.tmp 60) rfl w10.heap.size (kc emptyH) rfl rfl 24 Z (Blk.new w10 24 Z) HIE.out hze.out (kc_one _) ?_))
    have BB : Hid (Below w10.heap.size w10 ((w10.alloc (.cells Z 24)).setRow w10.heap.size (kc emptyH))) := below_setRow ((Below.refl _ _).alloc (Nat.le_refl _) _) (Nat.le_refl _) _
    generalize (w10.alloc (.cells Z 24)).setRow w10.heap.size (kc emptyH) = w11 at BB ⊢
    have B11 := hid (B10.out.trans (BB.out.mono B10.out.size))
    clear B9 B10 BB CRN FO
    go_wp2_with (first
      | (go_at_call 9; refine (CW.out _ B11.out).mono ?_; rintro e w12 ⟨rfl, hb⟩; have B12 := hid (B11.out.trans (hb.mono B11.out.size)); clear hb)
      | (go_at_call 26; refine (CZ.out _).mono ?_; rintro e w13 ⟨rfl, rfl⟩)
      | (go_at_call 18; refine (CL.out _).mono ?_; rintro e w14 ⟨rfl, hb⟩; have B14 := hid (B12.out.trans (hb.mono B12.out.size)); clear hb))
    go_ret
    exact ⟨rfl, B14.out⟩
  · have hib : (i == -1) = false := by simp [hi]
    have hit : isTr ([] : List Nd).length i = false := by unfold isTr isNd; rw [decide_eq_false hi]; simp
    have FO := hid (fo_new SF.out)
    have CPN := hid (xPut_bad (w := w8) (p := some ⟨w.heap.size + 1 + 1, 0, none⟩) (i := i) HK.out HV.out (fun w1 hb => by have := xisTree_at (FO.out.below hb) i; rw [hit] at this; exact this))
    have CRN := hid (fun w9 (hb9 : Below w8.heap.size w8 w9) => xRoot_bad (w := w9) (p := some ⟨w.heap.size + 1 + 1, 0, none⟩) (i := i) (fun w1 hb => by have := xisTree_at ((FO.out.below hb9).below hb) i; rw [hit] at this; exact this))
    have CSZ := hid (fun w9 (hb9 : Below w8.heap.size w8 w9) => xSize_at (FO.out.below hb9))
    clear hit
    go_upto_region 8 with (first
      | (refine load_at rfl 24 (.tmp 4) rfl w.heap.size 0 rfl (u8s K) _ (blk_key S1.out) Tryd.underlying24 rfl HKI.out (kc K) rfl ?_)
      | (refine load_at rfl 24 (.tmp 5) rfl (w.heap.size + 1) 0 rfl (u8s V) _ (blk_key S2.out) Tryd.underlying24 rfl HVI.out (kc V) rfl ?_)
      | (go_at_call 10; refine CPN.out.mono ?_; rintro e w9 ⟨rfl, hb⟩; have D9 := hid hb; clear hb))
    clear S1 S2 SF CPN FO
    have CW := hid (fun w1 (hb : Below w.heap.size w w1) => xawake_any w1 (HT.out.below hb))
    have CZ := hid xSize_nil
    have CL := hid (fun w => xList_nil i w)
    go_upto_region 9 with (first
      | (go_at_call 12; refine (CRN.out _ D9.out).mono ?_; rintro e w10 ⟨rfl, hb⟩; have D10 := hid (D9.out.trans (hb.mono D9.out.size)); unfold hV; clear hb)
      | (refine wpList_store_row rfl 24 (.tmp 19) (.tmp 60) rfl w10.heap.size (kc zk) rfl rfl 24 Z (Blk.new w10 24 Z) HI.out hzs.out (kc_one _) ?_))
    have BB : Hid (Below w10.heap.size w10 ((w10.alloc (.cells Z 24)).setRow w10.heap.size (kc zk))) := below_setRow ((Below.refl _ _).alloc (Nat.le_refl _) _) (Nat.le_refl _) _
    generalize (w10.alloc (.cells Z 24)).setRow w10.heap.size (kc zk) = w11 at BB ⊢
    have D11 := hid (D10.out.trans (BB.out.mono D10.out.size))
    clear D9 D10 BB CRN
    by_cases h0 : i = 0
    · subst h0
      go_wp2_with (first
        | (go_at_call 9; refine (CW.out _ (B8.out.trans (D11.out.mono B8.out.size))).mono ?_; rintro e w12 ⟨rfl, hb⟩; have D12 := hid (D11.out.trans (hb.mono D11.out.size)); clear hb)
        | (go_at_call 18; refine (CL.out _).mono ?_; rintro e w14 ⟨rfl, hb⟩; have D14 := hid (D12.out.trans (hb.mono D12.out.size)); have CS2 := hid (CSZ.out _ D14.out); clear hb)
        | (go_at_call 26; with_reducible refine CS2.out.mono ?_; rintro e w15 ⟨rfl, rfl⟩)
        | (go_at_call 26; refine (CZ.out _).mono ?_; rintro e w13 ⟨rfl, rfl⟩))
      go_ret
      exact ⟨rfl, B8.out.trans (D14.out.mono B8.out.size)⟩
    · have hib0 : (i == 0) = false := by simp [h0]
      go_wp2_with (first
        | (go_at_call 9; refine (CW.out _ (B8.out.trans (D11.out.mono B8.out.size))).mono ?_; rintro e w12 ⟨rfl, hb⟩; have D12 := hid (D11.out.trans (hb.mono D11.out.size)); clear hb)
        | (go_at_call 26; refine (CZ.out _).mono ?_; rintro e w13 ⟨rfl, rfl⟩)
        | (go_at_call 18; refine (CL.out _).mono ?_; rintro e w14 ⟨rfl, hb⟩; have D14 := hid (D12.out.trans (hb.mono D12.out.size)); clear hb))
      go_ret
      exact ⟨by simp [hib], B8.out.trans (D14.out.mono B8.out.size)⟩
end Go.Proofs.YtdeohkgdmbfocaaDoor
