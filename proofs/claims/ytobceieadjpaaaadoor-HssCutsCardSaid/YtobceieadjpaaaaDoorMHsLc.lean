/-
  What is proved here: without some bytes at its end, or with some more, a signature of two storeys isn't right; nor by another size's public key: the walk of the statement.
-/
import Derived.Test.YtobceieadjpaaaaDoorMHq4
import Derived.Test.YtobceieadjpaaaaDoorMHs3
import Derived.Test.YtobceieadjpaaaaDoorMHsCut
import Derived.Deep.DeepCutAuto
set_option linter.unusedSimpArgs false
set_option linter.unusedVariables false
namespace Go.Proofs.YtobceieadjpaaaaDoor
open Go.ChangeShapes Go.WideShapes Go.ChangeAt Go.RowKit
set_option linter.unusedVariables false
set_option maxRecDepth 20000

set_option maxHeartbeats 16000000 in
theorem hcuts_walk (sd : List Int) (A1 : Option Addr) (n1 c1 : Nat) (M : List Int) (A2 : Option Addr) (n2 c2 : Nat) (R : List Int) (w : World) (hs : Ky sd) (hin1 : InB w A1 n1 c1 M) (hc1 : n1 ≤ c1) (hin2 : InB w A2 n2 c2 R) (hc2 : n2 ≤ c2) (ht : Tab w) :
    Calls Tryd.prog 10 #[.agg (u8s sd).toArray, .slice A1 n1 c1, .slice A2 n2 c2] w fun e w' => e = .returned (.bool true) ∧ Below w.heap.size w w' := by
  have B0 : Hid (Below w.heap.size w (w.alloc (.cells (u8s sd).toArray 26))) := (Below.refl _ _).alloc (Nat.le_refl _) _
  have L0 := hid (Blk.new w 26 (u8s sd).toArray)
  have CA := hid (fun w1 (hb : Below w.heap.size w w1) => zawake_any w1 (ht.below hb))
  have SDI := hid (hash_info hs.len)
  obtain ⟨hL1, _, hb1, hr1⟩ := hin1
  obtain ⟨hL2, _, hb2, hr2⟩ := hin2
  by_cases g1 : (100 : Int) < (n1 : Int)
  · have d1 : decide ((100 : Int) < (n1 : Int)) = true := decide_eq_true g1
    clear hL1 hb1 hr1 hL2 hb2 hr2 hc1 hc2 hs ht SDI
    go_enter Tryd.func10, Tryd.ntmps10
    go_wp2_with (first
      | (go_at_call 21; (with_reducible refine (CA.out _ B0.out).mono ?_); rintro e w1 ⟨rfl, hb1⟩; have B1 := hid (B0.out.trans (hb1.mono B0.out.size)); have L1 := hid (L0.out.below hb1); clear hb1)
      | (go_at_call 21; refine (CA.out _ B1.out).mono ?_; rintro e w3 ⟨rfl, hb3⟩; have B3 := hid (B1.out.trans (hb3.mono B1.out.size)); clear hb3))
    go_ret
    exact ⟨rfl, B3.out⟩
  have d1 : decide ((100 : Int) < (n1 : Int)) = false := decide_eq_false g1
  by_cases g2 : (n2 : Int) = 0
  · have d2 : ((n2 : Int) == 0) = true := by rw [beq_iff_eq]; exact g2
    clear g2
    clear hL1 hb1 hr1 hL2 hb2 hr2 hc1 hc2 hs ht SDI
    go_enter Tryd.func10, Tryd.ntmps10
    go_wp2_with (first
      | (go_at_call 21; (with_reducible refine (CA.out _ B0.out).mono ?_); rintro e w1 ⟨rfl, hb1⟩; have B1 := hid (B0.out.trans (hb1.mono B0.out.size)); have L1 := hid (L0.out.below hb1); clear hb1)
      | (go_at_call 21; refine (CA.out _ B1.out).mono ?_; rintro e w3 ⟨rfl, hb3⟩; have B3 := hid (B1.out.trans (hb3.mono B1.out.size)); clear hb3))
    go_ret
    exact ⟨rfl, B3.out⟩
  have d2 : ((n2 : Int) == 0) = false := by rw [beq_eq_false_iff_ne]; exact g2
  by_cases g3 : (50 : Int) < (n2 : Int)
  · have d3 : decide ((50 : Int) < (n2 : Int)) = true := decide_eq_true g3
    clear hL1 hb1 hr1 hL2 hb2 hr2 hc1 hc2 hs ht SDI
    go_enter Tryd.func10, Tryd.ntmps10
    go_wp2_with (first
      | (go_at_call 21; (with_reducible refine (CA.out _ B0.out).mono ?_); rintro e w1 ⟨rfl, hb1⟩; have B1 := hid (B0.out.trans (hb1.mono B0.out.size)); have L1 := hid (L0.out.below hb1); clear hb1)
      | (go_at_call 21; refine (CA.out _ B1.out).mono ?_; rintro e w3 ⟨rfl, hb3⟩; have B3 := hid (B1.out.trans (hb3.mono B1.out.size)); clear hb3))
    go_ret
    exact ⟨rfl, B3.out⟩
  have d3 : decide ((50 : Int) < (n2 : Int)) = false := decide_eq_false g3
  have h11 : (1 : Int) ≤ 1 ∧ (1 : Int) ≤ 4 := by decide
  have hk2 : Kd 2 := .inr (.inl rfl)
  have hKn := hkeys_pos h11 h11 hk2
  have hK4 : hkeys 1 1 2 = 4 := by unfold hkeys; rw [tkeys_ok h11 hk2]; rfl
  have CN : Hid (∀ w1, Below w.heap.size w w1 → Calls Tryd.prog 26 #[.int .i64 1, .int .i64 1, .int .i64 2, .agg (u8s sd).toArray] w1 fun e w' => ∃ s, e = .returned (.tuple #[.pointer (some ⟨s, 0, none⟩), .int .i64 0]) ∧ w1.heap.size ≤ s ∧ SignAt w' s 1 1 2 sd ∧ Below w1.heap.size w1 w') := fun w1 hb => hNew_kd 1 1 2 sd w1 h11 h11 hk2 hs (ht.below hb)
  have CSG : Hid (∀ s w1, SignAt w1 s 1 1 2 sd → w.heap.size ≤ s → Below w.heap.size w w1 → Calls Tryd.prog 31 #[.pointer (some ⟨s, 0, none⟩), .int .i64 3, .slice A1 n1 c1] w1 fun e w' => ∃ g, e = .returned (.tuple #[.slice (some ⟨g, 0, none⟩) (hsize 1 1 2) (hsize 1 1 2), .int .i64 0]) ∧ Blk w' g 5 (u8s (hsg 1 1 2 sd 3 M)).toArray ∧ SignAt w' s 1 1 2 sd ∧ Below w.heap.size w w') := fun s w1 hsa hsl hb => by
    refine (hSign_at s 1 1 2 sd 3 A1 n1 c1 M w w1 h11 h11 hk2 hs hsa (by omega) hb hsl hL1.symm hr1 hb1 (by omega) hc1 ht).mono fun e w' he => ?_
    obtain ⟨g, he, _, hk, hsa', ho⟩ := he
    exact ⟨g, he, hk, hsa', hb.trans (ho.below hb.size (fun k hk => by obtain ⟨a, e, rfl⟩ := hk; injection e with e; subst e; exact hsl))⟩
  have CPB : Hid (∀ s w1, SignAt w1 s 1 1 2 sd → Calls Tryd.prog 29 #[.pointer (some ⟨s, 0, none⟩)] w1 fun e w' => ∃ g, e = .returned (.slice (some ⟨g, 0, none⟩) 60 60) ∧ Blk w' g 5 (u8s (hpb 1 2 sd)).toArray ∧ Below w1.heap.size w1 w') := fun s w1 hsa => by
    refine (hPublic_at s 1 1 2 sd w1 h11 h11 hk2 hs hsa).mono fun e w' he => ?_
    obtain ⟨g, he, _, hk, hbl⟩ := he
    exact ⟨g, he, hk, hbl⟩
  have HGL := hid (hsg_length h11 h11 hk2 sd 3 M)
  have HPL := hid (hpb_length 1 2 sd)
  have HPB := hid (hpb_bs 1 2 sd)
  have HGB : Hid (Bs (hsg 1 1 2 sd 3 M)) := by
    show Bs _
    unfold hsg tsg bsg
    exact bs_app (bs_app (bs_app (be_bs _ _) (sgt_bs _ _ _ _ _ _)) (bpb_bs _ _ _ _)) (sgt_bs _ _ _ _ _ _)
  have HHS : Hid (60 ≤ hsize 1 1 2 ∧ hsize 1 1 2 ≤ 30000) := by
    show _ ∧ _
    rw [hsize_ok hKn]
    have := tsize_lim (h := 1) (k := 2)
    omega
  have V1 := hid (hver_right (sd := sd) h11 h11 hk2 (n := 3) (by omega) M)
  have V2 : Hid (hver (hpb 1 2 sd) M (hsg 1 1 2 sd 3 M ++ R) = false) := hver_long h11 h11 hk2 3 M M (by omega)
  have V3 : Hid (hver (hpb 1 2 sd) M ((hsg 1 1 2 sd 3 M).take (hsize 1 1 2 - n2)) = false) := hver_short h11 h11 hk2 3 M M (by have := HHS.out; omega)
  have V4 : Hid (hver (hpb 1 2 sd ++ R) M (hsg 1 1 2 sd 3 M) = false) := hver_wide (by rw [List.length_append, HPL.out]; omega)
  have V5 : Hid (hver ((hpb 1 2 sd).take (60 - n2)) M (hsg 1 1 2 sd 3 M) = false) := hver_wide (by rw [List.length_take, HPL.out]; omega)
  have CV : Hid (∀ (B0' B2' : Option Addr) (m0 d0 m2 d2 : Nat) (P S : List Int) (w1 : World) (v : Bool), hver P M S = v → m0 = P.length → Rp w1 none B0' P → Bs P → P.length < 100000 → m2 = S.length → Rp w1 none B2' S → Bs S → S.length < 100000 → Below w.heap.size w w1 → Calls Tryd.prog 33 #[.slice B0' m0 d0, .slice A1 n1 c1, .slice B2' m2 d2] w1 fun e w' => e = .returned (.bool v) ∧ Below w1.heap.size w1 w') := fun B0' B2' m0 d0 m2 d2 P S w1 v hv h1 h2 h3 h4 h5 h6 h7 h8 hb => by
    have := hVerify_any B0' A1 B2' m0 d0 n1 c1 m2 d2 P M S w1 h1 h2 h3 h4 hL1.symm (hr1.belowN hb) hb1 (by omega) hc1 h5 h6 h7 h8 (ht.below hb)
    rw [hv] at this
    exact this
  have HR2 := hid (fun (w1 : World) (hb : Below w.heap.size w w1) => hr2.belowN hb)
  have HB2 := hid hb2; have HL2 := hid hL2
  generalize hsg 1 1 2 sd 3 M = SG at CSG HGL HGB V1 V2 V3 V4 V5
  generalize hpb 1 2 sd = PB at CPB HPL HPB V1 V2 V3 V4 V5
  generalize hsize 1 1 2 = HS at CSG HGL HHS V3
  have hw3 : IntKind.i64.wrap ((HS : Int) - (n2 : Int)) = (HS : Int) - (n2 : Int) := IntWalk.i64_in _ (by have := HHS.out; omega)
  have hw5 : IntKind.i64.wrap (60 - (n2 : Int)) = 60 - (n2 : Int) := IntWalk.i64_in _ (by omega)
  have HN2 : Hid (0 < n2 ∧ n2 ≤ 50) := by show _ ∧ _; omega
  clear hL1 hb1 hr1 hL2 hb2 hr2 hc1 hc2 hs ht h11 hk2 hKn hK4
  go_enter Tryd.func10, Tryd.ntmps10
  go_upto_region 6 with (first
    | (go_at_call 21; (with_reducible refine (CA.out _ B0.out).mono ?_); rintro e w1 ⟨rfl, hb1⟩; have B1 := hid (B0.out.trans (hb1.mono B0.out.size)); have L1 := hid (L0.out.below hb1); clear hb1)
    | (refine load_at rfl 26 (.tmp 3) rfl w.heap.size 0 rfl (u8s sd) _ (blk_row L1.out) Tryd.underlying26 rfl SDI.out (u8s sd).toArray rfl ?_)
    | (go_at_call 26; refine (CN.out _ B1.out).mono ?_; rintro e w2 ⟨s, rfl, hls, hsa, hb2⟩; have LS := hid (Nat.le_trans B1.out.size hls); have B2 := hid (B1.out.trans (hb2.mono B1.out.size)); have T2 := hid hsa; clear hls hsa hb2)
    | (go_at_call 31; refine (CSG.out _ _ T2.out LS.out B2.out).mono ?_; rintro e w3 ⟨gs, rfl, hgs, hsa, hb3⟩; have B3 := hid hb3; have RS3 := hid hgs; have T3 := hid hsa; clear hgs hsa hb3)
    | (go_at_call 29; refine (CPB.out _ _ T3.out).mono ?_; rintro e w4 ⟨gp, rfl, hgp, hb4⟩; have B4 := hid (B3.out.trans (hb4.mono B3.out.size)); have RS4 := hid (RS3.out.below hb4); have RP4 := hid hgp; clear hgp hb4))
  have Zw6 := hid ((Below.refl w4.heap.size w4).alloc (Nat.le_refl _) (.cells #[] 5))
  go_upto_region 7 with (first
    | (at_builtin; (refine append_rpm rfl (.tmp 45) (.tmp 46) rfl w4.heap.size w4.heap.size (.slice (some ⟨w4.heap.size, 0, none⟩) 0 0) [] rfl (own_lit0 w4) (some ⟨gs, 0, none⟩) HS HS SG HGL.out.symm rfl ((blk_rp RS4.out).belowN Zw6.out) (by rw [HGL.out]; have := HHS.out; show 0 + _ < _; omega) Zw6.out.size (Nat.le_refl _) ?_); intro va wa HOa HBa; have Ba := hid (Zw6.out.trans HBa.out))
    | (at_builtin; refine append_rpm rfl (.tmp 47) (.tmp 48) rfl w4.heap.size w4.heap.size va ([] ++ SG) rfl HOa.out A2 n2 c2 R HL2.out.symm rfl (HR2.out _ (B4.out.trans (Ba.out.mono B4.out.size))) (by rw [List.nil_append, HGL.out, HL2.out]; have := HHS.out; have := HN2.out; omega) Ba.out.size (Nat.le_refl _) ?_; intro vb wb HOb HBb; have Bb := hid (Ba.out.trans HBb.out)))
  obtain ⟨A6, c6, rfl, _, _, hfw6⟩ := fresh_of_own HOb.out (Nat.le_refl _)
  have R6 := hid hfw6.rp0
  rw [List.nil_append] at R6
  have HLw6 : Hid (([] ++ SG ++ R).length = HS + n2) := by show _ = _; rw [List.nil_append, List.length_append, HGL.out, HL2.out]
  rw [HLw6.out]
  have Lw6 := hid (Bb.out)
  clear HOa HBa Ba HOb HBb Bb hfw6 Zw6
  generalize wb = w6 at R6 Lw6 ⊢
  have B6 := hid (B4.out.trans (Lw6.out.mono B4.out.size))
  have RS6 := hid (RS4.out.below Lw6.out); have RP6 := hid (RP4.out.below Lw6.out)
  clear RS4 RP4 Lw6 HLw6
  have Zw8 := hid ((Below.refl w6.heap.size w6).alloc (Nat.le_refl _) (.cells #[] 5))
  go_upto_region 8 with (first
    | (at_builtin; (refine append_rpm rfl (.tmp 50) (.tmp 51) rfl w6.heap.size w6.heap.size (.slice (some ⟨w6.heap.size, 0, none⟩) 0 0) [] rfl (own_lit0 w6) (some ⟨gp, 0, none⟩) 60 60 PB HPL.out.symm rfl ((blk_rp RP6.out).belowN Zw8.out) (by rw [HPL.out]; have := HHS.out; show 0 + _ < _; omega) Zw8.out.size (Nat.le_refl _) ?_); intro va wa HOa HBa; have Ba := hid (Zw8.out.trans HBa.out))
    | (at_builtin; refine append_rpm rfl (.tmp 52) (.tmp 53) rfl w6.heap.size w6.heap.size va ([] ++ PB) rfl HOa.out A2 n2 c2 R HL2.out.symm rfl (HR2.out _ (B6.out.trans (Ba.out.mono B6.out.size))) (by rw [List.nil_append, HPL.out, HL2.out]; have := HHS.out; have := HN2.out; omega) Ba.out.size (Nat.le_refl _) ?_; intro vb wb HOb HBb; have Bb := hid (Ba.out.trans HBb.out)))
  obtain ⟨A7, c7, rfl, _, _, hfw8⟩ := fresh_of_own HOb.out (Nat.le_refl _)
  have R8 := hid hfw8.rp0
  rw [List.nil_append] at R8
  have HLw8 : Hid (([] ++ PB ++ R).length = 60 + n2) := by show _ = _; rw [List.nil_append, List.length_append, HPL.out, HL2.out]
  rw [HLw8.out]
  have Lw8 := hid (Bb.out)
  clear HOa HBa Ba HOb HBb Bb hfw8 Zw8
  generalize wb = w8 at R8 Lw8 ⊢
  have B8 := hid (B6.out.trans (Lw8.out.mono B6.out.size))
  have RS8 := hid (RS6.out.below Lw8.out); have RP8 := hid (RP6.out.below Lw8.out); have RL8 := hid (R6.out.belowN Lw8.out)
  clear RS6 RP6 R6 Lw8 HLw8
  go_wp2_with (first
    | (refine cut0_at (by first | rfl | simp [Region.wanted, yielded, *]) (.tmp 69) (.tmp 74) rfl gs 0 HS HS (HS - n2) ((HS : Int) - (n2 : Int)) rfl rfl (by have := HHS.out; have := HN2.out; omega) (by omega) ?_)
    | (refine cut0_at (by first | rfl | simp [Region.wanted, yielded, *]) (.tmp 87) (.tmp 90) rfl gp 0 60 60 (60 - n2) (60 - (n2 : Int)) rfl rfl (by have := HN2.out; omega) (by omega) ?_)
    | (go_at_call 33; (with_reducible refine (CV.out (some ⟨gp, 0, none⟩) (some ⟨gs, 0, none⟩) 60 60 HS HS PB SG w8 true V1.out HPL.out.symm (blk_rp RP8.out) HPB.out (by have := HN2.out; simp only [List.length_append, List.length_take, HPL.out, HL2.out]; omega) HGL.out.symm (blk_rp RS8.out) HGB.out (by have := HHS.out; have := HN2.out; simp only [List.length_append, List.length_take, HGL.out, HL2.out]; omega) B8.out).mono ?_); rintro e w9 ⟨rfl, hb⟩; have BBw9 := hid hb; clear hb)
    | (go_at_call 33; (with_reducible refine (CV.out (some ⟨gp, 0, none⟩) A6 60 60 (HS + n2) c6 PB (SG ++ R) w9 false V2.out HPL.out.symm ((blk_rp RP8.out).belowN BBw9.out) HPB.out (by have := HN2.out; simp only [List.length_append, List.length_take, HPL.out, HL2.out]; omega) (by rw [List.length_append, HGL.out, HL2.out]) (RL8.out.belowN BBw9.out) (bs_app HGB.out HB2.out) (by have := HHS.out; have := HN2.out; simp only [List.length_append, List.length_take, HGL.out, HL2.out]; omega) (B8.out.trans (BBw9.out.mono B8.out.size))).mono ?_); rintro e w10 ⟨rfl, hb⟩; have BBw10 := hid (BBw9.out.trans (hb.mono BBw9.out.size)); clear hb)
    | (go_at_call 33; (with_reducible refine (CV.out (some ⟨gp, 0, none⟩) (some ⟨gs, 0, none⟩) 60 60 (HS - n2) HS PB (SG.take (HS - n2)) w10 false V3.out HPL.out.symm ((blk_rp RP8.out).belowN BBw10.out) HPB.out (by have := HN2.out; simp only [List.length_append, List.length_take, HPL.out, HL2.out]; omega) (by rw [List.length_take, HGL.out]; omega) (((blk_rp RS8.out).belowN BBw10.out).take _) (HGB.out.take _) (by have := HHS.out; have := HN2.out; simp only [List.length_append, List.length_take, HGL.out, HL2.out]; omega) (B8.out.trans (BBw10.out.mono B8.out.size))).mono ?_); rintro e w11 ⟨rfl, hb⟩; have BBw11 := hid (BBw10.out.trans (hb.mono BBw10.out.size)); clear hb)
    | (go_at_call 33; (with_reducible refine (CV.out A7 (some ⟨gs, 0, none⟩) (60 + n2) c7 HS HS (PB ++ R) SG w11 false V4.out (by rw [List.length_append, HPL.out, HL2.out]) (R8.out.belowN BBw11.out) (bs_app HPB.out HB2.out) (by have := HN2.out; simp only [List.length_append, List.length_take, HPL.out, HL2.out]; omega) HGL.out.symm ((blk_rp RS8.out).belowN BBw11.out) HGB.out (by have := HHS.out; have := HN2.out; simp only [List.length_append, List.length_take, HGL.out, HL2.out]; omega) (B8.out.trans (BBw11.out.mono B8.out.size))).mono ?_); rintro e w12 ⟨rfl, hb⟩; have BBw12 := hid (BBw11.out.trans (hb.mono BBw11.out.size)); clear hb)
    | (go_at_call 33; (with_reducible refine (CV.out (some ⟨gp, 0, none⟩) (some ⟨gs, 0, none⟩) (60 - n2) 60 HS HS (PB.take (60 - n2)) SG w12 false V5.out (by rw [List.length_take, HPL.out]; omega) (((blk_rp RP8.out).belowN BBw12.out).take _) (HPB.out.take _) (by have := HN2.out; simp only [List.length_append, List.length_take, HPL.out, HL2.out]; omega) HGL.out.symm ((blk_rp RS8.out).belowN BBw12.out) HGB.out (by have := HHS.out; have := HN2.out; simp only [List.length_append, List.length_take, HGL.out, HL2.out]; omega) (B8.out.trans (BBw12.out.mono B8.out.size))).mono ?_); rintro e w13 ⟨rfl, hb⟩; have BBw13 := hid (BBw12.out.trans (hb.mono BBw12.out.size)); clear hb))
  go_ret
  exact ⟨rfl, B8.out.trans (BBw13.out.mono B8.out.size)⟩
end Go.Proofs.YtobceieadjpaaaaDoor
