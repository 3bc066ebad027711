/-
  What is proved here: without some bytes at its end, or with some more, a signature isn't right; nor by a public key of another size: the walk of the statement.
-/
import Derived.Test.YtobceieadjpaaaaDoorMLsp
import Derived.Test.YtobceieadjpaaaaDoorMLsS
import Derived.Test.YtobceieadjpaaaaDoorMLsy
import Derived.Test.YtobceieadjpaaaaDoorMHsCut
import Derived.Deep.DeepCutAuto
set_option linter.unusedSimpArgs false
set_option linter.unusedVariables false
namespace Go.Proofs.YtobceieadjpaaaaDoor
open Go.ChangeShapes Go.WideShapes Go.ChangeAt Go.RowKit
set_option linter.unusedVariables false
set_option maxRecDepth 20000

set_option maxHeartbeats 8000000 in
theorem tcuts_walk (k : Int) (id : List Int) (q : Int) (sd : List Int) (A1 : Option Addr) (n1 c1 : Nat) (M : List Int) (A2 : Option Addr) (n2 c2 : Nat) (R : List Int) (w : World) (hid0 : id.length = 16 ∧ Bs id) (hq : 0 ≤ q ∧ q < 4294967296) (hs : Ky sd) (hin1 : InB w A1 n1 c1 M) (hc1 : n1 ≤ c1) (hin2 : InB w A2 n2 c2 R) (hc2 : n2 ≤ c2) (ht : Tab w) :
    Calls Tryd.prog 5 #[.agg (lkeyC k id q sd), .slice A1 n1 c1, .slice A2 n2 c2] w fun e w' => e = .returned (.bool true) ∧ Below w.heap.size w w' := by
  have hi : Idn id := ⟨hid0.1, hid0.2⟩
  have B0 : Hid (Below w.heap.size w (w.alloc (.cells (lkeyC k id q sd) 28))) := (Below.refl _ _).alloc (Nat.le_refl _) _
  have L0 := hid (Blk.new w 28 (lkeyC k id q sd))
  have CA := hid (fun w1 (hb : Below w.heap.size w w1) => sawake_any w1 (ht.below hb))
  have IDI := hid (id_info hi); have SDI := hid (hash_info hs.len)
  have HII := hid hi
  have HNO : Hid (tkeys 1 k = 0 → ∀ w1, Calls Tryd.prog 18 #[.int .i64 1, .int .i64 k, .agg (u8s id).toArray, .agg (u8s sd).toArray] w1 fun e w' => e = .returned (.tuple #[.pointer none, .int .i64 1]) ∧ Below w1.heap.size w1 w') := fun hn w1 => sNew_no 1 k id sd w1 hn
  have HYES : Hid (tkeys 1 k ≠ 0 → ∀ w1, Below w.heap.size w w1 → Calls Tryd.prog 18 #[.int .i64 1, .int .i64 k, .agg (u8s id).toArray, .agg (u8s sd).toArray] w1 fun e w' => ∃ t, e = .returned (.tuple #[.pointer (some ⟨t, 0, none⟩), .int .i64 0]) ∧ w1.heap.size ≤ t ∧ TreeAt w' t 1 k id sd ∧ Below w1.heap.size w1 w') := fun hn w1 hb => sNew_kd 1 k id sd w1 (by decide) (tkeys_kd hn).2 hi hs (ht.below hb)
  obtain ⟨hL1, _, hb1, hr1⟩ := hin1
  obtain ⟨hL2, _, hb2, hr2⟩ := hin2
  by_cases hgood : ¬ (300 : Int) < (n1 : Int) ∧ ¬ (n2 : Int) = 0 ∧ ¬ (50 : Int) < (n2 : Int) ∧ tkeys 1 k ≠ 0
  · obtain ⟨g1, g2, g3, hK⟩ := hgood
    have d1 : decide ((300 : Int) < (n1 : Int)) = false := decide_eq_false g1
    have d2 : ((n2 : Int) == 0) = false := by rw [beq_eq_false_iff_ne]; exact g2
    have d3 : decide ((50 : Int) < (n2 : Int)) = false := decide_eq_false g3
    have CN := hid (HYES.out hK)
    have hkd := (tkeys_kd hK).2
    have hpl := pbt_length 1 k hi.len sd
    have hgl := sgt_length (id := id) (sd := sd) (by decide : (1 : Int) ≤ 1 ∧ (1 : Int) ≤ 4) hkd 1 M
    have hK2 : tkeys 1 k = 2 := tkeys_ok (by decide) hkd
    have hts : tsize 1 k = 8 + ksize k + 32 := tsize_ok (by decide) hkd
    have hks := ksize_ge2 hkd
    have hks2 := ksize_le k
    have CN := hid (HYES.out hK)
    have CSG : Hid (∀ t w1, TreeAt w1 t 1 k id sd → Below w.heap.size w w1 → Calls Tryd.prog 19 #[.pointer (some ⟨t, 0, none⟩), .int .i64 1, .slice A1 n1 c1] w1 fun e w' => ∃ g, e = .returned (.tuple #[.slice (some ⟨g, 0, none⟩) (tsize 1 k) (tsize 1 k), .int .i64 0]) ∧ Blk w' g 5 (u8s (sgt 1 k id sd 1 M)).toArray ∧ Below w1.heap.size w1 w') := fun t w1 htr hb => by
      refine (sSign_at t 1 k id sd 1 A1 n1 c1 M w1 (by decide) hkd hi hs htr (by omega) hL1.symm (hr1.belowN hb) hb1 (by omega) hc1 (ht.below hb)).mono fun e w' he => ?_
      obtain ⟨g, he, _, hbk, hbl⟩ := he
      exact ⟨g, he, hbk, hbl⟩
    have CPB : Hid (∀ t w1, TreeAt w1 t 1 k id sd → Calls Tryd.prog 20 #[.pointer (some ⟨t, 0, none⟩)] w1 fun e w' => ∃ g, e = .returned (.slice (some ⟨g, 0, none⟩) 56 56) ∧ Blk w' g 5 (u8s (pbt 1 k id sd)).toArray ∧ Below w1.heap.size w1 w') := fun t w1 htr => by
      refine (sPublic_at t 1 k id sd w1 (by decide) hkd hi hs htr).mono fun e w' he => ?_
      obtain ⟨g, he, _, hbk, hbl⟩ := he
      exact ⟨g, he, hbk, hbl⟩
    have hvh : vh (pbt 1 k id sd) = 1 := pbt_h (by decide) hi.len
    have hvk : vk (pbt 1 k id sd) = k := pbt_k hkd hi.len
    have hpbs := pbt_bs (h := 1) (k := k) (sd := sd) hi.bs
    have hgbs := sgt_bs 1 k id sd 1 M
    obtain ⟨SG, hSG⟩ : ∃ SG, SG = sgt 1 k id sd 1 M := ⟨_, rfl⟩
    obtain ⟨PB, hPB⟩ : ∃ PB, PB = pbt 1 k id sd := ⟨_, rfl⟩
    obtain ⟨ts, htse⟩ : ∃ ts, ts = tsize 1 k := ⟨_, rfl⟩
    rw [← hSG] at CSG hgl hgbs
    rw [← hPB] at CPB hpl hvh hvk hpbs
    rw [← htse] at CSG hgl hts
    have hsv1 : tsize (vh PB) (vk PB) = ts := by rw [hvh, hvk, htse]
    have V2 : Hid (ver PB M (SG ++ R) = false) := ver_size (by rw [hsv1, List.length_append, hgl]; omega)
    have V3 : Hid (ver PB M (SG.take (ts - n2)) = false) := ver_size (by rw [hsv1, List.length_take, hgl]; omega)
    have V4 : Hid (ver (PB ++ R) M SG = false) := ver_wide (by rw [List.length_append, hpl]; omega)
    have V5 : Hid (ver (PB.take (56 - n2)) M SG = false) := ver_wide (by rw [List.length_take, hpl]; omega)
    have CV : Hid (∀ (B0' B2' : Option Addr) (m0 d0 m2 d2 : Nat) (P S : List Int) (w1 : World) (v : Bool), ver P M S = v → m0 = P.length → Rp w1 none B0' P → Bs P → P.length < 100000 → m2 = S.length → Rp w1 none B2' S → Bs S → S.length < 100000 → Below w.heap.size w w1 → Calls Tryd.prog 16 #[.slice B0' m0 d0, .slice A1 n1 c1, .slice B2' m2 d2] w1 fun e w' => e = .returned (.bool v) ∧ Below w1.heap.size w1 w') := fun B0' B2' m0 d0 m2 d2 P S w1 v hv h1 h2 h3 h4 h5 h6 h7 h8 hb => by
      have := sVerify_any B0' A1 B2' m0 d0 n1 c1 m2 d2 P M S w1 h1 h2 h3 h4 hL1.symm (hr1.belowN hb) hb1 (by omega) hc1 h5 h6 h7 h8 (ht.below hb)
      rw [hv] at this
      exact this
    have HR2 := hid (fun (w1 : World) (hb : Below w.heap.size w w1) => hr2.belowN hb)
    have HB2 := hid hb2; have HL2 := hid hL2; have HGL := hid hgl; have HPL := hid hpl; have HGB := hid hgbs; have HPB := hid hpbs
    have HHS : Hid (60 ≤ ts ∧ ts ≤ 30000) := by show _ ∧ _; omega
    have HN2 : Hid (0 < n2 ∧ n2 ≤ 50) := by show _ ∧ _; omega
    have hw3 : IntKind.i64.wrap ((ts : Int) - (n2 : Int)) = (ts : Int) - (n2 : Int) := IntWalk.i64_in _ (by omega)
    have hw5 : IntKind.i64.wrap (56 - (n2 : Int)) = 56 - (n2 : Int) := IntWalk.i64_in _ (by omega)
    clear HNO HYES hSG hPB htse hvh hvk hsv1 hpl hgl hpbs hgbs hid0 hq hs ht hi hL1 hb1 hr1 hL2 hb2 hr2 hkd hts hks hks2 hK2 hK g1 g2 g3
    go_enter Tryd.func5, Tryd.ntmps5
    go_upto_region 1 with (fail)
    generalize w.alloc (.cells (lkeyC k id q sd) 28) = w0 at L0 B0 ⊢
    have c0 := lkey_0 L0.out
    go_upto_region 6 with (first
      | (refine load_at rfl 23 (.tmp 17) rfl w.heap.size 1 rfl (u8s id) _ (lkey_id L0.out HII.out) Tryd.underlying23 rfl IDI.out (u8s id).toArray rfl ?_)
      | (refine load_at rfl 26 (.tmp 19) rfl w.heap.size 18 rfl (u8s sd) _ (lkey_sd L0.out HII.out) Tryd.underlying26 rfl SDI.out (u8s sd).toArray rfl ?_)
      | (go_at_call 18; refine (CN.out _ B0.out).mono ?_; rintro e w1 ⟨t, rfl, _, htr, hb1⟩; have B1 := hid (B0.out.trans (hb1.mono B0.out.size)); have T1 := hid htr; clear hb1 htr)
      | (go_at_call 15; refine (CA.out _ B1.out).mono ?_; rintro e w2 ⟨rfl, hb2⟩; have B2 := hid (B1.out.trans (hb2.mono B1.out.size)); have T2 := hid (T1.out.below hb2); clear hb2)
      | (go_at_call 19; refine (CSG.out _ _ T2.out B2.out).mono ?_; rintro e w3 ⟨gs, rfl, hgs, hb3⟩; have B3 := hid (B2.out.trans (hb3.mono B2.out.size)); have T3 := hid (T2.out.below hb3); have RS3 := hid hgs; clear hb3 hgs)
      | (go_at_call 20; refine (CPB.out _ _ T3.out).mono ?_; rintro e w4 ⟨gp, rfl, hgp, hb4⟩; have B4 := hid (B3.out.trans (hb4.mono B3.out.size)); have RS4 := hid (RS3.out.below hb4); have RP4 := hid hgp; clear hb4 hgp))
    have Zw6 := hid ((Below.refl w4.heap.size w4).alloc (Nat.le_refl _) (.cells #[] 5))
    go_upto_region 7 with (first
      | (at_builtin; (refine append_rpm rfl (.tmp 54) (.tmp 55) rfl w4.heap.size w4.heap.size (.slice (some ⟨w4.heap.size, 0, none⟩) 0 0) [] rfl (own_lit0 w4) (some ⟨gs, 0, none⟩) ts ts SG HGL.out.symm rfl ((blk_rp RS4.out).belowN Zw6.out) (by rw [HGL.out]; have := HHS.out; show 0 + _ < _; omega) Zw6.out.size (Nat.le_refl _) ?_); intro va wa HOa HBa; have Ba := hid (Zw6.out.trans HBa.out))
      | (at_builtin; refine append_rpm rfl (.tmp 56) (.tmp 57) rfl w4.heap.size w4.heap.size va ([] ++ SG) rfl HOa.out A2 n2 c2 R HL2.out.symm rfl (HR2.out _ (B4.out.trans (Ba.out.mono B4.out.size))) (by rw [List.nil_append, HGL.out, HL2.out]; have := HHS.out; have := HN2.out; omega) Ba.out.size (Nat.le_refl _) ?_; intro vb wb HOb HBb; have Bb := hid (Ba.out.trans HBb.out)))
    obtain ⟨A6, c6, rfl, _, _, hfw6⟩ := fresh_of_own HOb.out (Nat.le_refl _)
    have R6 := hid hfw6.rp0
    rw [List.nil_append] at R6
    have HLw6 : Hid (([] ++ SG ++ R).length = ts + n2) := by show _ = _; rw [List.nil_append, List.length_append, HGL.out, HL2.out]
    rw [HLw6.out]
    have Lw6 := hid (Bb.out)
    clear HOa HBa Ba HOb HBb Bb hfw6 Zw6
    generalize wb = w6 at R6 Lw6 ⊢
    have B6 := hid (B4.out.trans (Lw6.out.mono B4.out.size))
    have RS6 := hid (RS4.out.below Lw6.out); have RP6 := hid (RP4.out.below Lw6.out)
    clear RS4 RP4 Lw6 HLw6
    have Zw8 := hid ((Below.refl w6.heap.size w6).alloc (Nat.le_refl _) (.cells #[] 5))
    go_upto_region 8 with (first
      | (at_builtin; (refine append_rpm rfl (.tmp 59) (.tmp 60) rfl w6.heap.size w6.heap.size (.slice (some ⟨w6.heap.size, 0, none⟩) 0 0) [] rfl (own_lit0 w6) (some ⟨gp, 0, none⟩) 56 56 PB HPL.out.symm rfl ((blk_rp RP6.out).belowN Zw8.out) (by rw [HPL.out]; have := HHS.out; show 0 + _ < _; omega) Zw8.out.size (Nat.le_refl _) ?_); intro va wa HOa HBa; have Ba := hid (Zw8.out.trans HBa.out))
      | (at_builtin; refine append_rpm rfl (.tmp 61) (.tmp 62) rfl w6.heap.size w6.heap.size va ([] ++ PB) rfl HOa.out A2 n2 c2 R HL2.out.symm rfl (HR2.out _ (B6.out.trans (Ba.out.mono B6.out.size))) (by rw [List.nil_append, HPL.out, HL2.out]; have := HHS.out; have := HN2.out; omega) Ba.out.size (Nat.le_refl _) ?_; intro vb wb HOb HBb; have Bb := hid (Ba.out.trans HBb.out)))
    obtain ⟨A7, c7, rfl, _, _, hfw8⟩ := fresh_of_own HOb.out (Nat.le_refl _)
    have R8 := hid hfw8.rp0
    rw [List.nil_append] at R8
    have HLw8 : Hid (([] ++ PB ++ R).length = 56 + n2) := by show _ = _; rw [List.nil_append, List.length_append, HPL.out, HL2.out]
    rw [HLw8.out]
    have Lw8 := hid (Bb.out)
    clear HOa HBa Ba HOb HBb Bb hfw8 Zw8
    generalize wb = w8 at R8 Lw8 ⊢
    have B8 := hid (B6.out.trans (Lw8.out.mono B6.out.size))
    have RS8 := hid (RS6.out.below Lw8.out); have RP8 := hid (RP6.out.below Lw8.out); have RL8 := hid (R6.out.belowN Lw8.out)
    clear RS6 RP6 R6 Lw8 HLw8
    go_wp2_with (first
      | (refine cut0_at (by first | rfl | simp [Region.wanted, yielded, *]) (.tmp 72) (.tmp 77) rfl gs 0 ts ts (ts - n2) ((ts : Int) - (n2 : Int)) rfl rfl (by have := HHS.out; have := HN2.out; omega) (by omega) ?_)
      | (refine cut0_at (by first | rfl | simp [Region.wanted, yielded, *]) (.tmp 90) (.tmp 95) rfl gp 0 56 56 (56 - n2) (56 - (n2 : Int)) rfl rfl (by have := HN2.out; omega) (by omega) ?_)
      | (go_at_call 16; (with_reducible refine (CV.out (some ⟨gp, 0, none⟩) A6 56 56 (ts + n2) c6 PB (SG ++ R) w8 false V2.out HPL.out.symm (blk_rp RP8.out) HPB.out (by have := HN2.out; simp only [List.length_append, List.length_take, HPL.out, HL2.out]; omega) (by rw [List.length_append, HGL.out, HL2.out]) RL8.out (bs_append HGB.out HB2.out) (by have := HHS.out; have := HN2.out; simp only [List.length_append, List.length_take, HGL.out, HL2.out]; omega) B8.out).mono ?_); rintro e w9 ⟨rfl, hb⟩; have BBw9 := hid hb; clear hb)
      | (go_at_call 16; (with_reducible refine (CV.out (some ⟨gp, 0, none⟩) (some ⟨gs, 0, none⟩) 56 56 (ts - n2) ts PB (SG.take (ts - n2)) w9 false V3.out HPL.out.symm ((blk_rp RP8.out).belowN BBw9.out) HPB.out (by have := HN2.out; simp only [List.length_append, List.length_take, HPL.out, HL2.out]; omega) (by rw [List.length_take, HGL.out]; omega) (((blk_rp RS8.out).belowN BBw9.out).take _) (HGB.out.take _) (by have := HHS.out; have := HN2.out; simp only [List.length_append, List.length_take, HGL.out, HL2.out]; omega) (B8.out.trans (BBw9.out.mono B8.out.size))).mono ?_); rintro e w10 ⟨rfl, hb⟩; have BBw10 := hid (BBw9.out.trans (hb.mono BBw9.out.size)); clear hb)
      | (go_at_call 16; (with_reducible refine (CV.out A7 (some ⟨gs, 0, none⟩) (56 + n2) c7 ts ts (PB ++ R) SG w10 false V4.out (by rw [List.length_append, HPL.out, HL2.out]) (R8.out.belowN BBw10.out) (bs_append HPB.out HB2.out) (by have := HN2.out; simp only [List.length_append, List.length_take, HPL.out, HL2.out]; omega) HGL.out.symm ((blk_rp RS8.out).belowN BBw10.out) HGB.out (by have := HHS.out; have := HN2.out; simp only [List.length_append, List.length_take, HGL.out, HL2.out]; omega) (B8.out.trans (BBw10.out.mono B8.out.size))).mono ?_); rintro e w11 ⟨rfl, hb⟩; have BBw11 := hid (BBw10.out.trans (hb.mono BBw10.out.size)); clear hb)
      | (go_at_call 16; (with_reducible refine (CV.out (some ⟨gp, 0, none⟩) (some ⟨gs, 0, none⟩) (56 - n2) 56 ts ts (PB.take (56 - n2)) SG w11 false V5.out (by rw [List.length_take, HPL.out]; omega) (((blk_rp RP8.out).belowN BBw11.out).take _) (HPB.out.take _) (by have := HN2.out; simp only [List.length_append, List.length_take, HPL.out, HL2.out]; omega) HGL.out.symm ((blk_rp RS8.out).belowN BBw11.out) HGB.out (by have := HHS.out; have := HN2.out; simp only [List.length_append, List.length_take, HGL.out, HL2.out]; omega) (B8.out.trans (BBw11.out.mono B8.out.size))).mono ?_); rintro e w12 ⟨rfl, hb⟩; have BBw12 := hid (BBw11.out.trans (hb.mono BBw11.out.size)); clear hb))
    go_ret
    exact ⟨rfl, B8.out.trans (BBw12.out.mono B8.out.size)⟩
  · clear hL1 hb1 hr1 hL2 hb2 hr2 hc1 hc2 hid0 hq hs ht hi
    by_cases hK : tkeys 1 k = 0
    · have CN := hid (HNO.out hK)
      clear hgood hK
      by_cases g1 : (300 : Int) < (n1 : Int)
      · have d1 : decide ((300 : Int) < (n1 : Int)) = true := decide_eq_true g1
        clear HNO HYES
        go_enter Tryd.func5, Tryd.ntmps5
        go_upto_region 1 with (fail)
        generalize w.alloc (.cells (lkeyC k id q sd) 28) = w0 at L0 B0 ⊢
        have c0 := lkey_0 L0.out
        go_wp2_with (first
          | (refine load_at rfl 23 (.tmp 17) rfl w.heap.size 1 rfl (u8s id) _ (lkey_id L0.out HII.out) Tryd.underlying23 rfl IDI.out (u8s id).toArray rfl ?_)
          | (refine load_at rfl 26 (.tmp 19) rfl w.heap.size 18 rfl (u8s sd) _ (lkey_sd L0.out HII.out) Tryd.underlying26 rfl SDI.out (u8s sd).toArray rfl ?_)
          | (go_at_call 18; refine (CN.out _).mono ?_; rintro e w1 ⟨rfl, hb1⟩; have B1 := hid (B0.out.trans (hb1.mono B0.out.size)); clear hb1)
          | (go_at_call 15; (with_reducible refine (CA.out _ B1.out).mono ?_); rintro e w2 ⟨rfl, hb2⟩; have B2 := hid (B1.out.trans (hb2.mono B1.out.size)); clear hb2)
          | (go_at_call 15; refine (CA.out _ B2.out).mono ?_; rintro e w3 ⟨rfl, hb3⟩; have B3 := hid (B2.out.trans (hb3.mono B2.out.size)); clear hb3))
        go_ret
        exact ⟨rfl, B3.out⟩
      have d1 : decide ((300 : Int) < (n1 : Int)) = false := decide_eq_false g1
      by_cases g2 : (n2 : Int) = 0
      · have d2 : ((n2 : Int) == 0) = true := by rw [beq_iff_eq]; exact g2
        clear g2
        clear HNO HYES
        go_enter Tryd.func5, Tryd.ntmps5
        go_upto_region 1 with (fail)
        generalize w.alloc (.cells (lkeyC k id q sd) 28) = w0 at L0 B0 ⊢
        have c0 := lkey_0 L0.out
        go_wp2_with (first
          | (refine load_at rfl 23 (.tmp 17) rfl w.heap.size 1 rfl (u8s id) _ (lkey_id L0.out HII.out) Tryd.underlying23 rfl IDI.out (u8s id).toArray rfl ?_)
          | (refine load_at rfl 26 (.tmp 19) rfl w.heap.size 18 rfl (u8s sd) _ (lkey_sd L0.out HII.out) Tryd.underlying26 rfl SDI.out (u8s sd).toArray rfl ?_)
          | (go_at_call 18; refine (CN.out _).mono ?_; rintro e w1 ⟨rfl, hb1⟩; have B1 := hid (B0.out.trans (hb1.mono B0.out.size)); clear hb1)
          | (go_at_call 15; (with_reducible refine (CA.out _ B1.out).mono ?_); rintro e w2 ⟨rfl, hb2⟩; have B2 := hid (B1.out.trans (hb2.mono B1.out.size)); clear hb2)
          | (go_at_call 15; refine (CA.out _ B2.out).mono ?_; rintro e w3 ⟨rfl, hb3⟩; have B3 := hid (B2.out.trans (hb3.mono B2.out.size)); clear hb3))
        go_ret
        exact ⟨rfl, B3.out⟩
      have d2 : ((n2 : Int) == 0) = false := by rw [beq_eq_false_iff_ne]; exact g2
      by_cases g3 : (50 : Int) < (n2 : Int)
      · have d3 : decide ((50 : Int) < (n2 : Int)) = true := decide_eq_true g3
        clear HNO HYES
        go_enter Tryd.func5, Tryd.ntmps5
        go_upto_region 1 with (fail)
        generalize w.alloc (.cells (lkeyC k id q sd) 28) = w0 at L0 B0 ⊢
        have c0 := lkey_0 L0.out
        go_wp2_with (first
          | (refine load_at rfl 23 (.tmp 17) rfl w.heap.size 1 rfl (u8s id) _ (lkey_id L0.out HII.out) Tryd.underlying23 rfl IDI.out (u8s id).toArray rfl ?_)
          | (refine load_at rfl 26 (.tmp 19) rfl w.heap.size 18 rfl (u8s sd) _ (lkey_sd L0.out HII.out) Tryd.underlying26 rfl SDI.out (u8s sd).toArray rfl ?_)
          | (go_at_call 18; refine (CN.out _).mono ?_; rintro e w1 ⟨rfl, hb1⟩; have B1 := hid (B0.out.trans (hb1.mono B0.out.size)); clear hb1)
          | (go_at_call 15; (with_reducible refine (CA.out _ B1.out).mono ?_); rintro e w2 ⟨rfl, hb2⟩; have B2 := hid (B1.out.trans (hb2.mono B1.out.size)); clear hb2)
          | (go_at_call 15; refine (CA.out _ B2.out).mono ?_; rintro e w3 ⟨rfl, hb3⟩; have B3 := hid (B2.out.trans (hb3.mono B2.out.size)); clear hb3))
        go_ret
        exact ⟨rfl, B3.out⟩
      have d3 : decide ((50 : Int) < (n2 : Int)) = false := decide_eq_false g3
      clear HNO HYES
      go_enter Tryd.func5, Tryd.ntmps5
      go_upto_region 1 with (fail)
      generalize w.alloc (.cells (lkeyC k id q sd) 28) = w0 at L0 B0 ⊢
      have c0 := lkey_0 L0.out
      go_wp2_with (first
        | (refine load_at rfl 23 (.tmp 17) rfl w.heap.size 1 rfl (u8s id) _ (lkey_id L0.out HII.out) Tryd.underlying23 rfl IDI.out (u8s id).toArray rfl ?_)
        | (refine load_at rfl 26 (.tmp 19) rfl w.heap.size 18 rfl (u8s sd) _ (lkey_sd L0.out HII.out) Tryd.underlying26 rfl SDI.out (u8s sd).toArray rfl ?_)
        | (go_at_call 18; refine (CN.out _).mono ?_; rintro e w1 ⟨rfl, hb1⟩; have B1 := hid (B0.out.trans (hb1.mono B0.out.size)); clear hb1)
        | (go_at_call 15; (with_reducible refine (CA.out _ B1.out).mono ?_); rintro e w2 ⟨rfl, hb2⟩; have B2 := hid (B1.out.trans (hb2.mono B1.out.size)); clear hb2)
        | (go_at_call 15; refine (CA.out _ B2.out).mono ?_; rintro e w3 ⟨rfl, hb3⟩; have B3 := hid (B2.out.trans (hb3.mono B2.out.size)); clear hb3))
      go_ret
      exact ⟨rfl, B3.out⟩
    · have CN := hid (HYES.out hK)
      by_cases g1 : (300 : Int) < (n1 : Int)
      · have d1 : decide ((300 : Int) < (n1 : Int)) = true := decide_eq_true g1
        clear HNO HYES
        go_enter Tryd.func5, Tryd.ntmps5
        go_upto_region 1 with (fail)
        generalize w.alloc (.cells (lkeyC k id q sd) 28) = w0 at L0 B0 ⊢
        have c0 := lkey_0 L0.out
        go_wp2_with (first
          | (refine load_at rfl 23 (.tmp 17) rfl w.heap.size 1 rfl (u8s id) _ (lkey_id L0.out HII.out) Tryd.underlying23 rfl IDI.out (u8s id).toArray rfl ?_)
          | (refine load_at rfl 26 (.tmp 19) rfl w.heap.size 18 rfl (u8s sd) _ (lkey_sd L0.out HII.out) Tryd.underlying26 rfl SDI.out (u8s sd).toArray rfl ?_)
          | (go_at_call 18; refine (CN.out _ B0.out).mono ?_; rintro e w1 ⟨t, rfl, _, htr, hb1⟩; have B1 := hid (B0.out.trans (hb1.mono B0.out.size)); clear hb1 htr)
          | (go_at_call 15; (with_reducible refine (CA.out _ B1.out).mono ?_); rintro e w2 ⟨rfl, hb2⟩; have B2 := hid (B1.out.trans (hb2.mono B1.out.size)); clear hb2)
          | (go_at_call 15; refine (CA.out _ B2.out).mono ?_; rintro e w3 ⟨rfl, hb3⟩; have B3 := hid (B2.out.trans (hb3.mono B2.out.size)); clear hb3))
        go_ret
        exact ⟨rfl, B3.out⟩
      have d1 : decide ((300 : Int) < (n1 : Int)) = false := decide_eq_false g1
      by_cases g2 : (n2 : Int) = 0
      · have d2 : ((n2 : Int) == 0) = true := by rw [beq_iff_eq]; exact g2
        clear g2
        clear HNO HYES
        go_enter Tryd.func5, Tryd.ntmps5
        go_upto_region 1 with (fail)
        generalize w.alloc (.cells (lkeyC k id q sd) 28) = w0 at L0 B0 ⊢
        have c0 := lkey_0 L0.out
        go_wp2_with (first
          | (refine load_at rfl 23 (.tmp 17) rfl w.heap.size 1 rfl (u8s id) _ (lkey_id L0.out HII.out) Tryd.underlying23 rfl IDI.out (u8s id).toArray rfl ?_)
          | (refine load_at rfl 26 (.tmp 19) rfl w.heap.size 18 rfl (u8s sd) _ (lkey_sd L0.out HII.out) Tryd.underlying26 rfl SDI.out (u8s sd).toArray rfl ?_)
          | (go_at_call 18; refine (CN.out _ B0.out).mono ?_; rintro e w1 ⟨t, rfl, _, htr, hb1⟩; have B1 := hid (B0.out.trans (hb1.mono B0.out.size)); clear hb1 htr)
          | (go_at_call 15; (with_reducible refine (CA.out _ B1.out).mono ?_); rintro e w2 ⟨rfl, hb2⟩; have B2 := hid (B1.out.trans (hb2.mono B1.out.size)); clear hb2)
          | (go_at_call 15; refine (CA.out _ B2.out).mono ?_; rintro e w3 ⟨rfl, hb3⟩; have B3 := hid (B2.out.trans (hb3.mono B2.out.size)); clear hb3))
        go_ret
        exact ⟨rfl, B3.out⟩
      have d2 : ((n2 : Int) == 0) = false := by rw [beq_eq_false_iff_ne]; exact g2
      by_cases g3 : (50 : Int) < (n2 : Int)
      · have d3 : decide ((50 : Int) < (n2 : Int)) = true := decide_eq_true g3
        clear HNO HYES
        go_enter Tryd.func5, Tryd.ntmps5
        go_upto_region 1 with (fail)
        generalize w.alloc (.cells (lkeyC k id q sd) 28) = w0 at L0 B0 ⊢
        have c0 := lkey_0 L0.out
        go_wp2_with (first
          | (refine load_at rfl 23 (.tmp 17) rfl w.heap.size 1 rfl (u8s id) _ (lkey_id L0.out HII.out) Tryd.underlying23 rfl IDI.out (u8s id).toArray rfl ?_)
          | (refine load_at rfl 26 (.tmp 19) rfl w.heap.size 18 rfl (u8s sd) _ (lkey_sd L0.out HII.out) Tryd.underlying26 rfl SDI.out (u8s sd).toArray rfl ?_)
          | (go_at_call 18; refine (CN.out _ B0.out).mono ?_; rintro e w1 ⟨t, rfl, _, htr, hb1⟩; have B1 := hid (B0.out.trans (hb1.mono B0.out.size)); clear hb1 htr)
          | (go_at_call 15; (with_reducible refine (CA.out _ B1.out).mono ?_); rintro e w2 ⟨rfl, hb2⟩; have B2 := hid (B1.out.trans (hb2.mono B1.out.size)); clear hb2)
          | (go_at_call 15; refine (CA.out _ B2.out).mono ?_; rintro e w3 ⟨rfl, hb3⟩; have B3 := hid (B2.out.trans (hb3.mono B2.out.size)); clear hb3))
        go_ret
        exact ⟨rfl, B3.out⟩
      have d3 : decide ((50 : Int) < (n2 : Int)) = false := decide_eq_false g3
      exact absurd ⟨g1, g2, g3, hK⟩ hgood
end Go.Proofs.YtobceieadjpaaaaDoor
