/-
  What is proved here: all two ranges are joined as the chapter says, or refused; and their roots told: the walk of the statement.
-/
import Derived.Test.YtoacjaecfabahaaDoorMJJ
import Derived.Test.YtoacjaecfabahaaDoorMJR
import Derived.Test.YtoacjaecfabahaaDoorMF4
import Derived.Test.YtoacjaecfabahaaDoorMF5
set_option linter.unusedSimpArgs false
set_option linter.unusedVariables false
namespace Go.Proofs.YtoacjaecfabahaaDoor
open Go.ChangeShapes Go.WideShapes Go.ChangeAt Go.RowKit
set_option linter.unusedVariables false
set_option linter.unusedSimpArgs false
set_option maxRecDepth 20000

set_option maxHeartbeats 16000000 in
theorem fjoins_walk {a b a' b' : Int} {A B : Option Addr} {n m c d : Nat} {L M : List (List Int)} {w : World} (hL : InH w A n L) (hc : n ≤ c) (hM : InH w B m M) (hd : m ≤ d) (hTb0 : Tab w) (hTd0 : TabD w) :
    Calls Tryd.prog 4 #[.agg (rgc a b (.slice A n c)), .agg (rgc a' b' (.slice B m d))] w fun e w' => e = .returned (.bool true) ∧ Below w.heap.size w w' := by
  have CA := hid (fun (w' : World) (hb : Below w.heap.size w w') => fawake_any w' (hTb0.below hb))
  have k1 := (Blk.new w 29 (rgc a b (.slice A n c))).alloc (.cells (rgc a' b' (.slice B m d)) 29)
  have k2 := Blk.new (w.alloc (.cells (rgc a b (.slice A n c)) 29)) 29 (rgc a' b' (.slice B m d))
  rw [show (w.alloc (.cells (rgc a b (.slice A n c)) 29)).heap.size = w.heap.size + 1 by simp] at k2
  have b1 : Below w.heap.size w ((w.alloc (.cells (rgc a b (.slice A n c)) 29)).alloc (.cells (rgc a' b' (.slice B m d)) 29)) := ((Below.refl _ _).alloc (Nat.le_refl _) _).alloc (by simp) _
  have KA1 := hid k1; have KB1 := hid k2; have B1 := hid b1
  clear k1 k2 b1
  by_cases h70 : n ≤ 70
  · have h70' : ¬ ((70 : Int) < (n : Int)) := by omega
    by_cases h71 : m ≤ 70
    · have h71' : ¬ ((70 : Int) < (m : Int)) := by omega
      have hl := hL.1; have hl2 := hM.1
      obtain ⟨X, hX⟩ : ∃ X, X = jnX a b a' b' n m := ⟨_, rfl⟩
      obtain ⟨Y, hY⟩ : ∃ Y, Y = jnY a b a' b' n m := ⟨_, rfl⟩
      obtain ⟨H, hH⟩ : ∃ H, H = jnH a b a' b' L M := ⟨_, rfl⟩
      obtain ⟨q, hq⟩ : ∃ q, q = jnQ a b a' b' n m := ⟨_, rfl⟩
      have cf := fun (w' : World) (hb : Below w.heap.size w w') => fJoin_x (a := a) (b := b) (a' := a') (b' := b') (c := c) (d := d) (hL.below hb) (hM.below hb) (by omega) (by omega) (hTb0.below hb) (hTd0.below hb)
      have cg := fun (w' : World) (hb : Below w.heap.size w w') => gJoin_x (a := a) (b := b) (a' := a') (b' := b') (hL.below hb) (hM.below hb) (by omega) (by omega) hc hd
      simp only [← hX, ← hY, ← hH, ← hq] at cf cg
      have CF := hid cf; have CG := hid cg
      have HFW := hid (show H.length ≤ 62 by rw [hH]; exact jnH_few)
      obtain ⟨rt, hrt⟩ : ∃ rt, rt = rtV a b L := ⟨_, rfl⟩
      obtain ⟨rq, hrq⟩ : ∃ rq, rq = rtQ a b L.length := ⟨_, rfl⟩
      have hro : H32 rt := by rw [hrt]; exact rtV_ok hL.ok
      have cr := fun (w' : World) (hb : Below w.heap.size w w') => fRoot_x (x := a) (y := b) (hL.below hb) (by omega) hc (hTb0.below hb) (hTd0.below hb)
      have cs := fun (w' : World) (hb : Below w.heap.size w w') => gRoot_x (x := a) (y := b) (hL.below hb) (by omega) hc
      unfold RtA at cr cs
      simp only [← hrt, ← hrq] at cr cs
      have CR := hid cr; have CS := hid cs
      obtain ⟨fv, hfv⟩ : ∃ fv, fv = frm a b n := ⟨_, rfl⟩
      have cff := fun (w' : World) (hb : Below w.heap.size w w') => fFormed_any a b A n c w' (hTd0.below hb) (by omega)
      have cgf := fun (w' : World) => gFormed_any a b A n c w' (by omega)
      simp only [← hfv] at cff cgf
      have CFF0 := hid cff; have CGF := hid cgf
      obtain ⟨Z, HZ, hZ0, hZs⟩ := zero_Hash
      have HIR := hid (info_hash rt hro.len); have HZR := hid (hz_size HZ hro)
      have heq := fun w => eql_h rt rt hro hro w
      simp only [decide_true] at heq
      have hz1 := zero_fRng; have hz2 := zero_gRng
      clear hX hY hH hq cf cg hrt hrq hro cr cs hfv cff cgf hl hl2 hL hM hc hd hTb0 hTd0
      unfold OfA at CF CG
      go_enter Tryd.func4, Tryd.ntmps4
      go_upto_region 3 with (go_at_call 12; refine (CA.out _ B1.out).mono ?_; rintro e w2 ⟨rfl, hb2⟩; have B2 := hid (B1.out.trans (hb2.mono B1.out.size)); have KA2 := hid (KA1.out.below hb2); have KB2 := hid (KB1.out.below hb2); have a2 : w2.cell? ⟨w.heap.size, 2, none⟩ = some (.slice A n c) := KA2.out.cell 2; have b2 : w2.cell? ⟨w.heap.size + 1, 2, none⟩ = some (.slice B m d) := KB2.out.cell 2; clear hb2)
      clear KA1 KB1 B1 a2 b2
      go_upto_region 4 with (first
        | (with_reducible refine load_g 29 (.tmp 2) rfl ?_; refine load_pl 29 (.tmp 2) rfl rfl _ 0 rfl _ _ (gblk_rng KA2.out) Tryd.underlying29 rfl (info_gRng _ _ _) (rgc a b (.slice A n c)) rfl ?_)
        | (with_reducible refine load_g 29 (.tmp 3) rfl ?_; refine load_pl 29 (.tmp 3) rfl rfl _ 0 rfl _ _ (gblk_rng KB2.out) Tryd.underlying29 rfl (info_gRng _ _ _) (rgc a' b' (.slice B m d)) rfl ?_)
        | (go_at_call 20; go_loud (have hj := CF.out _ B2.out; with_reducible refine hj.mono ?_; clear hj); intro e w3 hq; obtain ⟨A5, n5, c5, he, hi, hc, hb, _⟩ := hq; subst he; have hb' := hb.alloc hb.size (.cells (rgc X Y (.slice A5 n5 c5)) 25); have K3 := hid (Blk.new w3 25 (rgc X Y (.slice A5 n5 c5))); have I3 := hid (hi.below ((Below.refl _ _).alloc (Nat.le_refl _) (.cells (rgc X Y (.slice A5 n5 c5)) 25))); have B3 := hid (B2.out.trans (hb'.mono B2.out.size)); have KA3 := hid (KA2.out.below hb'); have KB3 := hid (KB2.out.below hb'); clear hi hc hb hb'))
      go_upto_region 5 with (first
        | (with_reducible refine load_g 29 (.tmp 2) rfl ?_; refine load_pl 29 (.tmp 2) rfl rfl _ 0 rfl _ _ (gblk_rng KA3.out) Tryd.underlying29 rfl (info_gRng _ _ _) (rgc a b (.slice A n c)) rfl ?_)
        | (with_reducible refine load_g 29 (.tmp 3) rfl ?_; refine load_pl 29 (.tmp 3) rfl rfl _ 0 rfl _ _ (gblk_rng KB3.out) Tryd.underlying29 rfl (info_gRng _ _ _) (rgc a' b' (.slice B m d)) rfl ?_)
        | (go_at_call 21; go_loud (have hj := CG.out _ B3.out; with_reducible refine hj.mono ?_; clear hj); intro e w4 hq; obtain ⟨A7, n7, c7, he, hi, hc, hb, _⟩ := hq; subst he; have hb' := hb.alloc hb.size (.cells (rgc X Y (.slice A7 n7 c7)) 29); have K4 := hid (Blk.new w4 29 (rgc X Y (.slice A7 n7 c7))); have J4 := hid (hi.below ((Below.refl _ _).alloc (Nat.le_refl _) (.cells (rgc X Y (.slice A7 n7 c7)) 29))); have B4 := hid (B3.out.trans (hb'.mono B3.out.size)); have KA4 := hid (KA3.out.below hb'); have K34 := hid (K3.out.below hb'); have I4 := hid (I3.out.below hb'); clear hi hc hb hb'))
      clear KA2 KB2 KA3 KB3 K3 I3 B2 B3 CF CG
      go_upto_region 6 with (first
        | (with_reducible refine load_g 29 (.tmp 2) rfl ?_; refine load_pl 29 (.tmp 2) rfl rfl _ 0 rfl _ _ (gblk_rng KA4.out) Tryd.underlying29 rfl (info_gRng _ _ _) (rgc a b (.slice A n c)) rfl ?_)
        | (go_at_call 15; go_loud (have hj := CR.out _ B4.out; with_reducible refine hj.mono ?_; clear hj); rintro e w5 ⟨rfl, hb⟩; have hb' := below_setRow (hb.alloc hb.size (.cells Z 33)) hb.size (hc32 rt); have B5 := hid (B4.out.trans (hb'.mono B4.out.size)); have K35 := hid (K34.out.below hb'); have I5 := hid (I4.out.below hb'); have K45 := hid (K4.out.below hb'); have J5 := hid (J4.out.below hb'); have KA5 := hid (KA4.out.below hb'); have KZ5 := hid (Blk.new w5 33 Z); have KH5 := hid (KZ5.out.row (hc32 rt)); clear hb hb')
        | (refine wpList_store_row rfl 33 (.tmp 9) (.tmp 43) rfl w5.heap.size (hc32 rt) rfl rfl 33 Z KZ5.out HIR.out HZR.out (u8s_all rt) ?_))
      clear KA4 K34 I4 K4 J4 B4 CR KZ5
      generalize (w5.alloc (.cells Z 33)).setRow w5.heap.size (hc32 rt) = v5 at B5 K35 I5 K45 J5 KA5 KH5 ⊢
      go_upto_region 7 with (first
        | (with_reducible refine load_g 29 (.tmp 2) rfl ?_; refine load_pl 29 (.tmp 2) rfl rfl _ 0 rfl _ _ (gblk_rng KA5.out) Tryd.underlying29 rfl (info_gRng _ _ _) (rgc a b (.slice A n c)) rfl ?_)
        | (go_at_call 22; go_loud (have hj := CS.out _ B5.out; with_reducible refine hj.mono ?_; clear hj); rintro e w6 ⟨rfl, hb⟩; have hb' := below_setRow (hb.alloc hb.size (.cells Z 33)) hb.size (hc32 rt); have BF := hid (B5.out.trans (hb'.mono B5.out.size)); have K5 := hid (K35.out.below hb'); have I6 := hid (I5.out.below hb'); have K7 := hid (K45.out.below hb'); have J6 := hid (J5.out.below hb'); have KA := hid (KA5.out.below hb'); have K9 := hid (KH5.out.below hb'); have KZ := hid (Blk.new w6 33 Z); have KH := hid (KZ.out.row (hc32 rt)); clear hb hb')
        | (refine wpList_store_row rfl 33 (.tmp 11) (.tmp 48) rfl w6.heap.size (hc32 rt) rfl rfl 33 Z KZ.out HIR.out HZR.out (u8s_all rt) ?_))
      clear K35 I5 K45 J5 KA5 KH5 B5 CS KZ
      generalize (w6.alloc (.cells Z 33)).setRow w6.heap.size (hc32 rt) = wf at BF K5 I6 K7 J6 KA K9 KH ⊢
      have cgr := fun (w' : World) (hb : Below wf.heap.size wf w') => gRanges_any (a := X) (b := Y) (a' := X) (b' := Y) (c := c5) (d := c7) (I6.out.below hb) (J6.out.below hb) (by have := HFW.out; have := I6.out.1; omega) (by have := HFW.out; have := J6.out.1; omega)
      simp only [decide_eq_true (⟨rfl, rfl, rfl⟩ : X = X ∧ Y = Y ∧ H = H)] at cgr
      have CGR := hid cgr
      have CFF := hid (fun (w' : World) (hb : Below wf.heap.size wf w') => CFF0.out w' (BF.out.trans (hb.mono BF.out.size)))
      clear cgr CA CFF0
      refine wp_region_held (S := fun w' => Hid (Below wf.heap.size wf w')) (by kernel_rfl) ?_
      change wpAnyH _ _ _ _ _ _ _ _ wf.drew
      have Gx0 : Hid (Below wf.heap.size wf wf.drew) := (Below.refl _ _).drew
      generalize wf.drew = x0 at Gx0  ⊢
      refine wpAnyH_take (i := 0) (oi := { dst := some 50, op := _, type := _, pos := _, after := _, guard := _ }) (v := ?_) rfl (by kernel_rfl) (by kernel_rfl) (by kernel_rfl) (fun _ _ _ h => h) (Or.inl ⟨by kernel_rfl, ?_⟩) Gx0 ?_
      rotate_left
      · (intro w hSw; go_simp; try with_reducible rfl)
      try simp only [Act.put, List.setIfInBounds_toArray, List.set_cons_zero, List.set_cons_succ]
      refine wpAnyH_take (i := 1) (oi := { dst := some 51, op := _, type := _, pos := _, after := _, guard := _ }) (v := ?_) rfl (by kernel_rfl) (by kernel_rfl) (by kernel_rfl) (fun _ _ _ h => h) (Or.inl ⟨by kernel_rfl, ?_⟩) Gx0 ?_
      rotate_left
      · (intro w hSw; go_simp; try with_reducible rfl)
      try simp only [Act.put, List.setIfInBounds_toArray, List.set_cons_zero, List.set_cons_succ]
      refine wpAnyH_take (i := 2) (oi := { dst := some 52, op := _, type := _, pos := _, after := _, guard := _ }) (v := ?_) rfl (by kernel_rfl) (by kernel_rfl) (by kernel_rfl) (fun _ _ _ h => h) (Or.inl ⟨by kernel_rfl, ?_⟩) Gx0 ?_
      rotate_left
      · (intro w hSw; go_simp; try with_reducible rfl)
      try simp only [Act.put, List.setIfInBounds_toArray, List.set_cons_zero, List.set_cons_succ]
      refine wpAnyH_take (i := 3) (oi := { dst := some 53, op := _, type := _, pos := _, after := _, guard := _ }) (v := ?_) rfl (by kernel_rfl) (by kernel_rfl) (by kernel_rfl) (fun _ _ _ h => h) (Or.inl ⟨by kernel_rfl, ?_⟩) Gx0 ?_
      rotate_left
      · (intro w hSw; go_simp; try with_reducible rfl)
      try simp only [Act.put, List.setIfInBounds_toArray, List.set_cons_zero, List.set_cons_succ]
      refine wpAnyH_take (i := 4) (oi := { dst := some 54, op := _, type := _, pos := _, after := _, guard := _ }) (v := .agg (rgc X Y (.slice A5 n5 c5))) rfl (by kernel_rfl) (by kernel_rfl) (by kernel_rfl) (fun _ _ _ h => h) (yieldsIf_load_mid (cs := (rgc X Y (.slice A5 n5 c5)).toList) (by rfl) _ _ rfl _ _ rfl _ (fun w' hSw => (fblk_rng (K5.out.below hSw.out))) Tryd.underlying25 rfl (info_fRng _ _ _)) Gx0 ?_
      try simp only [Act.put, List.setIfInBounds_toArray, List.set_cons_zero, List.set_cons_succ]
      refine wpAnyH_take (i := 6) (oi := { dst := some 56, op := _, type := _, pos := _, after := _, guard := _ }) (v := .agg (rgc X Y (.slice A7 n7 c7))) rfl (by kernel_rfl) (by kernel_rfl) (by kernel_rfl) (fun _ _ _ h => h) (yieldsIf_load_mid (cs := (rgc X Y (.slice A7 n7 c7)).toList) (by rfl) _ _ rfl _ _ rfl _ (fun w' hSw => (gblk_rng (K7.out.below hSw.out))) Tryd.underlying29 rfl (info_gRng _ _ _)) Gx0 ?_
      try simp only [Act.put, List.setIfInBounds_toArray, List.set_cons_zero, List.set_cons_succ]
      refine wpAnyH_ready (rs := [5]) (by kernel_rfl) (by simp) ?_
      refine (AllReadyH.cons (o := { dst := some 55, op := _, type := _, pos := _, after := _, guard := _ }) rfl (fun Qc hQc => ?_) AllReadyH.nil)
      go_simp
      go_at_call 17
      refine (fto_any _ _ _ _ _ _).mono ?_
      rintro e x1 ⟨rfl, hb⟩
      have Gx1 := hid (Gx0.out.trans (hb.mono Gx0.out.size))
      clear hb
      go_wp2_with fail
      refine hQc.out _ _ Gx1 (fun hHeld => ?_)
      clear hQc Qc hHeld
      try simp only [Act.put, List.setIfInBounds_toArray, List.set_cons_zero, List.set_cons_succ]
      refine wpAnyH_ready (rs := [7]) (by kernel_rfl) (by simp) ?_
      refine (AllReadyH.cons (o := { dst := some 57, op := _, type := _, pos := _, after := _, guard := _ }) rfl (fun Qc hQc => ?_) AllReadyH.nil)
      go_simp
      go_at_call 16
      refine (CGR.out x1 Gx1.out).mono ?_
      rintro e x2 ⟨rfl, hb⟩
      have Gx2 := hid (Gx1.out.trans (hb.mono Gx1.out.size))
      clear hb
      go_wp2_with fail
      refine hQc.out _ _ Gx2 (fun hHeld => ?_)
      clear hQc Qc hHeld
      try simp only [Act.put, List.setIfInBounds_toArray, List.set_cons_zero, List.set_cons_succ]
      refine wpAnyH_take (i := 8) (oi := { dst := some 58, op := _, type := _, pos := _, after := _, guard := _ }) (v := ?_) rfl (by kernel_rfl) (by kernel_rfl) (by kernel_rfl) (fun _ _ _ h => h) (Or.inl ⟨by kernel_rfl, ?_⟩) Gx2 ?_
      rotate_left
      · (intro w hSw; go_simp; try with_reducible rfl)
      try simp only [Act.put, List.setIfInBounds_toArray, List.set_cons_zero, List.set_cons_succ]
      refine wpAnyH_take (i := 9) (oi := { dst := some 59, op := _, type := _, pos := _, after := _, guard := _ }) (v := ?_) rfl (by kernel_rfl) (by kernel_rfl) (by kernel_rfl) (fun _ _ _ h => h) (Or.inl ⟨by kernel_rfl, ?_⟩) Gx2 ?_
      rotate_left
      · (intro w hSw; go_simp; try with_reducible rfl)
      try simp only [Act.put, List.setIfInBounds_toArray, List.set_cons_zero, List.set_cons_succ]
      refine wpAnyH_take (i := 10) (oi := { dst := some 60, op := _, type := _, pos := _, after := _, guard := _ }) (v := .agg (hc32 rt)) rfl (by kernel_rfl) (by kernel_rfl) (by kernel_rfl) (fun _ _ _ h => h) (yieldsIf_load_mid (cs := u8s rt) (by rfl) _ _ rfl _ _ rfl _ (fun w' hSw => (blk_row (K9.out.below hSw.out))) Tryd.underlying33 rfl HIR.out) Gx2 ?_
      try simp only [Act.put, List.setIfInBounds_toArray, List.set_cons_zero, List.set_cons_succ]
      refine wpAnyH_take (i := 11) (oi := { dst := some 61, op := _, type := _, pos := _, after := _, guard := _ }) (v := .agg (hc32 rt)) rfl (by kernel_rfl) (by kernel_rfl) (by kernel_rfl) (fun _ _ _ h => h) (yieldsIf_load_mid (cs := u8s rt) (by rfl) _ _ rfl _ _ rfl _ (fun w' hSw => (blk_row (KH.out.below hSw.out))) Tryd.underlying33 rfl HIR.out) Gx2 ?_
      try simp only [Act.put, List.setIfInBounds_toArray, List.set_cons_zero, List.set_cons_succ]
      refine wpAnyH_take (i := 12) (oi := { dst := some 62, op := _, type := _, pos := _, after := _, guard := _ }) (v := ?_) rfl (by kernel_rfl) (by kernel_rfl) (by kernel_rfl) (fun _ _ _ h => h) (Or.inl ⟨by kernel_rfl, ?_⟩) Gx2 ?_
      rotate_left
      · (intro w hSw; go_simp; try with_reducible rfl)
      try simp only [Act.put, List.setIfInBounds_toArray, List.set_cons_zero, List.set_cons_succ]
      refine wpAnyH_take (i := 13) (oi := { dst := some 63, op := _, type := _, pos := _, after := _, guard := _ }) (v := ?_) rfl (by kernel_rfl) (by kernel_rfl) (by kernel_rfl) (fun _ _ _ h => h) (Or.inl ⟨by kernel_rfl, ?_⟩) Gx2 ?_
      rotate_left
      · (intro w hSw; go_simp; try with_reducible rfl)
      try simp only [Act.put, List.setIfInBounds_toArray, List.set_cons_zero, List.set_cons_succ]
      refine wpAnyH_take (i := 14) (oi := { dst := some 64, op := _, type := _, pos := _, after := _, guard := _ }) (v := ?_) rfl (by kernel_rfl) (by kernel_rfl) (by kernel_rfl) (fun _ _ _ h => h) (Or.inl ⟨by kernel_rfl, ?_⟩) Gx2 ?_
      rotate_left
      · (intro w hSw; go_simp; try with_reducible rfl)
      try simp only [Act.put, List.setIfInBounds_toArray, List.set_cons_zero, List.set_cons_succ]
      refine wpAnyH_take (i := 15) (oi := { dst := some 65, op := _, type := _, pos := _, after := _, guard := _ }) (v := ?_) rfl (by kernel_rfl) (by kernel_rfl) (by kernel_rfl) (fun _ _ _ h => h) (Or.inl ⟨by kernel_rfl, ?_⟩) Gx2 ?_
      rotate_left
      · (intro w hSw; go_simp; try with_reducible rfl)
      try simp only [Act.put, List.setIfInBounds_toArray, List.set_cons_zero, List.set_cons_succ]
      refine wpAnyH_take (i := 16) (oi := { dst := some 66, op := _, type := _, pos := _, after := _, guard := _ }) (v := ?_) rfl (by kernel_rfl) (by kernel_rfl) (by kernel_rfl) (fun _ _ _ h => h) (Or.inl ⟨by kernel_rfl, ?_⟩) Gx2 ?_
      rotate_left
      · (intro w hSw; go_simp; try with_reducible rfl)
      try simp only [Act.put, List.setIfInBounds_toArray, List.set_cons_zero, List.set_cons_succ]
      refine wpAnyH_take (i := 17) (oi := { dst := some 67, op := _, type := _, pos := _, after := _, guard := _ }) (v := ?_) rfl (by kernel_rfl) (by kernel_rfl) (by kernel_rfl) (fun _ _ _ h => h) (Or.inl ⟨by kernel_rfl, ?_⟩) Gx2 ?_
      rotate_left
      · (intro w hSw; go_simp; try with_reducible rfl)
      try simp only [Act.put, List.setIfInBounds_toArray, List.set_cons_zero, List.set_cons_succ]
      refine wpAnyH_take (i := 18) (oi := { dst := some 68, op := _, type := _, pos := _, after := _, guard := _ }) (v := ?_) rfl (by kernel_rfl) (by kernel_rfl) (by kernel_rfl) (fun _ _ _ h => h) (Or.inl ⟨by kernel_rfl, ?_⟩) Gx2 ?_
      rotate_left
      · (intro w hSw; go_simp; try with_reducible rfl)
      try simp only [Act.put, List.setIfInBounds_toArray, List.set_cons_zero, List.set_cons_succ]
      refine wpAnyH_take (i := 19) (oi := { dst := some 69, op := _, type := _, pos := _, after := _, guard := _ }) (v := ?_) rfl (by kernel_rfl) (by kernel_rfl) (by kernel_rfl) (fun _ _ _ h => h) (Or.inl ⟨by kernel_rfl, ?_⟩) Gx2 ?_
      rotate_left
      · (intro w hSw; go_simp; try with_reducible rfl)
      try simp only [Act.put, List.setIfInBounds_toArray, List.set_cons_zero, List.set_cons_succ]
      refine wpAnyH_take (i := 20) (oi := { dst := some 70, op := _, type := _, pos := _, after := _, guard := _ }) (v := .agg (rgc a b (.slice A n c))) rfl (by kernel_rfl) (by kernel_rfl) (by kernel_rfl) (fun _ _ _ h => h) (yieldsIf_load_mid (cs := (rgc a b (.slice A n c)).toList) (by rfl) _ _ rfl _ _ rfl _ (fun w' hSw => (gblk_rng (KA.out.below hSw.out))) Tryd.underlying29 rfl (info_gRng _ _ _)) Gx2 ?_
      try simp only [Act.put, List.setIfInBounds_toArray, List.set_cons_zero, List.set_cons_succ]
      refine wpAnyH_take (i := 22) (oi := { dst := some 72, op := _, type := _, pos := _, after := _, guard := _ }) (v := .agg (rgc a b (.slice A n c))) rfl (by kernel_rfl) (by kernel_rfl) (by kernel_rfl) (fun _ _ _ h => h) (yieldsIf_load_mid (cs := (rgc a b (.slice A n c)).toList) (by rfl) _ _ rfl _ _ rfl _ (fun w' hSw => (gblk_rng (KA.out.below hSw.out))) Tryd.underlying29 rfl (info_gRng _ _ _)) Gx2 ?_
      try simp only [Act.put, List.setIfInBounds_toArray, List.set_cons_zero, List.set_cons_succ]
      refine wpAnyH_ready (rs := [21]) (by kernel_rfl) (by simp) ?_
      refine (AllReadyH.cons (o := { dst := some 71, op := _, type := _, pos := _, after := _, guard := _ }) rfl (fun Qc hQc => ?_) AllReadyH.nil)
      go_simp
      go_at_call 18
      refine (CFF.out x2 Gx2.out).mono ?_
      rintro e x3 ⟨rfl, hb⟩
      have Gx3 := hid (Gx2.out.trans (hb.mono Gx2.out.size))
      clear hb
      go_wp2_with fail
      refine hQc.out _ _ Gx3 (fun hHeld => ?_)
      clear hQc Qc hHeld
      try simp only [Act.put, List.setIfInBounds_toArray, List.set_cons_zero, List.set_cons_succ]
      refine wpAnyH_ready (rs := [23]) (by kernel_rfl) (by simp) ?_
      refine (AllReadyH.cons (o := { dst := some 73, op := _, type := _, pos := _, after := _, guard := _ }) rfl (fun Qc hQc => ?_) AllReadyH.nil)
      go_simp
      go_at_call 23
      refine (CGF.out x3).mono ?_
      rintro e x4 ⟨rfl, hb⟩
      have Gx4 := hid (Gx3.out.trans (hb.mono Gx3.out.size))
      clear hb
      go_wp2_with fail
      refine hQc.out _ _ Gx4 (fun hHeld => ?_)
      clear hQc Qc hHeld
      try simp only [Act.put, List.setIfInBounds_toArray, List.set_cons_zero, List.set_cons_succ]
      refine wpAnyH_take (i := 24) (oi := { dst := some 74, op := _, type := _, pos := _, after := _, guard := _ }) (v := ?_) rfl (by kernel_rfl) (by kernel_rfl) (by kernel_rfl) (fun _ _ _ h => h) (Or.inl ⟨by kernel_rfl, ?_⟩) Gx4 ?_
      rotate_left
      · (intro w hSw; go_simp; try with_reducible rfl)
      try simp only [Act.put, List.setIfInBounds_toArray, List.set_cons_zero, List.set_cons_succ]
      refine wpAnyH_take (i := 25) (oi := { dst := some 75, op := _, type := _, pos := _, after := _, guard := _ }) (v := ?_) rfl (by kernel_rfl) (by kernel_rfl) (by kernel_rfl) (fun _ _ _ h => h) (Or.inl ⟨by kernel_rfl, ?_⟩) Gx4 ?_
      rotate_left
      · (intro w hSw; go_simp; try with_reducible rfl)
      try simp only [Act.put, List.setIfInBounds_toArray, List.set_cons_zero, List.set_cons_succ]
      refine wpAnyH_take (i := 26) (oi := { dst := some 4, op := _, type := _, pos := _, after := _, guard := _ }) (v := ?_) rfl (by kernel_rfl) (by kernel_rfl) (by kernel_rfl) (fun _ _ _ h => h) (Or.inl ⟨by kernel_rfl, ?_⟩) Gx4 ?_
      rotate_left
      · (intro w hSw; go_simp; try with_reducible rfl)
      try simp only [Act.put, List.setIfInBounds_toArray, List.set_cons_zero, List.set_cons_succ]
      refine wpAnyH_done (by kernel_rfl) ?_ _
      try simp only [Act.put, List.setIfInBounds_toArray, List.set_cons_zero, List.set_cons_succ]
      go_wp2
      go_ret
      exact ⟨by simp, BF.out.trans (Gx4.out.mono BF.out.size)⟩

    · have h71' : (70 : Int) < (m : Int) := by omega
      clear hL hM hc hd hTb0 hTd0
      go_enter Tryd.func4, Tryd.ntmps4
      go_upto_region 2 with (go_at_call 12; refine (CA.out _ B1.out).mono ?_; rintro e w2 ⟨rfl, hb2⟩; have B2 := hid (B1.out.trans (hb2.mono B1.out.size)); have KA2 := hid (KA1.out.below hb2); have KB2 := hid (KB1.out.below hb2); have a2 : w2.cell? ⟨w.heap.size, 2, none⟩ = some (.slice A n c) := KA2.out.cell 2; have b2 : w2.cell? ⟨w.heap.size + 1, 2, none⟩ = some (.slice B m d) := KB2.out.cell 2; clear hb2)
      go_wp2_with (go_at_call 12; refine (CA.out _ B2.out).mono ?_; rintro e w3 ⟨rfl, hb3⟩; have B3 := hid (B2.out.trans (hb3.mono B2.out.size)); clear hb3)
      go_ret
      exact ⟨rfl, B3.out⟩

  · have h70' : (70 : Int) < (n : Int) := by omega
    clear hL hM hc hd hTb0 hTd0
    go_enter Tryd.func4, Tryd.ntmps4
    go_upto_region 2 with (go_at_call 12; refine (CA.out _ B1.out).mono ?_; rintro e w2 ⟨rfl, hb2⟩; have B2 := hid (B1.out.trans (hb2.mono B1.out.size)); have KA2 := hid (KA1.out.below hb2); have KB2 := hid (KB1.out.below hb2); have a2 : w2.cell? ⟨w.heap.size, 2, none⟩ = some (.slice A n c) := KA2.out.cell 2; have b2 : w2.cell? ⟨w.heap.size + 1, 2, none⟩ = some (.slice B m d) := KB2.out.cell 2; clear hb2)
    go_wp2_with (go_at_call 12; refine (CA.out _ B2.out).mono ?_; rintro e w3 ⟨rfl, hb3⟩; have B3 := hid (B2.out.trans (hb3.mono B2.out.size)); clear hb3)
    go_ret
    exact ⟨rfl, B3.out⟩
end Go.Proofs.YtoacjaecfabahaaDoor
