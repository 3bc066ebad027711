/-
  What is proved here: trails that are told are right, of just that place, number and root: the walk of the statement.
-/
import Derived.Test.YtoacjaecfabahaaDoorMKM
import Derived.Test.YtoacjaecfabahaaDoorMK1
import Derived.Deep.QuietTactic
set_option linter.unusedSimpArgs false
set_option linter.unusedVariables false
namespace Go.Proofs.YtoacjaecfabahaaDoor
open Go.ChangeShapes Go.WideShapes Go.ChangeAt Go.RowKit
set_option linter.unusedVariables false
set_option linter.unusedSimpArgs false
set_option maxRecDepth 20000

theorem quiet_cutH {H : World → Prop} {o : Oper} {a : Act} {K : Act → Prop} (x h : Operand) (ho : o.op = .slice 22 x none (some h) none) (A : Option Addr) (n c hi : Nat) (hx : a.eval x = .slice A n c) (hh : a.eval h = .int .i64 (hi : Int)) (h2 : hi ≤ c) (k : K (a.put o.dst (.slice (slA A 0 c 32) hi c))) :
    o.quiet Tryd.prog a (fun w' => ∃ p : PW H, w' = p.w) K :=
  ⟨_, fun w hw => by
    obtain ⟨p, rfl⟩ := hw
    unfold Oper.quietAt
    rw [exec_cutH ho A n c hi hx hh h2 p.w]
    exact ⟨rfl, rfl⟩, k⟩
set_option maxHeartbeats 16000000 in
theorem tright_walk {x0 : Int} {A : Option Addr} {n c : Nat} {L : List (List Int)} {w : World} (hx : 0 ≤ x0 ∧ x0 ≤ 255) (hin : InH w A n L) (hnc : n ≤ c) (hTb0 : Tab w) (hTd0 : TabD w) :
    Calls Tryd.prog 8 #[.slice A n c, .int .u8 x0] w fun e w' => e = .returned (.bool true) ∧ Below w.heap.size w w' := by
  have CA := hid (fun (w' : World) (hb : Below w.heap.size w w') => jawake_any w' (hTb0.below hb) (hTd0.below hb))
  have BB := hid (Below.refl w.heap.size w)
  by_cases h50 : n ≤ 50
  · have h50' : ¬ ((50 : Int) < (n : Int)) := by omega
    by_cases h0 : n = 0
    · have h0' : ((n : Int) == 0) = true := by rw [beq_iff_eq]; omega
      clear hin hTb0 hTd0 hnc hx h0
      go_enter Tryd.func8, Tryd.ntmps8
      go_wp2_with (go_at_call 25; first
        | (with_reducible refine (CA.out _ BB.out).mono ?_; rintro e w2 ⟨rfl, hb2⟩; have B2 := hid (BB.out.trans (hb2.mono BB.out.size)); clear hb2)
        | (with_reducible refine (CA.out _ B2.out).mono ?_; rintro e w3 ⟨rfl, hb3⟩; have B3 := hid (B2.out.trans (hb3.mono B2.out.size)); clear hb3))
      go_ret
      exact ⟨rfl, B3.out⟩
    · have h0' : ((n : Int) == 0) = false := by simp; omega
      have hz9 : ¬ ((n : Int) = 0) := by omega
      have hl := hin.1
      obtain ⟨X, rfl⟩ : ∃ X : Nat, x0 = (X : Int) := ⟨x0.toNat, by omega⟩
      have hX : X ≤ 255 := by omega
      obtain ⟨i, hi⟩ : ∃ i, i = X % n := ⟨_, rfl⟩
      have hin' : i < n := by rw [hi]; exact Nat.mod_lt _ (by omega)
      have q1 : (X : Int).tmod (n : Int) = (i : Int) := by rw [Int.tmod_eq_emod_of_nonneg (by omega), ← Int.natCast_emod, ← hi]
      obtain ⟨k, hk⟩ : ∃ k, k = i + 1 := ⟨_, rfl⟩
      have q2 : (i : Int) + 1 = (k : Int) := by omega
      have hkn : k ≤ n := by omega
      have hw1 : IntKind.i64.wrap (k : Int) = (k : Int) := IntWalk.i64_in _ (by omega)
      obtain ⟨b, o, K, rfl, hK, h32, hblt, hr⟩ := hin.at hin'
      have f1 := en_few (i := (i : Int)) (L := L) (by omega)
      have f2 := gw_few (i := (k : Int)) (L := L) (by omega)
      have f3 := gw_few (i := 0) (L := L) (by omega)
      have c1 := fun (w' : World) (hb : Below w.heap.size w w') => jEntry_any (i := (i : Int)) (hin.below hb) (by omega) hnc (hTb0.below hb)
      have c2 := fun (w' : World) (hb : Below w.heap.size w w') => jGrowth_any (i := (k : Int)) (hin.below hb) (by omega) hnc (hTb0.below hb)
      have c3 := fun (w' : World) (hb : Below w.heap.size w w') => jGrowth_any (i := 0) (hin.below hb) (by omega) hnc (hTb0.below hb)
      have r1 := entry_right hl (by omega) hin' hK
      have r2 := growth_right hl (by omega) hkn
      have r3 := growth_right (m := 0) hl (by omega) (Nat.zero_le _)
      rw [show ((0 : Nat) : Int) = 0 from rfl, List.take_zero] at r3
      rw [q2] at r1
      have g1 : enQ (i : Int) n = 0 := by unfold enQ; rw [if_pos (by unfold enB; omega)]
      have g2 : gwQ (k : Int) n = 0 := by unfold gwQ; rw [if_pos (by unfold gwB; omega)]
      have g3 : gwQ 0 n = 0 := by unfold gwQ; rw [if_pos (by unfold gwB; omega)]
      simp only [g1] at c1
      simp only [g2] at c2
      simp only [g3] at c3
      obtain ⟨rt, hrt⟩ : ∃ rt, rt = rootL ndF emp L := ⟨_, rfl⟩
      obtain ⟨rk, hrk⟩ : ∃ rk, rk = rootL ndF emp (L.take k) := ⟨_, rfl⟩
      obtain ⟨re, hre⟩ : ∃ re, re = rootL ndF emp [] := ⟨_, rfl⟩
      have hro : H32 rt := by rw [hrt]; exact root_ok hin.ok
      have hrko : H32 rk := by rw [hrk]; exact root_ok (fun q hq => hin.ok q (List.mem_of_mem_take hq))
      have hreo : H32 re := by rw [hre]; exact root_ok (fun q hq => by cases hq)
      have cl0 := fun (w' : World) (hb : Below w.heap.size w w') => gList_any (hin.below hb) (show n < 1000000 by omega) hnc
      have clk := fun (w' : World) (hb : Below w.heap.size w w') => gList_any (c := c) ((cut_front hin hkn hnc).below hb) (show k < 1000000 by omega) (by omega)
      have cle := fun (w' : World) => gList_any (c := 0) (InH.nil w' none) (by decide) (Nat.le_refl _)
      simp only [← hrt] at cl0
      simp only [← hrk] at clk
      simp only [← hre] at cle
      rw [← hrt] at r1
      rw [← hrk, ← hrt] at r2
      rw [← hre, ← hrt] at r3
      generalize enA (i : Int) L = H1 at c1 f1 r1
      generalize enE (i : Int) L = H2 at c1 f1 r1
      generalize gwA (k : Int) L = H3 at c2 f2 r2
      generalize gwE (k : Int) L = H4 at c2 f2 r2
      generalize gwA 0 L = H5 at c3 f3 r3
      generalize gwE 0 L = H6 at c3 f3 r3
      have CE := hid c1; have CG := hid c2; have CZ := hid c3; have F1 := hid f1; have F2 := hid f2; have F3 := hid f3; have R1 := hid r1; have R2 := hid r2; have R3 := hid r3
      have CL := hid cl0; have CLK := hid clk; have CLE := hid cle; have HRO := hid hro; have HRK := hid hrko; have HRE := hid hreo; have HK32 := hid h32
      have HTb := hid hTb0; have HTd := hid hTd0
      have HIR := hid (info_hash rt hro.len); have HIK := hid (info_hash K h32.len)
      have HRW := hid (fun (w' : World) (hb : Below w.heap.size w w') => show w'.rangeAt b (o + i * 32) (u8s K) from rng_below hr hb hblt)
      have HKC := hid (show k ≤ c by omega)
      have HQ2 := hid q2
      have hz1 := zero_jTrail
      obtain ⟨Z, HZ, hZ0, hZs⟩ := zero_Hash
      have HZR := hid (hz_size HZ hro)
      clear c1 c2 c3 f1 f2 f3 r1 r2 r3 g1 g2 g3 hl hi hk hrt hrk hre hro hrko hreo cl0 clk cle hin hnc hTb0 hTd0 hx hK h32 hblt hr h0
      unfold TlA at CE CG CZ
      go_enter Tryd.func8, Tryd.ntmps8
      go_upto_region 5 with (first
        | (go_at_call 25; refine (CA.out _ BB.out).mono ?_; rintro e w1 ⟨rfl, hb⟩; have B1 := hid (BB.out.trans (hb.mono BB.out.size)); clear hb)
        | (go_at_call 19; go_loud (have hj := CL.out _ B1.out; with_reducible refine hj.mono ?_; clear hj); rintro e w4 ⟨rfl, hb⟩; have hb' := below_setRow (hb.alloc hb.size (.cells Z 33)) hb.size (hc32 rt); have B4 := hid (B1.out.trans (hb'.mono B1.out.size)); have KZ := hid (Blk.new w4 33 Z); have KH4 := hid (KZ.out.row (hc32 rt)); clear hb hb')
        | (refine wpList_store_row rfl 33 (.tmp 6) (.tmp 32) rfl w4.heap.size (hc32 rt) rfl rfl 33 Z KZ.out HIR.out HZR.out (u8s_all rt) ?_))
      clear KZ
      generalize (w4.alloc (.cells Z 33)).setRow w4.heap.size (hc32 rt) = v4 at B4 KH4 ⊢
      go_upto_region 6 with (go_at_call 26; go_loud (have hj := CE.out _ B4.out; with_reducible refine hj.mono ?_; clear hj); intro e w5 hq; obtain ⟨Au, nu, cu, Du, mu, du, he, h3, h4, h5, h6, hb⟩ := hq; subst he; have hb' := hb.alloc hb.size (.cells (tlc Au nu cu Du mu du) 48); have Ku := hid (Blk.new w5 48 (tlc Au nu cu Du mu du)); have hx := (Below.refl w5.heap.size w5).alloc (Nat.le_refl _) (.cells (tlc Au nu cu Du mu du) 48); have Iu := hid (h3.below hx); have Ju := hid (h5.below hx); have BBu := hid (B4.out.trans (hb'.mono B4.out.size)); have KH5 := hid (KH4.out.below hb'); clear h3 h4 h5 h6 hb hb' hx)
      go_upto_region 7 with (go_at_call 28; go_loud (have hj := CG.out _ BBu.out; with_reducible refine hj.mono ?_; clear hj); intro e w6 hq; obtain ⟨Ar, nr, cr, Dr, mr, dr, he, h3, h4, h5, h6, hb⟩ := hq; subst he; have hb' := hb.alloc hb.size (.cells (tlc Ar nr cr Dr mr dr) 48); have Kr := hid (Blk.new w6 48 (tlc Ar nr cr Dr mr dr)); have hx := (Below.refl w6.heap.size w6).alloc (Nat.le_refl _) (.cells (tlc Ar nr cr Dr mr dr) 48); have Ir := hid (h3.below hx); have Jr := hid (h5.below hx); have BBr := hid (BBu.out.trans (hb'.mono BBu.out.size)); have Ku' := hid (Ku.out.below hb'); have Iu' := hid (Iu.out.below hb'); have Ju' := hid (Ju.out.below hb'); clear Ku Iu Ju; have Ku := Ku'; have Iu := Iu'; have Ju := Ju'; clear Ku' Iu' Ju'; have KH6 := hid (KH5.out.below hb'); clear h3 h4 h5 h6 hb hb' hx)
      go_upto_region 8 with (go_at_call 28; go_loud (have hj := CZ.out _ BBr.out; with_reducible refine hj.mono ?_; clear hj); intro e w7 hq; obtain ⟨As, ns, cs, Ds, ms, ds, he, h3, h4, h5, h6, hb⟩ := hq; subst he; have hb' := hb.alloc hb.size (.cells (tlc As ns cs Ds ms ds) 48); have Ks := hid (Blk.new w7 48 (tlc As ns cs Ds ms ds)); have hx := (Below.refl w7.heap.size w7).alloc (Nat.le_refl _) (.cells (tlc As ns cs Ds ms ds) 48); have Is := hid (h3.below hx); have Js := hid (h5.below hx); have BBs := hid (BBr.out.trans (hb'.mono BBr.out.size)); have Ku' := hid (Ku.out.below hb'); have Iu' := hid (Iu.out.below hb'); have Ju' := hid (Ju.out.below hb'); clear Ku Iu Ju; have Ku := Ku'; have Iu := Iu'; have Ju := Ju'; clear Ku' Iu' Ju'; have Kr' := hid (Kr.out.below hb'); have Ir' := hid (Ir.out.below hb'); have Jr' := hid (Jr.out.below hb'); clear Kr Ir Jr; have Kr := Kr'; have Ir := Ir'; have Jr := Jr'; clear Kr' Ir' Jr'; have KH := hid (KH6.out.below hb'); clear h3 h4 h5 h6 hb hb' hx)
      generalize w7.alloc (.cells (tlc As ns cs Ds ms ds) 48) = wf at Ku Iu Ju Kr Ir Jr Ks Is Js BBs KH ⊢
      have few : ∀ {x : World} {A : Option Addr} {n : Nat} {H : List (List Int)}, InH x A n H → H.length ≤ 62 → n < 1000000 := fun h hl => by have := h.1; omega
      have s1 := fun (w' : World) (hb : Below wf.heap.size wf w') => jIsEntry_any (i := (i : Int)) (k := (n : Int)) (c := cu) (d := du) (Iu.out.below hb) (Ju.out.below hb) (few Iu.out F1.out.1) (few Ju.out F1.out.2) HK32.out HRO.out (HTb.out.below (BBs.out.trans (hb.mono BBs.out.size))) (HTd.out.below (BBs.out.trans (hb.mono BBs.out.size)))
      simp only [HQ2.out, hw1, R1.out] at s1
      have s2 := fun (w' : World) (hb : Below wf.heap.size wf w') => jIsGrowth_any (i := (k : Int)) (k := (n : Int)) (c := cr) (d := dr) (Ir.out.below hb) (Jr.out.below hb) (few Ir.out F2.out.1) (few Jr.out F2.out.2) HRK.out HRO.out (HTb.out.below (BBs.out.trans (hb.mono BBs.out.size))) (HTd.out.below (BBs.out.trans (hb.mono BBs.out.size)))
      simp only [R2.out] at s2
      have s3 := fun (w' : World) (hb : Below wf.heap.size wf w') => jIsGrowth_any (i := 0) (k := (n : Int)) (c := cs) (d := ds) (Is.out.below hb) (Js.out.below hb) (few Is.out F3.out.1) (few Js.out F3.out.2) HRE.out HRO.out (HTb.out.below (BBs.out.trans (hb.mono BBs.out.size))) (HTd.out.below (BBs.out.trans (hb.mono BBs.out.size)))
      simp only [R3.out] at s3
      have C1 := hid s1; have C2 := hid s2; have C3 := hid s3
      have L1 := hid (fun (w' : World) (hb : Below wf.heap.size wf w') => CLK.out w' (BBs.out.trans (hb.mono BBs.out.size)))
      have L2 := hid (fun (w' : World) (hb : Below wf.heap.size wf w') => CLE.out w')
      have HKR := hid (fun (w' : World) (hb : Below wf.heap.size wf w') => HRW.out w' (BBs.out.trans (hb.mono BBs.out.size)))
      clear s1 s2 s3 few CE CG CZ Iu Ju Ir Jr Is Js CA BB B1 B4 KH4 KH5 KH6 BBu BBr
      refine region_kept (Kp wf) (by kernel_rfl) (by kernel_rfl) (kp_begin wf) ?_
      repeat (first
        | go_big_quiet_skip
        | (go_big_quiet_want; refine quiet_cutH (.tmp 79) (.tmp 81) rfl (some ⟨b, o, none⟩) n c k rfl rfl HKC.out ?_; go_big_quiet_on; simp only [Act.put, List.setIfInBounds_toArray, List.set_cons_zero, List.set_cons_succ])
        | (go_big_quiet_want; refine quiet_load 48 (.tmp 7) rfl w5.heap.size 0 rfl (tlc Au nu cu Du mu du).toList _ (fun p => fblk_rng (Ku.out.below p.h)) Tryd.underlying48 rfl (info_jTrail _ _) (tlc Au nu cu Du mu du) rfl ?_; go_big_quiet_on; simp only [Act.put, List.setIfInBounds_toArray, List.set_cons_zero, List.set_cons_succ])
        | (go_big_quiet_want; refine quiet_load 48 (.tmp 9) rfl w6.heap.size 0 rfl (tlc Ar nr cr Dr mr dr).toList _ (fun p => fblk_rng (Kr.out.below p.h)) Tryd.underlying48 rfl (info_jTrail _ _) (tlc Ar nr cr Dr mr dr) rfl ?_; go_big_quiet_on; simp only [Act.put, List.setIfInBounds_toArray, List.set_cons_zero, List.set_cons_succ])
        | (go_big_quiet_want; refine quiet_load 48 (.tmp 11) rfl w7.heap.size 0 rfl (tlc As ns cs Ds ms ds).toList _ (fun p => fblk_rng (Ks.out.below p.h)) Tryd.underlying48 rfl (info_jTrail _ _) (tlc As ns cs Ds ms ds) rfl ?_; go_big_quiet_on; simp only [Act.put, List.setIfInBounds_toArray, List.set_cons_zero, List.set_cons_succ])
        | (go_big_quiet_want; refine quiet_load 33 (.tmp 68) rfl b (o + i * 32) rfl (u8s K) _ (fun p => HKR.out _ p.h) Tryd.underlying33 rfl HIK.out (hc32 K) rfl ?_; go_big_quiet_on; simp only [Act.put, List.setIfInBounds_toArray, List.set_cons_zero, List.set_cons_succ])
        | (go_big_quiet_want; refine quiet_load 33 (.tmp 6) rfl w4.heap.size 0 rfl (u8s rt) _ (fun p => blk_row (KH.out.below p.h)) Tryd.underlying33 rfl HIR.out (hc32 rt) rfl ?_; go_big_quiet_on; simp only [Act.put, List.setIfInBounds_toArray, List.set_cons_zero, List.set_cons_succ])
        | (go_big_quiet_want; go_big_quiet_op; first | go_big_quiet_on | go_big_quiet_call (first
          | (go_at_call 32; with_reducible exact kp_call (C1.out _ (PW.h _)))
          | (go_at_call 34; with_reducible exact kp_call (C2.out _ (PW.h _)))
          | (go_at_call 34; with_reducible exact kp_call (C3.out _ (PW.h _)))
          | (go_at_call 19; with_reducible exact kp_call (L1.out _ (PW.h _)))
          | (go_at_call 19; with_reducible exact kp_call (L2.out _ (PW.h _))))))
      refine wpQuiet_nil ?_
      intro _ hw'
      obtain ⟨p, hw''⟩ := hw'
      subst hw''

      go_wp2
      go_ret
      exact ⟨by simp, BBs.out.trans (p.h.mono BBs.out.size)⟩
  · have h50' : (50 : Int) < (n : Int) := by omega
    clear hin hTb0 hTd0 hnc hx
    go_enter Tryd.func8, Tryd.ntmps8
    go_wp2_with (go_at_call 25; first
      | (with_reducible refine (CA.out _ BB.out).mono ?_; rintro e w2 ⟨rfl, hb2⟩; have B2 := hid (BB.out.trans (hb2.mono BB.out.size)); clear hb2)
      | (with_reducible refine (CA.out _ B2.out).mono ?_; rintro e w3 ⟨rfl, hb3⟩; have B3 := hid (B2.out.trans (hb3.mono B2.out.size)); clear hb3))
    go_ret
    exact ⟨rfl, B3.out⟩
end Go.Proofs.YtoacjaecfabahaaDoor
