/-
  What is proved here: of all lists and numbers the trails are told, or that there are none: the walk of the statement.
-/
import Derived.Test.YtoacjaecfabahaaDoorMJU
import Derived.Test.YtoacjaecfabahaaDoorMFL4
set_option linter.unusedSimpArgs false
set_option linter.unusedVariables false
namespace Go.Proofs.YtoacjaecfabahaaDoor
open Go.ChangeShapes Go.WideShapes Go.ChangeAt Go.RowKit
set_option linter.unusedVariables false
set_option linter.unusedSimpArgs false
set_option maxRecDepth 20000

theorem ofh_few {a : Int} {L : List (List Int)} (h : L.length ≤ 100) : (ofH a L).length ≤ 62 := ofx_few rfl (by omega)
theorem en_few {i : Int} {L : List (List Int)} (h : L.length ≤ 100) : (enA i L).length ≤ 62 ∧ (enE i L).length ≤ 62 := by
  unfold enA enE
  refine ⟨?_, ?_⟩
  · split
    · exact ofh_few (by rw [List.length_take]; omega)
    · simp
  · split
    · exact ofh_few (by rw [List.length_drop]; omega)
    · simp
theorem gw_few {i : Int} {L : List (List Int)} (h : L.length ≤ 100) : (gwA i L).length ≤ 62 ∧ (gwE i L).length ≤ 62 := by
  unfold gwA gwE
  refine ⟨?_, ?_⟩
  · split
    · exact ofh_few (by rw [List.length_take]; omega)
    · simp
  · split
    · exact ofh_few (by rw [List.length_drop]; omega)
    · simp
set_option maxHeartbeats 16000000 in
theorem ttells_walk {i : Int} {A : Option Addr} {n c : Nat} {L : List (List Int)} {w : World} (hin : InH w A n L) (hnc : n ≤ c) (hTb0 : Tab w) (hTd0 : TabD w) :
    Calls Tryd.prog 6 #[.slice A n c, .int .i64 i] w fun e w' => e = .returned (.bool true) ∧ Below w.heap.size w w' := by
  have CA := hid (fun (w' : World) (hb : Below w.heap.size w w') => jawake_any w' (hTb0.below hb) (hTd0.below hb))
  have BB := hid (Below.refl w.heap.size w)
  by_cases h50 : n ≤ 50
  · have h50' : ¬ ((50 : Int) < (n : Int)) := by omega
    have hl := hin.1
    have f1 := en_few (i := i) (L := L) (by omega)
    have f2 := gw_few (i := i) (L := L) (by omega)
    have c1 := fun (w' : World) (hb : Below w.heap.size w w') => jEntry_any (i := i) (hin.below hb) (by omega) hnc (hTb0.below hb)
    have c2 := fun (w' : World) (hb : Below w.heap.size w w') => jrEntry_any (i := i) (hin.below hb) (by omega) hnc
    have c3 := fun (w' : World) (hb : Below w.heap.size w w') => jGrowth_any (i := i) (hin.below hb) (by omega) hnc (hTb0.below hb)
    have c4 := fun (w' : World) (hb : Below w.heap.size w w') => jrGrowth_any (i := i) (hin.below hb) (by omega) hnc
    generalize enA i L = H1 at c1 c2 f1
    generalize enE i L = H2 at c1 c2 f1
    generalize gwA i L = H3 at c3 c4 f2
    generalize gwE i L = H4 at c3 c4 f2
    generalize enQ i n = q1 at c1 c2
    generalize gwQ i n = q2 at c3 c4
    have C1 := hid c1; have C2 := hid c2; have C3 := hid c3; have C4 := hid c4; have F1 := hid f1; have F2 := hid f2
    have hz1 := zero_jTrail; have hz2 := zero_jrTrail
    clear c1 c2 c3 c4 f1 f2 hl hin hnc hTb0 hTd0 h50
    unfold TlA at C1 C2 C3 C4
    go_enter Tryd.func6, Tryd.ntmps6
    go_upto_region 4 with (first
      | (go_at_call 25; refine (CA.out _ BB.out).mono ?_; rintro e w1 ⟨rfl, hb⟩; have B1 := hid (BB.out.trans (hb.mono BB.out.size)); clear hb)
      | (go_at_call 26; go_loud (have hj := C1.out _ B1.out; with_reducible refine hj.mono ?_; clear hj); intro e w3 hq; obtain ⟨Ap, np, cp, Dp, mp, dp, he, h3, h4, h5, h6, hb⟩ := hq; subst he; have hb' := hb.alloc hb.size (.cells (tlc Ap np cp Dp mp dp) 48); have Kp := hid (Blk.new w3 48 (tlc Ap np cp Dp mp dp)); have hx := (Below.refl w3.heap.size w3).alloc (Nat.le_refl _) (.cells (tlc Ap np cp Dp mp dp) 48); have Ip := hid (h3.below hx); have Jp := hid (h5.below hx); have BBp := hid (B1.out.trans (hb'.mono B1.out.size)); clear h3 h4 h5 h6 hb hb' hx))
    go_upto_region 5 with (go_at_call 27; go_loud (have hj := C2.out _ BBp.out; with_reducible refine hj.mono ?_; clear hj); intro e w4 hq; obtain ⟨Ar, nr, cr, Dr, mr, dr, he, h3, h4, h5, h6, hb⟩ := hq; subst he; have hb' := hb.alloc hb.size (.cells (tlc Ar nr cr Dr mr dr) 51); have Kr := hid (Blk.new w4 51 (tlc Ar nr cr Dr mr dr)); have hx := (Below.refl w4.heap.size w4).alloc (Nat.le_refl _) (.cells (tlc Ar nr cr Dr mr dr) 51); have Ir := hid (h3.below hx); have Jr := hid (h5.below hx); have BBr := hid (BBp.out.trans (hb'.mono BBp.out.size)); have Kp' := hid (Kp.out.below hb'); have Ip' := hid (Ip.out.below hb'); have Jp' := hid (Jp.out.below hb'); clear Kp Ip Jp; have Kp := Kp'; have Ip := Ip'; have Jp := Jp'; clear Kp' Ip' Jp'; clear h3 h4 h5 h6 hb hb' hx)
    go_upto_region 6 with (go_at_call 28; go_loud (have hj := C3.out _ BBr.out; with_reducible refine hj.mono ?_; clear hj); intro e w5 hq; obtain ⟨As, ns, cs, Ds, ms, ds, he, h3, h4, h5, h6, hb⟩ := hq; subst he; have hb' := hb.alloc hb.size (.cells (tlc As ns cs Ds ms ds) 48); have Ks := hid (Blk.new w5 48 (tlc As ns cs Ds ms ds)); have hx := (Below.refl w5.heap.size w5).alloc (Nat.le_refl _) (.cells (tlc As ns cs Ds ms ds) 48); have Is := hid (h3.below hx); have Js := hid (h5.below hx); have BBs := hid (BBr.out.trans (hb'.mono BBr.out.size)); have Kp' := hid (Kp.out.below hb'); have Ip' := hid (Ip.out.below hb'); have Jp' := hid (Jp.out.below hb'); clear Kp Ip Jp; have Kp := Kp'; have Ip := Ip'; have Jp := Jp'; clear Kp' Ip' Jp'; have Kr' := hid (Kr.out.below hb'); have Ir' := hid (Ir.out.below hb'); have Jr' := hid (Jr.out.below hb'); clear Kr Ir Jr; have Kr := Kr'; have Ir := Ir'; have Jr := Jr'; clear Kr' Ir' Jr'; clear h3 h4 h5 h6 hb hb' hx)
    go_upto_region 7 with (go_at_call 29; go_loud (have hj := C4.out _ BBs.out; with_reducible refine hj.mono ?_; clear hj); intro e w6 hq; obtain ⟨At, nt, ct, Dt, mt, dt, he, h3, h4, h5, h6, hb⟩ := hq; subst he; have hb' := hb.alloc hb.size (.cells (tlc At nt ct Dt mt dt) 51); have Kt := hid (Blk.new w6 51 (tlc At nt ct Dt mt dt)); have hx := (Below.refl w6.heap.size w6).alloc (Nat.le_refl _) (.cells (tlc At nt ct Dt mt dt) 51); have It := hid (h3.below hx); have Jt := hid (h5.below hx); have BBt := hid (BBs.out.trans (hb'.mono BBs.out.size)); have Kp' := hid (Kp.out.below hb'); have Ip' := hid (Ip.out.below hb'); have Jp' := hid (Jp.out.below hb'); clear Kp Ip Jp; have Kp := Kp'; have Ip := Ip'; have Jp := Jp'; clear Kp' Ip' Jp'; have Kr' := hid (Kr.out.below hb'); have Ir' := hid (Ir.out.below hb'); have Jr' := hid (Jr.out.below hb'); clear Kr Ir Jr; have Kr := Kr'; have Ir := Ir'; have Jr := Jr'; clear Kr' Ir' Jr'; have Ks' := hid (Ks.out.below hb'); have Is' := hid (Is.out.below hb'); have Js' := hid (Js.out.below hb'); clear Ks Is Js; have Ks := Ks'; have Is := Is'; have Js := Js'; clear Ks' Is' Js'; clear h3 h4 h5 h6 hb hb' hx)
    have few : ∀ {x : World} {A : Option Addr} {n : Nat} {H : List (List Int)}, InH x A n H → H.length ≤ 62 → n < 1000000 := fun h hl => by have := h.1; omega
    generalize w6.alloc (.cells (tlc At nt ct Dt mt dt) 51) = wf at Kp Ip Jp Kr Ir Jr Ks Is Js Kt It Jt BBt ⊢
    have s1 := fun (w' : World) (hb : Below wf.heap.size wf w') => jrSame_any (c := cp) (d := dp) (e' := cr) (f := dr) (Ip.out.below hb) (Jp.out.below hb) (Ir.out.below hb) (Jr.out.below hb) (few Ip.out F1.out.1) (few Jp.out F1.out.2) (few Ir.out F1.out.1) (few Jr.out F1.out.2)
    have s2 := fun (w' : World) (hb : Below wf.heap.size wf w') => jrSame_any (c := cs) (d := ds) (e' := ct) (f := dt) (Is.out.below hb) (Js.out.below hb) (It.out.below hb) (Jt.out.below hb) (few Is.out F2.out.1) (few Js.out F2.out.2) (few It.out F2.out.1) (few Jt.out F2.out.2)
    have S1 := hid s1; have S2 := hid s2
    have BW := hid (Below.refl wf.heap.size wf)
    clear s1 s2 few C1 C2 C3 C4 Ip Jp Ir Jr Is Js It Jt
    go_wp2_with (first
      | (refine load_at rfl 48 (.tmp 5) rfl w3.heap.size 0 rfl _ _ (fblk_rng Kp.out) Tryd.underlying48 rfl (info_jTrail _ _) (tlc Ap np cp Dp mp dp) rfl ?_)
      | (refine load_at rfl 51 (.tmp 7) rfl w4.heap.size 0 rfl _ _ (fblk_rng Kr.out) Tryd.underlying51 rfl (info_jrTrail _ _) (tlc Ar nr cr Dr mr dr) rfl ?_)
      | (refine load_at rfl 48 (.tmp 9) rfl w5.heap.size 0 rfl _ _ (fblk_rng Ks9.out) Tryd.underlying48 rfl (info_jTrail _ _) (tlc As ns cs Ds ms ds) rfl ?_)
      | (refine load_at rfl 51 (.tmp 11) rfl w6.heap.size 0 rfl _ _ (fblk_rng Kt9.out) Tryd.underlying51 rfl (info_jrTrail _ _) (tlc At nt ct Dt mt dt) rfl ?_)
      | (go_at_call 30; first
          | (with_reducible refine (S1.out _ BW.out).mono ?_; rintro e w8 ⟨rfl, hb⟩; have B8 := hid (BBt.out.trans (hb.mono BBt.out.size)); have BH := hid hb; have Ks9 := hid (Ks.out.below hb); have Kt9 := hid (Kt.out.below hb); clear hb S1)
          | (with_reducible refine (S2.out _ BH.out).mono ?_; rintro e w9 ⟨rfl, hb⟩; have B9 := hid (B8.out.trans (hb.mono B8.out.size)); clear hb)))
    go_ret
    exact ⟨by simp, B9.out⟩
  · have h50' : (50 : Int) < (n : Int) := by omega
    clear hin hTb0 hTd0 hnc
    go_enter Tryd.func6, Tryd.ntmps6
    go_wp2_with (go_at_call 25; first
      | (with_reducible refine (CA.out _ BB.out).mono ?_; rintro e w2 ⟨rfl, hb2⟩; have B2 := hid (BB.out.trans (hb2.mono BB.out.size)); clear hb2)
      | (with_reducible refine (CA.out _ B2.out).mono ?_; rintro e w3 ⟨rfl, hb3⟩; have B3 := hid (B2.out.trans (hb3.mono B2.out.size)); clear hb3))
    go_ret
    exact ⟨rfl, B3.out⟩
end Go.Proofs.YtoacjaecfabahaaDoor
