/-
  What is proved here: whether a trail shows a growth, as the document tells it, in the code's words.
-/
import Derived.Test.YtoacjaecfabahaaDoorMJH
set_option linter.unusedSimpArgs false
set_option linter.unusedVariables false
namespace Go.Proofs.YtoacjaecfabahaaDoor
open Go.ChangeShapes Go.WideShapes Go.ChangeAt Go.RowKit
set_option linter.unusedVariables false
set_option linter.unusedSimpArgs false
set_option maxRecDepth 20000

set_option maxHeartbeats 16000000 in
theorem jrIsGrowth_any {w : World} {i k : Int} {A B : Option Addr} {n c m d : Nat} {Ah Be : List (List Int)} {h root : List Int} (hA : InH w A n Ah) (hB : InH w B m Be) (hn : n < 1000000) (hm : m < 1000000) (hnc : n ≤ c) (hmd : m ≤ d) (hh : H32 h) (hr : H32 root) :
    Calls Tryd.prog 35 #[.agg (tlc A n c B m d), .int .i64 i, .int .i64 k, hV h, hV root] w fun e w' => e = .returned (.bool (igB i k Ah Be h root)) ∧ Below w.heap.size w w' := by
  obtain ⟨k1, k2, k3, b1⟩ := f3blks w (tlc A n c B m d) (hc32 h) (hc32 root) 51 33 33
  by_cases hbad : i < 0 ∨ k < i ∨ 2147483647 < k
  · rw [ig_no hbad]
    have B1 := hid b1
    clear k1 k2 k3 b1 hA hB hn hm hnc hmd hh hr
    by_cases h1 : i < 0
    · clear hbad
      go_enter Tryd.func35, Tryd.ntmps35
      go_wp2
      go_ret
      exact ⟨rfl, B1.out⟩
    · by_cases h2 : k < i
      · clear hbad
        go_enter Tryd.func35, Tryd.ntmps35
        go_wp2
        go_ret
        exact ⟨rfl, B1.out⟩
      · have h3 : 2147483647 < k := by omega
        clear hbad
        go_enter Tryd.func35, Tryd.ntmps35
        go_wp2
        go_ret
        exact ⟨rfl, B1.out⟩
  · have h1 : ¬ i < 0 := fun h => hbad (.inl h)
    have h2 : ¬ k < i := fun h => hbad (.inr (.inl h))
    have h3 : ¬ 2147483647 < k := fun h => hbad (.inr (.inr h))
    rw [ig_all (show 0 ≤ i by omega) (show i ≤ k by omega) (show k ≤ 2147483647 by omega)]
    have hal : H32 (allV ⟨0, i, Ah⟩ ⟨i, k, Be⟩ ⟨k, k, []⟩) := allV_h32 hA.ok hB.ok (fun f hf => by cases hf)
    have hrv : H32 (rtV 0 i Ah) := rtV_ok hA.ok
    obtain ⟨v, hv⟩ : ∃ v, v = allV ⟨0, i, Ah⟩ ⟨i, k, Be⟩ ⟨k, k, []⟩ := ⟨_, rfl⟩
    obtain ⟨bb, hbb⟩ : ∃ bb, bb = allB ⟨0, i, Ah⟩ ⟨i, k, Be⟩ ⟨k, k, []⟩ := ⟨_, rfl⟩
    obtain ⟨rv, hrv2⟩ : ∃ rv, rv = rtV 0 i Ah := ⟨_, rfl⟩
    obtain ⟨q, hq⟩ : ∃ q, q = rtQ 0 i Ah.length := ⟨_, rfl⟩
    have hqb : (q == 0) = rtB 0 i Ah.length := by rw [hq, rtQ_iff]
    have cal := fun (w' : World) (hb : Below w.heap.size w w') => gAll_any (r := ⟨0, i, Ah⟩) (s := ⟨i, k, Be⟩) (t := ⟨k, k, []⟩) (C := none) (p := 0) (q := 0) (hA.below hb) (hB.below hb) (InH.nil w' none) hn hm (by decide) hnc hmd (Nat.le_refl 0)
    unfold AlA at cal
    simp only [← hv, ← hbb] at cal
    have cr := fun (w' : World) (hb : Below w.heap.size w w') => gRoot_x (x := 0) (y := i) (hA.below hb) hn hnc
    unfold RtA at cr
    simp only [← hrv2, ← hq] at cr
    rw [← hv] at hal
    rw [← hrv2] at hrv
    rw [← hv, ← hbb, ← hrv2, ← hqb]
    have CAL := hid cal; have CR := hid cr
    have K1 := hid k1; have K2 := hid k2; have K3 := hid k3; have B1 := hid b1
    have HIH := hid (info_hash h hh.len); have HIR := hid (info_hash root hr.len); have HIV := hid (info_hash v hal.len); have HIO := hid (info_hash rv hrv.len)
    have heq := fun w => eql_h v root hal hr w
    have heq2 := fun w => eql_h rv h hrv hh w
    obtain ⟨Z, HZ, hZ0, hZs⟩ := zero_Hash
    have HZV := hid (hz_size HZ hal); have HZO := hid (hz_size HZ hrv)
    have hz := zero_gRng
    clear k1 k2 k3 b1 hv hbb cal cr hA hB hn hm hnc hmd hh hr hal hbad hrv hrv2 hq hqb
    go_enter Tryd.func35, Tryd.ntmps35
    go_upto_region 3 with fail
    generalize ((w.alloc (.cells (tlc A n c B m d) 51)).alloc (.cells (hc32 h) 33)).alloc (.cells (hc32 root) 33) = w0 at K1 K2 K3 B1 ⊢
    have a0 : w0.cell? ⟨w.heap.size, 0, none⟩ = some (.slice A n c) := K1.out.cell 0
    go_upto_region 4 with (refine wpList_build rfl 29 _ rfl (built_gRng12 _ _ _ _) ?_)
    have b5 : Below w0.heap.size w0 (w0.alloc (.cells (rgc 0 i (.slice A n c)) 29)) := (Below.refl _ _).alloc (Nat.le_refl _) _
    have P1 := hid (Blk.new w0 29 (rgc 0 i (.slice A n c)))
    have J1 := hid (K1.out.below b5); have J2 := hid (K2.out.below b5); have J3 := hid (K3.out.below b5); have B2 := hid (B1.out.trans (b5.mono B1.out.size))
    clear a0 b5 K1 K2 K3 B1
    obtain ⟨g0, hg0⟩ : ∃ g0, g0 = w0.heap.size := ⟨_, rfl⟩
    rw [← hg0] at P1 ⊢
    generalize w0.alloc (.cells (rgc 0 i (.slice A n c)) 29) = w1 at P1 J1 J2 J3 B2 ⊢
    clear hg0
    go_upto_region 5 with (first
      | (with_reducible refine load_g 29 (.tmp 11) rfl ?_; refine load_pl 29 (.tmp 11) rfl rfl g0 0 rfl _ _ (gblk_rng P1.out) Tryd.underlying29 rfl (info_gRng _ _ _) (rgc 0 i (.slice A n c)) rfl ?_)
      | (go_at_call 22; go_loud (have hj := CR.out _ B2.out; with_reducible refine hj.mono ?_; clear hj); rintro e w5 ⟨rfl, hb⟩; have hb' := below_setRow (hb.alloc hb.size (.cells Z 33)) hb.size (hc32 rv); have B3 := hid (B2.out.trans (hb'.mono B2.out.size)); have P2 := hid (P1.out.below hb'); have M1 := hid (J1.out.below hb'); have M2 := hid (J2.out.below hb'); have M3 := hid (J3.out.below hb'); have KZ := hid (Blk.new w5 33 Z); have KH := hid (KZ.out.row (hc32 rv)); clear hb hb')
      | (refine wpList_store_row rfl 33 (.tmp 12) (.tmp 34) rfl w5.heap.size (hc32 rv) rfl rfl 33 Z KZ.out HIO.out HZO.out (u8s_all _) ?_))
    clear P1 J1 J2 J3 B2 KZ CR
    generalize (w5.alloc (.cells Z 33)).setRow w5.heap.size (hc32 rv) = w6 at B3 P2 M1 M2 M3 KH ⊢
    have a1 : w6.cell? ⟨w.heap.size, 1, none⟩ = some (.slice B m d) := M1.out.cell 1
    go_upto_region 6 with (first
      | (with_reducible refine load_g 29 (.tmp 11) rfl ?_; refine load_pl 29 (.tmp 11) rfl rfl g0 0 rfl _ _ (gblk_rng P2.out) Tryd.underlying29 rfl (info_gRng _ _ _) (rgc 0 i (.slice A n c)) rfl ?_)
      | (refine wpList_build rfl 29 _ rfl (built_gRng _ _ _ _ _) ?_)
      | (refine wpList_build rfl 29 _ rfl (built_gRng2 _ _) ?_)
      | (go_at_call 36; go_loud (have hj := CAL.out _ B3.out; refine hj.mono ?_; clear hj); rintro e w7 ⟨rfl, hb⟩; have hb' := below_setRow (hb.alloc hb.size (.cells Z 33)) hb.size (hc32 v); have B6 := hid (B3.out.trans (hb'.mono B3.out.size)); have K2 := hid (M2.out.below hb'); have K3 := hid (M3.out.below hb'); have KO := hid (KH.out.below hb'); have KZ := hid (Blk.new w7 33 Z); have KV := hid (KZ.out.row (hc32 v)); clear hb hb')
      | (refine wpList_store_row rfl 33 (.tmp 14) (.tmp 47) rfl w7.heap.size (hc32 v) rfl rfl 33 Z KZ.out HIV.out HZV.out (u8s_all _) ?_))
    clear a1 M1 M2 M3 P2 B3 KZ CAL
    generalize (w7.alloc (.cells Z 33)).setRow w7.heap.size (hc32 v) = w8 at B6 K2 K3 KO KV ⊢
    by_cases hq : (q == 0) = true
    · have HD := hid hq
      by_cases hd : rv = h
      · have HE := hid hd
        rw [decide_eq_true hd] at heq2
        clear hd
        cases bb with
        | false =>
          go_wp2_with (first
            | (refine load_at rfl 33 (.tmp 12) rfl w5.heap.size 0 rfl (u8s rv) _ (blk_row KO.out) Tryd.underlying33 rfl HIO.out (hc32 rv) rfl ?_)
            | (refine load_at rfl 33 (.tmp 8) rfl (w.heap.size + 1) 0 rfl (u8s h) _ (blk_row K2.out) Tryd.underlying33 rfl HIH.out (hc32 h) rfl ?_)
            | (refine load_at rfl 33 (.tmp 14) rfl w7.heap.size 0 rfl (u8s v) _ (blk_row KV.out) Tryd.underlying33 rfl HIV.out (hc32 v) rfl ?_)
            | (refine load_at rfl 33 (.tmp 9) rfl (w.heap.size + 1 + 1) 0 rfl (u8s root) _ (blk_row K3.out) Tryd.underlying33 rfl HIR.out (hc32 root) rfl ?_))
          go_ret
          exact ⟨by rw [HD.out, decide_eq_true HE.out]; rfl, B6.out⟩
        | true =>
          go_wp2_with (first
            | (refine load_at rfl 33 (.tmp 12) rfl w5.heap.size 0 rfl (u8s rv) _ (blk_row KO.out) Tryd.underlying33 rfl HIO.out (hc32 rv) rfl ?_)
            | (refine load_at rfl 33 (.tmp 8) rfl (w.heap.size + 1) 0 rfl (u8s h) _ (blk_row K2.out) Tryd.underlying33 rfl HIH.out (hc32 h) rfl ?_)
            | (refine load_at rfl 33 (.tmp 14) rfl w7.heap.size 0 rfl (u8s v) _ (blk_row KV.out) Tryd.underlying33 rfl HIV.out (hc32 v) rfl ?_)
            | (refine load_at rfl 33 (.tmp 9) rfl (w.heap.size + 1 + 1) 0 rfl (u8s root) _ (blk_row K3.out) Tryd.underlying33 rfl HIR.out (hc32 root) rfl ?_))
          go_ret
          exact ⟨by rw [HD.out, decide_eq_true HE.out]; simp, B6.out⟩
      · have HE := hid hd
        rw [decide_eq_false hd] at heq2
        clear hd
        go_wp2_with (first
          | (refine load_at rfl 33 (.tmp 12) rfl w5.heap.size 0 rfl (u8s rv) _ (blk_row KO.out) Tryd.underlying33 rfl HIO.out (hc32 rv) rfl ?_)
          | (refine load_at rfl 33 (.tmp 8) rfl (w.heap.size + 1) 0 rfl (u8s h) _ (blk_row K2.out) Tryd.underlying33 rfl HIH.out (hc32 h) rfl ?_)
          | (refine load_at rfl 33 (.tmp 14) rfl w7.heap.size 0 rfl (u8s v) _ (blk_row KV.out) Tryd.underlying33 rfl HIV.out (hc32 v) rfl ?_)
          | (refine load_at rfl 33 (.tmp 9) rfl (w.heap.size + 1 + 1) 0 rfl (u8s root) _ (blk_row K3.out) Tryd.underlying33 rfl HIR.out (hc32 root) rfl ?_))
        go_ret
        exact ⟨by rw [HD.out, decide_eq_false HE.out]; rfl, B6.out⟩
    · have hq' : (q == 0) = false := by simpa using hq
      have HD := hid hq'
      clear hq
      go_wp2_with (first
        | (refine load_at rfl 33 (.tmp 12) rfl w5.heap.size 0 rfl (u8s rv) _ (blk_row KO.out) Tryd.underlying33 rfl HIO.out (hc32 rv) rfl ?_)
        | (refine load_at rfl 33 (.tmp 8) rfl (w.heap.size + 1) 0 rfl (u8s h) _ (blk_row K2.out) Tryd.underlying33 rfl HIH.out (hc32 h) rfl ?_)
        | (refine load_at rfl 33 (.tmp 14) rfl w7.heap.size 0 rfl (u8s v) _ (blk_row KV.out) Tryd.underlying33 rfl HIV.out (hc32 v) rfl ?_)
        | (refine load_at rfl 33 (.tmp 9) rfl (w.heap.size + 1 + 1) 0 rfl (u8s root) _ (blk_row K3.out) Tryd.underlying33 rfl HIR.out (hc32 root) rfl ?_))
      go_ret
      exact ⟨by rw [HD.out]; rfl, B6.out⟩
end Go.Proofs.YtoacjaecfabahaaDoor
