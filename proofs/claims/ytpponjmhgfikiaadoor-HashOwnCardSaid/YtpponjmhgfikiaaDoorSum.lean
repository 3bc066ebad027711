/-
  What is proved here: the code's hash of all bytes is the document's.
-/
import Derived.Test.YtpponjmhgfikiaaDoorShaPure
import Derived.Test.YtpponjmhgfikiaaDoorMix
namespace Go.Proofs.YtpponjmhgfikiaaDoor
open Go.ChangeShapes Go.WideShapes Go.ChangeAt Go.RowKit
set_option linter.unusedVariables false

def stC (s : St) : Array Value := #[.int .u32 (u s.a), .int .u32 (u s.b), .int .u32 (u s.c), .int .u32 (u s.d), .int .u32 (u s.e), .int .u32 (u s.f), .int .u32 (u s.g), .int .u32 (u s.h)]
theorem mix_agg (s : St) (A : Option Addr) (c : Nat) (bs : List Int) (w : World) (hr : Rp w none A bs) (hb : Bs bs) (hl : bs.length = 64) (hc : 64 ≤ c) (ht : Tab w) :
    Calls Tryd.prog 20 #[.agg #[.int .u32 (u s.a), .int .u32 (u s.b), .int .u32 (u s.c), .int .u32 (u s.d), .int .u32 (u s.e), .int .u32 (u s.f), .int .u32 (u s.g), .int .u32 (u s.h)], .slice A 64 c] w fun e w' => e = .returned (.agg (stC (mixS s bs))) ∧ Below w.heap.size w w' := mix_any s A c bs w hr hb hl hc ht
theorem joined_agg (s : St) (w : World) :
    Calls Tryd.prog 22 #[.agg #[.int .u32 (u s.a), .int .u32 (u s.b), .int .u32 (u s.c), .int .u32 (u s.d), .int .u32 (u s.e), .int .u32 (u s.f), .int .u32 (u s.g), .int .u32 (u s.h)]] w fun e w' => e = .returned (.agg (u8s (joinS s)).toArray) ∧ Below w.heap.size w w' := joined_any s w
theorem stC_all (s : St) : (stC s).all (·.oneCell') = true := all8 _ _ _ _ _ _ _ _
theorem blk_rpAt {w : World} {g : Nat} {t : TypeId} {l : List Int} (h : Blk w g t (u8s l).toArray) (a k : Nat) : Rp w none (some ⟨g, a, none⟩) ((l.drop a).take k) := fun _ =>
  ⟨_, rfl, (fun ⟨a, e, _⟩ => by cases e), fun j hj => by
    rw [List.length_take, List.length_drop] at hj
    rw [Addr.add_lit, h.cell, u8s_at _ _ (by omega), List.getElem?_take, if_pos (by omega), List.getElem?_drop]⟩
theorem add64_fun : (fun x : Addr => (⟨x.block, x.off + 64, none⟩ : Addr)) = (fun x => x.add 64) := by
  funext x
  unfold Addr.add
  rw [if_neg (by decide)]
def lenOf : Value → Nat
  | .slice _ n _ => n
  | _ => 0
theorem stC_size (s : St) : (stC s).size = 8 := rfl

set_option maxRecDepth 5000 in
set_option maxHeartbeats 600000 in
theorem sum_64 (A : Option Addr) (c : Nat) (b : List Int) (w : World) (hr : Rp w none A b) (hb : Bs b) (hl : b.length < 1000000000000) (hc : b.length ≤ c) (ht : Tab w) (hs : b.length % 64 + 9 ≤ 64) :
    Calls Tryd.prog 9 #[.slice A b.length c] w fun e w' => e = .returned (hashV (sum b)) ∧ Below w.heap.size w w' := by
  obtain ⟨Z, HZ, hZ0, hZs⟩ := zero_Hash
  obtain ⟨Z2, HZ2, hZ20, hZ2s⟩ := zero_A128
  have hps := padLen_lo b.length hs
  obtain ⟨R, hR⟩ : ∃ R, R = sum b := ⟨_, rfl⟩
  have HRE : Hid (R = joinS (mixN St0 (padded b) (b.length / 64 + 64 / 64))) := by show _ = _; rw [hR]; exact sum_eq b 64 hps (by decide)
  rw [← hR]
  obtain ⟨n, hn⟩ : ∃ n, n = b.length := ⟨_, rfl⟩
  rw [← hn] at hl hc hs hps ⊢
  have HN := hid hn; have HR := hid hr; have HB := hid hb; have HT := hid ht; have HPS := hid hps
  have HI8 : Hid ((Tryd.prog.info? 41).map (·.size) = some 8) := by show _ = _; kernel_rfl
  clear hr hb ht hn hR hps
  go_enter Tryd.func9, Tryd.ntmps9
  go_wp2
  have hst : stC St0 = #[.int .u32 1779033703, .int .u32 3144134277, .int .u32 1013904242, .int .u32 2773480762, .int .u32 1359893119, .int .u32 2600822924, .int .u32 528734635, .int .u32 1541459225] := by kernel_rfl
  have hK1 : Blk ((w.alloc (.cells Z 25)).alloc (.cells #[.int .u32 1779033703, .int .u32 3144134277, .int .u32 1013904242, .int .u32 2773480762, .int .u32 1359893119, .int .u32 2600822924, .int .u32 528734635, .int .u32 1541459225] 41)) w.heap.size 25 Z := (Blk.new w 25 Z).alloc _
  have hK2 : Blk ((w.alloc (.cells Z 25)).alloc (.cells #[.int .u32 1779033703, .int .u32 3144134277, .int .u32 1013904242, .int .u32 2773480762, .int .u32 1359893119, .int .u32 2600822924, .int .u32 528734635, .int .u32 1541459225] 41)) (w.heap.size + 1) 41 (stC St0) := by
    have := Blk.new (w.alloc (.cells Z 25)) 41 #[.int .u32 1779033703, .int .u32 3144134277, .int .u32 1013904242, .int .u32 2773480762, .int .u32 1359893119, .int .u32 2600822924, .int .u32 528734635, .int .u32 1541459225]
    rw [show (w.alloc (.cells Z 25)).heap.size = w.heap.size + 1 by simp, ← hst] at this
    rwa [hst] at this ⊢
  have hB0 : Below w.heap.size w ((w.alloc (.cells Z 25)).alloc (.cells #[.int .u32 1779033703, .int .u32 3144134277, .int .u32 1013904242, .int .u32 2773480762, .int .u32 1359893119, .int .u32 2600822924, .int .u32 528734635, .int .u32 1541459225] 41)) := ((Below.refl _ _).alloc (Nat.le_refl _) _).alloc (by simp) _
  have K1 := hid hK1; have K2 := hid hK2; have B0 := hid hB0
  clear hK1 hK2 hB0 hst
  generalize (w.alloc (.cells Z 25)).alloc (.cells #[.int .u32 1779033703, .int .u32 3144134277, .int .u32 1013904242, .int .u32 2773480762, .int .u32 1359893119, .int .u32 2600822924, .int .u32 528734635, .int .u32 1541459225] 41) = w0 at K1 K2 B0 ⊢
  go_loopw [4] (fun v wr => ∃ (m q : Nat) (Ar : Option Addr) (cr : Nat), v = .slice Ar q cr ∧ q ≤ cr ∧ Hid (q = n - 64 * m) ∧ Hid (64 * m ≤ n) ∧ Hid (Rp w none Ar (b.drop (64 * m))) ∧ Hid (Blk wr (w.heap.size + 1) 41 (stC (mixN St0 b m))) ∧ Hid (Blk wr w.heap.size 25 Z) ∧ Hid (Below w.heap.size w wr)) (fun v _ => lenOf v)
  case atStart => exact ⟨0, n, A, c, rfl, hc, rfl, Nat.zero_le _, HR.out, K2.out, K1.out, B0.out⟩
  case round =>
    obtain ⟨m, q, Ar, cr, rfl, hqc, HQ, HM, HRP, HBK, HBZ, HBL⟩ := hrel
    clear K1 K2 B0
    obtain ⟨S, hS⟩ : ∃ S, S = mixN St0 b m := ⟨_, rfl⟩
    rw [← hS] at HBK
    have HS := hid hS
    clear hS
    have c0 : wr.cell? ⟨w.heap.size + 1, 0, none⟩ = some (.int .u32 (u S.a)) := HBK.out.cell 0
    have c1 : wr.cell? ⟨w.heap.size + 1, 1, none⟩ = some (.int .u32 (u S.b)) := HBK.out.cell 1
    have c2 : wr.cell? ⟨w.heap.size + 1, 2, none⟩ = some (.int .u32 (u S.c)) := HBK.out.cell 2
    have c3 : wr.cell? ⟨w.heap.size + 1, 3, none⟩ = some (.int .u32 (u S.d)) := HBK.out.cell 3
    have c4 : wr.cell? ⟨w.heap.size + 1, 4, none⟩ = some (.int .u32 (u S.e)) := HBK.out.cell 4
    have c5 : wr.cell? ⟨w.heap.size + 1, 5, none⟩ = some (.int .u32 (u S.f)) := HBK.out.cell 5
    have c6 : wr.cell? ⟨w.heap.size + 1, 6, none⟩ = some (.int .u32 (u S.g)) := HBK.out.cell 6
    have c7 : wr.cell? ⟨w.heap.size + 1, 7, none⟩ = some (.int .u32 (u S.h)) := HBK.out.cell 7
    by_cases h64 : 64 ≤ q
    · have hcr : 64 ≤ cr := by omega
      have hcri : (64 : Int) ≤ (cr : Int) := by omega
      have HBLK : Hid (((b.drop (64 * m)).take 64).length = 64) := by
        have h1 := HQ.out; have h2 := HN.out
        show _ = _
        rw [List.length_take, List.length_drop]; omega
      have HMX := hid (fun (w1 : World) (hb : Below w.heap.size w w1) => mix_agg S Ar cr ((b.drop (64 * m)).take 64) w1 ((HRP.out.belowN hb).take 64) ((HB.out.drop _).take _) HBLK.out hcr (HT.out.below hb))
      obtain ⟨M, hM⟩ : ∃ M, M = mixS S ((b.drop (64 * m)).take 64) := ⟨_, rfl⟩
      rw [← hM] at HMX
      have HMM := hid hM
      clear hM
      go_wp2
      refine wp_region_still_tail 3 (by kernel_rfl) (by kernel_rfl) ?_
      simp only [List.take_succ_cons, List.take_zero, List.drop_succ_cons, List.drop_zero]
      repeat still_step
      refine wpStill_nil ?_
      change wpList _ _ _ _ _ wr.drew
      go_wp2_with fail
      refine (HMX.out _ (below_drewN HBL.out 1)).mono ?_
      rintro e w1 ⟨rfl, hb1⟩
      have hb1' : Below wr.heap.size wr w1 := (below_drewN (Below.refl _ wr) 1).trans hb1
      have HB1 := hid hb1'
      have hk1 : Blk w1 (w.heap.size + 1) 41 (stC S) := HBK.out.same (hb1'.block _ HBK.out.lt)
      have HK1 := hid hk1
      clear hb1 hb1' hk1
      trace "X"
      go_wp2_with (refine wpList_store_row rfl 41 (.tmp 3) (.tmp 16) rfl (w.heap.size + 1) (stC M) rfl rfl 41 (stC S) HK1.out HI8.out rfl (stC_all _) ?_)
      refine ⟨⟨m + 1, q - 64, (if cr = 64 then Ar else Option.map (fun x => { block := x.block, off := x.off + 64 }) Ar), cr - 64, rfl, by omega, ?_, ?_, ?_, ?_, ?_, ?_⟩, by simp [lenOf]; omega⟩
      · show _ = _
        have := HQ.out
        omega
      · show _ ≤ _
        have := HQ.out
        have := HM.out
        omega
      · show Rp _ _ _ _
        rw [add64_fun, show 64 * (m + 1) = 64 * m + 64 by omega, ← List.drop_drop]
        exact HRP.out.cut (by have := HQ.out; have := HN.out; rw [List.length_drop]; omega)
      · show Blk _ _ _ (stC (mixS (mixN St0 b m) ((b.drop (64 * m)).take 64)))
        rw [← HS.out, ← HMM.out]
        exact HK1.out.row _
      · exact ((HBZ.out.same (HB1.out.block _ HBZ.out.lt)).rowFar (by omega) _)
      · exact below_setRow (HBL.out.trans (HB1.out.mono HBL.out.size)) (by omega) _
    · clear c0 c1 c2 c3 c4 c5 c6 c7
      have hm : m = n / 64 := by have := HQ.out; have := HM.out; omega
      have hdl : (b.drop (64 * m)).length = q := by have := HQ.out; have := HN.out; rw [List.length_drop]; omega
      have hq64 : q = n % 64 := by have := HQ.out; have := HM.out; omega
      have hen := fun (w1 : World) (hb : Below w.heap.size w w1) => ending_64 Ar cr n (b.drop (64 * m)) w1 (HRP.out.belowN hb) (by omega) hl (by omega)
      rw [hdl] at hen
      have HEN := hid hen
      have HMX0 : Hid (S = mixN St0 (padded b) (n / 64)) := by
        have := HN.out
        have h2 := HM.out
        show _ = _
        rw [HS.out, ← hm]
        exact (mixN_pad St0 b m (by omega)).symm
      have HMN := hid hm
      clear hm hdl hq64 hen
      go_wp2_with fail
      refine (HEN.out _ HBL.out).mono ?_
      rintro e w1 ⟨l, rfl, hll, hlj, hb1⟩
      have hlb : Bs l := end_bs _ l _ 64 (HB.out.drop _) hll hlj
      have HBK1 := hid (HBK.out.same (hb1.block _ HBK.out.lt))
      have HBZ1 := hid (HBZ.out.same (hb1.block _ HBZ.out.lt))
      have HBL1 := hid (HBL.out.trans (hb1.mono HBL.out.size))
      have hlt1 : w.heap.size + 1 < w1.heap.size := HBK1.out.lt
      have HLL := hid hll; have HLJ := hid hlj; have HLB := hid hlb
      have HI128 : Hid ((Tryd.prog.info? 43).map (·.size) = some (u8s l).toArray.size) := by
        show _ = _
        rw [List.size_toArray, u8s_length, hll]; kernel_rfl
      have HZ128 : Hid (Z2.size = (u8s l).toArray.size) := by
        show _ = _
        rw [HZ2.out, List.size_toArray, List.size_toArray, u8s_length, u8s_length, hll]; simp
      clear hll hlj hlb hb1
      go_wp2_with (refine wpList_store_row rfl 43 (.tmp 5) (.tmp 24) rfl w1.heap.size (u8s l).toArray rfl rfl 43 Z2 (Blk.new w1 43 Z2) HI128.out HZ128.out (u8s_all l) ?_)
      try go_frame
      go_wp2
      have HK5 : Hid (Blk ((w1.alloc (.cells Z2 43)).setRow w1.heap.size (u8s l).toArray) w1.heap.size 43 (u8s l).toArray) := (Blk.new w1 43 Z2).row _
      have HBK2 : Hid (Blk ((w1.alloc (.cells Z2 43)).setRow w1.heap.size (u8s l).toArray) (w.heap.size + 1) 41 (stC S)) := (HBK1.out.alloc _).rowFar (by omega) _
      have HBZ2 : Hid (Blk ((w1.alloc (.cells Z2 43)).setRow w1.heap.size (u8s l).toArray) w.heap.size 25 Z) := (HBZ1.out.alloc _).rowFar (by omega) _
      have HBL2 : Hid (Below w.heap.size w ((w1.alloc (.cells Z2 43)).setRow w1.heap.size (u8s l).toArray)) := below_setRow (HBL1.out.alloc (by omega) _) (by omega) _
      generalize (w1.alloc (.cells Z2 43)).setRow w1.heap.size (u8s l).toArray = w2 at HK5 HBK2 HBZ2 HBL2 ⊢
      obtain ⟨g5, hg5⟩ : ∃ g5, g5 = w1.heap.size := ⟨_, rfl⟩
      rw [← hg5] at HK5 hlt1 ⊢
      clear hg5 HBK1 HBZ1 HBL1 HBK HBZ HBL
      go_loopw [7] (fun v wr => ∃ (t a : Nat), v = .int .i64 a ∧ a ≤ 64 ∧ Hid (a = 64 * t) ∧ Hid (Blk wr (w.heap.size + 1) 41 (stC (mixN St0 (padded b) (n / 64 + t)))) ∧ Hid (Blk wr g5 43 (u8s l).toArray) ∧ Hid (Blk wr w.heap.size 25 Z) ∧ Hid (Below w.heap.size w wr)) (fun v _ => 64 - (intOf v).toNat)
      case atStart => exact ⟨0, 0, rfl, by omega, rfl, by (show Blk _ _ _ (stC (mixN St0 (padded b) (n / 64))); rw [← HMX0.out]; exact HBK2.out), HK5.out, HBZ2.out, HBL2.out⟩
      case round =>
        obtain ⟨t, a, rfl, ha, HA, HBK, HK, HBZ, HBL⟩ := hrel
        clear HK5 HBK2 HBZ2 HBL2
        obtain ⟨T, hT⟩ : ∃ T, T = mixN St0 (padded b) (n / 64 + t) := ⟨_, rfl⟩
        rw [← hT] at HBK
        have HTT := hid hT
        clear hT
        have c0 : wr.cell? ⟨w.heap.size + 1, 0, none⟩ = some (.int .u32 (u T.a)) := HBK.out.cell 0
        have c1 : wr.cell? ⟨w.heap.size + 1, 1, none⟩ = some (.int .u32 (u T.b)) := HBK.out.cell 1
        have c2 : wr.cell? ⟨w.heap.size + 1, 2, none⟩ = some (.int .u32 (u T.c)) := HBK.out.cell 2
        have c3 : wr.cell? ⟨w.heap.size + 1, 3, none⟩ = some (.int .u32 (u T.d)) := HBK.out.cell 3
        have c4 : wr.cell? ⟨w.heap.size + 1, 4, none⟩ = some (.int .u32 (u T.e)) := HBK.out.cell 4
        have c5 : wr.cell? ⟨w.heap.size + 1, 5, none⟩ = some (.int .u32 (u T.f)) := HBK.out.cell 5
        have c6 : wr.cell? ⟨w.heap.size + 1, 6, none⟩ = some (.int .u32 (u T.g)) := HBK.out.cell 6
        have c7 : wr.cell? ⟨w.heap.size + 1, 7, none⟩ = some (.int .u32 (u T.h)) := HBK.out.cell 7
        by_cases hlt : a < 64
        · have ha64 : a + 64 ≤ 64 := by have := HA.out; omega
          have i1 : (0 : Int) ≤ (a : Int) := by omega
          have i2 : (a : Int) + 64 ≤ 128 := by omega
          have i3 : IntKind.i64.wrap ((a : Int) + 64) = (a : Int) + 64 := IntWalk.i64_in _ (by omega)
          have i4 : ((a : Int) + 64).toNat = a + 64 := by omega
          have i5 : (a : Int) ≤ (a : Int) + 64 := by omega
          have i6 : (0 : Int) ≤ (a : Int) + 64 := by omega
          go_wp2
          refine wp_region_still_tail 5 (by kernel_rfl) (by kernel_rfl) ?_
          simp only [List.take_succ_cons, List.take_zero, List.drop_succ_cons, List.drop_zero]
          repeat still_step
          clear i1 i2 i3 i4 i5 i6
          refine wpStill_nil ?_
          change wpList _ _ _ _ _ wr.drew
          have hmx := mix_agg T (some ⟨g5, a, none⟩) (128 - a) ((l.drop a).take 64) wr.drew (blk_rpAt HK.out a 64) ((HLB.out.drop _).take _) (by have := HLL.out; rw [List.length_take, List.length_drop]; omega) (by omega) (HT.out.below (below_drewN HBL.out 1))
          obtain ⟨M, hM⟩ : ∃ M, M = mixS T ((l.drop a).take 64) := ⟨_, rfl⟩
          rw [← hM] at hmx
          have HMM : Hid (M = mixN St0 (padded b) (n / 64 + (t + 1))) := by
            show _ = mixS (mixN St0 (padded b) (n / 64 + t)) (((padded b).drop (64 * (n / 64 + t))).take 64)
            have h1 := HN.out
            have h2 := HA.out
            have h3 := HLJ.out
            have h4 := HPS.out
            rw [HMN.out] at h3
            rw [hM, HTT.out, h2]
            subst h1
            rw [blk_end b l 64 t h4 (by omega) (by omega) (by omega) HLL.out h3]
          have HMX := hid hmx
          clear hmx hM
          go_wp2_with fail
          refine HMX.out.mono ?_
          rintro e w3 ⟨rfl, hb3⟩
          have hb3' : Below wr.heap.size wr w3 := (below_drewN (Below.refl _ wr) 1).trans hb3
          have HB3 := hid hb3'
          have hk3 : Blk w3 (w.heap.size + 1) 41 (stC T) := HBK.out.same (hb3'.block _ HBK.out.lt)
          have HK3 := hid hk3
          clear hb3 hb3' hk3
          go_wp2_with (refine wpList_store_row rfl 41 (.tmp 3) (.tmp 36) rfl (w.heap.size + 1) (stC M) rfl rfl 41 (stC T) HK3.out HI8.out rfl (stC_all _) ?_)
          refine ⟨⟨t + 1, a + 64, by go_num, by omega, ?_, ?_, ?_, ?_, ?_⟩, by simp [intOf]; omega⟩
          · show _ = _
            have := HA.out
            omega
          · show Blk _ _ _ _
            rw [← HMM.out]
            exact HK3.out.row _
          · exact (HK.out.same (HB3.out.block _ HK.out.lt)).rowFar (by omega) _
          · exact (HBZ.out.same (HB3.out.block _ HBZ.out.lt)).rowFar (by omega) _
          · exact below_setRow (HBL.out.trans (HB3.out.mono HBL.out.size)) (by omega) _
        · have ht : T = mixN St0 (padded b) (b.length / 64 + 64 / 64) := by
            have h1 := HN.out
            have h2 := HA.out
            rw [HTT.out, h1, show t = 64 / 64 by omega]
          have HRT : Hid (R = joinS T) := by show _ = _; rw [HRE.out, ht]
          have HI32 : Hid ((Tryd.prog.info? 25).map (·.size) = some (u8s (joinS T)).toArray.size) := by
            show _ = _
            rw [List.size_toArray, u8s_length, show (joinS T).length = 32 by simp [joinS]]; kernel_rfl
          have HZ32 : Hid (Z.size = (u8s (joinS T)).toArray.size) := by
            show _ = _
            rw [HZ.out, List.size_toArray, List.size_toArray, u8s_length, u8s_length, show (joinS T).length = 32 by simp [joinS]]; simp
          clear ht
          go_wp2_with fail
          refine (joined_agg T wr).mono ?_
          rintro e w3 ⟨rfl, hb3⟩
          have HB3 := hid hb3
          have HBZ3 := hid (HBZ.out.same (hb3.block _ HBZ.out.lt))
          clear hb3
          go_wp2_with (refine wpList_store_row rfl 25 (.tmp 2) (.tmp 38) rfl w.heap.size (u8s (joinS T)).toArray rfl rfl 25 Z HBZ3.out HI32.out HZ32.out (u8s_all _) ?_)
          try go_frame
          refine bodyPost_ret (results_cell_row Tryd.results9 _ _ w.heap.size 25 (u8s (joinS T)).toArray (0, 0) _ rfl (HBZ3.out.row _) Tryd.underlying25 rfl HI32.out) rfl ?_
          rw [HRT.out]
          exact ⟨rfl, below_setRow (HBL.out.trans (HB3.out.mono HBL.out.size)) (Nat.le_refl _) _⟩

set_option maxRecDepth 5000 in
set_option maxHeartbeats 600000 in
theorem sum_128 (A : Option Addr) (c : Nat) (b : List Int) (w : World) (hr : Rp w none A b) (hb : Bs b) (hl : b.length < 1000000000000) (hc : b.length ≤ c) (ht : Tab w) (hs : 64 < b.length % 64 + 9) :
    Calls Tryd.prog 9 #[.slice A b.length c] w fun e w' => e = .returned (hashV (sum b)) ∧ Below w.heap.size w w' := by
  obtain ⟨Z, HZ, hZ0, hZs⟩ := zero_Hash
  obtain ⟨Z2, HZ2, hZ20, hZ2s⟩ := zero_A128
  have hps := padLen_hi b.length hs
  obtain ⟨R, hR⟩ : ∃ R, R = sum b := ⟨_, rfl⟩
  have HRE : Hid (R = joinS (mixN St0 (padded b) (b.length / 64 + 128 / 64))) := by show _ = _; rw [hR]; exact sum_eq b 128 hps (by decide)
  rw [← hR]
  obtain ⟨n, hn⟩ : ∃ n, n = b.length := ⟨_, rfl⟩
  rw [← hn] at hl hc hs hps ⊢
  have HN := hid hn; have HR := hid hr; have HB := hid hb; have HT := hid ht; have HPS := hid hps
  have HI8 : Hid ((Tryd.prog.info? 41).map (·.size) = some 8) := by show _ = _; kernel_rfl
  clear hr hb ht hn hR hps
  go_enter Tryd.func9, Tryd.ntmps9
  go_wp2
  have hst : stC St0 = #[.int .u32 1779033703, .int .u32 3144134277, .int .u32 1013904242, .int .u32 2773480762, .int .u32 1359893119, .int .u32 2600822924, .int .u32 528734635, .int .u32 1541459225] := by kernel_rfl
  have hK1 : Blk ((w.alloc (.cells Z 25)).alloc (.cells #[.int .u32 1779033703, .int .u32 3144134277, .int .u32 1013904242, .int .u32 2773480762, .int .u32 1359893119, .int .u32 2600822924, .int .u32 528734635, .int .u32 1541459225] 41)) w.heap.size 25 Z := (Blk.new w 25 Z).alloc _
  have hK2 : Blk ((w.alloc (.cells Z 25)).alloc (.cells #[.int .u32 1779033703, .int .u32 3144134277, .int .u32 1013904242, .int .u32 2773480762, .int .u32 1359893119, .int .u32 2600822924, .int .u32 528734635, .int .u32 1541459225] 41)) (w.heap.size + 1) 41 (stC St0) := by
    have := Blk.new (w.alloc (.cells Z 25)) 41 #[.int .u32 1779033703, .int .u32 3144134277, .int .u32 1013904242, .int .u32 2773480762, .int .u32 1359893119, .int .u32 2600822924, .int .u32 528734635, .int .u32 1541459225]
    rw [show (w.alloc (.cells Z 25)).heap.size = w.heap.size + 1 by simp, ← hst] at this
    rwa [hst] at this ⊢
  have hB0 : Below w.heap.size w ((w.alloc (.cells Z 25)).alloc (.cells #[.int .u32 1779033703, .int .u32 3144134277, .int .u32 1013904242, .int .u32 2773480762, .int .u32 1359893119, .int .u32 2600822924, .int .u32 528734635, .int .u32 1541459225] 41)) := ((Below.refl _ _).alloc (Nat.le_refl _) _).alloc (by simp) _
  have K1 := hid hK1; have K2 := hid hK2; have B0 := hid hB0
  clear hK1 hK2 hB0 hst
  generalize (w.alloc (.cells Z 25)).alloc (.cells #[.int .u32 1779033703, .int .u32 3144134277, .int .u32 1013904242, .int .u32 2773480762, .int .u32 1359893119, .int .u32 2600822924, .int .u32 528734635, .int .u32 1541459225] 41) = w0 at K1 K2 B0 ⊢
  go_loopw [4] (fun v wr => ∃ (m q : Nat) (Ar : Option Addr) (cr : Nat), v = .slice Ar q cr ∧ q ≤ cr ∧ Hid (q = n - 64 * m) ∧ Hid (64 * m ≤ n) ∧ Hid (Rp w none Ar (b.drop (64 * m))) ∧ Hid (Blk wr (w.heap.size + 1) 41 (stC (mixN St0 b m))) ∧ Hid (Blk wr w.heap.size 25 Z) ∧ Hid (Below w.heap.size w wr)) (fun v _ => lenOf v)
  case atStart => exact ⟨0, n, A, c, rfl, hc, rfl, Nat.zero_le _, HR.out, K2.out, K1.out, B0.out⟩
  case round =>
    obtain ⟨m, q, Ar, cr, rfl, hqc, HQ, HM, HRP, HBK, HBZ, HBL⟩ := hrel
    clear K1 K2 B0
    obtain ⟨S, hS⟩ : ∃ S, S = mixN St0 b m := ⟨_, rfl⟩
    rw [← hS] at HBK
    have HS := hid hS
    clear hS
    have c0 : wr.cell? ⟨w.heap.size + 1, 0, none⟩ = some (.int .u32 (u S.a)) := HBK.out.cell 0
    have c1 : wr.cell? ⟨w.heap.size + 1, 1, none⟩ = some (.int .u32 (u S.b)) := HBK.out.cell 1
    have c2 : wr.cell? ⟨w.heap.size + 1, 2, none⟩ = some (.int .u32 (u S.c)) := HBK.out.cell 2
    have c3 : wr.cell? ⟨w.heap.size + 1, 3, none⟩ = some (.int .u32 (u S.d)) := HBK.out.cell 3
    have c4 : wr.cell? ⟨w.heap.size + 1, 4, none⟩ = some (.int .u32 (u S.e)) := HBK.out.cell 4
    have c5 : wr.cell? ⟨w.heap.size + 1, 5, none⟩ = some (.int .u32 (u S.f)) := HBK.out.cell 5
    have c6 : wr.cell? ⟨w.heap.size + 1, 6, none⟩ = some (.int .u32 (u S.g)) := HBK.out.cell 6
    have c7 : wr.cell? ⟨w.heap.size + 1, 7, none⟩ = some (.int .u32 (u S.h)) := HBK.out.cell 7
    by_cases h64 : 64 ≤ q
    · have hcr : 64 ≤ cr := by omega
      have hcri : (64 : Int) ≤ (cr : Int) := by omega
      have HBLK : Hid (((b.drop (64 * m)).take 64).length = 64) := by
        have h1 := HQ.out; have h2 := HN.out
        show _ = _
        rw [List.length_take, List.length_drop]; omega
      have HMX := hid (fun (w1 : World) (hb : Below w.heap.size w w1) => mix_agg S Ar cr ((b.drop (64 * m)).take 64) w1 ((HRP.out.belowN hb).take 64) ((HB.out.drop _).take _) HBLK.out hcr (HT.out.below hb))
      obtain ⟨M, hM⟩ : ∃ M, M = mixS S ((b.drop (64 * m)).take 64) := ⟨_, rfl⟩
      rw [← hM] at HMX
      have HMM := hid hM
      clear hM
      go_wp2
      refine wp_region_still_tail 3 (by kernel_rfl) (by kernel_rfl) ?_
      simp only [List.take_succ_cons, List.take_zero, List.drop_succ_cons, List.drop_zero]
      repeat still_step
      refine wpStill_nil ?_
      change wpList _ _ _ _ _ wr.drew
      go_wp2_with fail
      refine (HMX.out _ (below_drewN HBL.out 1)).mono ?_
      rintro e w1 ⟨rfl, hb1⟩
      have hb1' : Below wr.heap.size wr w1 := (below_drewN (Below.refl _ wr) 1).trans hb1
      have HB1 := hid hb1'
      have hk1 : Blk w1 (w.heap.size + 1) 41 (stC S) := HBK.out.same (hb1'.block _ HBK.out.lt)
      have HK1 := hid hk1
      clear hb1 hb1' hk1
      trace "X"
      go_wp2_with (refine wpList_store_row rfl 41 (.tmp 3) (.tmp 16) rfl (w.heap.size + 1) (stC M) rfl rfl 41 (stC S) HK1.out HI8.out rfl (stC_all _) ?_)
      refine ⟨⟨m + 1, q - 64, (if cr = 64 then Ar else Option.map (fun x => { block := x.block, off := x.off + 64 }) Ar), cr - 64, rfl, by omega, ?_, ?_, ?_, ?_, ?_, ?_⟩, by simp [lenOf]; omega⟩
      · show _ = _
        have := HQ.out
        omega
      · show _ ≤ _
        have := HQ.out
        have := HM.out
        omega
      · show Rp _ _ _ _
        rw [add64_fun, show 64 * (m + 1) = 64 * m + 64 by omega, ← List.drop_drop]
        exact HRP.out.cut (by have := HQ.out; have := HN.out; rw [List.length_drop]; omega)
      · show Blk _ _ _ (stC (mixS (mixN St0 b m) ((b.drop (64 * m)).take 64)))
        rw [← HS.out, ← HMM.out]
        exact HK1.out.row _
      · exact ((HBZ.out.same (HB1.out.block _ HBZ.out.lt)).rowFar (by omega) _)
      · exact below_setRow (HBL.out.trans (HB1.out.mono HBL.out.size)) (by omega) _
    · clear c0 c1 c2 c3 c4 c5 c6 c7
      have hm : m = n / 64 := by have := HQ.out; have := HM.out; omega
      have hdl : (b.drop (64 * m)).length = q := by have := HQ.out; have := HN.out; rw [List.length_drop]; omega
      have hq64 : q = n % 64 := by have := HQ.out; have := HM.out; omega
      have hen := fun (w1 : World) (hb : Below w.heap.size w w1) => ending_128 Ar cr n (b.drop (64 * m)) w1 (HRP.out.belowN hb) (by omega) hl (by omega)
      rw [hdl] at hen
      have HEN := hid hen
      have HMX0 : Hid (S = mixN St0 (padded b) (n / 64)) := by
        have := HN.out
        have h2 := HM.out
        show _ = _
        rw [HS.out, ← hm]
        exact (mixN_pad St0 b m (by omega)).symm
      have HMN := hid hm
      clear hm hdl hq64 hen
      go_wp2_with fail
      refine (HEN.out _ HBL.out).mono ?_
      rintro e w1 ⟨l, rfl, hll, hlj, hb1⟩
      have hlb : Bs l := end_bs _ l _ 128 (HB.out.drop _) hll hlj
      have HBK1 := hid (HBK.out.same (hb1.block _ HBK.out.lt))
      have HBZ1 := hid (HBZ.out.same (hb1.block _ HBZ.out.lt))
      have HBL1 := hid (HBL.out.trans (hb1.mono HBL.out.size))
      have hlt1 : w.heap.size + 1 < w1.heap.size := HBK1.out.lt
      have HLL := hid hll; have HLJ := hid hlj; have HLB := hid hlb
      have HI128 : Hid ((Tryd.prog.info? 43).map (·.size) = some (u8s l).toArray.size) := by
        show _ = _
        rw [List.size_toArray, u8s_length, hll]; kernel_rfl
      have HZ128 : Hid (Z2.size = (u8s l).toArray.size) := by
        show _ = _
        rw [HZ2.out, List.size_toArray, List.size_toArray, u8s_length, u8s_length, hll]; simp
      clear hll hlj hlb hb1
      go_wp2_with (refine wpList_store_row rfl 43 (.tmp 5) (.tmp 24) rfl w1.heap.size (u8s l).toArray rfl rfl 43 Z2 (Blk.new w1 43 Z2) HI128.out HZ128.out (u8s_all l) ?_)
      try go_frame
      go_wp2
      have HK5 : Hid (Blk ((w1.alloc (.cells Z2 43)).setRow w1.heap.size (u8s l).toArray) w1.heap.size 43 (u8s l).toArray) := (Blk.new w1 43 Z2).row _
      have HBK2 : Hid (Blk ((w1.alloc (.cells Z2 43)).setRow w1.heap.size (u8s l).toArray) (w.heap.size + 1) 41 (stC S)) := (HBK1.out.alloc _).rowFar (by omega) _
      have HBZ2 : Hid (Blk ((w1.alloc (.cells Z2 43)).setRow w1.heap.size (u8s l).toArray) w.heap.size 25 Z) := (HBZ1.out.alloc _).rowFar (by omega) _
      have HBL2 : Hid (Below w.heap.size w ((w1.alloc (.cells Z2 43)).setRow w1.heap.size (u8s l).toArray)) := below_setRow (HBL1.out.alloc (by omega) _) (by omega) _
      generalize (w1.alloc (.cells Z2 43)).setRow w1.heap.size (u8s l).toArray = w2 at HK5 HBK2 HBZ2 HBL2 ⊢
      obtain ⟨g5, hg5⟩ : ∃ g5, g5 = w1.heap.size := ⟨_, rfl⟩
      rw [← hg5] at HK5 hlt1 ⊢
      clear hg5 HBK1 HBZ1 HBL1 HBK HBZ HBL
      go_loopw [7] (fun v wr => ∃ (t a : Nat), v = .int .i64 a ∧ a ≤ 128 ∧ Hid (a = 64 * t) ∧ Hid (Blk wr (w.heap.size + 1) 41 (stC (mixN St0 (padded b) (n / 64 + t)))) ∧ Hid (Blk wr g5 43 (u8s l).toArray) ∧ Hid (Blk wr w.heap.size 25 Z) ∧ Hid (Below w.heap.size w wr)) (fun v _ => 128 - (intOf v).toNat)
      case atStart => exact ⟨0, 0, rfl, by omega, rfl, by (show Blk _ _ _ (stC (mixN St0 (padded b) (n / 64))); rw [← HMX0.out]; exact HBK2.out), HK5.out, HBZ2.out, HBL2.out⟩
      case round =>
        obtain ⟨t, a, rfl, ha, HA, HBK, HK, HBZ, HBL⟩ := hrel
        clear HK5 HBK2 HBZ2 HBL2
        obtain ⟨T, hT⟩ : ∃ T, T = mixN St0 (padded b) (n / 64 + t) := ⟨_, rfl⟩
        rw [← hT] at HBK
        have HTT := hid hT
        clear hT
        have c0 : wr.cell? ⟨w.heap.size + 1, 0, none⟩ = some (.int .u32 (u T.a)) := HBK.out.cell 0
        have c1 : wr.cell? ⟨w.heap.size + 1, 1, none⟩ = some (.int .u32 (u T.b)) := HBK.out.cell 1
        have c2 : wr.cell? ⟨w.heap.size + 1, 2, none⟩ = some (.int .u32 (u T.c)) := HBK.out.cell 2
        have c3 : wr.cell? ⟨w.heap.size + 1, 3, none⟩ = some (.int .u32 (u T.d)) := HBK.out.cell 3
        have c4 : wr.cell? ⟨w.heap.size + 1, 4, none⟩ = some (.int .u32 (u T.e)) := HBK.out.cell 4
        have c5 : wr.cell? ⟨w.heap.size + 1, 5, none⟩ = some (.int .u32 (u T.f)) := HBK.out.cell 5
        have c6 : wr.cell? ⟨w.heap.size + 1, 6, none⟩ = some (.int .u32 (u T.g)) := HBK.out.cell 6
        have c7 : wr.cell? ⟨w.heap.size + 1, 7, none⟩ = some (.int .u32 (u T.h)) := HBK.out.cell 7
        by_cases hlt : a < 128
        · have ha64 : a + 64 ≤ 128 := by have := HA.out; omega
          have i1 : (0 : Int) ≤ (a : Int) := by omega
          have i2 : (a : Int) + 64 ≤ 128 := by omega
          have i3 : IntKind.i64.wrap ((a : Int) + 64) = (a : Int) + 64 := IntWalk.i64_in _ (by omega)
          have i4 : ((a : Int) + 64).toNat = a + 64 := by omega
          have i5 : (a : Int) ≤ (a : Int) + 64 := by omega
          have i6 : (0 : Int) ≤ (a : Int) + 64 := by omega
          go_wp2
          refine wp_region_still_tail 5 (by kernel_rfl) (by kernel_rfl) ?_
          simp only [List.take_succ_cons, List.take_zero, List.drop_succ_cons, List.drop_zero]
          repeat still_step
          clear i1 i2 i3 i4 i5 i6
          refine wpStill_nil ?_
          change wpList _ _ _ _ _ wr.drew
          have hmx := mix_agg T (some ⟨g5, a, none⟩) (128 - a) ((l.drop a).take 64) wr.drew (blk_rpAt HK.out a 64) ((HLB.out.drop _).take _) (by have := HLL.out; rw [List.length_take, List.length_drop]; omega) (by omega) (HT.out.below (below_drewN HBL.out 1))
          obtain ⟨M, hM⟩ : ∃ M, M = mixS T ((l.drop a).take 64) := ⟨_, rfl⟩
          rw [← hM] at hmx
          have HMM : Hid (M = mixN St0 (padded b) (n / 64 + (t + 1))) := by
            show _ = mixS (mixN St0 (padded b) (n / 64 + t)) (((padded b).drop (64 * (n / 64 + t))).take 64)
            have h1 := HN.out
            have h2 := HA.out
            have h3 := HLJ.out
            have h4 := HPS.out
            rw [HMN.out] at h3
            rw [hM, HTT.out, h2]
            subst h1
            rw [blk_end b l 128 t h4 (by omega) (by omega) (by omega) HLL.out h3]
          have HMX := hid hmx
          clear hmx hM
          go_wp2_with fail
          refine HMX.out.mono ?_
          rintro e w3 ⟨rfl, hb3⟩
          have hb3' : Below wr.heap.size wr w3 := (below_drewN (Below.refl _ wr) 1).trans hb3
          have HB3 := hid hb3'
          have hk3 : Blk w3 (w.heap.size + 1) 41 (stC T) := HBK.out.same (hb3'.block _ HBK.out.lt)
          have HK3 := hid hk3
          clear hb3 hb3' hk3
          go_wp2_with (refine wpList_store_row rfl 41 (.tmp 3) (.tmp 36) rfl (w.heap.size + 1) (stC M) rfl rfl 41 (stC T) HK3.out HI8.out rfl (stC_all _) ?_)
          refine ⟨⟨t + 1, a + 64, by go_num, by omega, ?_, ?_, ?_, ?_, ?_⟩, by simp [intOf]; omega⟩
          · show _ = _
            have := HA.out
            omega
          · show Blk _ _ _ _
            rw [← HMM.out]
            exact HK3.out.row _
          · exact (HK.out.same (HB3.out.block _ HK.out.lt)).rowFar (by omega) _
          · exact (HBZ.out.same (HB3.out.block _ HBZ.out.lt)).rowFar (by omega) _
          · exact below_setRow (HBL.out.trans (HB3.out.mono HBL.out.size)) (by omega) _
        · have ht : T = mixN St0 (padded b) (b.length / 64 + 128 / 64) := by
            have h1 := HN.out
            have h2 := HA.out
            rw [HTT.out, h1, show t = 128 / 64 by omega]
          have HRT : Hid (R = joinS T) := by show _ = _; rw [HRE.out, ht]
          have HI32 : Hid ((Tryd.prog.info? 25).map (·.size) = some (u8s (joinS T)).toArray.size) := by
            show _ = _
            rw [List.size_toArray, u8s_length, show (joinS T).length = 32 by simp [joinS]]; kernel_rfl
          have HZ32 : Hid (Z.size = (u8s (joinS T)).toArray.size) := by
            show _ = _
            rw [HZ.out, List.size_toArray, List.size_toArray, u8s_length, u8s_length, show (joinS T).length = 32 by simp [joinS]]; simp
          clear ht
          go_wp2_with fail
          refine (joined_agg T wr).mono ?_
          rintro e w3 ⟨rfl, hb3⟩
          have HB3 := hid hb3
          have HBZ3 := hid (HBZ.out.same (hb3.block _ HBZ.out.lt))
          clear hb3
          go_wp2_with (refine wpList_store_row rfl 25 (.tmp 2) (.tmp 38) rfl w.heap.size (u8s (joinS T)).toArray rfl rfl 25 Z HBZ3.out HI32.out HZ32.out (u8s_all _) ?_)
          try go_frame
          refine bodyPost_ret (results_cell_row Tryd.results9 _ _ w.heap.size 25 (u8s (joinS T)).toArray (0, 0) _ rfl (HBZ3.out.row _) Tryd.underlying25 rfl HI32.out) rfl ?_
          rw [HRT.out]
          exact ⟨rfl, below_setRow (HBL.out.trans (HB3.out.mono HBL.out.size)) (Nat.le_refl _) _⟩

theorem Sum_any (A : Option Addr) (c : Nat) (b : List Int) (w : World) (hr : Rp w none A b) (hb : Bs b) (hl : b.length < 1000000000000) (hc : b.length ≤ c) (ht : Tab w) :
    Calls Tryd.prog 9 #[.slice A b.length c] w fun e w' => e = .returned (hashV (sum b)) ∧ Below w.heap.size w w' := by
  by_cases hs : b.length % 64 + 9 ≤ 64
  · exact sum_64 A c b w hr hb hl hc ht hs
  · exact sum_128 A c b w hr hb hl hc ht (by omega)
end Go.Proofs.YtpponjmhgfikiaaDoor
