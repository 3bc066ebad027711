/-
  What is proved here: the document's own hash of all bytes.
-/
import Derived.Test.YtpponjmhgfikiaaDoorRTk
import Derived.Test.YtpponjmhgfikiaaDoorPadded
namespace Go.Proofs.YtpponjmhgfikiaaDoor
open Go.ChangeShapes Go.WideShapes Go.ChangeAt Go.RowKit
set_option linter.unusedVariables false

theorem info_A8 (s : St) : (Tryd.prog.info? 41).map (·.size) = some (stC s).size := by
  show _ = some 8
  kernel_rfl
theorem zero_A8 : ∃ Z : Array Value, Hid (Z.size = 8) ∧ (¬ Z = #[]) ∧ ∀ w : World, Sem.run Tryd.prog (zeroValue 41) w = Result.ok (.agg Z) w := by
  refine ⟨(List.replicate 8 (.int .u32 0)).toArray, ?_, ?_, fun w => by kernel_rfl⟩
  · show _ = _
    simp
  · intro h
    have := congrArg Array.size h
    simp at this

set_option maxRecDepth 100000 in
set_option maxHeartbeats 1000000 in
theorem Start_any (w : World) : Calls Tryd.prog 23 #[] w fun e w' => e = .returned (.agg (stC St0)) ∧ Below w.heap.size w w' := by
  obtain ⟨Z, HZ, hZ0, hZs⟩ := zero_A8
  have HI := hid (info_A8 St0)
  go_enter Tryd.func23, Tryd.ntmps23
  go_wp2_with (first
    | (refine wpList_buildC rfl 41 _ rfl (stC St0) ?hc ?_)
    | (refine wpList_store_row rfl 41 (.tmp 0) (.tmp 1) rfl w.heap.size (stC St0) rfl rfl 41 Z (Blk.new w 41 Z) HI.out HZ.out (stC_all _) ?_))
  case hc => kernel_rfl
  try go_frame
  refine bodyPost_ret (results_cell_row Tryd.results23 _ _ w.heap.size 41 (stC St0) (0, 0) _ rfl ((Blk.new w 41 Z).row _) Tryd.underlying41 rfl HI.out) rfl ?_
  exact ⟨rfl, below_setRow ((Below.refl _ _).alloc (Nat.le_refl _) _) (Nat.le_refl _) _⟩

theorem cur_rp {w : World} {g : Nat} {cur : Array Value} {l : List Int} (h : Blk w g 5 cur) (hc : ∀ j, j < l.length → cur[j]? = some (.int .u8 (l[j]?.getD 0))) (a k : Nat) : Rp w none (some ⟨g, a, none⟩) ((l.drop a).take k) := fun _ =>
  ⟨_, rfl, (fun ⟨a, e, _⟩ => by cases e), fun j hj => by
    rw [List.length_take, List.length_drop] at hj
    rw [Addr.add_lit, h.cell, hc _ (by omega), List.getElem?_take, if_pos (by omega), List.getElem?_drop]⟩
theorem byte_pow (x : W32) (i : Nat) : u x / 2 ^ (24 - 8 * (i % 4)) % 256 = u x / 256 ^ (3 - i % 4) % 256 := by
  have h : i % 4 = 0 ∨ i % 4 = 1 ∨ i % 4 = 2 ∨ i % 4 = 3 := by omega
  rcases h with h | h | h | h <;> rw [h] <;> rfl

set_option maxRecDepth 5000 in
set_option maxHeartbeats 4000000 in
theorem RSum_any (A : Option Addr) (c : Nat) (b : List Int) (w : World) (hr : Rp w none A b) (hb : Bs b) (hl : b.length < 1000000000) :
    Calls Tryd.prog 10 #[.slice A b.length c] w fun e w' => e = .returned (hashV (sum b)) ∧ Below w.heap.size w w' := by
  obtain ⟨Z, HZ, hZ0, hZs⟩ := zero_Hash
  obtain ⟨Z8, HZ8, hZ80, hZ8s⟩ := zero_A8
  obtain ⟨P, hP⟩ : ∃ P, P = (padded b).length := ⟨_, rfl⟩
  have hPM : P % 64 = 0 := by rw [hP, padded_length]; unfold padLen; omega
  have hPl : P ≤ 1000000200 := by rw [hP, padded_length]; unfold padLen; omega
  have hP64 : 64 ≤ P := by rw [hP, padded_length]; unfold padLen; omega
  have HPB := hid (padded_bs b hb)
  have HRE : Hid (sum b = joinS (mixN St0 (padded b) (P / 64))) := by show _ = _; rw [hP]; rfl
  have HPD := hid (fun (wx : World) (hbx : Below w.heap.size w wx) => Padded_any A c b wx (hr.belowN hbx) hl)
  rw [← hP] at HPD
  have HP := hid hP
  have HI := hid (info_A8 St0)
  obtain ⟨n, hn⟩ : ∃ n, n = b.length := ⟨_, rfl⟩
  rw [← hn] at HPD ⊢
  obtain ⟨R, hR⟩ : ∃ R, R = sum b := ⟨_, rfl⟩
  rw [← hR] at HRE ⊢
  have B0 : Hid (Below w.heap.size w (w.alloc (.cells Z 25))) := (Below.refl _ _).alloc (Nat.le_refl _) _
  have KZ0 : Hid (Blk (w.alloc (.cells Z 25)) w.heap.size 25 Z) := Blk.new w 25 Z
  clear hr hb hl hP hn hR
  go_enter Tryd.func10, Tryd.ntmps10
  go_wp2_with fail
  refine (Start_any _).mono ?_
  rintro e w1 ⟨rfl, hb1⟩
  have B1 : Hid (Below w.heap.size w ((w1.alloc (.cells Z8 41)).setRow w1.heap.size (stC St0))) := below_setRow ((B0.out.trans (hb1.mono B0.out.size)).alloc (Nat.le_trans B0.out.size hb1.size) _) (Nat.le_trans B0.out.size hb1.size) _
  have hlt1 : w.heap.size < w1.heap.size := Nat.lt_of_lt_of_le KZ0.out.lt hb1.size
  have KZ1 : Hid (Blk ((w1.alloc (.cells Z8 41)).setRow w1.heap.size (stC St0)) w.heap.size 25 Z) := ((KZ0.out.same (hb1.block _ KZ0.out.lt)).alloc _).rowFar (by omega) _
  have K31 : Hid (Blk ((w1.alloc (.cells Z8 41)).setRow w1.heap.size (stC St0)) w1.heap.size 41 (stC St0)) := (Blk.new w1 41 Z8).row _
  clear hb1 B0 KZ0
  go_wp2_with (refine wpList_store_row rfl 41 (.tmp 3) (.tmp 8) rfl w1.heap.size (stC St0) rfl rfl 41 Z8 (Blk.new w1 41 Z8) HI.out HZ8.out (stC_all _) ?_)
  obtain ⟨g3, hg3⟩ : ∃ g3, g3 = w1.heap.size := ⟨_, rfl⟩
  refine (HPD.out _ B1.out).mono ?_
  rintro e w2 ⟨A2, cp, rfl, hcp, hf2, hb2⟩
  obtain ⟨gp, cur, rfl, hgp, hbk, hcur⟩ := hf2 (by have := HP.out; omega)
  have B2 := hid (B1.out.trans (hb2.mono B1.out.size))
  have KZ2 := hid (KZ1.out.same (hb2.block _ KZ1.out.lt))
  have K32 := hid (K31.out.same (hb2.block _ K31.out.lt))
  have hgp3 : w1.heap.size < gp := by simp at hgp; omega
  rw [← hg3] at K32 hlt1 hgp3 ⊢
  have HBK := hid hbk; have HCU := hid hcur
  clear hb2 hf2 hbk hcur hgp hg3 B1 KZ1 K31
  go_wp2
  go_loopw [5] (fun v wr => ∃ (t a : Nat), v = .int .i64 a ∧ a ≤ P ∧ Hid (a = 64 * t) ∧ Hid (Blk wr g3 41 (stC (mixN St0 (padded b) t))) ∧ Hid (Blk wr gp 5 cur) ∧ Hid (Blk wr w.heap.size 25 Z) ∧ Hid (Below w.heap.size w wr)) (fun v _ => P - (intOf v).toNat)
  case atStart => exact ⟨0, 0, rfl, by omega, rfl, K32.out, HBK.out, KZ2.out, B2.out⟩
  case round =>
    obtain ⟨t, a, rfl, ha, HA, HK3, HKP, HKZ, HBL⟩ := hrel
    clear K32 HBK KZ2 B2
    obtain ⟨T, hT⟩ : ∃ T, T = mixN St0 (padded b) t := ⟨_, rfl⟩
    rw [← hT] at HK3
    have HTT := hid hT
    clear hT
    by_cases hlt : a < P
    · have ha64 : a + 64 ≤ P := by have := HA.out; omega
      have c0 : wr.cell? ⟨g3, 0, none⟩ = some (.int .u32 (u T.a)) := HK3.out.cell 0
      have c1 : wr.cell? ⟨g3, 1, none⟩ = some (.int .u32 (u T.b)) := HK3.out.cell 1
      have c2 : wr.cell? ⟨g3, 2, none⟩ = some (.int .u32 (u T.c)) := HK3.out.cell 2
      have c3 : wr.cell? ⟨g3, 3, none⟩ = some (.int .u32 (u T.d)) := HK3.out.cell 3
      have c4 : wr.cell? ⟨g3, 4, none⟩ = some (.int .u32 (u T.e)) := HK3.out.cell 4
      have c5 : wr.cell? ⟨g3, 5, none⟩ = some (.int .u32 (u T.f)) := HK3.out.cell 5
      have c6 : wr.cell? ⟨g3, 6, none⟩ = some (.int .u32 (u T.g)) := HK3.out.cell 6
      have c7 : wr.cell? ⟨g3, 7, none⟩ = some (.int .u32 (u T.h)) := HK3.out.cell 7
      have i1 : (0 : Int) ≤ (a : Int) := by omega
      have i2 : (a : Int) + 64 ≤ (cp : Int) := by omega
      have i3 : IntKind.i64.wrap ((a : Int) + 64) = (a : Int) + 64 := IntWalk.i64_in _ (by omega)
      have i4 : ((a : Int) + 64).toNat = a + 64 := by omega
      have i5 : (a : Int) ≤ (a : Int) + 64 := by omega
      have i6 : (0 : Int) ≤ (a : Int) + 64 := by omega
      have i7 : ¬ cp = a := by omega
      have HCA : Hid (64 ≤ cp - a) := by show _ ≤ _; omega
      go_wp2
      refine wp_region_still_tail 6 (by kernel_rfl) (by kernel_rfl) ?_
      simp only [List.take_succ_cons, List.take_zero, List.drop_succ_cons, List.drop_zero]
      repeat still_step
      clear i1 i2 i3 i4 i5 i6
      refine wpStill_nil ?_
      change wpList _ _ _ _ _ wr.drew
      have hmx := rtk_any T (some ⟨gp, a, none⟩) (cp - a) (((padded b).drop a).take 64) wr.drew (cur_rp HKP.out (fun j hj => HCU.out j (by have := HP.out; omega)) a 64) ((HPB.out.drop _).take _) (by have := HP.out; rw [List.length_take, List.length_drop]; omega) HCA.out
      obtain ⟨M, hM⟩ : ∃ M, M = mixS T (((padded b).drop a).take 64) := ⟨_, rfl⟩
      rw [← hM] at hmx
      have HMM : Hid (M = mixN St0 (padded b) (t + 1)) := by
        show _ = mixS (mixN St0 (padded b) t) (((padded b).drop (64 * t)).take 64)
        rw [hM, HTT.out, HA.out]
      have HMX := hid hmx
      have HIM := hid (info_A8 M)
      clear hmx hM
      go_wp2_with fail
      refine HMX.out.mono ?_
      rintro e w3 ⟨rfl, hb3⟩
      have hb3' : Below wr.heap.size wr w3 := (below_drewN (Below.refl _ wr) 1).trans hb3
      have HB3 := hid hb3'
      have hk3 : Blk w3 g3 41 (stC T) := HK3.out.same (hb3'.block _ HK3.out.lt)
      have HK33 := hid hk3
      clear hb3 hb3' hk3
      go_wp2_with (refine wpList_store_row rfl 41 (.tmp 3) (.tmp 23) rfl g3 (stC M) rfl rfl 41 (stC T) HK33.out HIM.out rfl (stC_all _) ?_)
      refine ⟨⟨t + 1, a + 64, by go_num, by omega, ?_, ?_, ?_, ?_, ?_⟩, by simp [intOf]; omega⟩
      · show _ = _
        have := HA.out
        omega
      · show Blk _ _ _ _
        rw [← HMM.out]
        exact HK33.out.row _
      · exact (HKP.out.same (HB3.out.block _ HKP.out.lt)).rowFar (by omega) _
      · exact (HKZ.out.same (HB3.out.block _ HKZ.out.lt)).rowFar (by omega) _
      · exact below_setRow (HBL.out.trans (HB3.out.mono HBL.out.size)) (by omega) _
    · have HRT : Hid (R = joinS T) := by
        show _ = _
        have := HA.out
        rw [HRE.out, HTT.out, show t = P / 64 by omega]
      have hsz : wr.heap.size = wr.heap.size := rfl
      obtain ⟨wo, rfl⟩ : ∃ wo : World, wo = wr := ⟨_, rfl⟩
      have KO : Hid (Blk (wo.alloc (.cells Z 25)) wo.heap.size 25 (u8s (List.replicate 32 0)).toArray) := by rw [← HZ.out]; exact Blk.new wo 25 Z
      have K3' : Hid (Blk (wo.alloc (.cells Z 25)) g3 41 (w32s T.list)) := HK3.out.alloc _
      have KZ' : Hid (Blk (wo.alloc (.cells Z 25)) w.heap.size 25 Z) := HKZ.out.alloc _
      have BL' : Hid (Below w.heap.size w (wo.alloc (.cells Z 25))) := HBL.out.alloc HBL.out.size _
      have hg3o : g3 < wo.heap.size := HK3.out.lt
      have hwo : w.heap.size < wo.heap.size := HKZ.out.lt
      clear HK3 HKP HKZ HBL hsz
      go_wp2
      obtain ⟨go, hgo⟩ : ∃ go, go = wo.heap.size := ⟨_, rfl⟩
      rw [← hgo] at KO hg3o hwo ⊢
      clear hgo
      generalize wo.alloc (.cells Z 25) = w4 at KO K3' KZ' BL' ⊢
      go_loopw [7] (fun v wr => ∃ (k : Nat) (l : List Int), v = .int .i64 k ∧ k ≤ 32 ∧ Hid (l.length = 32) ∧ Hid (∀ j, j < k → l[j]? = (joinS T)[j]?) ∧ Hid (Blk wr go 25 (u8s l).toArray) ∧ Hid (Blk wr g3 41 (w32s T.list)) ∧ Hid (Blk wr w.heap.size 25 Z) ∧ Hid (Below w.heap.size w wr)) (fun v _ => 32 - (intOf v).toNat)
      case atStart => exact ⟨0, List.replicate 32 0, rfl, by omega, by (show _ = _; simp), fun j hj => by omega, KO.out, K3'.out, KZ'.out, BL'.out⟩
      case round =>
        obtain ⟨k, l, rfl, hk, HLL, HLJ, HKO, HK3, HKZ, HBL⟩ := hrel
        clear KO K3' KZ' BL'
        by_cases hlt2 : k < 32
        · have ck : wr.cell? ⟨go, k, none⟩ = some (.int .u8 (l[k]?.getD 0)) := by rw [HKO.out.cell]; exact u8s_at l k (by have := HLL.out; omega)
          have fk : wr.frozen? ⟨go, k, none⟩ = false := HKO.out.frozen k
          have c3 : wr.cell? ⟨g3, k / 4, none⟩ = some (.int .u32 (u (T.list[k / 4]?.getD 0))) := by rw [HK3.out.cell]; exact w32s_get _ _ (by show k / 4 < 8; omega)
          obtain ⟨x, hx⟩ : ∃ x, x = T.list[k / 4]?.getD 0 := ⟨_, rfl⟩
          rw [← hx] at c3
          have HX := hid hx
          clear hx
          go_wp2
          have g1 := HKO.out.setd k (.int .u8 (u x / 2 ^ (24 - 8 * (k % 4)) % 256))
          rw [u8s_set] at g1
          refine ⟨⟨k + 1, l.set k (u x / 2 ^ (24 - 8 * (k % 4)) % 256), by go_num, by omega, by (show _ = _; simp [HLL.out]), fun j hj => ?_, g1, HK3.out.far (by simp; omega) _, HKZ.out.far (by simp; omega) _, HBL.out.setCell (by simp; omega) _⟩, by simp [intOf]; omega⟩
          by_cases hjk : j = k
          · subst hjk
            rw [List.getElem?_set_self (by have := HLL.out; omega), join_get T j hlt2, byte_pow, HX.out]
          · rw [List.getElem?_set_ne (by omega)]
            exact HLJ.out j (by omega)
        · have hfin : l = joinS T := by
            have hll := HLL.out
            apply List.ext_getElem?
            intro j
            rcases Nat.lt_or_ge j 32 with h | h
            · exact HLJ.out j (by omega)
            · rw [List.getElem?_eq_none (by omega), List.getElem?_eq_none (by simp [joinS]; omega)]
          have hi32 : Hid ((Tryd.prog.info? 25).map (·.size) = some (u8s l).toArray.size) := info_hash l HLL.out
          have hz32 : Hid (Z.size = (u8s l).toArray.size) := by
            show _ = _
            rw [HZ.out, List.size_toArray, List.size_toArray, u8s_length, u8s_length, HLL.out]; simp
          have HF := hid hfin
          clear hfin
          go_wp2_with (first
            | (refine wpList_load_row rfl 25 (.tmp 6) rfl go rfl 25 (u8s l).toArray (0, 0) _ HKO.out Tryd.underlying25 rfl hi32.out ?_)
            | (refine wpList_store_row rfl 25 (.tmp 2) (.tmp 41) rfl w.heap.size (u8s l).toArray rfl rfl 25 Z HKZ.out hi32.out hz32.out (u8s_all l) ?_))
          try go_frame
          refine bodyPost_ret (results_cell_row Tryd.results10 _ _ w.heap.size 25 (u8s l).toArray (0, 0) _ rfl (HKZ.out.row _) Tryd.underlying25 rfl hi32.out) rfl ?_
          rw [HRT.out, ← HF.out]
          exact ⟨rfl, below_setRow HBL.out (Nat.le_refl _) _⟩
end Go.Proofs.YtpponjmhgfikiaaDoor
