/-
  What is proved here: a page to which no write waits is behind a restart as it was.
-/
import Derived.Test.YthdnpakppjipfaaDyM
import Derived.Test.YthdnpakppjipfaaDvNil
import Derived.Deep.DeepCutAuto
import Derived.Deep.RegionLaw
namespace Go.Proofs.Ythdnpakppjipfaa
open Go.ChangeShapes Go.WideShapes Go.ChangeAt Go.RowKit
set_option linter.unusedVariables false
set_option linter.unusedSimpArgs false
set_option maxRecDepth 20000

set_option maxHeartbeats 16000000 in
theorem dstays_80 (A1 : Option Addr) (n1 d1 : Nat) (ol : List Oq) (A2 : Option Addr) (n2 d2 : Nat) (l2 : List Int) (w : World) (hin : InOps w A1 n1 ol) (hil : InIs w A2 n2 l2) (h80 : n1 ≤ 80) (hsm : Small ol ol.length) (h200 : n2 ≤ 200)
    (CF : Hid (∀ w', Below w.heap.size w w' → Calls Try.prog 9 #[.slice A1 n1 d1, .int .i64 80] w' fun e w2 => e = .returned (.bool true) ∧ w' = w2)) :
    Calls Try.prog 4 #[.slice A1 n1 d1, .slice A2 n2 d2] w fun e w' => e = .returned (.bool true) ∧ Below w.heap.size w w' := by
  obtain ⟨hl2, _, hip⟩ := hil
  obtain ⟨n0, hn0⟩ : ∃ n0, n0 = w.heap.size := ⟨_, rfl⟩
  have HN0 := hid hn0
  have HOPS := hid hin; have HL2 := hid hl2; have HIP := hid hip; have H80 := hid h80; have HSM := hid hsm; have H200 := hid h200
  have HOL : Hid (ol.length = n1) := hin.1
  have hn1 : (n1 : Int) ≤ 80 := by omega
  have hn2 : (n2 : Int) ≤ 200 := by omega
  rw [← hn0]
  clear hin hl2 hip h80 hsm h200 hn0
  have hbt : Try.prog.built 46 [] = some (wsC (List.replicate 12 false)) := by kernel_rfl
  go_enter Try.func4, Try.ntmps4
  go_wp2_with (first
    | (go_at_call 8; refine (dawake_any _).mono ?_; rintro e w1 ⟨rfl, hb⟩; have B0 := hid hb; have B1 := hid (hb.mono (Nat.le_of_eq HN0.out)); have S1 : Hid (n0 ≤ w1.heap.size) := Nat.le_trans (Nat.le_of_eq HN0.out) hb.size; clear hb)
    | (go_at_call 9; refine (CF.out _ B0.out).mono ?_; rintro e wq ⟨rfl, rfl⟩)
    | (go_at_call 10; refine (Dy.new 12 _ (by decide)).mono ?_; rintro e w3 ⟨b, rfl, hd, hb⟩; have HYX : Hid (∃ R, DAt w3 R b (List.replicate 12 zpg) [] (-1) false ∧ ∀ k, R k → n0 ≤ k ∧ k < w3.heap.size ∧ Ty w3 k) := (by obtain ⟨R, k1, k2⟩ := hd; exact ⟨R, k1, fun k hk => ⟨Nat.le_trans S1.out (k2 k hk).1, (k2 k hk).2⟩⟩); have B3 := hid (B1.out.trans (hb.mono S1.out)); have S3 : Hid (n0 ≤ w3.heap.size) := Nat.le_trans S1.out hb.size; clear hb hd))
  have HY0 : Hid (Dy n0 (w3.alloc (.cells (wsC (List.replicate 12 false)) 46)) b ⟨List.replicate 12 zpg, [], -1, false⟩) := Dy.below (show Dy n0 w3 b ⟨List.replicate 12 zpg, [], -1, false⟩ from HYX.out) ((Below.refl _ _).alloc (Nat.le_refl _) _)
  have HA0 := hid (Blk.new w3 46 (wsC (List.replicate 12 false)))
  have BL0 : Hid (Below n0 w (w3.alloc (.cells (wsC (List.replicate 12 false)) 46))) := B3.out.alloc S3.out _
  change Code.wp _ _ _ _ (w3.alloc (.cells (wsC (List.replicate 12 false)) 46))
  generalize w3.alloc (.cells (wsC (List.replicate 12 false)) 46) = w4 at HY0 HA0 BL0 ⊢
  obtain ⟨ba, hba⟩ : ∃ ba, ba = w3.heap.size := ⟨_, rfl⟩
  have LBA : Hid (n0 ≤ ba) := by show _ ≤ _; rw [hba]; exact S3.out
  rw [← hba] at HA0 ⊢
  clear hba HYX B0 B1 B3 S1 S3
  go_loopw [8] (fun i wr => ∃ (k : Nat) (s : SS) (ws : List Bool), k ≤ n1 ∧ i = .int .i64 k ∧ Hid (StM s ws k) ∧ Hid (Dy n0 wr b s) ∧ Hid (Blk wr ba 46 (wsC ws)) ∧ Hid (Below n0 w wr)) (fun i _ => n1 - (intOf i).toNat)
  case atStart => exact ⟨0, _, _, Nat.zero_le _, rfl, (⟨rfl, rfl, rfl, Nat.le_refl _, rfl, fun q hq => by simp at hq⟩ : StM ⟨List.replicate 12 zpg, [], -1, false⟩ (List.replicate 12 false) 0), HY0.out, HA0.out, BL0.out⟩
  case round =>
    obtain ⟨k, s, ws, hk, rfl, HM, HY, HA, BL⟩ := hrel
    clear HY0 HA0 BL0
    by_cases hlt : k < n1
    · have S4 : Hid (n0 ≤ wr.heap.size) := Nat.le_trans (Nat.le_of_eq HN0.out) BL.out.size
      obtain ⟨g, off, rfl, hg, hat⟩ := opC_at HOPS.out (by omega)
      obtain ⟨o, B, c1, E, d, h1, h2, h3⟩ := hat k hlt
      have hsmo := HSM.out k (by rw [HOL.out]; exact hlt) o h1
      have key : ∀ j v, (opC o B c1 E d)[j]? = some v → wr.cell? ⟨g, off + k * 4 + j, none⟩ = some v := fun j v hv => (BL.out.cell (by rw [HN0.out]; exact hg)).trans (h3 j v hv)
      have z0 : wr.cell? ⟨g, off + k * 4, none⟩ = some (.int .i64 o.k) := key 0 _ rfl
      have z1 : wr.cell? ⟨g, off + k * 4 + 1, none⟩ = some (.int .i64 o.i) := key 1 _ rfl
      have z2 : wr.cell? ⟨g, off + k * 4 + 2, none⟩ = some (.slice B o.b.length c1) := key 2 _ rfl
      have z3 : wr.cell? ⟨g, off + k * 4 + 3, none⟩ = some (.slice E o.l.length d) := key 3 _ rfl
      have CD0 : ∀ w', Below wr.heap.size wr w' → Calls Try.prog 13 #[.pointer (some ⟨b, 0, none⟩), .agg (opV o.k o.i B o.b.length c1 E o.l.length d)] w' (DoA n0 b (s.step o).1 (s.step o).2.1 (s.step o).2.2 w') := fun w' hb =>
        dDo_any (HY.out.below hb) (Nat.le_trans S4.out hb.size) o B E c1 d h2.i ((h2.b.2.2.2.belowN (bel_of BL.out HN0.out)).belowN hb) (fun hx a ha => by rw [HN0.out]; exact rp_lt h2.b.2.2.2 hx a ha) hsmo.1
          ((h2.l.2.2.below (bel_of BL.out HN0.out)).below hb) (fun hx a ha => by rw [HN0.out]; exact ip_lt h2.l.2.2 hx a ha) hsmo.2 (by have := HM.out.2.2.2.1; have := H80.out; omega)
      obtain ⟨m1, hm1⟩ : ∃ m, m = o.b.length := ⟨_, rfl⟩
      obtain ⟨m2, hm2⟩ : ∃ m, m = o.l.length := ⟨_, rfl⟩
      obtain ⟨kd, hkd⟩ : ∃ m, m = o.k := ⟨_, rfl⟩
      obtain ⟨iv, hiv⟩ : ∃ m, m = o.i := ⟨_, rfl⟩
      rw [← hm1] at z2
      rw [← hm2] at z3
      have CD := hid CD0
      rw [← hm1, ← hm2, ← hkd, ← hiv] at CD
      rw [← hiv] at z1
      have HKD := hid hkd; have HIV := hid hiv
      have hk2 : (k : Int) < n1 := by omega
      have hm1b : (m1 : Int) ≤ 300 := by omega
      have hm2b : (m2 : Int) ≤ 200 := by omega
      clear key h1 h2 h3 hat hg hsmo CD0 hm1 hm2 hlt hkd hiv
      by_cases hk3 : o.k = 3
      · have HK3 := hid hk3
        clear hk3
        have z0' : wr.cell? ⟨g, off + k * 4, none⟩ = some (.int .i64 3) := by rw [z0, HK3.out]
        clear z0
        go_wp2
        have hb6 : Below wr.heap.size wr (wr.alloc (.cells (opV 3 iv B m1 c1 E m2 d) 37)) := (Below.refl _ _).alloc (Nat.le_refl _) _
        have HY5 := hid (HY.out.below hb6)
        have HA5 := hid (HA.out.same (hb6.block _ HA.out.lt))
        have BL5 := hid (BL.out.trans (hb6.mono S4.out))
        have HM2 := hid HM.out.more
        clear hb6
        go_roundw
        case rel => exact ⟨k + 1, _, _, by omega, by go_num, HM2.out, HY5.out, HA5.out, BL5.out⟩
        case measure => simp [intOf]; omega
      · have HN3 := hid hk3
        clear hk3
        by_cases hk1 : o.k = 1
        · have HK1 := hid hk1
          clear hk1
          by_cases hr0 : (s.step o).1 = 0
          · have HR0 := hid hr0
            clear hr0
            obtain ⟨j, hij, hj12, hst⟩ := stm_wr HM.out HK1.out HR0.out
            have HM2 := hid hst
            have HIJ := hid hij
            have z0' : wr.cell? ⟨g, off + k * 4, none⟩ = some (.int .i64 1) := by rw [z0, HK1.out]
            have z1' : wr.cell? ⟨g, off + k * 4 + 1, none⟩ = some (.int .i64 (j : Nat)) := by rw [z1, HIV.out, hij]
            have hj2 : (j : Int) < 12 := by omega
            have HJ : Hid (j < 12) := hj12
            rw [HKD.out, HK1.out, HIV.out, hij, HR0.out] at CD
            clear z0 z1 hij hj12 hst
            go_upto_region 11 with (go_at_call 13; refine (CD.out _ ((Below.refl _ _).alloc (Nat.le_refl _) _)).mono ?_; rintro e w5 ⟨X, q, c9, rfl, hq, hrx, hlf⟩; have hbx := hlf.2.1.blk (Blk.new wr 37 (opV 1 (j : Nat) B m1 c1 E m2 d)) (by decide); have y0 : w5.cell? ⟨wr.heap.size, 0, none⟩ = some (.int .i64 1) := hbx.cell 0; have y1 : w5.cell? ⟨wr.heap.size, 1, none⟩ = some (.int .i64 (j : Nat)) := hbx.cell 1; have HLF := hid (hlf.first ((Below.refl _ _).alloc (Nat.le_refl _) _) S4.out); have HBX := hid hbx; clear hq hrx hlf hbx)
            have HY5 := hid HLF.out.1
            have HA5 : Hid (Blk w5 ba 46 (wsC ws)) := HLF.out.2.1.blk HA.out (by decide)
            have BL5 := hid (BL.out.trans HLF.out.2.2)

            have a5 : w5.cell? ⟨ba, j, none⟩ = some (.bool (ws[j]?.getD false)) := by rw [HA5.out.cell]; exact ws_at _ _ (by rw [HM.out.2.2.2.2.1]; exact HJ.out)
            have fa5 := HA5.out.frozen j
            go_upto_region 13 with (fail)
            have HY6 : Hid (Dy n0 (w5.setCell ⟨ba, j, none⟩ (.bool true)) b (s.step o).2.2) := HY5.out.typed (by simp [World.setCell]) (fun i t cs hj ht => other_set _ _ _ _ _ (fun e => ht (by
              subst e
              obtain ⟨rfl, _⟩ := hj.inj HA5.out
              decide)))
            have HA6 : Hid (Blk (w5.setCell ⟨ba, j, none⟩ (.bool true)) ba 46 (wsC (ws.set j true))) := by
              have := HA5.out.setd j (.bool true)
              rwa [ws_set] at this
            have BL6 : Hid (Below n0 w (w5.setCell ⟨ba, j, none⟩ (.bool true))) := BL5.out.setCell LBA.out _
            have y6 : (w5.setCell ⟨ba, j, none⟩ (.bool true)).cell? ⟨wr.heap.size, 0, none⟩ = some (.int .i64 1) := (HBX.out.far (HBX.out.ne HA5.out (by decide)) _).cell 0
            generalize w5.setCell ⟨ba, j, none⟩ (.bool true) = w6 at HY6 HA6 BL6 y6 ⊢
            clear HY5 HA5 BL5 a5 fa5 y0 y1 HBX HLF
            have HY5 := HY6; have HA5 := HA6; have BL5 := BL6
            clear HY6 HA6 BL6
            go_wp2
            go_roundw
            case rel => exact ⟨k + 1, _, _, by omega, by go_num, HM2.out, HY5.out, HA5.out, BL5.out⟩
            case measure => simp [intOf]; omega
          · have HR0 := hid hr0
            clear hr0
            have HM2 := hid (stm_no HM.out HK1.out HR0.out)
            have z0' : wr.cell? ⟨g, off + k * 4, none⟩ = some (.int .i64 1) := by rw [z0, HK1.out]
            obtain ⟨r, hr⟩ : ∃ r, r = (s.step o).1 := ⟨_, rfl⟩
            have hr0 : (r == 0) = false := by rw [hr]; simpa using HR0.out
            rw [HKD.out, HK1.out, ← hr] at CD
            clear z0 hr
            go_upto_region 11 with (go_at_call 13; refine (CD.out _ ((Below.refl _ _).alloc (Nat.le_refl _) _)).mono ?_; rintro e w5 ⟨X, q, c9, rfl, hq, hrx, hlf⟩; have hbx := hlf.2.1.blk (Blk.new wr 37 (opV 1 iv B m1 c1 E m2 d)) (by decide); have y0 : w5.cell? ⟨wr.heap.size, 0, none⟩ = some (.int .i64 1) := hbx.cell 0; have y1 : w5.cell? ⟨wr.heap.size, 1, none⟩ = some (.int .i64 iv) := hbx.cell 1; have HLF := hid (hlf.first ((Below.refl _ _).alloc (Nat.le_refl _) _) S4.out); have HBX := hid hbx; clear hq hrx hlf hbx)
            have HY5 := hid HLF.out.1
            have HA5 : Hid (Blk w5 ba 46 (wsC ws)) := HLF.out.2.1.blk HA.out (by decide)
            have BL5 := hid (BL.out.trans HLF.out.2.2)
            go_wp2
            go_roundw
            case rel => exact ⟨k + 1, _, _, by omega, by go_num, HM2.out, HY5.out, HA5.out, BL5.out⟩
            case measure => simp [intOf]; omega
        · have HN1 := hid hk1
          clear hk1
          by_cases hkk : o.k = 2
          · have HKE := hid hkk
            clear hkk
            have HM2 := hid (stm_clear HM.out (.inl HKE.out))
            have z0' : wr.cell? ⟨g, off + k * 4, none⟩ = some (.int .i64 2) := by rw [z0, HKE.out]
            obtain ⟨r, hr⟩ : ∃ r, r = (s.step o).1 := ⟨_, rfl⟩
            rw [HKD.out, HKE.out, ← hr] at CD
            obtain ⟨ZW, hZW⟩ : ∃ ZW, ZW = wsC (List.replicate 12 false) := ⟨_, rfl⟩
            have HTI : Hid ((Try.prog.info? 46).map (·.size) = some ZW.size) := by show _ = _; rw [hZW]; kernel_rfl
            have HWS : Hid ((wsC ws).size = ZW.size) := by show _ = _; rw [hZW, ws_size, ws_size, HM.out.2.2.2.2.1]; rfl
            have HZO : Hid (ZW.all (·.oneCell') = true) := by show _ = _; rw [hZW]; exact ws_one _
            have HZW := hid hZW
            rw [← hZW] at hbt
            clear hZW
            clear z0 hr
            go_upto_region 11 with (go_at_call 13; refine (CD.out _ ((Below.refl _ _).alloc (Nat.le_refl _) _)).mono ?_; rintro e w5 ⟨X, q, c9, rfl, hq, hrx, hlf⟩; have hbx := hlf.2.1.blk (Blk.new wr 37 (opV 2 iv B m1 c1 E m2 d)) (by decide); have y0 : w5.cell? ⟨wr.heap.size, 0, none⟩ = some (.int .i64 2) := hbx.cell 0; have y1 : w5.cell? ⟨wr.heap.size, 1, none⟩ = some (.int .i64 iv) := hbx.cell 1; have HLF := hid (hlf.first ((Below.refl _ _).alloc (Nat.le_refl _) _) S4.out); have HBX := hid hbx; clear hq hrx hlf hbx)
            have HY5 := hid HLF.out.1
            have HA5 : Hid (Blk w5 ba 46 (wsC ws)) := HLF.out.2.1.blk HA.out (by decide)
            have BL5 := hid (BL.out.trans HLF.out.2.2)
            go_wp2_with (first
              | (refine wpList_build rfl 46 _ rfl (by simp [Act.eval, hbt]) ?_)
              | (refine wpList_store_row rfl 46 (.tmp 7) (.tmp 73) rfl ba ZW rfl (by simp [Act.put, Act.eval, hbt]) 46 (wsC ws) HA5.out HTI.out HWS.out HZO.out ?_))
            have HY6 : Hid (Dy n0 (w5.setRow ba ZW) b (s.step o).2.2) := HY5.out.typed (by simp) (fun j t cs hj ht => setRow_other _ _ _ _ (fun e => ht (by
              subst e
              obtain ⟨rfl, _⟩ := hj.inj HA5.out
              decide)))
            have HA6 : Hid (Blk (w5.setRow ba ZW) ba 46 (wsC (List.replicate 12 false))) := by show Blk _ _ _ _; rw [← HZW.out]; exact HA5.out.row _
            have BL6 : Hid (Below n0 w (w5.setRow ba ZW)) := below_setRow BL5.out LBA.out _
            go_roundw
            case rel => exact ⟨k + 1, _, _, by omega, by go_num, HM2.out, HY6.out, HA6.out, BL6.out⟩
            case measure => simp [intOf]; omega
          · have HN2 := hid hkk
            clear hkk
            by_cases hkk : o.k = 4
            · have HKE := hid hkk
              clear hkk
              have HM2 := hid (stm_clear HM.out (.inr HKE.out))
              have z0' : wr.cell? ⟨g, off + k * 4, none⟩ = some (.int .i64 4) := by rw [z0, HKE.out]
              obtain ⟨r, hr⟩ : ∃ r, r = (s.step o).1 := ⟨_, rfl⟩
              rw [HKD.out, HKE.out, ← hr] at CD
              obtain ⟨ZW, hZW⟩ : ∃ ZW, ZW = wsC (List.replicate 12 false) := ⟨_, rfl⟩
              have HTI : Hid ((Try.prog.info? 46).map (·.size) = some ZW.size) := by show _ = _; rw [hZW]; kernel_rfl
              have HWS : Hid ((wsC ws).size = ZW.size) := by show _ = _; rw [hZW, ws_size, ws_size, HM.out.2.2.2.2.1]; rfl
              have HZO : Hid (ZW.all (·.oneCell') = true) := by show _ = _; rw [hZW]; exact ws_one _
              have HZW := hid hZW
              rw [← hZW] at hbt
              clear hZW
              clear z0 hr
              go_upto_region 11 with (go_at_call 13; refine (CD.out _ ((Below.refl _ _).alloc (Nat.le_refl _) _)).mono ?_; rintro e w5 ⟨X, q, c9, rfl, hq, hrx, hlf⟩; have hbx := hlf.2.1.blk (Blk.new wr 37 (opV 4 iv B m1 c1 E m2 d)) (by decide); have y0 : w5.cell? ⟨wr.heap.size, 0, none⟩ = some (.int .i64 4) := hbx.cell 0; have y1 : w5.cell? ⟨wr.heap.size, 1, none⟩ = some (.int .i64 iv) := hbx.cell 1; have HLF := hid (hlf.first ((Below.refl _ _).alloc (Nat.le_refl _) _) S4.out); have HBX := hid hbx; clear hq hrx hlf hbx)
              have HY5 := hid HLF.out.1
              have HA5 : Hid (Blk w5 ba 46 (wsC ws)) := HLF.out.2.1.blk HA.out (by decide)
              have BL5 := hid (BL.out.trans HLF.out.2.2)
              go_wp2_with (first
                | (refine wpList_build rfl 46 _ rfl (by simp [Act.eval, hbt]) ?_)
                | (refine wpList_store_row rfl 46 (.tmp 7) (.tmp 73) rfl ba ZW rfl (by simp [Act.put, Act.eval, hbt]) 46 (wsC ws) HA5.out HTI.out HWS.out HZO.out ?_))
              have HY6 : Hid (Dy n0 (w5.setRow ba ZW) b (s.step o).2.2) := HY5.out.typed (by simp) (fun j t cs hj ht => setRow_other _ _ _ _ (fun e => ht (by
                subst e
                obtain ⟨rfl, _⟩ := hj.inj HA5.out
                decide)))
              have HA6 : Hid (Blk (w5.setRow ba ZW) ba 46 (wsC (List.replicate 12 false))) := by show Blk _ _ _ _; rw [← HZW.out]; exact HA5.out.row _
              have BL6 : Hid (Below n0 w (w5.setRow ba ZW)) := below_setRow BL5.out LBA.out _
              go_roundw
              case rel => exact ⟨k + 1, _, _, by omega, by go_num, HM2.out, HY6.out, HA6.out, BL6.out⟩
              case measure => simp [intOf]; omega
            · have HN4 := hid hkk
              clear hkk
              rw [← HKD.out] at z0
              have HM2 := hid (stm_else HM.out HN1.out HN2.out HN3.out HN4.out)
              have g1 : (kd == 1) = false := by simpa [HKD.out] using HN1.out
              have g2 : (kd == 2) = false := by simpa [HKD.out] using HN2.out
              have g3 : (kd == 3) = false := by simpa [HKD.out] using HN3.out
              have g4 : (kd == 4) = false := by simpa [HKD.out] using HN4.out
              obtain ⟨r, hr⟩ : ∃ r, r = (s.step o).1 := ⟨_, rfl⟩
              rw [← hr] at CD
              clear hr
              go_upto_region 11 with (go_at_call 13; refine (CD.out _ ((Below.refl _ _).alloc (Nat.le_refl _) _)).mono ?_; rintro e w5 ⟨X, q, c9, rfl, hq, hrx, hlf⟩; have hbx := hlf.2.1.blk (Blk.new wr 37 (opV kd iv B m1 c1 E m2 d)) (by decide); have y0 : w5.cell? ⟨wr.heap.size, 0, none⟩ = some (.int .i64 kd) := hbx.cell 0; have y1 : w5.cell? ⟨wr.heap.size, 1, none⟩ = some (.int .i64 iv) := hbx.cell 1; have HLF := hid (hlf.first ((Below.refl _ _).alloc (Nat.le_refl _) _) S4.out); have HBX := hid hbx; clear hq hrx hlf hbx)
              have HY5 := hid HLF.out.1
              have HA5 : Hid (Blk w5 ba 46 (wsC ws)) := HLF.out.2.1.blk HA.out (by decide)
              have BL5 := hid (BL.out.trans HLF.out.2.2)
              go_wp2
              go_roundw
              case rel => exact ⟨k + 1, _, _, by omega, by go_num, HM2.out, HY5.out, HA5.out, BL5.out⟩
              case measure => simp [intOf]; omega
    · obtain rfl : k = n1 := by omega
      have HQL : Hid (s.Q.length < 1000000) := by show _ < _; have := HM.out.2.2.2.1; have := H80.out; omega
      obtain ⟨P, hP⟩ : ∃ P, P = pg s.L s.Q := ⟨_, rfl⟩
      have HP := hid hP
      have HPL : Hid (P.length = 12) := by show _ = _; rw [hP, pg_length]; exact HM.out.1
      have HPO : Hid (PgOk P) := by show PgOk _; rw [hP]; exact pg_ok _ _ HY.out.ok.1 HY.out.ok.2.1
      have HRD : Hid (∀ j : Nat, j < 12 → s.rd j = (0, P[j]?.getD [])) := fun j hj => by
        have h1 := HM.out.1
        unfold SS.rd
        rw [if_neg (by rw [HM.out.2.2.1]; simp), if_neg (by omega), ← HP.out, Int.toNat_natCast]
      clear hP hn1
      go_upto_region 15 with (fail)
      go_wp2_with (fail)
      go_loopw [12, 13] (fun al i wr => ∃ (j : Nat) (A : Option Addr) (c : Nat), j ≤ 12 ∧ i = .int .i64 j ∧ al = .slice A j c ∧ Hid (AllI n0 w P j A c wr) ∧ Hid (Dy n0 wr b s) ∧ Hid (Blk wr ba 46 (wsC ws)) ∧ Hid (Below n0 w wr)) (fun _ i _ => 12 - (intOf i).toNat)
      case atStart => exact ⟨0, none, 0, Nat.zero_le _, rfl, rfl, ⟨[], ⟨rfl, .inl ⟨rfl, rfl⟩⟩, fun j hj => by omega⟩, HY.out, HA.out, BL.out⟩
      case round =>
        obtain ⟨j, A3, c3, hj, rfl, rfl, HAL, HY3, HA3, BL3⟩ := hrel
        clear HY HA BL
        by_cases hj12 : j < 12
        · have hj2 : (j : Int) < 12 := by omega
          have S4 : Hid (n0 ≤ wr.heap.size) := Nat.le_trans (Nat.le_of_eq HN0.out) BL3.out.size
          have CR : Hid (Calls Try.prog 18 #[.pointer (some ⟨b, 0, none⟩), .int .i64 j] wr (RdAns (P[j]?.getD []) 0 wr)) := by
            have := dr_any HY3.out (j : Int)
            rwa [HRD.out j hj12] at this
          obtain ⟨XS, hXS⟩ : ∃ XS, XS = P[j]?.getD [] := ⟨_, rfl⟩
          have HXS := hid hXS
          have HXL : Hid (XS.length = 128) := by show _ = _; rw [hXS]; exact HPO.out.at (by rw [HPL.out]; exact hj12)
          rw [← hXS] at CR
          obtain ⟨rows, hro, hrj⟩ := HAL.out
          have HRO := hid hro; have HRJ := hid hrj
          have HJ12 := hid hj12
          obtain ⟨i0, hi, hz0, hz1, hz2⟩ := info_parts info_row1
          clear hXS hro hrj hj12 HAL
          go_upto_region 18 with (first
            | (go_at_call 18; refine CR.out.mono ?_; rintro e w5 ⟨X, q, c5, rfl, hq, hf, hb⟩; obtain rfl : q = 128 := hq.trans HXL.out; have HF := hid hf; have HB5 := hid hb; have RO5 := hid (own_below HRO.out hb); clear hf hb hq)
            | (at_builtin; refine wpList_append_own _ rfl (.tmp 84) (.tmp 86) 40 rfl n0 32 i0 (.slice none 0 0) 1 24 Try.underlying40 hi hz0 hz1 hz2 rfl (by decide) (.slice A3 j c3) j rows rfl (RO5.out.alloc _) ⟨w5.heap.size, 0, none⟩ 1 1 [.slice X 128 c5] rfl rfl (one_row _ _) (fun u hu => by rw [List.mem_singleton.1 hu]; rfl) (by have := HJ12.out; unfold maxLen; omega) (by have := HJ12.out; omega) (Nat.le_trans (Nat.le_trans S4.out HB5.out.size) (by simp)) ?_; intro v9 w9 ow9 gr9 _; obtain ⟨A9, c9, rfl⟩ := slice_of ow9; have OW9 := hid ow9; have GR9 := hid gr9; clear ow9 gr9))
          have B8 : Below w5.heap.size w5 (w5.alloc (.cells #[.slice X 128 c5] 32)) := (Below.refl _ _).alloc (Nat.le_refl _) _
          have OWA : Hid ((w5.alloc (.cells #[.slice X 128 c5] 32)).ownsRow n0 32 1 (.slice A3 j c3) j rows) := RO5.out.alloc _
          have SZ9 : Hid (w5.heap.size ≤ w9.heap.size) := Nat.le_trans B8.size GR9.out.size
          have SM : Hid (∀ j t cs, Blk w5 j t cs → t ≠ 32 → w9.heap[j]? = w5.heap[j]?) := fun j t cs hj ht =>
            (GR9.out.block j (Nat.lt_of_lt_of_le hj.lt B8.size) (fun e => own_ne_t OWA.out (hj.same (B8.block j hj.lt)) ht e.symm)).trans (B8.block j hj.lt)
          have S5 : Hid (n0 ≤ w5.heap.size) := Nat.le_trans S4.out HB5.out.size
          have BL5 := hid (BL3.out.trans (HB5.out.mono S4.out))
          have HRJ5 : Hid (∀ i, i < j → ∃ B d, rows[i]? = some (.slice B 128 d) ∧ Fresh w w5 B (P[i]?.getD [])) := fun i hi => by
            obtain ⟨B, d, h1, h2⟩ := HRJ.out i hi
            exact ⟨B, d, h1, h2.kt (Kt.below HB5.out)⟩
          have HF5 : Hid (Fresh w w5 X (P[j]?.getD [])) := by show Fresh _ _ _ _; rw [← HXS.out]; exact HF.out.more (by have := S4.out; rw [← HN0.out]; exact this)
          have HL9 : Hid (rows.length = j) := by show _ = _; have := HRO.out.1; rwa [Nat.mul_one] at this
          have HAL9 : Hid (AllI n0 w P (j + 1) A9 c9 w9) := AllI.push (A := A3) (c := c3) HRJ5.out HL9.out HF5.out OW9.out (fun g cs hg => SM.out g _ cs hg (by decide))
          have HY9 : Hid (Dy n0 w9 b s) := (HY3.out.below HB5.out).typed SZ9.out (fun j t cs hj ht => SM.out j t cs hj (fun e => ht (by rw [e]; decide)))
          have HA5 : Blk w5 ba 46 (wsC ws) := HA3.out.same (HB5.out.block _ HA3.out.lt)
          have HA9 : Hid (Blk w9 ba 46 (wsC ws)) := HA5.same (SM.out _ _ _ HA5 (by decide))
          have BL9 : Hid (Below n0 w w9) := (BL5.out.alloc S5.out _).grown GR9.out (Nat.le_trans S5.out (by simp)) (fun b hb => (OWA.out.lt b hb).1)
          clear B8 OWA SM HRJ5 HF5 OW9 GR9 hi hz0 hz1 hz2 HA5
          go_wp2
          go_roundw
          case rel => exact ⟨j + 1, A9, c9, by omega, by go_num, rfl, HAL9.out, HY9.out, HA9.out, BL9.out⟩
          case measure => simp [intOf]; omega
        · obtain rfl : j = 12 := by omega
          have S4 : Hid (n0 ≤ wr.heap.size) := Nat.le_trans (Nat.le_of_eq HN0.out) BL3.out.size
          have CX : Hid (Calls Try.prog 20 #[.pointer (some ⟨b, 0, none⟩), .slice A2 n2 d2] wr fun e w' => e = .returned (.tuple #[]) ∧ Lf n0 b (s.rs l2) wr w') := by
            have := dx_any HY3.out S4.out A2 d2 l2 (HIP.out.below (bel_of BL3.out HN0.out)) (fun hx a ha => by rw [HN0.out]; exact ip_lt HIP.out hx a ha) (by rw [HL2.out]; have := H200.out; omega) HQL.out
            rwa [HL2.out] at this
          clear hn2
          go_wp2_with (go_at_call 20; refine CX.out.mono ?_; rintro e w6 ⟨rfl, hlf⟩; have HLF := hid hlf; clear hlf)
          have HY6 := hid HLF.out.1
          have HA6 : Hid (Blk w6 ba 46 (wsC ws)) := HLF.out.2.1.blk HA3.out (by decide)
          have HAL6 := hid (HAL.out.kt HLF.out.2.1)
          have BL6 := hid (BL3.out.trans HLF.out.2.2)
          have HRX : Hid (∀ j : Nat, j < 12 → (s.rs l2).rd j = (0, (s.rs l2).L[j]?.getD [])) := fun j hj => by
            have h1 : (s.rs l2).L.length = 12 := by show (mixs _ _ _ _).length = 12; rw [mixs_length]; exact HM.out.1
            unfold SS.rd
            rw [if_neg (by show ¬ false = true; simp), if_neg (by omega), Int.toNat_natCast]
            rfl
          have HSA : Hid (∀ j : Nat, j < 12 → ws[j]?.getD false = false → (s.rs l2).L[j]?.getD [] = P[j]?.getD []) := fun j hj hw => by
            have hq : ∀ q ∈ s.Q, q.1 ≠ j := fun q hq e => by
              have := HM.out.2.2.2.2.2 q hq
              rw [e] at this
              rw [this] at hw
              cases hw
            show (mixs _ _ _ _)[j]?.getD [] = _
            rw [mixs_far hq, HP.out, pg_far _ _ _ hq]
          have HXO : Hid (PgOk (s.rs l2).L ∧ (s.rs l2).L.length = 12) := ⟨HY6.out.ok.1, by show (mixs _ _ _ _).length = 12; rw [mixs_length]; exact HM.out.1⟩
          clear HLF CX HAL HY3 HA3 BL3
          go_loopw [16] (fun i wr => ∃ j : Nat, j ≤ 12 ∧ i = .int .i64 j ∧ Hid (AllI n0 w P 12 A3 c3 wr) ∧ Hid (Dy n0 wr b (s.rs l2)) ∧ Hid (Blk wr ba 46 (wsC ws)) ∧ Hid (Below n0 w wr)) (fun i _ => 12 - (intOf i).toNat)
          case atStart => exact ⟨0, Nat.zero_le _, rfl, HAL6.out, HY6.out, HA6.out, BL6.out⟩
          case round =>
            obtain ⟨j, hj, rfl, HAL, HY3, HA3, BL3⟩ := hrel
            clear HAL6 HY6 HA6 BL6
            by_cases hj12 : j < 12
            · have hj2 : (j : Int) < 12 := by omega
              have S4 : Hid (n0 ≤ wr.heap.size) := Nat.le_trans (Nat.le_of_eq HN0.out) BL3.out.size
              obtain ⟨XS, hXS⟩ : ∃ XS, XS = (s.rs l2).L[j]?.getD [] := ⟨_, rfl⟩
              have CR : Hid (Calls Try.prog 18 #[.pointer (some ⟨b, 0, none⟩), .int .i64 j] wr (RdAns XS 0 wr)) := by
                have := dr_any HY3.out (j : Int)
                rw [HRX.out j hj12] at this
                rwa [← hXS] at this
              have HXL : Hid (XS.length = 128) := by show _ = _; rw [hXS]; exact HXO.out.1.at (by rw [HXO.out.2]; exact hj12)
              have a5 : wr.cell? ⟨ba, j, none⟩ = some (.bool (ws[j]?.getD false)) := by rw [HA3.out.cell]; exact ws_at _ _ (by rw [HM.out.2.2.2.2.1]; exact hj12)
              obtain ⟨rows, hro, hrj⟩ := HAL.out
              obtain ⟨B, dB, hrB, hfB⟩ := hrj j hj12
              rcases hro.2 with ⟨_, h0⟩ | ⟨ga, cap, cur, hv, _, hh, hnc, _, hcs, htk⟩
              · omega
              injection hv with hva hvb hvc
              subst hva
              have hca : wr.cell? ⟨ga, j, none⟩ = some (.slice B 128 dB) := by
                rw [(show Blk wr ga 32 cur from hh).cell, ← Array.getElem?_toList, ← hrB, ← htk, List.getElem?_take, if_pos (by omega)]
              have HFB := hid hfB
              have HCA := hid hca; have HA5 := hid a5
              have HJ12 := hid hj12
              cases hwj : ws[j]?.getD false with
              | true =>
                rw [hwj] at HA5
                clear a5 hXS hro hrj hrB hfB hh hnc hcs htk hvb hvc hca hj12 hwj
                go_upto_region 26 with (go_at_call 18; refine CR.out.mono ?_; rintro e w5 ⟨X, q, c5, rfl, hq, hf, hb⟩; obtain rfl : q = 128 := hq.trans HXL.out; have HB5 := hid hb; have a6 : w5.cell? ⟨ba, j, none⟩ = some (.bool true) := (hb.cell (block_lt_of_cell HA5.out)).trans HA5.out; clear hf hb hq)
                go_wp2
                go_roundw
                case rel => exact ⟨j + 1, by omega, by go_num, HAL.out.below HB5.out, HY3.out.below HB5.out, HA3.out.same (HB5.out.block _ HA3.out.lt), BL3.out.trans (HB5.out.mono S4.out)⟩
                case measure => simp [intOf]; omega
              | false =>
                rw [hwj] at HA5
                have HXP : Hid (XS = P[j]?.getD []) := by show _ = _; rw [hXS]; exact HSA.out j hj12 hwj
                have HBP : Hid (Fresh w wr B XS) := by show Fresh _ _ _ _; rw [HXP.out]; exact HFB.out
                clear a5 hXS hro hrj hrB hfB hh hnc hcs htk hvb hvc hca hj12 hwj
                go_upto_region 26 with (go_at_call 18; refine CR.out.mono ?_; rintro e w5 ⟨X, q, c5, rfl, hq, hf, hb⟩; obtain rfl : q = 128 := hq.trans HXL.out; have HB5 := hid hb; have a6 : w5.cell? ⟨ba, j, none⟩ = some (.bool false) := (hb.cell (block_lt_of_cell HA5.out)).trans HA5.out; have b6 : w5.cell? ⟨ga, j, none⟩ = some (.slice B 128 dB) := (hb.cell (block_lt_of_cell HCA.out)).trans HCA.out; have RX := hid (hf.rp (p := none) (fun g _ _ ⟨a, e, _⟩ => by cases e)); have RB := hid ((HBP.out.below hb).rp (p := none) (fun g _ _ ⟨a, e, _⟩ => by cases e)); clear hf hb hq)
                have CS : Hid (Calls Try.prog 15 #[.slice X 128 c5, .slice B 128 dB] w5 fun e w' => e = .returned (.bool true) ∧ Below w5.heap.size w5 w') := by
                  have := Same_any X B c5 dB XS XS w5 RX.out RB.out (by rw [HXL.out]; decide) (by rw [HXL.out]; decide)
                  rw [HXL.out] at this
                  rwa [show decide (XS = XS) = true from decide_eq_true rfl] at this
                go_wp2_with (go_at_call 15; refine CS.out.mono ?_; rintro e w7 ⟨rfl, hb⟩; have HB7 := hid (HB5.out.trans (hb.mono HB5.out.size)); clear hb)
                go_roundw
                case rel => exact ⟨j + 1, by omega, by go_num, HAL.out.below HB7.out, HY3.out.below HB7.out, HA3.out.same (HB7.out.block _ HA3.out.lt), BL3.out.trans (HB7.out.mono S4.out)⟩
                case measure => simp [intOf]; omega
            · have CW := hid HY3.out.waits
              have e0 : ((s.rs l2).Q.length : Int) = 0 := rfl
              rw [e0] at CW
              go_wp2_with (go_at_call 17; refine CW.out.mono ?_; rintro e wq ⟨rfl, rfl⟩)
              go_ret
              exact ⟨rfl, BL3.out⟩
theorem dstays_walk (A1 : Option Addr) (n1 d1 : Nat) (ol : List Oq) (A2 : Option Addr) (n2 d2 : Nat) (l2 : List Int) (w : World) (hin : InOps w A1 n1 ol) (hil : InIs w A2 n2 l2) :
    Calls Try.prog 4 #[.slice A1 n1 d1, .slice A2 n2 d2] w fun e w' => e = .returned (.bool true) ∧ Below w.heap.size w w' := by
  have hn2m := hil.2.1
  by_cases hf : ol.length ≤ 80 ∧ Small ol ol.length
  · have CF := hid (fun w' (hb : Below w.heap.size w w') => dFew_yes (c := d1) (hin.below hb) hf)
    by_cases h200 : n2 ≤ 200
    · exact dstays_80 A1 n1 d1 ol A2 n2 d2 l2 w hin hil (by rw [← hin.1]; exact hf.1) hf.2 h200 CF
    · have hn2 : 200 < (n2 : Int) := by omega
      have tok1 : True := trivial
      clear hin hil hf h200
      go_enter Try.func4, Try.ntmps4
      go_wp2_with (first
        | (go_at_call 8; have _t := tok1; refine (dawake_any _).mono ?_; rintro e w1 ⟨rfl, hb⟩; have B1 := hid hb; clear hb tok1)
        | (go_at_call 9; refine (CF.out _ B1.out).mono ?_; rintro e wq ⟨rfl, rfl⟩)
        | (go_at_call 8; refine (dawake_any _).mono ?_; rintro e w2 ⟨rfl, hb⟩; have B2 := hid (B1.out.trans (hb.mono B1.out.size)); clear hb))
      go_ret
      exact ⟨rfl, B2.out⟩
  · have CF := hid (fun w' (hb : Below w.heap.size w w') => dFew_no (c := d1) (hin.below hb) hf)
    have tok1 : True := trivial
    clear hin hil hf
    go_enter Try.func4, Try.ntmps4
    go_wp2_with (first
      | (go_at_call 8; have _t := tok1; refine (dawake_any _).mono ?_; rintro e w1 ⟨rfl, hb⟩; have B1 := hid hb; clear hb tok1)
      | (go_at_call 9; refine (CF.out _ B1.out).mono ?_; rintro e wq ⟨rfl, rfl⟩)
      | (go_at_call 8; refine (dawake_any _).mono ?_; rintro e w2 ⟨rfl, hb⟩; have B2 := hid (B1.out.trans (hb.mono B1.out.size)); clear hb))
    go_ret
    exact ⟨rfl, B2.out⟩
end Go.Proofs.Ythdnpakppjipfaa
