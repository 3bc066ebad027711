/-
  What is proved here: whether steps, and the end below them, may stand so on a way to a key.
-/
import Derived.Test.YtbhgchbacadgaaaDoorMTk
import Derived.Test.YtbhgchbacadgaaaDoorMY1
import Derived.Deep.DeepCutAuto
import Derived.Deep.RegionLaw
import Derived.Test.YtbhgchbacadgaaaDoorMX14
import Derived.RangeFuncNested
set_option linter.unusedSimpArgs false
set_option linter.unusedVariables false
namespace Go.Proofs.YtbhgchbacadgaaaDoor
open Go.ChangeShapes Go.WideShapes Go.ChangeAt Go.RowKit
set_option linter.unusedVariables false
set_option linter.unusedSimpArgs false
set_option maxRecDepth 20000

theorem zero_step : ∃ Z : Array Value, Hid (Z = (stc stZ).toArray) ∧ (¬ Z = #[]) ∧ ∀ w : World, Sem.run Tryd.prog (zeroValue 129) w = Result.ok (.agg Z) w := by
  refine ⟨(stc stZ).toArray, rfl, fun h => ?_, fun w => by kernel_rfl⟩
  have := congrArg Array.size h
  rw [List.size_toArray] at this
  revert this
  decide
theorem stZ_ok : stZ.Ok := ⟨ky_zero, ky_zero⟩
theorem lead_at {key : List Int} {l : Int} {B : List Int} {S : List QS} {k : Nat} {s : QS} (h : S[k]? = some s) : leadS key l B (S.drop k) = if stepB key l B s = true then leadS key (s.n + 1) (chK s.n s.b (bitI key s.n)) (S.drop (k + 1)) else none := by
  obtain ⟨hl, rfl⟩ := List.getElem?_eq_some_iff.1 h
  rw [List.drop_eq_getElem_cons hl]
  rfl
theorem lead_none {key : List Int} {q : QP} (h : leadS key 0 zk q.ss = none) : leadB key q = false := by unfold leadB; rw [h]
theorem lead_some {key : List Int} {q : QP} {c : Int × List Int} (h : leadS key 0 zk q.ss = some c) : leadB key q = endB key q c := by unfold leadB; rw [h]
theorem chv_as (l : Int) {B : List Int} (b : Int) (hB : Ky B) : ∃ l2 B2, Ky B2 ∧ chV l B b = .tuple #[.agg (pc l2 B2), .bool (chB l B b)] ∧ (chB l B b = true → l2 = l + 1 ∧ B2 = chK l B b) := by
  unfold chV
  by_cases h : chB l B b = true
  · rw [if_pos h]; exact ⟨_, _, chk_ky hB h, by rw [h], fun _ => ⟨rfl, rfl⟩⟩
  · rw [if_neg h]; exact ⟨_, _, zk_ky, by rw [Bool.not_eq_true] at h; rw [h], fun h2 => absurd h2 h⟩
/-- between two steps -/
structure LdI (w : World) (g : Nat) (A : Option Addr) (n c : Nat) (q : QP) (key : List Int) (k : Nat) (l : Int) (B : List Int) (x : World) : Prop where
  pr : Blk x g 66 (prc (.slice A n c) q).toArray
  kk : Blk x (g + 1) 24 (kc key)
  ch : Blk x (g + 1 + 1) 55 (pc l B)
  kb : Ky B
  eq : leadS key 0 zk q.ss = leadS key l B (q.ss.drop k)
  ins : InS x A n q.ss
  bl : Below g w x
theorem LdI.below {w : World} {g : Nat} {A : Option Addr} {n c : Nat} {q : QP} {key : List Int} {k : Nat} {l : Int} {B : List Int} {x y : World} (h : LdI w g A n c q key k l B x) (hb : Below x.heap.size x y) : LdI w g A n c q key k l B y :=
  ⟨h.pr.below hb, h.kk.below hb, h.ch.below hb, h.kb, h.eq, h.ins.below hb, h.bl.trans (hb.mono (by have := h.kk.lt; omega))⟩
theorem InS.at {w : World} {A : Option Addr} {n : Nat} {S : List QS} (h : InS w A n S) {k : Nat} (hk : k < n) : ∃ b o s, A = some ⟨b, o, none⟩ ∧ S[k]? = some s ∧ s.Ok ∧ w.rangeAt b (o + k * 65) (stc s) := by
  obtain ⟨b, o, e, hlt, hat⟩ := h.at' (by omega)
  have hl := h.len
  have hs : S[k]? = some S[k] := List.getElem?_eq_getElem (by omega)
  exact ⟨b, o, _, e, hs, h.ok _ (List.getElem_mem (by omega)), hat k _ hs⟩
set_option maxHeartbeats 8000000 in
theorem qleads_any {A : Option Addr} {n c : Nat} {q : QP} {key : List Int} (w : World) (hin : InS w A n q.ss) (hq : q.Ok) (hK : Ky key) :
    Calls Tryd.prog 68 #[.agg (prc (.slice A n c) q).toArray, .agg (kc key)] w fun e w' => e = .returned (.bool (leadB key q)) ∧ Below w.heap.size w w' := by
  obtain ⟨Z, HZ, hZ0, hZs⟩ := zero_pre
  obtain ⟨Y, HY, hY0, hYs⟩ := zero_step
  obtain ⟨hk1, hk2, hk3, hb0⟩ := three_blks w (prc (.slice A n c) q).toArray (kc key) Z 66 24 55
  have HKI := hid (u8s_info hK)
  have HQ := hid hq; have HK := hid hK
  have HIN := hid hin
  have LD0 : Hid (LdI w w.heap.size A n c q key 0 0 zk (((w.alloc (.cells (prc (.slice A n c) q).toArray 66)).alloc (.cells (kc key) 24)).alloc (.cells Z 55))) := ⟨hk1, hk2, by rw [← HZ.out]; exact hk3, zk_ky, rfl, hin.below hb0, hb0⟩
  have c0 := (hk1.pr hq).steps
  have HYS : Hid (Y.size = 65) := by show _ = _; rw [HY.out, List.size_toArray, stZ_ok.len]
  clear hk1 hk2 hk3 hb0 hq hK hin
  have hmax := HIN.out.max
  go_enter Tryd.func68, Tryd.ntmps68
  go_wp2
  clear c0
  generalize ((w.alloc (.cells (prc (.slice A n c) q).toArray 66)).alloc (.cells (kc key) 24)).alloc (.cells Z 55) = w0 at LD0 ⊢
  go_loopw [13] (fun i wr => ∃ k l B, k ≤ n ∧ i = .int .i64 (k : Nat) ∧ Hid (LdI w w.heap.size A n c q key k l B wr)) (fun i _ => n - (intOf i).toNat)
  case atStart => exact ⟨0, 0, zk, Nat.zero_le _, rfl, LD0⟩
  case round =>
    obtain ⟨k, l, B, hk, rfl, LD⟩ := hrel
    by_cases hkn : k < n
    · obtain ⟨b, oo, s, rfl, hs, hok, hrng⟩ := LD.out.ins.at hkn
      have HR := hid hrng
      have HSI := hid (step_info hok)
      have HSI2 := hid (step_info2 hok)
      have HSY : Hid (Y.size = (stc s).toArray.size) := by show _ = _; rw [HYS.out, List.size_toArray, hok.len]
      have HONE : Hid ((stc s).toArray.all (·.oneCell') = true) := by
        show _ = _
        rw [Array.all_eq_true']
        intro v hv
        exact stc_one s v (by simpa using hv)
      have SOK := hid hok
      have HLA := hid (lead_at (key := key) (l := l) (B := B) hs)
      have HPL := hid (pcl_info l LD.out.kb)
      have HPS := hid (pcl_info s.n hok.b)
      have CW := hid (fun w => pWithin_any l s.n B s.b LD.out.kb hok.b w)
      have CH := hid (fun w => pHolds_any s.n s.b key hok.b HK.out w)
      have CB := hid (fun w => pBit_any key HK.out s.n w)
      have CV := chv_as s.n (bitI key s.n) hok.b
      obtain ⟨l2, B2, hB2, hcv, hch⟩ := CV
      have CC := hid (fun w => pChild_any s.n s.b (bitI key s.n) hok.b w)
      rw [hcv] at CC
      have HI2 := hid (pc_info l2 hB2)
      have HZ2 : Hid (Z.size = (pc l2 B2).size) := by show _ = _; rw [HZ.out, pc_size _ zk_ky, pc_size _ hB2]
      have HB2 := hid hB2; have HCH := hid hch
      clear hB2 hcv hch hrng
      have hlt : ((k : Int) < (n : Int)) := by omega
      go_upto_region 5 with (first
        | (refine load_at rfl 129 (.tmp 15) rfl b (oo + k * 65) rfl (stc s) _ HR.out Tryd.underlying129 rfl HSI.out (stc s).toArray rfl ?_)
        | (refine wpList_store_row rfl 129 (.tmp 7) (.tmp 16) rfl wr.heap.size (stc s).toArray rfl rfl 129 Y (Blk.new wr 129 Y) HSI2.out HSY.out HONE.out ?_))
      have BB : Hid (Below wr.heap.size wr ((wr.alloc (.cells Y 129)).setRow wr.heap.size (stc s).toArray)) := below_setRow ((Below.refl _ _).alloc (Nat.le_refl _) _) (Nat.le_refl _) _
      have LD2 := hid (LD.out.below BB.out)
      have SB2 : Hid (Blk ((wr.alloc (.cells Y 129)).setRow wr.heap.size (stc s).toArray) wr.heap.size 129 (stc s).toArray) := (Blk.new wr 129 Y).row _
      have ST2 : Hid (StAt ((wr.alloc (.cells Y 129)).setRow wr.heap.size (stc s).toArray) wr.heap.size 0 s) := st_at (fun j v hv => by rw [SB2.out.cell, Nat.zero_add, List.getElem?_toArray]; exact hv) SOK.out
      generalize (wr.alloc (.cells Y 129)).setRow wr.heap.size (stc s).toArray = w2 at LD2 ST2 ⊢
      generalize wr.heap.size = g7 at ST2 ⊢
      clear SB2 BB HR HSI HSI2 HSY HONE
      by_cases h1 : wth l B s.n s.b = true
      · by_cases h2 : hld s.n s.b key = true
        · rw [h1] at CW; rw [h2] at CH
          have hbv : chB s.n s.b (bitI key s.n) = stepB key l B s := by
            by_cases h3 : stepB key l B s = true
            · rw [h3]; exact bit_ok h3
            · rw [Bool.not_eq_true] at h3; rw [h3]; exact bit_no h1 h2 h3
          rw [hbv] at CC HCH
          generalize stepB key l B s = bv at CC HCH HLA
          clear hbv h1 h2
          generalize bitI key s.n = bb at CB CC HCH HLA
          go_upto_region 7 with (first
    | (refine load_at rfl 55 (.tmp 5) rfl (w.heap.size + 1 + 1) 0 rfl (.int .i64 l :: u8s B) _ (blk_pre LD2.out.ch) Tryd.underlying55 rfl HPL.out (pc l B) rfl ?_)
    | (refine load_at rfl 55 (.tmp 18) rfl g7 0 rfl (.int .i64 s.n :: u8s s.b) _ ST2.out.pre Tryd.underlying55 rfl HPS.out (pc s.n s.b) rfl ?_)
    | (go_at_call 102; refine (CW.out _).mono ?_; rintro e w3 ⟨rfl, hb⟩; have LD3 := hid (LD2.out.below hb); have ST3 := hid (ST2.out.below SOK.out hb); clear hb)
    | (refine load_at rfl 55 (.tmp 23) rfl g7 0 rfl (.int .i64 s.n :: u8s s.b) _ ST3.out.pre Tryd.underlying55 rfl HPS.out (pc s.n s.b) rfl ?_)
    | (refine load_at rfl 24 (.tmp 3) rfl (w.heap.size + 1) 0 rfl (u8s key) _ (blk_key LD3.out.kk) Tryd.underlying24 rfl HKI.out (kc key) rfl ?_)
    | (go_at_call 61; refine (CH.out _).mono ?_; rintro e w4 ⟨rfl, hb⟩; have LD4 := hid (LD3.out.below hb); have ST4 := hid (ST3.out.below SOK.out hb); clear hb))
          go_cut [8, 9] (fun s8 s9 wx => ∃ g8, s8 = .pointer (some ⟨g8, 0, none⟩) ∧ s9 = .bool bv ∧ Hid (Blk wx g8 55 (pc l2 B2)) ∧ Hid (Below w4.heap.size w4 wx) ∧ Hid (w4.heap.size ≤ g8))
          case first =>
            refine wp_region_held (S := fun w' => Hid (Below w4.heap.size w4 w')) (by kernel_rfl) ?_
            change wpAnyH _ _ _ _ _ _ _ _ w4.drew
            have Gx0 : Hid (Below w4.heap.size w4 w4.drew) := (Below.refl _ _).drew
            generalize w4.drew = x0 at Gx0  ⊢
            refine tk 0 (some 30) ?_
            refine tkv 1 (some 31) (.agg (pc s.n s.b)) rfl (yieldsIf_load_mid (cs := (.int .i64 s.n :: u8s s.b)) (by rfl) _ _ rfl _ _ rfl _ (fun w' hSw => rng_bel hSw.out ST4.out.pre) Tryd.underlying55 rfl HPS.out) ?_
            refine tkv 2 (some 32) (.agg (kc key)) rfl (yieldsIf_load_mid (cs := u8s key) (by rfl) _ _ rfl _ _ rfl _ (fun w' hSw => rng_bel hSw.out (blk_key LD4.out.kk)) Tryd.underlying24 rfl HKI.out) ?_
            refine tk 3 (some 33) ?_
            refine tk 4 (some 34) ?_
            refine tk 5 (some 35) ?_ (hy := by intro w hSw; have c5 := cell_bel hSw.out ST4.out.len; go_simp; try with_reducible rfl)
            refine wpAnyH_ready (rs := [6, 11]) (by kernel_rfl) (by simp) ?_
            refine (AllReadyH.cons (o := { dst := some 36, op := _, type := _, pos := _, after := _, guard := _ }) rfl (fun Qc hQc => ?_) (AllReadyH.cons (o := { dst := some 8, op := _, type := _, pos := _, after := _, guard := _ }) rfl (fun Qc hQc => ?_) AllReadyH.nil))
            ·
              go_simp
              go_at_call 82
              refine (CB.out x0).mono ?_
              rintro e x1 ⟨rfl, hb⟩
              have Gx1 := hid (Gx0.out.trans (hb.mono Gx0.out.size))
              clear hb
              go_wp2_with fail
              refine hQc.out _ _ Gx1 (fun hHeld => ?_)
              clear hQc Qc hHeld
              try simp only [Act.put, List.setIfInBounds_toArray, List.set_cons_zero, List.set_cons_succ]
              refine wpAnyH_ready (rs := [7, 11]) (by kernel_rfl) (by simp) ?_
              refine (AllReadyH.cons (o := { dst := some 37, op := _, type := _, pos := _, after := _, guard := _ }) rfl (fun Qc hQc => ?_) (AllReadyH.cons (o := { dst := some 8, op := _, type := _, pos := _, after := _, guard := _ }) rfl (fun Qc hQc => ?_) AllReadyH.nil))
              ·
                go_simp
                go_at_call 103
                refine (CC.out x1).mono ?_
                rintro e x2 ⟨rfl, hb⟩
                have Gx2 := hid (Gx1.out.trans (hb.mono Gx1.out.size))
                clear hb
                go_wp2_with fail
                refine hQc.out _ _ Gx2 (fun hHeld => ?_)
                clear hQc Qc hHeld
                try simp only [Act.put, List.setIfInBounds_toArray, List.set_cons_zero, List.set_cons_succ]
                refine tk 8 (some 29) ?_
                refine tk 9 (some 38) ?_
                refine tk 10 (some 39) ?_
                refine rd1 11 (some 8) (fun Qc hQc => ?_)
                go_simp
                have NBx3 : Hid (Blk (x2.alloc (.cells Z 55)) x2.heap.size 55 Z) := Blk.new x2 55 Z
                have Gx3 := hid (Gx2.out.alloc Gx2.out.size (.cells Z 55))
                have GE8 : Hid (w4.heap.size ≤ x2.heap.size) := Gx2.out.size
                refine hQc.out _ _ Gx3 (fun hHeld => ?_)
                clear hQc Qc hHeld
                generalize x2.heap.size = g8 at NBx3 GE8 ⊢
                generalize x2.alloc (.cells Z 55) = x3 at NBx3 Gx3 ⊢
                try simp only [Act.put, List.setIfInBounds_toArray, List.set_cons_zero, List.set_cons_succ]
                refine rd1 12 none (fun Qc hQc => ?_)
                rw [if_pos (by rfl)]
                refine wp_store_row 55 (.tmp 8) (.tmp 38) rfl g8 (pc l2 B2) rfl rfl 55 Z NBx3.out HI2.out HZ2.out (pc_one _ _) ?_
                have Gx4 : Hid (Below w4.heap.size w4 (x3.setRow g8 (pc l2 B2))) := below_setRow Gx3.out GE8.out _
                have KP := hid (NBx3.out.row (pc l2 B2))
                refine hQc.out _ _ Gx4 (fun hHeld => ?_)
                clear hQc Qc hHeld
                generalize x3.setRow g8 (pc l2 B2) = x4 at Gx4 KP ⊢
                try simp only [Act.put, List.setIfInBounds_toArray, List.set_cons_zero, List.set_cons_succ]
                refine tk 13 (some 9) ?_
                refine wpAnyH_done (by kernel_rfl) ?_ _
                try simp only [Act.put, List.setIfInBounds_toArray, List.set_cons_zero, List.set_cons_succ]
                go_wp2
                go_meet
                exact ⟨g8, rfl, rfl, KP, Gx4, GE8⟩
              ·
                go_simp
                have NBx5 : Hid (Blk (x1.alloc (.cells Z 55)) x1.heap.size 55 Z) := Blk.new x1 55 Z
                have Gx5 := hid (Gx1.out.alloc Gx1.out.size (.cells Z 55))
                have GE8 : Hid (w4.heap.size ≤ x1.heap.size) := Gx1.out.size
                refine hQc.out _ _ Gx5 (fun hHeld => ?_)
                clear hQc Qc hHeld
                generalize x1.heap.size = g8 at NBx5 GE8 ⊢
                generalize x1.alloc (.cells Z 55) = x5 at NBx5 Gx5 ⊢
                try simp only [Act.put, List.setIfInBounds_toArray, List.set_cons_zero, List.set_cons_succ]
                refine rd1 7 (some 37) (fun Qc hQc => ?_)
                go_simp
                go_at_call 103
                refine (CC.out x5).mono ?_
                rintro e x6 ⟨rfl, hb⟩
                have Gx6 := hid (Gx5.out.trans (hb.mono Gx5.out.size))
                have NBx6 := hid (NBx5.out.below hb)
                clear hb
                go_wp2_with fail
                refine hQc.out _ _ Gx6 (fun hHeld => ?_)
                clear hQc Qc hHeld
                try simp only [Act.put, List.setIfInBounds_toArray, List.set_cons_zero, List.set_cons_succ]
                refine tk 8 (some 29) ?_
                refine tk 9 (some 38) ?_
                refine tk 10 (some 39) ?_
                refine rd1 12 none (fun Qc hQc => ?_)
                rw [if_pos (by rfl)]
                refine wp_store_row 55 (.tmp 8) (.tmp 38) rfl g8 (pc l2 B2) rfl rfl 55 Z NBx6.out HI2.out HZ2.out (pc_one _ _) ?_
                have Gx7 : Hid (Below w4.heap.size w4 (x6.setRow g8 (pc l2 B2))) := below_setRow Gx6.out GE8.out _
                have KP := hid (NBx6.out.row (pc l2 B2))
                refine hQc.out _ _ Gx7 (fun hHeld => ?_)
                clear hQc Qc hHeld
                generalize x6.setRow g8 (pc l2 B2) = x7 at Gx7 KP ⊢
                try simp only [Act.put, List.setIfInBounds_toArray, List.set_cons_zero, List.set_cons_succ]
                refine tk 13 (some 9) ?_
                refine wpAnyH_done (by kernel_rfl) ?_ _
                try simp only [Act.put, List.setIfInBounds_toArray, List.set_cons_zero, List.set_cons_succ]
                go_wp2
                go_meet
                exact ⟨g8, rfl, rfl, KP, Gx7, GE8⟩
            ·
              go_simp
              have NBx8 : Hid (Blk (x0.alloc (.cells Z 55)) x0.heap.size 55 Z) := Blk.new x0 55 Z
              have Gx8 := hid (Gx0.out.alloc Gx0.out.size (.cells Z 55))
              have GE8 : Hid (w4.heap.size ≤ x0.heap.size) := Gx0.out.size
              refine hQc.out _ _ Gx8 (fun hHeld => ?_)
              clear hQc Qc hHeld
              generalize x0.heap.size = g8 at NBx8 GE8 ⊢
              generalize x0.alloc (.cells Z 55) = x8 at NBx8 Gx8 ⊢
              try simp only [Act.put, List.setIfInBounds_toArray, List.set_cons_zero, List.set_cons_succ]
              refine rd1 6 (some 36) (fun Qc hQc => ?_)
              go_simp
              go_at_call 82
              refine (CB.out x8).mono ?_
              rintro e x9 ⟨rfl, hb⟩
              have Gx9 := hid (Gx8.out.trans (hb.mono Gx8.out.size))
              have NBx9 := hid (NBx8.out.below hb)
              clear hb
              go_wp2_with fail
              refine hQc.out _ _ Gx9 (fun hHeld => ?_)
              clear hQc Qc hHeld
              try simp only [Act.put, List.setIfInBounds_toArray, List.set_cons_zero, List.set_cons_succ]
              refine rd1 7 (some 37) (fun Qc hQc => ?_)
              go_simp
              go_at_call 103
              refine (CC.out x9).mono ?_
              rintro e x10 ⟨rfl, hb⟩
              have Gx10 := hid (Gx9.out.trans (hb.mono Gx9.out.size))
              have NBx10 := hid (NBx9.out.below hb)
              clear hb
              go_wp2_with fail
              refine hQc.out _ _ Gx10 (fun hHeld => ?_)
              clear hQc Qc hHeld
              try simp only [Act.put, List.setIfInBounds_toArray, List.set_cons_zero, List.set_cons_succ]
              refine tk 8 (some 29) ?_
              refine tk 9 (some 38) ?_
              refine tk 10 (some 39) ?_
              refine rd1 12 none (fun Qc hQc => ?_)
              rw [if_pos (by rfl)]
              refine wp_store_row 55 (.tmp 8) (.tmp 38) rfl g8 (pc l2 B2) rfl rfl 55 Z NBx10.out HI2.out HZ2.out (pc_one _ _) ?_
              have Gx11 : Hid (Below w4.heap.size w4 (x10.setRow g8 (pc l2 B2))) := below_setRow Gx10.out GE8.out _
              have KP := hid (NBx10.out.row (pc l2 B2))
              refine hQc.out _ _ Gx11 (fun hHeld => ?_)
              clear hQc Qc hHeld
              generalize x10.setRow g8 (pc l2 B2) = x11 at Gx11 KP ⊢
              try simp only [Act.put, List.setIfInBounds_toArray, List.set_cons_zero, List.set_cons_succ]
              refine tk 13 (some 9) ?_
              refine wpAnyH_done (by kernel_rfl) ?_ _
              try simp only [Act.put, List.setIfInBounds_toArray, List.set_cons_zero, List.set_cons_succ]
              go_wp2
              go_meet
              exact ⟨g8, rfl, rfl, KP, Gx11, GE8⟩
          case rest =>
          obtain ⟨g8, rfl, rfl, KP, GX, GE8⟩ := hcut
          generalize wc = w5 at KP GX ⊢
          have LD5 := hid (LD4.out.below GX.out)
          cases bv with
          | false =>
            have HNO : Hid (leadS key 0 zk q.ss = none) := by show _ = _; rw [LD5.out.eq, HLA.out]; rfl
            go_wp2
            go_ret
            exact ⟨by rw [lead_none HNO.out]; rfl, LD5.out.bl⟩
          | true =>
            have HEQ := HLA.out
            rw [if_pos rfl] at HEQ
            have HPL2 := hid (pcl_info l2 HB2.out)
            have HZ3 : Hid ((pc l B).size = (pc l2 B2).size) := by show _ = _; rw [pc_size _ LD5.out.kb, pc_size _ HB2.out]
            go_wp2_with (first
              | (refine load_at rfl 55 (.tmp 8) rfl g8 0 rfl (.int .i64 l2 :: u8s B2) _ (blk_pre KP.out) Tryd.underlying55 rfl HPL2.out (pc l2 B2) rfl ?_)
              | (refine wpList_store_row rfl 55 (.tmp 5) (.tmp 42) rfl (w.heap.size + 1 + 1) (pc l2 B2) rfl rfl 55 (pc l B) LD5.out.ch HI2.out HZ3.out (pc_one _ _) ?_))
            go_roundw
            case rel =>
              have n0 : w.heap.size + 1 + 1 ≠ w.heap.size := by omega
              refine ⟨k + 1, l2, B2, by omega, rfl, LD5.out.pr.rowFar (by omega) _, LD5.out.kk.rowFar (by omega) _, LD5.out.ch.row _, HB2.out, ?_, ?_, below_setRow LD5.out.bl (by omega) _⟩
              · obtain ⟨e1, e2⟩ := HCH.out rfl
                rw [LD5.out.eq, HEQ, e1, e2]
              · exact HIN.out.below (below_setRow LD5.out.bl (by omega) _)
            case measure => simp [intOf]; omega
        · rw [Bool.not_eq_true] at h2
          rw [h1] at CW; rw [h2] at CH
          have HNO : Hid (leadS key 0 zk q.ss = none) := by show _ = _; rw [LD2.out.eq, HLA.out, if_neg (by unfold stepB; rw [h2, Bool.and_false, Bool.false_and]; decide)]
          go_wp2_with (first
          | (refine load_at rfl 55 (.tmp 5) rfl (w.heap.size + 1 + 1) 0 rfl (.int .i64 l :: u8s B) _ (blk_pre LD2.out.ch) Tryd.underlying55 rfl HPL.out (pc l B) rfl ?_)
          | (refine load_at rfl 55 (.tmp 18) rfl g7 0 rfl (.int .i64 s.n :: u8s s.b) _ ST2.out.pre Tryd.underlying55 rfl HPS.out (pc s.n s.b) rfl ?_)
          | (go_at_call 102; refine (CW.out _).mono ?_; rintro e w3 ⟨rfl, hb⟩; have LD3 := hid (LD2.out.below hb); have ST3 := hid (ST2.out.below SOK.out hb); clear hb)
          | (refine load_at rfl 55 (.tmp 23) rfl g7 0 rfl (.int .i64 s.n :: u8s s.b) _ ST3.out.pre Tryd.underlying55 rfl HPS.out (pc s.n s.b) rfl ?_)
          | (refine load_at rfl 24 (.tmp 3) rfl (w.heap.size + 1) 0 rfl (u8s key) _ (blk_key LD3.out.kk) Tryd.underlying24 rfl HKI.out (kc key) rfl ?_)
          | (go_at_call 61; refine (CH.out _).mono ?_; rintro e w4 ⟨rfl, hb⟩; have LD4 := hid (LD3.out.below hb); have ST4 := hid (ST3.out.below SOK.out hb); clear hb))
          go_ret
          exact ⟨by rw [lead_none HNO.out]; rfl, LD4.out.bl⟩
      · rw [Bool.not_eq_true] at h1
        rw [h1] at CW
        have HNO : Hid (leadS key 0 zk q.ss = none) := by show _ = _; rw [LD2.out.eq, HLA.out, if_neg (by unfold stepB; rw [h1, Bool.false_and, Bool.false_and]; decide)]
        go_wp2_with (first
        | (refine load_at rfl 55 (.tmp 5) rfl (w.heap.size + 1 + 1) 0 rfl (.int .i64 l :: u8s B) _ (blk_pre LD2.out.ch) Tryd.underlying55 rfl HPL.out (pc l B) rfl ?_)
        | (refine load_at rfl 55 (.tmp 18) rfl g7 0 rfl (.int .i64 s.n :: u8s s.b) _ ST2.out.pre Tryd.underlying55 rfl HPS.out (pc s.n s.b) rfl ?_)
        | (go_at_call 102; refine (CW.out _).mono ?_; rintro e w3 ⟨rfl, hb⟩; have LD3 := hid (LD2.out.below hb); have ST3 := hid (ST2.out.below SOK.out hb); clear hb)
        | (refine load_at rfl 55 (.tmp 23) rfl g7 0 rfl (.int .i64 s.n :: u8s s.b) _ ST3.out.pre Tryd.underlying55 rfl HPS.out (pc s.n s.b) rfl ?_)
        | (refine load_at rfl 24 (.tmp 3) rfl (w.heap.size + 1) 0 rfl (u8s key) _ (blk_key LD3.out.kk) Tryd.underlying24 rfl HKI.out (kc key) rfl ?_)
        | (go_at_call 61; refine (CH.out _).mono ?_; rintro e w4 ⟨rfl, hb⟩; have LD4 := hid (LD3.out.below hb); have ST4 := hid (ST3.out.below SOK.out hb); clear hb))
        go_ret
        exact ⟨by rw [lead_none HNO.out]; rfl, LD3.out.bl⟩
    · obtain rfl : k = n := by omega
      have hnl : ¬ ((k : Int) < (k : Int)) := by omega
      have hss : leadS key 0 zk q.ss = some (l, B) := by
        have := LD.out.eq
        rw [List.drop_of_length_le (by rw [HIN.out.len]; omega)] at this
        exact this
      have hlb := lead_some hss
      have PA := hid (LD.out.pr.pr HQ.out)
      have HPL := hid (pcl_info l LD.out.kb)
      have HPN := hid (pcl_info q.n HQ.out.b)
      have HKK := hid (u8s_info HQ.out.k)
      have c1 := PA.out.«end»
      have c0 := PA.out.steps
      have CHK := hid (fun w => pHolds_any l B q.k LD.out.kb HQ.out.k w)
      have CWN := hid (fun w => pWithin_any l q.n B q.b LD.out.kb HQ.out.b w)
      have CHN := hid (fun w => pHolds_any q.n q.b key HQ.out.b HK.out w)
      have hlen := HIN.out.len
      have HOK := hid HQ.out
      obtain ⟨ev, hev⟩ : ∃ ev, ev = q.e := ⟨_, rfl⟩
      rw [← hev] at c1
      by_cases e0 : ev = 0
      · have hr : endB key q (l, B) = decide (q.ss.length = 0) := by unfold endB; rw [if_pos (by omega)]
        rw [hr, hlen] at hlb
        have HLB := hid hlb
        subst e0
        clear hr hss hev hlb
        go_wp2
        go_ret
        exact ⟨by rw [HLB.out]; show Ending.returned (.bool ((k : Int) == 0)) = _; congr 2; rw [Bool.eq_iff_iff]; simp, LD.out.bl⟩
      · by_cases e1 : ev = 1
        · have hr : endB key q (l, B) = hld l B q.k := by unfold endB; rw [if_neg (by omega), if_pos (by omega)]
          rw [hr] at hlb
          have HLB := hid hlb
          subst e1
          clear hr hss hev hlb
          go_wp2_with (first
            | (refine load_at rfl 55 (.tmp 5) rfl (w.heap.size + 1 + 1) 0 rfl (.int .i64 l :: u8s B) _ (blk_pre LD.out.ch) Tryd.underlying55 rfl HPL.out (pc l B) rfl ?_)
            | (refine load_at rfl 24 (.tmp 55) rfl w.heap.size 2 rfl (u8s q.k) _ PA.out.key Tryd.underlying24 rfl HKK.out (kc q.k) rfl ?_)
            | (go_at_call 61; refine (CHK.out _).mono ?_; rintro e w3 ⟨rfl, hb⟩; have LD3 := hid (LD.out.below hb); clear hb))
          go_ret
          exact ⟨by rw [HLB.out]; rfl, LD3.out.bl⟩
        · by_cases e2 : ev = 2
          · have hr : endB key q (l, B) = (wth l B q.n q.b && decide (q.n < 256) && !(hld q.n q.b key)) := by unfold endB; rw [if_neg (by omega), if_neg (by omega), if_pos (by omega)]
            rw [hr] at hlb
            have HLB := hid hlb
            subst e2
            clear hr hss hev hlb
            generalize wth l B q.n q.b = v1 at CWN HLB
            generalize hld q.n q.b key = v3 at CHN HLB
            obtain ⟨pn, hpn⟩ : ∃ pn, pn = q.n := ⟨_, rfl⟩
            cases v1 with
            | false =>
              go_wp2_with (first
                | (refine load_at rfl 55 (.tmp 5) rfl (w.heap.size + 1 + 1) 0 rfl (.int .i64 l :: u8s B) _ (blk_pre LD.out.ch) Tryd.underlying55 rfl HPL.out (pc l B) rfl ?_)
                | (refine load_at rfl 55 (.tmp 61) rfl w.heap.size 66 rfl (.int .i64 q.n :: u8s q.b) _ PA.out.pre Tryd.underlying55 rfl HPN.out (pc q.n q.b) rfl ?_)
                | (go_at_call 102; refine (CWN.out _).mono ?_; rintro e w3 ⟨rfl, hb⟩; have LD3 := hid (LD.out.below hb); clear hb))
              go_ret
              exact ⟨by rw [HLB.out]; rfl, LD3.out.bl⟩
            | true =>
              by_cases hl : q.n < 256
              · have HLB2 : Hid (leadB key q = !v3) := by show _ = _; rw [HLB.out, decide_eq_true hl]; rfl
                have hl2 : pn < 256 := by omega
                go_wp2_with (first
                  | (refine load_at rfl 55 (.tmp 5) rfl (w.heap.size + 1 + 1) 0 rfl (.int .i64 l :: u8s B) _ (blk_pre LD.out.ch) Tryd.underlying55 rfl HPL.out (pc l B) rfl ?_)
                  | (refine load_at rfl 55 (.tmp 61) rfl w.heap.size 66 rfl (.int .i64 q.n :: u8s q.b) _ PA.out.pre Tryd.underlying55 rfl HPN.out (pc q.n q.b) rfl ?_)
                  | (go_at_call 102; (refine (CWN.out _).mono ?_; rintro e w3 ⟨rfl, hb⟩; have LD3 := hid (LD.out.below hb); have PA3 := hid (PA.out.below HOK.out hb); have c66 : w3.cell? ⟨w.heap.size, 66, none⟩ = some (.int .i64 pn) := (by rw [hpn]; exact PA3.out.len); clear hb))
                  | (refine load_at rfl 55 (.tmp 71) rfl w.heap.size 66 rfl (.int .i64 q.n :: u8s q.b) _ PA3.out.pre Tryd.underlying55 rfl HPN.out (pc q.n q.b) rfl ?_)
                  | (refine load_at rfl 24 (.tmp 3) rfl (w.heap.size + 1) 0 rfl (u8s key) _ (blk_key LD3.out.kk) Tryd.underlying24 rfl HKI.out (kc key) rfl ?_)
                  | (go_at_call 61; refine (CHN.out _).mono ?_; rintro e w4 ⟨rfl, hb⟩; have LD4 := hid (LD3.out.below hb); clear hb))
                go_ret
                exact ⟨by rw [HLB2.out]; rfl, LD4.out.bl⟩
              · have HLB2 : Hid (leadB key q = false) := by show _ = _; rw [HLB.out, decide_eq_false hl]; rfl
                have hl2 : ¬ pn < 256 := by omega
                go_wp2_with (first
                  | (refine load_at rfl 55 (.tmp 5) rfl (w.heap.size + 1 + 1) 0 rfl (.int .i64 l :: u8s B) _ (blk_pre LD.out.ch) Tryd.underlying55 rfl HPL.out (pc l B) rfl ?_)
                  | (refine load_at rfl 55 (.tmp 61) rfl w.heap.size 66 rfl (.int .i64 q.n :: u8s q.b) _ PA.out.pre Tryd.underlying55 rfl HPN.out (pc q.n q.b) rfl ?_)
                  | (go_at_call 102; (refine (CWN.out _).mono ?_; rintro e w3 ⟨rfl, hb⟩; have LD3 := hid (LD.out.below hb); have PA3 := hid (PA.out.below HOK.out hb); have c66 : w3.cell? ⟨w.heap.size, 66, none⟩ = some (.int .i64 pn) := (by rw [hpn]; exact PA3.out.len); clear hb)))
                go_ret
                exact ⟨by rw [HLB2.out]; rfl, LD3.out.bl⟩
          · have hr : endB key q (l, B) = false := by unfold endB; rw [if_neg (by omega), if_neg (by omega), if_neg (by omega)]
            rw [hr] at hlb
            have HLB := hid hlb
            clear hr hss hev hlb
            go_wp2
            go_ret
            exact ⟨by rw [HLB.out]; rfl, LD.out.bl⟩
end Go.Proofs.YtbhgchbacadgaaaDoor
/-
  What is proved here: the text of an inner node of any length, as the code has it.
-/
namespace Go.Proofs.YtbhgchbacadgaaaDoor
open Go.ChangeShapes Go.WideShapes Go.ChangeAt Go.RowKit
set_option linter.unusedVariables false
set_option linter.unusedSimpArgs false
set_option maxRecDepth 20000

theorem inR_4w {w : World} {g : Nat} {B C D : Option Addr} {a b d : List Int} (hb : Blk w g 49 #[.slice none 0 0, .slice B 32 32, .slice C 32 32, .slice D 32 32]) (ha : Ky a) (hk : Ky b) (hd : Ky d) (h1 : Rp w none B a) (h2 : Rp w none C b) (h3 : Rp w none D d) :
    InR w (some ⟨g, 0, none⟩) 4 [[], a, b, d] := by
  refine ⟨rfl, by decide, fun _ => ⟨g, 0, rfl, hb.lt, fun i hi => ?_⟩⟩
  have h01 : i = 0 ∨ i = 1 ∨ i = 2 ∨ i = 3 := by omega
  rcases h01 with rfl | rfl | rfl | rfl
  · exact ⟨none, 0, [], rfl, by rw [hb.cell]; rfl, (fun v hv => by simp at hv), Rp.nil _ _ _, Nat.le_refl _, by simp⟩
  · exact ⟨B, 32, a, rfl, by rw [hb.cell, ha.len]; rfl, ha.bs, h1, by rw [ha.len]; decide, by rw [ha.len]; decide⟩
  · exact ⟨C, 32, b, rfl, by rw [hb.cell, hk.len]; rfl, hk.bs, h2, by rw [hk.len]; decide, by rw [hk.len]; decide⟩
  · exact ⟨D, 32, d, rfl, by rw [hb.cell, hd.len]; rfl, hd.bs, h3, by rw [hd.len]; decide, by rw [hd.len]; decide⟩
theorem len_4w {a b d : List Int} (ha : Ky a) (hb : Ky b) (hd : Ky d) : ∀ f ∈ [[], a, b, d], f.length ≤ 300 := fun f hf => by
  simp only [List.mem_cons, List.not_mem_nil, or_false] at hf
  rcases hf with rfl | rfl | rfl | rfl
  · decide
  · rw [ha.len]; decide
  · rw [hb.len]; decide
  · rw [hd.len]; decide
theorem text_4w {w : World} {F : FuncId} (CT : ∀ (tag : Int) (A : Option Addr) (n c : Nat) (L : List (List Int)) (w : World), InR w A n L → n ≤ 20 → (∀ f ∈ L, f.length ≤ 300) → 0 ≤ tag ∧ tag < 256 → Calls Tryd.prog F #[.int .u8 tag, .slice A n c] w fun e w' => ∃ A' c', e = .returned (.slice A' (textL tag L).length c') ∧ (textL tag L).length ≤ c' ∧ Fresh w w' A' (textL tag L) ∧ Below w.heap.size w w')
    {g : Nat} {B C D : Option Addr} {a b d : List Int} (hb : Blk w g 49 #[.slice none 0 0, .slice B 32 32, .slice C 32 32, .slice D 32 32]) (ha : Ky a) (hk : Ky b) (hd : Ky d) (h1 : Rp w none B a) (h2 : Rp w none C b) (h3 : Rp w none D d) :
    Calls Tryd.prog F #[.int .u8 110, .slice (some ⟨g, 0, none⟩) 4 4] w fun e w' => (∃ A c, e = .returned (.slice A (textL 110 [[], a, b, d]).length c) ∧ (textL 110 [[], a, b, d]).length ≤ c ∧ Fresh w w' A (textL 110 [[], a, b, d])) ∧ Below w.heap.size w w' :=
  (CT 110 _ 4 4 [[], a, b, d] w (inR_4w hb ha hk hd h1 h2 h3) (by decide) (len_4w ha hk hd) (by decide)).mono fun e w' ⟨A, c, h1, h2, h3, h4⟩ => ⟨⟨A, c, h1, h2, h3⟩, h4⟩
set_option maxHeartbeats 4000000 in
theorem xText_wild (q : Nd) (l r : List Int) (w : World) (hq : NdOk q) (hl : q.leaf = false) (hn : q.n < 0 ∨ 65535 < q.n) (hkl : Ky l) (hkr : Ky r) : Calls Tryd.prog 25 #[.agg (nc q).toArray, .agg (kc l), .agg (kc r)] w (TxA w (textL 110 [[], q.b, l, r])) := by
  obtain ⟨Z, hz, hz0, z0, z1, z2, z3, z4, hZs⟩ := zero_writer
  obtain ⟨hk1, hk2, hk3, hb0⟩ := three_blks w (nc q).toArray (kc l) (kc r) 57 24 24
  have S1 : (((w.alloc (.cells (nc q).toArray 57)).alloc (.cells (kc l) 24)).alloc (.cells (kc r) 24)).heap.size = w.heap.size + 1 + 1 + 1 := by simp
  have hW0 : WAt ((((w.alloc (.cells (nc q).toArray 57)).alloc (.cells (kc l) 24)).alloc (.cells (kc r) 24)).alloc (.cells Z 120)) (w.heap.size + 1 + 1 + 1) [] := by
    have := new_writer (Blk.new (((w.alloc (.cells (nc q).toArray 57)).alloc (.cells (kc l) 24)).alloc (.cells (kc r) 24)) 120 Z) hz z0.out z1.out z2.out z3.out
    rw [S1] at this; exact this
  have HW0 : Hid (WRep ((((w.alloc (.cells (nc q).toArray 57)).alloc (.cells (kc l) 24)).alloc (.cells (kc r) 24)).alloc (.cells Z 120)) (some ⟨w.heap.size + 1 + 1 + 1, 0, none⟩) (.good [])) := ⟨_, rfl, hW0⟩
  have na := (hk1.alloc (.cells Z 120)).node hq
  have cl := na.leaf
  have cn := na.len
  rw [hl] at cl
  have J1 := hid (hk1.alloc (.cells Z 120))
  have J2 := hid (hk2.alloc (.cells Z 120))
  have J3 := hid (hk3.alloc (.cells Z 120))
  have B0 := hid (hb0.alloc (by rw [S1]; omega) (.cells Z 120))
  have cl0 := (hk1.node hq).leaf
  rw [hl] at cl0
  have HQ := hid hq; have HKL := hid hkl; have HKR := hid hkr
  have HOF : Hid (∀ k, Of (some ⟨w.heap.size + 1 + 1 + 1, 0, none⟩) k → k = w.heap.size + 1 + 1 + 1) := by rintro k ⟨a, ha, rfl⟩; injection ha with ha; subst ha; rfl
  have SK : Hid (((((w.alloc (.cells (nc q).toArray 57)).alloc (.cells (kc l) 24)).alloc (.cells (kc r) 24)).alloc (.cells Z 120)).heap.size = w.heap.size + 1 + 1 + 1 + 1) := by show _ = _; simp
  have H1 := hid (WU16_any (some ⟨w.heap.size + 1 + 1 + 1, 0, none⟩) (.good []) q.n _ HW0.out (by simp [WS.len]))
  have hup : (WS.good []).up 65535 q.n 2 = .bad := by unfold WS.up; rw [if_pos hn]; rfl
  rw [hup] at H1
  clear hk1 hk2 hk3 hb0 hq hl hkl hkr hz z0 z1 z2 z3 z4 hW0 HW0 hn hup na
  unfold TxA
  go_enter Tryd.func25, Tryd.ntmps25
  go_upto_region 6 with (first
    | (go_at_call 59; refine H1.out.mono ?_; rintro e w1 ⟨rfl, hw1, ho1⟩; have O1 := hid ho1; have H5 := Out_bad (some ⟨w.heap.size + 1 + 1 + 1, 0, none⟩) w1 hw1; have H5 := hid H5; clear hw1 ho1)
    | (go_at_call 60; refine H5.out.mono ?_; rintro e w4 ⟨rfl, rfl⟩))
  have B4 := hid (B0.out.trans (O1.out.below (B := w.heap.size) (by rw [SK.out]; omega) (fun k hk => by rw [HOF.out k hk]; omega)))
  have SZ : w.heap.size + 1 + 1 + 1 + 1 ≤ w1.heap.size := by rw [← SK.out]; exact O1.out.size
  have L1 := hid (J1.out.same (O1.out.block _ J1.out.lt (fun hk => by have := HOF.out _ hk; omega)))
  have K2 := hid (J2.out.same (O1.out.block _ J2.out.lt (fun hk => by have := HOF.out _ hk; omega)))
  have K3 := hid (J3.out.same (O1.out.block _ J3.out.lt (fun hk => by have := HOF.out _ hk; omega)))
  have NA := hid (L1.out.node HQ.out)
  refine wp_region_held (S := fun w' => Hid (Below w1.heap.size w1 w')) (by kernel_rfl) ?_
  change wpAnyH _ _ _ _ _ _ _ _ w1.drew
  have Gx0 : Hid (Below w1.heap.size w1 w1.drew) := (Below.refl _ _).drew
  generalize w1.drew = x0 at Gx0  ⊢
  refine wpAnyH_take (i := 0) (oi := { dst := some 26, op := _, type := _, pos := _, after := _, guard := _ }) (v := ?_) rfl (by kernel_rfl) (by kernel_rfl) (by kernel_rfl) (fun _ _ _ h => h) (Or.inl ⟨by kernel_rfl, ?_⟩) Gx0 ?_
  rotate_left
  · (intro w hSw; go_simp; try with_reducible rfl)
  try simp only [Act.put, List.setIfInBounds_toArray, List.set_cons_zero, List.set_cons_succ]
  refine wpAnyH_take (i := 1) (oi := { dst := some 27, op := _, type := _, pos := _, after := _, guard := _ }) (v := ?_) rfl (by kernel_rfl) (by kernel_rfl) (by kernel_rfl) (fun _ _ _ h => h) (Or.inl ⟨by kernel_rfl, ?_⟩) Gx0 ?_
  rotate_left
  · (intro w hSw; go_simp; try with_reducible rfl)
  try simp only [Act.put, List.setIfInBounds_toArray, List.set_cons_zero, List.set_cons_succ]
  refine wpAnyH_take (i := 2) (oi := { dst := some 28, op := _, type := _, pos := _, after := _, guard := _ }) (v := ?_) rfl (by kernel_rfl) (by kernel_rfl) (by kernel_rfl) (fun _ _ _ h => h) (Or.inl ⟨by kernel_rfl, ?_⟩) Gx0 ?_
  rotate_left
  · (intro w hSw; go_simp; try with_reducible rfl)
  try simp only [Act.put, List.setIfInBounds_toArray, List.set_cons_zero, List.set_cons_succ]
  refine wpAnyH_take (i := 3) (oi := { dst := some 29, op := _, type := _, pos := _, after := _, guard := _ }) (v := ?_) rfl (by kernel_rfl) (by kernel_rfl) (by kernel_rfl) (fun _ _ _ h => h) (Or.inl ⟨by kernel_rfl, ?_⟩) Gx0 ?_
  rotate_left
  · (intro w hSw; go_simp; try with_reducible rfl)
  try simp only [Act.put, List.setIfInBounds_toArray, List.set_cons_zero, List.set_cons_succ]
  refine wpAnyH_take (i := 4) (oi := { dst := some 30, op := _, type := _, pos := _, after := _, guard := _ }) (v := ?_) rfl (by kernel_rfl) (by kernel_rfl) (by kernel_rfl) (fun _ _ _ h => h) (Or.inl ⟨by kernel_rfl, ?_⟩) Gx0 ?_
  rotate_left
  · (intro w hSw; go_simp; try with_reducible rfl)
  try simp only [Act.put, List.setIfInBounds_toArray, List.set_cons_zero, List.set_cons_succ]
  refine wpAnyH_take (i := 5) (oi := { dst := some 31, op := _, type := _, pos := _, after := _, guard := _ }) (v := ?_) rfl (by kernel_rfl) (by kernel_rfl) (by kernel_rfl) (fun _ _ _ h => h) (Or.inl ⟨by kernel_rfl, ?_⟩) Gx0 ?_
  rotate_left
  · (intro w hSw; go_simp; try with_reducible rfl)
  try simp only [Act.put, List.setIfInBounds_toArray, List.set_cons_zero, List.set_cons_succ]
  refine wpAnyH_ready (rs := [6]) (by kernel_rfl) (by simp) ?_
  refine (AllReadyH.cons (o := { dst := some 32, op := _, type := _, pos := _, after := _, guard := _ }) rfl (fun Qc hQc => ?_) AllReadyH.nil)
  go_simp
  have NBx1 : Hid (Blk (x0.alloc (.cells #[.slice none 0 0, .slice (some ⟨w.heap.size, 66, none⟩) 32 32, .slice (some ⟨w.heap.size + 1, 0, none⟩) 32 32, .slice (some ⟨w.heap.size + 1 + 1, 0, none⟩) 32 32] 49)) x0.heap.size 49 #[.slice none 0 0, .slice (some ⟨w.heap.size, 66, none⟩) 32 32, .slice (some ⟨w.heap.size + 1, 0, none⟩) 32 32, .slice (some ⟨w.heap.size + 1 + 1, 0, none⟩) 32 32]) := Blk.new x0 49 #[.slice none 0 0, .slice (some ⟨w.heap.size, 66, none⟩) 32 32, .slice (some ⟨w.heap.size + 1, 0, none⟩) 32 32, .slice (some ⟨w.heap.size + 1 + 1, 0, none⟩) 32 32]
  have Gx1 := hid (Gx0.out.alloc Gx0.out.size (.cells #[.slice none 0 0, .slice (some ⟨w.heap.size, 66, none⟩) 32 32, .slice (some ⟨w.heap.size + 1, 0, none⟩) 32 32, .slice (some ⟨w.heap.size + 1 + 1, 0, none⟩) 32 32] 49))
  refine hQc.out _ _ Gx1 (fun hHeld => ?_)
  clear hQc Qc hHeld
  generalize x0.heap.size = g1 at NBx1 ⊢
  generalize x0.alloc (.cells #[.slice none 0 0, .slice (some ⟨w.heap.size, 66, none⟩) 32 32, .slice (some ⟨w.heap.size + 1, 0, none⟩) 32 32, .slice (some ⟨w.heap.size + 1 + 1, 0, none⟩) 32 32] 49) = x1 at NBx1 Gx1 ⊢
  try simp only [Act.put, List.setIfInBounds_toArray, List.set_cons_zero, List.set_cons_succ]
  refine wpAnyH_ready (rs := [7]) (by kernel_rfl) (by simp) ?_
  refine (AllReadyH.cons (o := { dst := some 33, op := _, type := _, pos := _, after := _, guard := _ }) rfl (fun Qc hQc => ?_) AllReadyH.nil)
  go_simp
  go_at_call 58
  refine (text_4w Text_any NBx1.out HQ.out.b HKL.out HKR.out ((rng_rp NA.out.bits).belowN Gx1.out) ((blk_rp K2.out).belowN Gx1.out) ((blk_rp K3.out).belowN Gx1.out)).mono ?_
  rintro e x2 ⟨⟨A5, c5, rfl, h5, hf5⟩, hb⟩
  have Gx2 := hid (Gx1.out.trans (hb.mono Gx1.out.size))
  have F5 := hid (hf5.more Gx1.out.size)
  clear hb
  go_wp2_with fail
  refine hQc.out _ _ Gx2 (fun hHeld => ?_)
  clear hQc Qc hHeld
  try simp only [Act.put, List.setIfInBounds_toArray, List.set_cons_zero, List.set_cons_succ]
  refine wpAnyH_take (i := 8) (oi := { dst := some 6, op := _, type := _, pos := _, after := _, guard := _ }) (v := ?_) rfl (by kernel_rfl) (by kernel_rfl) (by kernel_rfl) (fun _ _ _ h => h) (Or.inl ⟨by kernel_rfl, ?_⟩) Gx2 ?_
  rotate_left
  · (intro w hSw; go_simp; try with_reducible rfl)
  try simp only [Act.put, List.setIfInBounds_toArray, List.set_cons_zero, List.set_cons_succ]
  refine wpAnyH_done (by kernel_rfl) ?_ _
  try simp only [Act.put, List.setIfInBounds_toArray, List.set_cons_zero, List.set_cons_succ]
  go_wp2
  go_ret
  exact ⟨A5, c5, rfl, h5, F5.out.more B4.out.size, B4.out.trans (Gx2.out.mono B4.out.size)⟩
theorem xText_X (q : Nd) (l r : List Int) (w : World) (hq : NdOk q) (hl : q.leaf = false) (hkl : Ky l) (hkr : Ky r) : Calls Tryd.prog 25 #[.agg (nc q).toArray, .agg (kc l), .agg (kc r)] w (TxA w (innX q.n q.b l r)) := by
  unfold innX
  by_cases h : 0 ≤ q.n ∧ q.n ≤ 65535
  · rw [if_pos h]; exact xText_inner q l r w hq hl h hkl hkr
  · rw [if_neg h]; exact xText_wild q l r w hq hl (by omega) hkl hkr
/-- a node of which only the prefix is told -/
def ndP (n : Int) (b : List Int) : Nd := ⟨false, z32, z32, n, b, 0, 0, z32⟩
theorem ndP_ok {n : Int} {b : List Int} (h : Ky b) : NdOk (ndP n b) := ⟨ky_zero, ky_zero, h, ky_zero⟩
def ndK (k v : List Int) : Nd := ⟨true, k, v, 0, z32, 0, 0, z32⟩
theorem ndK_ok {k v : List Int} (h : Ky k) (hv : Ky v) : NdOk (ndK k v) := ⟨h, hv, ky_zero, ky_zero⟩
end Go.Proofs.YtbhgchbacadgaaaDoor
/-
  What this file is for: drawn and plain regions within the round of a range over a function; a range whose variable lies in a box; the iterator over steps, from the last one on.
-/
namespace Go.Proofs.YtbhgchbacadgaaaDoor
open Go.ChangeShapes Go.WideShapes Go.ChangeAt Go.RowKit Go.Shelf
set_option linter.unusedVariables false
set_option linter.unusedSimpArgs false
set_option maxRecDepth 20000
attribute [local go_sem] Oper.semAt_some

section
variable {P : Program} {R : Act → World → Prop} {l n : Nat}
theorem any_round {md : Region.Mode} {ops : Array Oper} (hd : ∀ (i : Nat) o, ops[i]? = some o → ∀ c, o.op ≠ .defer c) : ∀ (fuel : Nat) (listed : Array Bool) (a : Act) (w : World), wpAny P md ops (Qr R) fuel listed a w → wpAnyIn (Fence.wide.inRound l) n P md ops (Qr R) fuel listed a w := by
  intro fuel
  induction fuel with
  | zero => intro listed a w h; exact h
  | succ fuel ih =>
    intro listed a w h
    refine ⟨h.1, fun i hi => ?_⟩
    have h1 := h.2 i hi
    unfold wpOp at h1
    unfold wpOpIn
    cases ho : ops[i]? with
    | none => rw [ho] at h1; exact ih _ _ _ h1
    | some o =>
      rw [ho] at h1
      simp only at h1 ⊢
      by_cases hw : Region.wanted o (yielded ops a.tmps) = true
      · rw [if_pos hw] at h1 ⊢
        rcases h1 with h1 | ⟨_, a0, w0, h1⟩
        · exact oper_round (hd i o ho) (fun a w h => ih _ _ _ h) h1
        · exact h1.elim
      · rw [if_neg hw] at h1 ⊢
        exact ⟨fun _ _ => trivial, ih _ _ _ h1⟩
theorem region_round {id : Nat} {ops : Array Oper} {S : World → Prop} {a : Act} {w : World} (hm : P.follows .mixedOrders = true) (hd : (ops.toList.all fun o => match o.op with | .defer _ => false | _ => true) = true)
    (h : wpAnyH P .any ops (Qr R) S ops.size (Array.replicate ops.size false) a { w with drawn := w.drawn + 1 }) : (Code.region id ops true).wpIn (Fence.wide.inRound l) n P (Qr R) a w :=
  wpIn_region_any hm (any_round (fun i o ho c hc => by
    rw [List.all_eq_true] at hd
    have := hd o (by rw [← Array.getElem?_toList] at ho; exact List.mem_of_getElem? ho)
    rw [hc] at this
    cases this) _ _ _ _ (wpAny_of_held _ _ _ _ h))
theorem seq_plain {id : Nat} {L : List Oper} {y : Code} {Q : Exit → Act → World → Prop} {a : Act} {w : World} (hd : (L.all fun o => match o.op with | .defer _ => false | _ => true) = true)
    (h : wpList P L.toArray (Qr fun a w => y.wpIn (Fence.wide.inRound l) n P Q a w) L a w) : (Code.seq (.region id L.toArray false) y).wpIn (Fence.wide.inRound l) n P Q a w :=
  wpIn_seq (wpIn_cut _ (plain_round hd h) (fun _ _ h => h))
end
theorem keeps_below {B : Nat} {W W' : World} (h : Below W.heap.size W W') : KeepsFrom B W W' := ⟨h.size, fun k o _ hk _ => (h.block k (by
  rcases Nat.lt_or_ge k W.heap.size with h1 | h1
  · exact h1
  · rw [Array.getElem?_eq_none h1] at hk; cases hk)).trans hk⟩
/-- a range over a function whose variable lies in a box -/
theorem range_box {α : Type} {P : Program} {n : Nat} {g : Operand} {ps : Array Tmp} {assign body : Code} {Q : Exit → Act → World → Prop} {a : Act} {w : World} (h1 : 1 ≤ n) {gf : Nat} {lb : Array Value} (hg : a.eval g = .func (.func gf) #[] lb) (eg : ∀ args w, (callFunc gf args).run P w = .ok (.enter gf args) w)
    {encs : α → Array Value} {SS : Nat → Prop} {S Sp : List α → Prop} {N : Nat} {w0 : World} (hseq : SeqStopsK Fence.wide (n - 1) P gf lb encs (KpS SS) S Sp N w0)
    (hSS : ∀ g, SS g → g < w.heap.size) (hb0 : Below w0.heap.size w0 w) (hps : ∀ x, (encs x).size = ps.size)
    (I : List α → World → Prop) (hI : OwnFrom w.heap.size I) (hIb : ∀ pre W W', I pre W → Below W.heap.size W W' → I pre W') (h0 : I [] w) (F : α → Nat → Act) (t : TypeId) (C : α → Array Value)
    (hassign : ∀ (l : Nat) (x : α) (W : World) (K : Act → World → Prop), (∀ g8 W', Blk W' g8 t (C x) → Below W.heap.size W W' → W.heap.size ≤ g8 → K (F x g8) W') →
      assign.wpIn (Fence.wide.inRound l) (n - 1 - 1) P (Exit.then K (fun _ _ _ => False)) { tmps := (ps.zip (encs x)).foldl (fun t (p, v) => t.setIfInBounds p v) a.tmps, defers := [] } W)
    (hbody : ∀ (l : Nat) (pre : List α) (x : α) (g8 : Nat) (W : World), w.heap.size ≤ W.heap.size → I pre W → Blk W g8 t (C x) → w.heap.size ≤ g8 → pre.length < N → body.wpIn (Fence.wide.inRound l) (n - 1 - 1) P (ownPostG w.heap.size (KpS SS) I (fun _ _ _ => False) (pre ++ [x]) W) (F x g8) W)
    (hdone : ∀ (D : Nat) (xs : List α) (W : World), w.heap.size ≤ D → S xs → I xs W → W.heap[D]? = some (.deferred (some [])) → Q .normal { a with defers := { target := .collected D, args := #[] } :: a.defers } W) :
    (Code.rangeFunc g ps assign body).wpIn Fence.wide n P Q a w := by
  refine wpIn_rangeFunc_ownH (n := n) rfl h1 hg trivial eg hseq KpS.t (KpS.b (S := SS) hSS) hb0 hps (fun pre W => I pre W ∧ w.heap.size ≤ W.heap.size) (fun _ _ _ => False) (fun pre W W' row h hg hr => ⟨hI pre W W' row h.1 hg hr, Nat.le_trans h.2 hg.size⟩) (fun _ _ _ _ _ hs _ _ => hs) ⟨h0, Nat.le_refl _⟩
    (fun x a' W => ∃ g8, a' = F x g8 ∧ Blk W g8 t (C x) ∧ w.heap.size ≤ g8) (fun x a' _ W W' row h hg hr => ?_) (fun l pre x W K hi hK => ?_) (fun l pre x a' W _ _ hi hax hlen => ?_) (fun D xs W hD hS hi hd => hdone D xs W hD hS hi.1 hd) (fun D c pre W _ _ h _ => h.elim)
  · obtain ⟨g8, e, hb, hle⟩ := h
    exact ⟨g8, e, hb.own hg (fun r e => (hr r e).2), hle⟩
  · refine hassign l x W K (fun g8 W' hb hbl hle => hK _ _ (keeps_below hbl) (KpS.below hbl) ⟨hIb _ _ _ hi.1 hbl, Nat.le_trans hi.2 hbl.size⟩ ⟨g8, rfl, hb, Nat.le_trans hi.2 hle⟩)
  · obtain ⟨g8, rfl, hb, hle⟩ := hax
    refine wpIn_mono (hbody l pre x g8 W hi.2 hi.1 hb hle hlen) (fun e a w h => ?_)
    cases e with
    | normal => exact ⟨h.1, h.2.1, h.2.2, Nat.le_trans hi.2 h.1.size⟩
    | ret => exact h
    | exit id => exact h
    | goto t => exact h
    | panic c => exact h
    | outgrown => exact h
def ItT (bs : Nat) (A : Option Addr) (m : Nat) (g : Nat) : Prop := g = bs ∨ (0 < m ∧ ∃ a, A = some a ∧ g = a.block)
/-- what the iterator reads: its box, and the steps -/
structure ItQ (bs : Nat) (A : Option Addr) (m c : Nat) (S : List QS) (w : World) : Prop where
  kb : Blk w bs 64 #[.slice A m c]
  ins : InS w A m S
theorem InS.keep {w w' : World} {A : Option Addr} {n : Nat} {S : List QS} (h : InS w A n S) (hs : w.heap.size ≤ w'.heap.size) (hk : 0 < n → ∀ a, A = some a → a.block < w.heap.size → w'.heap[a.block]? = w.heap[a.block]?) : InS w' A n S := by
  refine ⟨h.len, h.max, h.ok, fun hn => ?_⟩
  obtain ⟨b, o, e, hlt, hat⟩ := h.at' hn
  have hb := hk hn _ e hlt
  exact ⟨b, o, e, Nat.lt_of_lt_of_le hlt hs, fun i q hq j v hv => (World.cell?_of_block (a := ⟨b, o + i * 65 + j, none⟩) hb).trans (hat i q hq j v hv)⟩
theorem ItQ.kp {bs m c : Nat} {A : Option Addr} {S : List QS} {W W' : World} (h : ItQ bs A m c S W) (hk : KpS (ItT bs A m) W W') : ItQ bs A m c S W' :=
  ⟨h.kb.same (hk.2 bs (.inl rfl) h.kb.lt), h.ins.keep hk.1 (fun hn a e hl => hk.2 _ (.inr ⟨hn, a, e, rfl⟩) hl)⟩
theorem ItQ.below {bs m c : Nat} {A : Option Addr} {S : List QS} {W W' : World} (h : ItQ bs A m c S W) (hb : Below W.heap.size W W') : ItQ bs A m c S W' := h.kp (KpS.below hb)
theorem gi_load {n : Nat} {ops : Array Oper} {rest : List Oper} {o : Oper} {a : Act} {w : World} {Q : Exit → Act → World → Prop} (hgd : o.guard = none) (ty : TypeId) (x : Operand) (ho : o.op = .load ty x)
    (v p : Value) (hx : a.eval x = p) (hr : (Instr.loadAt ty p).run Tryd.prog w = .ok v w) (h : wpListIn Fence.wide n Tryd.prog ops Q rest (a.put o.dst v) w) : wpListIn Fence.wide n Tryd.prog ops Q (o :: rest) a w := by
  refine wpListIn_plain hgd (fun K hK => ?_)
  unfold Oper.wpIn
  refine ⟨fun _ _ => trivial, ?_⟩
  rw [Oper.semAt_plain _ _ _ (fun c hc => by rw [ho] at hc; cases hc), exec_load ty x p v ho hx hr]
  exact hK _ _ h
def sAt (S : List QS) {m : Nat} (x : Fin m) : QS := S[x.val]?.getD stZ
def encQ (S : List QS) {m : Nat} (x : Fin m) : Array Value := #[.int .i64 (x.val : Int), .agg (stc (sAt S x)).toArray]
set_option maxHeartbeats 4000000 in
theorem qback_walk {m : Nat} (hm : m < 1000000) (l bs : Nat) (A : Option Addr) (c : Nat) (S : List QS) (J Jx : List (Fin m) → World → Prop) (W : World)
    (hJ : AbidesFrom W.heap.size J)
    (hY : ∀ pre x W1, J pre W1 → pre.length < m → YieldAt Fence.wide 0 Tryd.prog l (encQ S x) W1 fun e W' =>
      (e = .returned (.bool true) ∧ J (pre ++ [x]) W' ∧ KpS (ItT bs A m) W1 W') ∨ (e = .returned (.bool false) ∧ Jx (pre ++ [x]) W'))
    (hc : ItQ bs A m c S W) (h0 : J [] W) :
    CallsIn Fence.wide 1 Tryd.prog 107 #[.func (.yield l) #[] #[], .pointer (some ⟨bs, 0, none⟩)] W fun e W' => (∃ v, e = .returned v) ∧
      ((∃ ys : List (Fin m), ys.map (·.val) = downs m m ∧ J ys W') ∨ (∃ pre : List (Fin m), True ∧ Jx pre W')) := by
  have HC := hid hc; have HY := hid hY; have HJ := hid hJ
  have H0 := hid h0
  clear hY hJ h0
  refine callsIn_of_wp Tryd.func107 rfl trivial ?_ rfl
  simp only [Tryd.ntmps107, List.size_toArray, List.length_cons, List.length_nil, Nat.reduceAdd, Nat.reduceSub, Array.replicate_succ, Array.replicate_zero, List.push_toArray, List.append_toArray, List.nil_append, List.cons_append]
  have s0 : W.cell? ⟨bs, 0, none⟩ = some (.slice A m c) := hc.kb.cell 0
  have hm2 : (m : Int) < 1000000 := by omega
  have HM := hid hm
  clear hm
  clear hc
  gi_wp2
  clear s0
  gi_loopw [3] (fun i wr => ∃ r : Nat, r ≤ m ∧ i = .int .i64 ((r : Int) - 1) ∧ Hid (ItQ bs A m c S wr) ∧ ∃ pre : List (Fin m), Hid (pre.map (·.val) = downs m (m - r)) ∧ Hid (J pre wr)) (fun i _ => (intOf i + 1).toNat)
  case atStart => exact ⟨m, Nat.le_refl _, rfl, HC.out, [], by show _ = _; simp [downs], H0.out⟩
  case round =>
    obtain ⟨r, hr, rfl, HCR, pre, HP, HJR⟩ := hrel
    cases r with
    | zero =>
      have e0 : ((0 : Nat) : Int) - 1 = -1 := by simp
      rw [e0]
      gi_wp2
      go_end0
      exact ⟨⟨_, rfl⟩, .inl ⟨pre, by have := HP.out; rwa [Nat.sub_zero] at this, HJR.out⟩⟩
    | succ k =>
      have e0 : ((k + 1 : Nat) : Int) - 1 = (k : Int) := by omega
      rw [e0]
      obtain ⟨b, oo, s, rfl, hs, hok, hrng⟩ := HCR.out.ins.at (show k < m by omega)
      have s0 : wr.cell? ⟨bs, 0, none⟩ = some (.slice (some ⟨b, oo, none⟩) m c) := HCR.out.kb.cell 0
      have ld1 : (Instr.loadAt 129 (.pointer (some ⟨b, oo + k * 65, none⟩))).run Tryd.prog wr = .ok (.agg (stc s).toArray) wr := run_loadAt_mid wr b (oo + k * 65) 129 (stc s) _ hrng Tryd.underlying129 rfl (step_info hok)
      have HL : Hid (pre.length = m - (k + 1)) := by
        have := HP.out
        have := congrArg List.length this
        rw [List.length_map, downs_length] at this
        exact this
      obtain ⟨fn, tmps, assign, body, hy, hR⟩ := HY.out pre (⟨k, by omega⟩ : Fin m) wr HJR.out (by rw [HL.out]; omega)
      have esa : sAt S (⟨k, by omega⟩ : Fin m) = s := by unfold sAt; rw [hs]; rfl
      have hy2 : (Instr.yield l #[.int .i64 (k : Int), .agg (stc s).toArray]).run Tryd.prog wr = .ok (.round l fn tmps assign body) wr := by rw [← esa]; exact hy
      have HR := hid hR
      have hk : k < m := by omega
      clear hy hR esa hrng hs
      generalize Value.agg (stc s).toArray = vs at ld1 hy2
      clear hok
      gi_wp2_with (refine gi_load rfl 129 (.tmp 15) rfl vs _ rfl ld1 ?_)
      refine HR.out.mono ?_
      rintro e W3 h3
      clear s0 hy2 ld1
      have KK : Hid (m - (k + 1) + 1 = m - k ∧ m - 1 - (m - (k + 1)) = k) := by show _ ∧ _; omega
      rcases h3 with ⟨rfl, hj3, hk3⟩ | ⟨rfl, hj3⟩
      · have HJ3 := hid hj3; have HK3 := hid hk3; clear hj3 hk3
        gi_wp2
        go_roundw
        case rel =>
          refine ⟨k, by omega, rfl, HCR.out.kp HK3.out, _, ?_, HJ3.out⟩
          show _ = _
          rw [List.map_append, HP.out, ← KK.out.1, downs_succ, KK.out.2]
          rfl
        case measure => simp [intOf]
      · have HJ3 := hid hj3; clear hj3
        gi_wp2
        refine bodyPost_ret (results_none rfl _ _ _) rfl ?_
        exact ⟨⟨_, rfl⟩, .inr ⟨_, trivial, HJ3.out⟩⟩
theorem qback_stops {m : Nat} (hm : m < 1000000) (bs : Nat) (A : Option Addr) (c : Nat) (S : List QS) (w : World) (hc : ItQ bs A m c S w) :
    SeqStopsK Fence.wide 1 Tryd.prog 107 #[.pointer (some ⟨bs, 0, none⟩)] (encQ S (m := m)) (KpS (ItT bs A m)) (fun ys => ys.map (·.val) = downs m m) (fun _ => True) m w :=
  fun l J Jx W hW hJ _ hY h0 => (qback_walk hm l bs A c S J Jx W hJ hY (hc.below (hW.mono (Nat.le_refl _))) h0)
theorem qback_any (A : Option Addr) (n c : Nat) (w : World) :
    Calls Tryd.prog 71 #[.slice A n c] w fun e w' => e = .returned (.func (.func 107) #[] #[.pointer (some ⟨w.heap.size, 0, none⟩)]) ∧ w' = w.alloc (.cells #[.slice A n c] 64) := by
  go_enter Tryd.func71, Tryd.ntmps71
  go_wp2
  go_ret
  exact ⟨rfl, rfl⟩
end Go.Proofs.YtbhgchbacadgaaaDoor
