/-
  What is proved here: a restart of the code's device.
-/
import Derived.Test.YthfkooancgkjaaaME1
import Derived.Deep.DeepCutAuto
import Derived.Deep.RegionLaw
import Derived.StillTailTactics
set_option linter.unusedSimpArgs false
set_option linter.unusedVariables false
namespace Go.Proofs.Ythfkooancgkjaaa
open Go.ChangeShapes Go.WideShapes Go.ChangeAt Go.RowKit
set_option linter.unusedVariables false
set_option linter.unusedSimpArgs false
set_option maxRecDepth 20000

theorem max2_run (v : Int) (w : World) : Sem.run Try.prog (Builtin.max_ #[3, 3] 3 #[.int .i64 v, .int .i64 0]) w = .ok (.int .i64 (max v 0)) w := by
  have e : max v 0 = if v < 0 then 0 else v := by split <;> omega
  rw [e]
  simp [Builtin.max_, Builtin.max2, Sem.run_bind, Sem.run_pure, Result.andThen_ok]
theorem min2_run (v : Int) (w : World) : Sem.run Try.prog (Builtin.min_ #[3, 3] 3 #[.int .i64 v, .int .i64 128]) w = .ok (.int .i64 (min v 128)) w := by
  have e : min v 128 = if 128 < v then 128 else v := by split <;> omega
  rw [e]
  simp [Builtin.min_, Builtin.min2, Sem.run_bind, Sem.run_pure, Result.andThen_ok]
set_option maxHeartbeats 8000000 in
theorem dRestart_at {w : World} {R : Nat → Prop} {b : Nat} {L : List (List Int)} {Q : List Wr} {F : Int} {D : Bool} (h : DAt w R b L Q F D) (A : Option Addr) (c : Nat) (l : List Int) (hl : Ip w A l) (hA : 0 < l.length → ∀ a, A = some a → ¬ R a.block) (hll : l.length < 1000000000000) (hQm : Q.length < 1000000) :
    Calls Try.prog 15 #[.pointer (some ⟨b, 0, none⟩), .slice A l.length c] w fun e w' => e = .returned (.tuple #[]) ∧ DAt w' R b (mixs (keep l) L Q Q.length) [] (-1) false ∧ OnlyS R w w' := by
  obtain ⟨g, vW, fz, fu, h1, h2, h3, r1, r2, r3, e1, e2, e3, e4, e5, e6⟩ := h
  obtain ⟨A', c', rfl⟩ := slice_of h3
  have CT : Hid (Calls Try.prog 32 #[.pointer (some ⟨b, 0, none⟩)] w (TbP b g L.length Q.length c' A' fz D fu R w (L, Q))) := by
    have := turnBack_at h1 h2 h3 r1 r2 r3 (pg_ok Q L e4 e5) (un_ok Q L e4 e5) (pg_length Q L) (un_length Q L) hQm e6
    rwa [sw_all e5] at this
  obtain ⟨m, hm⟩ : ∃ m, m = Q.length := ⟨_, rfl⟩
  obtain ⟨n, hn⟩ : ∃ n, n = L.length := ⟨_, rfl⟩
  obtain ⟨ln, hln⟩ : ∃ ln, ln = l.length := ⟨_, rfl⟩
  obtain ⟨vW, hv⟩ : ∃ vW, vW = Value.slice A' Q.length c' := ⟨_, rfl⟩
  have RB := hid r1; have RG := hid r2; have RV := hid r3
  have LOK := hid e4; have QOK := hid e5; have L4 := hid e6
  have HLI := hid hl; have HLA := hid hA
  have HM := hid hm; have HN := hid hn; have HLN := hid hln; have HV := hid hv
  have hm6 : (m : Int) < 1000000 := by omega
  have hln2 : (ln : Int) < 1000000000000 := by omega
  have hn4 : (n : Int) ≤ 4096 := by omega
  rw [← hn, ← hm] at CT
  rw [← hln]
  clear h1 h2 h3 r1 r2 r3 e1 e2 e3 e4 e5 e6 hl hA hm hn hln hll hQm hv
  obtain ⟨Z, hZs, hZ0, hzv⟩ := zero_write
  have HZS := hid hZs
  clear hZs
  go_enter Try.func15, Try.ntmps15
  go_wp2_with (go_at_call 32; refine CT.out.mono ?_; rintro e w1 ⟨rfl, k1, k2, k3, k4⟩; have KB1 := hid k1; have KG1 := hid k2; have OW1 := hid k3; have ON1 := hid k4; have c1 : w1.cell? ⟨b, 1, none⟩ = some (.slice A' m c') := k1.cell 1; clear k1 k2 k3 k4)
  clear c1
  go_loopw [16] (fun i wr => ∃ k : Nat, k ≤ m ∧ i = .int .i64 k ∧ Hid (Blk wr b 54 (devC g n (.slice A' m c') fz fu D)) ∧ Hid (Blk wr g 68 (pcs (mixs (keep l) L Q k)).toArray) ∧ Hid (wr.ownsRow 0 70 129 (.slice A' m c') m (wcs Q)) ∧ Hid (OnlyS R w wr)) (fun i _ => m - (intOf i).toNat)
  case atStart => exact ⟨0, Nat.zero_le _, rfl, KB1.out, KG1.out, OW1.out, ON1.out⟩
  case round =>
    obtain ⟨k, hk, rfl, KB, KG, OW, ON⟩ := hrel
    clear KB1 KG1 OW1 ON1
    by_cases hlt : k < m
    · have hkq : k < Q.length := by rw [← HM.out]; exact hlt
      have hkQ : Q[k]? = some Q[k] := List.getElem?_eq_getElem hkq
      obtain ⟨q, hq⟩ : ∃ q, q = Q[k] := ⟨_, rfl⟩
      rw [← hq] at hkQ
      obtain ⟨a, o⟩ := q
      have hqok := QOK.out _ (List.mem_of_getElem? hkQ)
      rcases OW.out.2 with ⟨_, h0⟩ | ⟨h, cap, C, hvv, _, hh, hnc, hcm, hcs, htk⟩
      · omega
      injection hvv with hA0 hm0 hc0
      subst hA0; subst hc0
      have RW : Hid (wr.rangeAt h (k * 129) (wc1 (a, o))) := row_whole hh htk QOK.out hkQ
      have HO : Hid (o.length = 128) := hqok.2
      have WI := hid (wr_info (q := (a, o)) HO.out); have WI2 := hid (wr_info2 (q := (a, o)) HO.out); have WA := hid (wr_all1 (a, o))
      have WZ : Hid (Z.size = (wc1 (a, o)).toArray.size) := by show _ = _; rw [HZS.out, List.size_toArray, wc1_len HO.out]
      have MOK : Hid (PgOk (mixs (keep l) L Q k)) := mixs_ok (keep_le l) LOK.out QOK.out k
      have AL : Hid (a < (mixs (keep l) L Q k).length) := by show _ < _; rw [mixs_length]; exact hqok.1
      have MS : Hid (mixs (keep l) L Q (k + 1) = (mixs (keep l) L Q k).set a (mx ((mixs (keep l) L Q k)[a]?.getD []) o (keep l k))) := mixs_succ hkQ
      have NBG : Hid (b ≠ g) := KB.out.ne KG.out ne_dp
      obtain ⟨vW, hvw⟩ : ∃ vW, vW = Value.slice (some ⟨h, 0, none⟩) m c' := ⟨_, rfl⟩
      have LTW : Hid (b < wr.heap.size ∧ g < wr.heap.size) := ⟨KB.out.lt, KG.out.lt⟩
      have HVW := hid hvw
      have HKL : Hid (keep l k ≤ 128) := keep_le l k
      have ham : (a : Int) < n := by have := hqok.1; have := HN.out; omega
      have hlt2 : (k : Int) < m := by omega
      clear hkQ hkq hq hqok hh hcm hcs htk hm0 hnc hvw
      by_cases hkl : k < ln
      · obtain ⟨ad, hAe, hcell⟩ := HLI.out (by rw [← HLN.out]; omega)
        have hck := ((HLI.out.only ON.out HLA.out) (by rw [← HLN.out]; omega))
        obtain ⟨ad2, hAe2, hcell2⟩ := hck
        obtain rfl : ad = ad2 := by rw [hAe] at hAe2; injection hAe2
        subst hAe
        have hlst := hcell2 k (by rw [← HLN.out]; exact hkl)
        obtain ⟨v, hv⟩ : ∃ v, v = l[k]?.getD 0 := ⟨_, rfl⟩
        rw [← hv] at hlst
        have HLST := hid hlst
        obtain ⟨t, ht⟩ : ∃ t, t = keep l k := ⟨_, rfl⟩
        have hmin : ∀ u : World, Sem.run Try.prog (Builtin.min_ #[3, 3] 3 #[.int .i64 (max v 0), .int .i64 128]) u = .ok (.int .i64 (t : Nat)) u := fun u => by
          rw [min2_run]
          congr 2
          rw [ht]; unfold keep; rw [← hv]; omega
        have hmax := max2_run v
        generalize max v 0 = v0 at hmin hmax
        have ht128 : (t : Int) ≤ 128 := by have := HKL.out; omega
        have HT : Hid (keep l k = t) := ht.symm
        have HT8 : Hid (t ≤ 128) := by show _ ≤ _; rw [ht]; exact HKL.out
        have hkl2 : (k : Int) < ln := by omega
        clear hcell hcell2 hAe2 ht hv hlst
        go_upto_region 5 with (first
        | (refine load_at rfl 70 (.tmp 19) rfl h (k * 129) rfl (wc1 (a, o)) _ RW.out Try.underlying70 rfl WI.out (wc1 (a, o)).toArray rfl ?_)
        | (refine wpList_store_row rfl 70 (.tmp 5) (.tmp 20) rfl wr.heap.size (wc1 (a, o)).toArray rfl rfl 70 Z (Blk.new wr 70 Z) WI2.out WZ.out WA.out ?_))
        have KW2 : Hid (Blk ((wr.alloc (.cells Z 70)).setRow wr.heap.size (wc1 (a, o)).toArray) wr.heap.size 70 (wc1 (a, o)).toArray) := (Blk.new wr 70 Z).row _
        have KB2 : Hid (Blk ((wr.alloc (.cells Z 70)).setRow wr.heap.size (wc1 (a, o)).toArray) b 54 (devC g n vW fz fu D)) := by
          show Blk _ _ _ _
          rw [HVW.out]
          exact (KB.out.alloc _).rowFar (Nat.ne_of_lt LTW.out.1) _
        have KG2 : Hid (Blk ((wr.alloc (.cells Z 70)).setRow wr.heap.size (wc1 (a, o)).toArray) g 68 (pcs (mixs (keep l) L Q k)).toArray) := (KG.out.alloc _).rowFar (Nat.ne_of_lt LTW.out.2) _
        have OW2 : Hid (((wr.alloc (.cells Z 70)).setRow wr.heap.size (wc1 (a, o)).toArray).ownsRow 0 70 129 vW m (wcs Q)) := by
          show World.ownsRow _ _ _ _ _ _ _
          rw [HVW.out]
          exact own_same (OW.out.alloc _) (fun j hj he => setRow_other _ _ _ _ (fun e => by
            have := (OW.out.lt j he).2
            omega))
        have ON2 : Hid (OnlyS R w ((wr.alloc (.cells Z 70)).setRow wr.heap.size (wc1 (a, o)).toArray)) := only_new ON.out _ _
        clear KB KG OW ON
        have lst : ((wr.alloc (.cells Z 70)).setRow wr.heap.size (wc1 (a, o)).toArray).cell? (ad.add k) = some (.int .i64 v) := by
          have hb1 := block_lt_of_cell HLST.out
          exact (World.cell?_of_block (w := wr) ((setRow_other _ _ _ _ (Nat.ne_of_lt hb1)).trans (Below.heap_alloc _ _ _ hb1))).trans HLST.out
        generalize (wr.alloc (.cells Z 70)).setRow wr.heap.size (wc1 (a, o)).toArray = w2 at KW2 KB2 KG2 OW2 ON2 lst ⊢
        go_wp2
        have d0 : w2.cell? ⟨b, 0, none⟩ = some (.slice (some ⟨g, 0, none⟩) n n) := KB2.out.cell 0
        have d1 : w2.cell? ⟨wr.heap.size, 0, none⟩ = some (.int .i64 (a : Nat)) := KW2.out.cell 0
        refine wp_region_still_tail 11 (by kernel_rfl) (by kernel_rfl) ?_
        simp only [List.take_succ_cons, List.take_zero, List.drop_succ_cons, List.drop_zero]
        repeat still_step
        refine wpStill_nil ?_
        change wpList _ _ _ _ _ w2.drew
        have KB3 : Hid (Blk w2.drew b 54 (devC g n vW fz fu D)) := KB2.out
        have KG3 : Hid (Blk w2.drew g 68 (pcs (mixs (keep l) L Q k)).toArray) := KG2.out
        have KW3 : Hid (Blk w2.drew wr.heap.size 70 (wc1 (a, o)).toArray) := KW2.out
        have OW3 : Hid (w2.drew.ownsRow 0 70 129 vW m (wcs Q)) := own_same OW2.out (fun _ _ _ => rfl)
        have ON3 : Hid (OnlyS R w w2.drew) := ON2.out.drew
        clear d0 d1 KB2 KG2 KW2 OW2 ON2
        generalize w2.drew = w3 at KB3 KG3 KW3 OW3 ON3 ⊢
        refine wpList_copy_page rfl (.tmp 39) (.tmp 41) rfl g a t wr.heap.size rfl (by first | rfl | (simp [Act.eval]; done)) (mixs (keep l) L Q k) (a, o) KG3.out MOK.out AL.out KW3.out HO.out HT8.out ?_
        intro w4 kg4 eq4 os4
        have KG4 : Hid (Blk w4 g 68 (pcs (mixs (keep l) L Q (k + 1))).toArray) := by show Blk _ _ _ _; rw [MS.out, HT.out]; exact kg4
        have KB4 : Hid (Blk w4 b 54 (devC g n vW fz fu D)) := KB3.out.same (eq4 _ NBG.out)
        have OW4 : Hid (w4.ownsRow 0 70 129 vW m (wcs Q)) := own_same OW3.out (fun j _ hj => eq4 j (fun e => own_ne OW3.out KG3.out ne_pw (by rw [hj, e])))
        have ON4 : Hid (OnlyS R w w4) := ON3.out.trans (os4.mono (fun j _ hj => by rw [hj]; exact RG.out))
        clear kg4 eq4 os4 KB3 KG3 KW3 OW3 ON3
        go_wp2
        go_roundw
        case rel =>
          obtain rfl := HVW.out
          exact ⟨k + 1, by omega, by go_num, KB4.out, KG4.out, OW4.out, ON4.out⟩
        case measure => simp [intOf]; omega
      · have HT : Hid (keep l k = 0) := by
          show _ = _
          unfold keep
          rw [List.getElem?_eq_none (by rw [← HLN.out]; omega)]
          rfl
        have hkl2 : ¬ (k : Int) < ln := by omega
        go_upto_region 5 with (first
        | (refine load_at rfl 70 (.tmp 19) rfl h (k * 129) rfl (wc1 (a, o)) _ RW.out Try.underlying70 rfl WI.out (wc1 (a, o)).toArray rfl ?_)
        | (refine wpList_store_row rfl 70 (.tmp 5) (.tmp 20) rfl wr.heap.size (wc1 (a, o)).toArray rfl rfl 70 Z (Blk.new wr 70 Z) WI2.out WZ.out WA.out ?_))
        have KW2 : Hid (Blk ((wr.alloc (.cells Z 70)).setRow wr.heap.size (wc1 (a, o)).toArray) wr.heap.size 70 (wc1 (a, o)).toArray) := (Blk.new wr 70 Z).row _
        have KB2 : Hid (Blk ((wr.alloc (.cells Z 70)).setRow wr.heap.size (wc1 (a, o)).toArray) b 54 (devC g n vW fz fu D)) := by
          show Blk _ _ _ _
          rw [HVW.out]
          exact (KB.out.alloc _).rowFar (Nat.ne_of_lt LTW.out.1) _
        have KG2 : Hid (Blk ((wr.alloc (.cells Z 70)).setRow wr.heap.size (wc1 (a, o)).toArray) g 68 (pcs (mixs (keep l) L Q k)).toArray) := (KG.out.alloc _).rowFar (Nat.ne_of_lt LTW.out.2) _
        have OW2 : Hid (((wr.alloc (.cells Z 70)).setRow wr.heap.size (wc1 (a, o)).toArray).ownsRow 0 70 129 vW m (wcs Q)) := by
          show World.ownsRow _ _ _ _ _ _ _
          rw [HVW.out]
          exact own_same (OW.out.alloc _) (fun j hj he => setRow_other _ _ _ _ (fun e => by
            have := (OW.out.lt j he).2
            omega))
        have ON2 : Hid (OnlyS R w ((wr.alloc (.cells Z 70)).setRow wr.heap.size (wc1 (a, o)).toArray)) := only_new ON.out _ _
        clear KB KG OW ON
        generalize (wr.alloc (.cells Z 70)).setRow wr.heap.size (wc1 (a, o)).toArray = w2 at KW2 KB2 KG2 OW2 ON2 ⊢
        go_wp2
        have d0 : w2.cell? ⟨b, 0, none⟩ = some (.slice (some ⟨g, 0, none⟩) n n) := KB2.out.cell 0
        have d1 : w2.cell? ⟨wr.heap.size, 0, none⟩ = some (.int .i64 (a : Nat)) := KW2.out.cell 0
        refine wp_region_still_tail 11 (by kernel_rfl) (by kernel_rfl) ?_
        simp only [List.take_succ_cons, List.take_zero, List.drop_succ_cons, List.drop_zero]
        repeat still_step
        refine wpStill_nil ?_
        change wpList _ _ _ _ _ w2.drew
        have KB3 : Hid (Blk w2.drew b 54 (devC g n vW fz fu D)) := KB2.out
        have KG3 : Hid (Blk w2.drew g 68 (pcs (mixs (keep l) L Q k)).toArray) := KG2.out
        have KW3 : Hid (Blk w2.drew wr.heap.size 70 (wc1 (a, o)).toArray) := KW2.out
        have OW3 : Hid (w2.drew.ownsRow 0 70 129 vW m (wcs Q)) := own_same OW2.out (fun _ _ _ => rfl)
        have ON3 : Hid (OnlyS R w w2.drew) := ON2.out.drew
        clear d0 d1 KB2 KG2 KW2 OW2 ON2
        generalize w2.drew = w3 at KB3 KG3 KW3 OW3 ON3 ⊢
        refine wpList_copy_page rfl (.tmp 39) (.tmp 41) rfl g a 0 wr.heap.size rfl (by first | rfl | (simp [Act.eval]; done)) (mixs (keep l) L Q k) (a, o) KG3.out MOK.out AL.out KW3.out HO.out (Nat.zero_le _) ?_
        intro w4 kg4 eq4 os4
        have KG4 : Hid (Blk w4 g 68 (pcs (mixs (keep l) L Q (k + 1))).toArray) := by show Blk _ _ _ _; rw [MS.out, HT.out]; exact kg4
        have KB4 : Hid (Blk w4 b 54 (devC g n vW fz fu D)) := KB3.out.same (eq4 _ NBG.out)
        have OW4 : Hid (w4.ownsRow 0 70 129 vW m (wcs Q)) := own_same OW3.out (fun j _ hj => eq4 j (fun e => own_ne OW3.out KG3.out ne_pw (by rw [hj, e])))
        have ON4 : Hid (OnlyS R w w4) := ON3.out.trans (os4.mono (fun j _ hj => by rw [hj]; exact RG.out))
        clear kg4 eq4 os4 KB3 KG3 KW3 OW3 ON3
        go_wp2
        go_roundw
        case rel =>
          obtain rfl := HVW.out
          exact ⟨k + 1, by omega, by go_num, KB4.out, KG4.out, OW4.out, ON4.out⟩
        case measure => simp [intOf]; omega
    · obtain rfl : k = m := by omega
      have c0 : wr.cell? ⟨b, 0, none⟩ = some (.slice (some ⟨g, 0, none⟩) n n) := KB.out.cell 0
      have hb := dev_built g n
      have hbi : (Try.prog.info? 54).map (·.size) = some (devC g n (.slice none 0 0) false 0 false).size := by kernel_rfl
      have HBI := hid hbi
      have HA1 : Hid ((devC g n (.slice none 0 0) false 0 false).all (·.oneCell') = true) := by show _ = _; simp [devC, Value.oneCell']
      clear hbi hm6 hln2 hn4 hlt
      go_wp2_with (first
        | (refine wpList_build rfl 54 _ rfl (by simp [Act.eval, hb]) ?_)
        | (refine wpList_store_row rfl 54 (.tmp 50) (.tmp 49) rfl b (devC g n (.slice none 0 0) false 0 false) rfl rfl 54 _ KB.out HBI.out rfl HA1.out ?_))
      go_end0
      refine ⟨rfl, ?_, ON.out.trans ⟨rfl, rfl, rfl, by simp, fun j _ hj => setRow_other _ _ _ _ (fun e => hj (by rw [e]; exact RB.out))⟩⟩
      have hml : (mixs (keep l) L Q Q.length).length = n := by rw [mixs_length]; exact HN.out.symm
      refine ⟨g, .slice none 0 0, false, 0, ?_, ?_, ⟨rfl, .inl ⟨rfl, rfl⟩⟩, RB.out, RG.out, (fun j hj => by cases hj), by simp, (fun h => by omega), by omega, mixs_ok (keep_le l) LOK.out QOK.out _, QOk.nil _, by rw [hml]; have := L4.out; rw [HN.out]; exact this⟩
      · rw [hml]; exact KB.out.row _
      · have := KG.out.rowFar (KB.out.ne KG.out ne_dp).symm (devC g n (.slice none 0 0) false 0 false)
        rw [HM.out] at this
        exact this
end Go.Proofs.Ythfkooancgkjaaa
