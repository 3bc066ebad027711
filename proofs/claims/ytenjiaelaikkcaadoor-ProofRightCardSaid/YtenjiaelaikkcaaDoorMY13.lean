/-
  What is proved here: what is shown where there is no tree, and of the tree without keys.
-/
import Derived.Test.YtenjiaelaikkcaaDoorMY9
import Derived.Test.YtenjiaelaikkcaaDoorMX21
import Derived.Test.YtenjiaelaikkcaaDoorMX20
import Derived.Test.YtenjiaelaikkcaaDoorMY12
set_option linter.unusedSimpArgs false
set_option linter.unusedVariables false
namespace Go.Proofs.YtenjiaelaikkcaaDoor
open Go.ChangeShapes Go.WideShapes Go.ChangeAt Go.RowKit
set_option linter.unusedVariables false
set_option linter.unusedSimpArgs false
set_option maxRecDepth 20000

theorem proof_builtz : Tryd.prog.built 66 [] = some (prc nilV qZ).toArray := by kernel_rfl
set_option maxHeartbeats 4000000 in
theorem qShow_bad {w : World} {p : Option Addr} {K : List Int} {i : Int} (CI0 : ∀ w1, Below w.heap.size w w1 → Calls Tryd.prog 37 #[.pointer p, .int .i64 i] w1 fun e w' => e = .returned (.bool false) ∧ w1 = w') :
    Calls Tryd.prog 28 #[.pointer p, .int .i64 i, .agg (kc K)] w fun e w' => e = .returned (.tuple #[.agg (prc nilV qZ).toArray, .int .i64 1]) ∧ Below w.heap.size w w' := by
  obtain ⟨Z, HZ, hZ0, hZs⟩ := zero_qproof
  obtain ⟨Y, HY, hY0, hYs⟩ := zero_key
  obtain ⟨hk1, hk2, hb0⟩ := two_blks w (kc K) Z 24 66
  have K6 := hid hk2; have B0 := hid hb0
  have CR0 := fun w1 (hb : Below w.heap.size w w1) => xRoot_bad (w := w1) (fun w2 hb2 => CI0 w2 (hb.trans (hb2.mono hb.size)))
  unfold hV at CR0
  have CR := hid CR0
  have HPB := proof_builtz
  have HHI := hid (kc_info zk_ky)
  have HHZ : Hid (Y.size = (kc zk).size) := by show _ = _; rw [HY.out]
  have HI := hid (proof_info2 qZ_ok nilV)
  have HL := hid (proof_info qZ_ok nilV)
  have HZS : Hid (Z.size = (prc nilV qZ).toArray.size) := by show _ = _; rw [HZ.out]
  have HONE : Hid ((prc nilV qZ).toArray.all (·.oneCell') = true) := pr_one
  have SZ : Hid (((w.alloc (.cells (kc K) 24)).alloc (.cells Z 66)).heap.size = w.heap.size + 1 + 1) := by show _ = _; simp
  have HZ' := HZ
  obtain ⟨PZ, hPZ⟩ : ∃ PZ, PZ = prc nilV qZ := ⟨_, rfl⟩
  rw [← hPZ] at HPB HI HL HZS HONE HZ' ⊢
  clear CR0 hk1 hk2 hb0 hPZ
  go_enter Tryd.func28, Tryd.ntmps28
  go_wp2
  go_step3
  go_wp2_with (first
    | (go_at_call 14; refine (CR.out _ B0.out).mono ?_; rintro e w1 ⟨rfl, hb⟩; have K61 := hid (K6.out.below hb); have B1 := hid (B0.out.trans (hb.mono B0.out.size)); have S1 : Hid (w.heap.size + 1 < w1.heap.size) := (by have := hb.size; have := SZ.out; show _ < _; omega); clear hb)
    | (refine wpList_store_row rfl 24 (.tmp 8) (.tmp 20) rfl w1.heap.size (kc zk) rfl rfl 24 Y (Blk.new w1 24 Y) HHI.out HHZ.out (kc_one _) ?_)
    | (refine wpList_buildC rfl 66 _ rfl PZ.toArray ?hc ?_; case hc => (simp only [List.map_toArray, List.map_cons, List.map_nil, Act.eval]; exact HPB))
    | (refine wpList_store_row rfl 66 (.tmp 6) (.tmp 24) rfl (w.heap.size + 1) PZ.toArray rfl rfl 66 Z ((K61.out.alloc _).rowFar (Nat.ne_of_lt S1.out) _) HI.out HZS.out HONE.out ?_))
  try go_frame
  rw [Exit.noGoto_ret]
  refine bodyPost_ret (results_cell_slot Tryd.results28 _ _ (w.heap.size + 1) 66 PZ.toArray (0, 0) _ rfl (((K61.out.alloc _).rowFar (Nat.ne_of_lt S1.out) _).row _) Tryd.underlying66 rfl HI.out) rfl ?_
  exact ⟨rfl, below_setRow (below_setRow (B1.out.alloc B1.out.size _) B1.out.size _) (by omega) _⟩
set_option maxHeartbeats 4000000 in
theorem qShow_none {w : World} {p : Option Addr} {K : List Int} (ht : Tab w) (CI0 : ∀ w1, Below w.heap.size w w1 → Calls Tryd.prog 37 #[.pointer p, .int .i64 (-1)] w1 fun e w' => e = .returned (.bool true) ∧ w1 = w') :
    Calls Tryd.prog 28 #[.pointer p, .int .i64 (-1), .agg (kc K)] w fun e w' => e = .returned (.tuple #[.agg (prc nilV qZ).toArray, .int .i64 0]) ∧ Below w.heap.size w w' := by
  obtain ⟨Z, HZ, hZ0, hZs⟩ := zero_qproof
  obtain ⟨Y, HY, hY0, hYs⟩ := zero_key
  obtain ⟨hk1, hk2, hb0⟩ := two_blks w (kc K) Z 24 66
  have K6 := hid hk2; have B0 := hid hb0
  have CR0 := fun w1 (hb : Below w.heap.size w w1) => xRoot_none (w := w1) (ht.below hb) (fun w2 hb2 => CI0 w2 (hb.trans (hb2.mono hb.size)))
  unfold hV at CR0
  have CR := hid CR0
  have HPB := proof_builtz
  have HHI := hid (kc_info emptyH_ky)
  have HHZ : Hid (Y.size = (kc emptyH).size) := by show _ = _; rw [HY.out, kc_size zk_ky, kc_size emptyH_ky]
  have HI := hid (proof_info2 qZ_ok nilV)
  have HL := hid (proof_info qZ_ok nilV)
  have HZS : Hid (Z.size = (prc nilV qZ).toArray.size) := by show _ = _; rw [HZ.out]
  have HONE : Hid ((prc nilV qZ).toArray.all (·.oneCell') = true) := pr_one
  have SZ : Hid (((w.alloc (.cells (kc K) 24)).alloc (.cells Z 66)).heap.size = w.heap.size + 1 + 1) := by show _ = _; simp
  have HZ' := HZ
  obtain ⟨PZ, hPZ⟩ : ∃ PZ, PZ = prc nilV qZ := ⟨_, rfl⟩
  rw [← hPZ] at HPB HI HL HZS HONE HZ' ⊢
  clear CR0 hk1 hk2 hb0 hPZ
  go_enter Tryd.func28, Tryd.ntmps28
  go_wp2
  go_step3
  go_wp2_with (first
    | (go_at_call 14; refine (CR.out _ B0.out).mono ?_; rintro e w1 ⟨rfl, hb⟩; have K61 := hid (K6.out.below hb); have B1 := hid (B0.out.trans (hb.mono B0.out.size)); have S1 : Hid (w.heap.size + 1 < w1.heap.size) := (by have := hb.size; have := SZ.out; show _ < _; omega); clear hb)
    | (refine wpList_store_row rfl 24 (.tmp 8) (.tmp 20) rfl w1.heap.size (kc emptyH) rfl rfl 24 Y (Blk.new w1 24 Y) HHI.out HHZ.out (kc_one _) ?_))
  have BX : Hid (Below w1.heap.size w1 (((w1.alloc (.cells Y 24)).setRow w1.heap.size (kc emptyH)).alloc (.cells Z 66))) := (below_setRow ((Below.refl _ _).alloc (Nat.le_refl _) _) (Nat.le_refl _) _).alloc (by show w1.heap.size ≤ _; exact (below_setRow ((Below.refl w1.heap.size w1).alloc (Nat.le_refl _) (.cells Y 24)) (Nat.le_refl w1.heap.size) (kc emptyH)).size) _
  have hs10 : ((w1.alloc (.cells Y 24)).setRow w1.heap.size (kc emptyH)).heap.size = w1.heap.size + 1 := by simp [World.setRow, World.setCells]
  have N10 : Hid (Blk (((w1.alloc (.cells Y 24)).setRow w1.heap.size (kc emptyH)).alloc (.cells Z 66)) (w1.heap.size + 1) 66 PZ.toArray) := by
    have := Blk.new ((w1.alloc (.cells Y 24)).setRow w1.heap.size (kc emptyH)) 66 Z
    rw [hs10] at this
    have e : PZ.toArray = Z := HZ'.out.symm
    rw [e]
    exact this
  have K6B := hid (K61.out.below BX.out)
  have BB := hid (B1.out.trans (BX.out.mono B1.out.size))
  have HRG := hid (fun j v (hv : PZ[j]? = some v) => show World.cell? _ ⟨w1.heap.size + 1, 0 + j, none⟩ = some v from by rw [N10.out.cell, Nat.zero_add, List.getElem?_toArray]; exact hv)
  clear BX hs10 K61 S1 N10
  generalize ((w1.alloc (.cells Y 24)).setRow w1.heap.size (kc emptyH)).alloc (.cells Z 66) = wB at K6B BB HRG ⊢
  generalize w1.heap.size + 1 = g10 at HRG ⊢
  go_step3
  go_wp2
  go_loopw [11] (fun i wr => i = .int .i64 (-1) ∧ wr = wB) (fun _ _ => 0)
  case atStart => exact ⟨rfl, rfl⟩
  case round =>
    obtain ⟨rfl, rfl⟩ := hrel
    go_wp2_with (first
      | (refine load_at rfl 66 (.tmp 10) rfl g10 0 rfl PZ _ HRG.out Tryd.underlying66 rfl HL.out PZ.toArray rfl ?_)
      | (refine wpList_store_row rfl 66 (.tmp 6) (.tmp 87) rfl (w.heap.size + 1) PZ.toArray rfl rfl 66 Z K6B.out HI.out HZS.out HONE.out ?_))
    try go_frame
    rw [Exit.noGoto_ret]
    refine bodyPost_ret (results_cell_slot Tryd.results28 _ _ (w.heap.size + 1) 66 PZ.toArray (0, 0) _ rfl (K6B.out.row _) Tryd.underlying66 rfl HI.out) rfl ?_
    exact ⟨rfl, below_setRow BB.out (by omega) _⟩
end Go.Proofs.YtenjiaelaikkcaaDoor
/-
  What is proved here: where there is no tree nothing is shown; another end is never right: the walk of the statement.
-/
namespace Go.Proofs.YtenjiaelaikkcaaDoor
open Go.ChangeShapes Go.WideShapes Go.ChangeAt Go.RowKit
set_option linter.unusedVariables false
set_option linter.unusedSimpArgs false
set_option maxRecDepth 20000

section
variable {H : Type} {enc : TypeId × Value → H} {w : World} {base : Nat} {spare : Nat → Bool} {held : Bool}
theorem open_ints {fuel : Nat} {cs : List Value} {x : DataW H × List MemPlace} (h : DataW.trod enc Tryd.prog w base spare held fuel 84 cs = some x) : ∃ a e, cs = [.int .i64 a, .int .i64 e] := by
  obtain ⟨xs, m, _, _, hl, hn, he⟩ := DataW.trod_array Tryd.underlying84 h
  rw [show Tryd.prog.cellsOf 84 = 2 by kernel_rfl] at hl
  have hc : Tryd.prog.cellsOf 3 = 1 := by kernel_rfl
  have each : ∀ i : Nat, i < 2 → ∃ v : Int, cs[i]? = some (.int .i64 v) := by
    intro i hi
    have h1 := he i hi
    rw [hc, Nat.mul_one, List.getElem?_eq_getElem (by omega : i < xs.length)] at h1
    obtain ⟨v, hv, _, hw⟩ := DataW.trod_int Tryd.underlying3 h1
    refine ⟨v, ?_⟩
    have h2 := congrArg (fun l => l[0]?) hv
    simpa [List.getElem?_take, List.getElem?_drop] using h2
  obtain ⟨a, ha⟩ := each 0 (by decide)
  obtain ⟨e, he2⟩ := each 1 (by decide)
  refine ⟨a, e, ?_⟩
  match cs, hl with
  | [x, y], _ =>
    simp at ha he2
    rw [ha, he2]
theorem ints_of {cs : Array Value} {a e : Int} (h : cs.toList = [.int .i64 a, .int .i64 e]) : cs = #[.int .i64 a, .int .i64 e] := by rw [← h]
end
theorem isTr_nil (a : Int) : isTr 0 a = decide (a = -1) := by
  unfold isTr isNd
  by_cases h : a = -1
  · subst h; rfl
  · rw [decide_eq_false h]
    simp
    try exact ⟨by simpa using h, by omega⟩
theorem isEnd_may (e : Int) : isEnd e = (decide (0 ≤ e) && decide (e ≤ 2)) := by
  unfold isEnd
  rw [Bool.eq_iff_iff]
  simp only [Bool.or_eq_true, Bool.and_eq_true, decide_eq_true_eq]
  omega
set_option maxHeartbeats 8000000 in
theorem pnone_walk {w : World} {K R : List Int} (a e : Int) (hK : Ky K) (hR : Ky R) (ht : Tab w) :
    Calls Tryd.prog 10 #[.agg #[.int .i64 a, .int .i64 e], .agg (kc K), .agg (kc R)] w fun e w' => e = .returned (.bool true) ∧ Below w.heap.size w w' := by
  obtain ⟨Z, HZ, hZ0, hZs⟩ := zero_key
  obtain ⟨Y, HY, hY0, hYs⟩ := zero_qproof
  obtain ⟨hk1, hk2, hk3, hb0⟩ := three_blks w #[.int .i64 a, .int .i64 e] (kc K) (kc R) 84 24 24
  have K1 := hid hk1; have K2 := hid hk2; have K3 := hid hk3; have B0 := hid hb0
  have HKI := hid (u8s_info hK); have HRI := hid (u8s_info hR)
  have HK := hid hK; have HR := hid hR; have HT := hid ht
  have CN := hid (fun w => qShow_bad (w := w) (p := none) (K := K) (i := a) (fun w1 _ => (xisTree_nil a w1).mono fun e w' ⟨h1, h2⟩ => ⟨h1, h2⟩))
  have HPI := hid (proof_info2 qZ_ok nilV)
  have HPZ : Hid (Y.size = (prc nilV qZ).toArray.size) := by show _ = _; rw [HY.out]
  have HONE : Hid ((prc nilV qZ).toArray.all (·.oneCell') = true) := pr_one
  have hbf := built_forest
  have CA := hid (fun w1 (hb : Below w.heap.size w w1) => qawake_any w1 (ht.below hb))
  obtain ⟨a2, x2, ha2, hch, _⟩ := chk_as K R (qZe_ok e)
  have CC := hid (fun w1 (hb : Below w.heap.size w w1) => qCheck_any (A := none) (n := 0) (c := 0) (q := { qZ with e := e }) (key := K) (root := R) w1 (InS.nil _ _) (qZe_ok e) hK hR (by decide) (ht.below hb))
  rw [hch] at CC
  change Hid (∀ w1, Below w.heap.size w w1 → Calls Tryd.prog 32 #[.agg (prc nilV { qZ with e := e }).toArray, .agg (kc K), .agg (kc R)] w1 _) at CC
  have HPB := pr_built1 prTy_q e
  have HA2 := hid (kc_info ha2)
  have HAZ : Hid (Z.size = (kc a2).size) := by show _ = _; rw [HZ.out, kc_size zk_ky, kc_size ha2]
  have CT := hid (fun w1 (hb : Below w.heap.size w w1) (h : isEnd e = false) => qtexts_no (A := none) (n := 0) (c := 0) (q := { qZ with e := e }) (key := K) w1 (qZe_ok e) hK h)
  change Hid (∀ w1, Below w.heap.size w w1 → isEnd e = false → Calls Tryd.prog 35 #[.agg (prc nilV { qZ with e := e }).toArray, .agg (kc K)] w1 _) at CT
  have HNO : Hid (isEnd e = false → x2 = false ∧ chkB K R { qZ with e := e } = false) := fun h => by
    have hb : chkB K R { qZ with e := e } = false := by
      cases hc : chkB K R { qZ with e := e } with
      | false => rfl
      | true =>
        unfold chkB at hc
        rw [Bool.and_eq_true] at hc
        have := lead_end hc.1
        rw [show isEnd ({ qZ with e := e } : QP).e = isEnd e from rfl, h] at this
        cases this
    refine ⟨?_, hb⟩
    unfold chkV at hch
    rw [hb] at hch
    injection hch with hch
    injection hch with hch
    injection hch with _ hch
    injection hch with hch _
    injection hch with hch
    exact hch.symm
  obtain ⟨PE, hPE⟩ : ∃ PE, PE = (prc nilV { qZ with e := e }).toArray := ⟨_, rfl⟩
  obtain ⟨PZ, hPZ⟩ : ∃ PZ, PZ = (prc nilV qZ).toArray := ⟨_, rfl⟩
  obtain ⟨ok, hok⟩ : ∃ ok, ok = chkB K R { qZ with e := e } := ⟨_, rfl⟩
  have HYE : Hid (Y.setIfInBounds 1 (.int .i64 e) = PE) := by show _ = _; rw [HY.out, hPE]; rfl
  rw [← hPE] at CC HPB CT
  rw [← hok] at CC HNO
  rw [← hPZ] at CN HPI HPZ HONE
  have HPZ' := hid hPZ
  have ca0 : World.cell? (((w.alloc (.cells #[.int .i64 a, .int .i64 e] 84)).alloc (.cells (kc K) 24)).alloc (.cells (kc R) 24)) ⟨w.heap.size, 0, none⟩ = some (.int .i64 a) := hk1.cell 0
  have ce0 : World.cell? (((w.alloc (.cells #[.int .i64 a, .int .i64 e] 84)).alloc (.cells (kc K) 24)).alloc (.cells (kc R) 24)) ⟨w.heap.size, 1, none⟩ = some (.int .i64 e) := hk1.cell 1
  clear hk1 hk2 hk3 hb0 hK hR ht hch ha2 hPE hok hPZ
  go_enter Tryd.func10, Tryd.ntmps10
  go_upto_region 1 with (fail)
  generalize ((w.alloc (.cells #[.int .i64 a, .int .i64 e] 84)).alloc (.cells (kc K) 24)).alloc (.cells (kc R) 24) = w0 at K1 K2 K3 B0 ca0 ce0 ⊢
  have cap := fun p : PW (Kp w0) => cell_bel p.h ca0
  have cep := fun p : PW (Kp w0) => cell_bel p.h ce0
  refine region_kept (Kp w0) (by kernel_rfl) (by kernel_rfl) (kp_begin w0) ?_
  repeat (first
    | go_big_quiet_skip
    | (go_big_quiet_want; go_big_quiet_op; first | go_big_quiet_on))
  refine wpQuiet_nil ?_
  intro _ hw'
  obtain ⟨p, hw''⟩ := hw'
  subst hw''
  have K21 := hid (K2.out.below p.h); have K31 := hid (K3.out.below p.h); have B1 := hid (B0.out.trans (p.h.mono B0.out.size))
  clear cap cep ca0 ce0 K1 K2 K3 B0
  generalize p.w = w1 at K21 K31 B1 ⊢
  go_upto_region 3 with (first
    | (refine load_at rfl 24 (.tmp 4) rfl (w.heap.size + 1) 0 rfl (u8s K) _ (blk_key K21.out) Tryd.underlying24 rfl HKI.out (kc K) rfl ?_)
    | (go_at_call 28; refine (CN.out _).mono ?_; rintro e w2 ⟨rfl, hb⟩; have K22 := hid (K21.out.below hb); have K32 := hid (K31.out.below hb); have B2 := hid (B1.out.trans (hb.mono B1.out.size)); clear hb)
    | (refine wpList_store_row rfl 66 (.tmp 9) (.tmp 25) rfl w2.heap.size PZ rfl rfl 66 Y (Blk.new w2 66 Y) HPI.out HPZ.out HONE.out ?_))
  have BX : Hid (Below w2.heap.size w2 ((w2.alloc (.cells Y 66)).setRow w2.heap.size PZ)) := below_setRow ((Below.refl _ _).alloc (Nat.le_refl _) _) (Nat.le_refl _) _
  have K23 := hid (K22.out.below BX.out); have K33 := hid (K32.out.below BX.out); have B3 := hid (B2.out.trans (BX.out.mono B2.out.size))
  clear K21 K31 B1 K22 K32 B2 BX CN
  generalize (w2.alloc (.cells Y 66)).setRow w2.heap.size PZ = w3 at K23 K33 B3 ⊢
  have KF : Hid (Blk (w3.alloc (.cells #[.slice none 0 0, .pointer none] 30)) w3.heap.size 30 #[.slice none 0 0, .pointer none]) := Blk.new w3 30 _
  have BF : Hid (Below w3.heap.size w3 (w3.alloc (.cells #[.slice none 0 0, .pointer none] 30))) := (Below.refl _ _).alloc (Nat.le_refl _) _
  have FO := hid (fo_new KF.out)
  have K24 := hid (K23.out.below BF.out); have K34 := hid (K33.out.below BF.out); have B4 := hid (B3.out.trans (BF.out.mono B3.out.size))
  obtain ⟨er, her, hera⟩ : ∃ er : Int, ((er = 0 ∧ (a == -1) = true) ∨ (er = 1 ∧ (a == -1) = false)) ∧ Hid (Calls Tryd.prog 28 #[.pointer (some ⟨w3.heap.size, 0, none⟩), .int .i64 a, .agg (kc K)] (w3.alloc (.cells #[.slice none 0 0, .pointer none] 30)) fun e w' => e = .returned (.tuple #[.agg PZ, .int .i64 er]) ∧ Below (w3.alloc (.cells #[.slice none 0 0, .pointer none] 30)).heap.size (w3.alloc (.cells #[.slice none 0 0, .pointer none] 30)) w') := by
    by_cases h : a = -1
    · subst h
      refine ⟨0, .inl ⟨rfl, rfl⟩, ?_⟩
      show Calls _ _ _ _ _
      rw [HPZ'.out]
      refine qShow_none (HT.out.below B4.out) (fun w1 hb => ?_)
      have := xisTree_at (FO.out.below hb) (-1)
      rw [show isTr ([] : List Nd).length (-1) = true from rfl] at this
      exact this.mono fun e w' ⟨h1, h2⟩ => ⟨h1, h2⟩
    · refine ⟨1, ?_, ?_⟩
      · exact .inr ⟨rfl, by simp [h]⟩
      · show Calls _ _ _ _ _
        rw [HPZ'.out]
        refine qShow_bad (fun w1 hb => ?_)
        have := xisTree_at (FO.out.below hb) a
        rw [show isTr ([] : List Nd).length a = false from (isTr_nil a).trans (decide_eq_false h)] at this
        exact this.mono fun e w' ⟨h1, h2⟩ => ⟨h1, h2⟩
  have HER := hid her
  clear her KF BF FO K23 K33 B3
  have hfz : w3.heap.size = w3.heap.size := rfl
  go_upto_region 4 with (first
    | (refine load_at rfl 24 (.tmp 4) rfl (w.heap.size + 1) 0 rfl (u8s K) _ (blk_key K24.out) Tryd.underlying24 rfl HKI.out (kc K) rfl ?_)
    | (go_at_call 28; refine hera.out.mono ?_; rintro e w5 ⟨rfl, hb⟩; have K25 := hid (K24.out.below hb); have K35 := hid (K34.out.below hb); have B5 := hid (B4.out.trans (hb.mono B4.out.size)); clear hb)
    | (refine wpList_store_row rfl 66 (.tmp 11) (.tmp 33) rfl w5.heap.size PZ rfl rfl 66 Y (Blk.new w5 66 Y) HPI.out HPZ.out HONE.out ?_))
  have BX : Hid (Below w5.heap.size w5 ((w5.alloc (.cells Y 66)).setRow w5.heap.size PZ)) := below_setRow ((Below.refl _ _).alloc (Nat.le_refl _) _) (Nat.le_refl _) _
  have K26 := hid (K25.out.below BX.out); have K36 := hid (K35.out.below BX.out); have B6 := hid (B5.out.trans (BX.out.mono B5.out.size))
  clear K24 K34 B4 K25 K35 B5 BX hera hfz
  generalize (w5.alloc (.cells Y 66)).setRow w5.heap.size PZ = w6 at K26 K36 B6 ⊢
  go_upto_region 5 with (first
    | (refine wpList_buildC rfl 66 _ rfl PE ?hc ?_; case hc => (simp only [List.map_toArray, List.map_cons, List.map_nil, Act.eval]; exact HPB))
    | (refine load_at rfl 24 (.tmp 4) rfl (w.heap.size + 1) 0 rfl (u8s K) _ (blk_key K26.out) Tryd.underlying24 rfl HKI.out (kc K) rfl ?_)
    | (refine load_at rfl 24 (.tmp 5) rfl (w.heap.size + 1 + 1) 0 rfl (u8s R) _ (blk_key K36.out) Tryd.underlying24 rfl HRI.out (kc R) rfl ?_)
    | (go_at_call 32; refine (CC.out _ B6.out).mono ?_; rintro e w7 ⟨rfl, hb⟩; have K27 := hid (K26.out.below hb); have B7 := hid (B6.out.trans (hb.mono B6.out.size)); clear hb)
    | (refine wpList_store_row rfl 24 (.tmp 13) (.tmp 41) rfl w7.heap.size (kc a2) rfl rfl 24 Z (Blk.new w7 24 Z) HA2.out HAZ.out (kc_one _) ?_))
  have BX : Hid (Below w7.heap.size w7 ((w7.alloc (.cells Z 24)).setRow w7.heap.size (kc a2))) := below_setRow ((Below.refl _ _).alloc (Nat.le_refl _) _) (Nat.le_refl _) _
  have K28 := hid (K27.out.below BX.out); have B8 := hid (B7.out.trans (BX.out.mono B7.out.size))
  clear K26 K36 B6 K27 B7 BX CC
  generalize (w7.alloc (.cells Z 24)).setRow w7.heap.size (kc a2) = w8 at K28 B8 ⊢
  have CA8 := hid (CA.out w8 B8.out)
  rcases HER.out with ⟨rfl, ha1⟩ | ⟨rfl, ha1⟩
  · by_cases hm : isEnd e = true
    · rw [isEnd_may, Bool.and_eq_true, decide_eq_true_eq, decide_eq_true_eq] at hm
      obtain ⟨h0, h2⟩ := hm
      go_wp2_with (first
        | (go_at_call 27; refine CA8.out.mono ?_; rintro e w9 ⟨rfl, hb⟩; have B9 := hid (B8.out.trans (hb.mono B8.out.size)); clear hb))
      go_ret
      exact ⟨rfl, B9.out⟩
    · rw [Bool.not_eq_true] at hm
      obtain ⟨hx, hk⟩ := HNO.out hm
      subst hx
      subst hk
      have HMM := hid hm
      have hYE := HYE.out
      have hYsz : Y.size = 163 := by rw [HY.out, List.size_toArray, qZ_ok.len]
      have CT8 : Hid (∀ w1, Below w.heap.size w w1 → Calls Tryd.prog 35 #[.agg PE, .agg (kc K)] w1 (TxsA w1 [])) := fun w1 hb => CT.out w1 hb HMM.out
      rw [isEnd_may] at hm
      have hcase : e < 0 ∨ (0 ≤ e ∧ 2 < e) := by
        rw [Bool.and_eq_false_iff] at hm
        rcases hm with h | h
        · rw [decide_eq_false_iff_not] at h; omega
        · rw [decide_eq_false_iff_not] at h; omega
      clear hm
      rcases hcase with h0 | ⟨h0, h2⟩
      · have h0' : ¬ (0 ≤ e) := by omega
        go_wp2_with (first
          | (go_at_call 27; refine CA8.out.mono ?_; rintro e w9 ⟨rfl, hb⟩; have B9 := hid (B8.out.trans (hb.mono B8.out.size)); have K29 := hid (K28.out.below hb); clear hb)
          | (refine wpList_buildC rfl 66 _ rfl PE ?hc ?_; case hc => (simp only [List.map_toArray, List.map_cons, List.map_nil, Act.eval]; exact HPB))
          | (refine load_at rfl 24 (.tmp 4) rfl (w.heap.size + 1) 0 rfl (u8s K) _ (blk_key K29.out) Tryd.underlying24 rfl HKI.out (kc K) rfl ?_)
          | (go_at_call 35; refine (CT8.out w9 B9.out).mono ?_; rintro e w10 ⟨v, rfl, htx, hb⟩; obtain ⟨A5, c5, rfl⟩ := htx.len; have B10 := hid (B9.out.trans (hb.mono B9.out.size)); clear hb htx))
        go_ret
        exact ⟨rfl, B10.out⟩
      · have h2' : ¬ (e ≤ 2) := by omega
        go_wp2_with (first
          | (go_at_call 27; refine CA8.out.mono ?_; rintro e w9 ⟨rfl, hb⟩; have B9 := hid (B8.out.trans (hb.mono B8.out.size)); have K29 := hid (K28.out.below hb); clear hb)
          | (refine wpList_buildC rfl 66 _ rfl PE ?hc ?_; case hc => (simp only [List.map_toArray, List.map_cons, List.map_nil, Act.eval]; exact HPB))
          | (refine load_at rfl 24 (.tmp 4) rfl (w.heap.size + 1) 0 rfl (u8s K) _ (blk_key K29.out) Tryd.underlying24 rfl HKI.out (kc K) rfl ?_)
          | (go_at_call 35; refine (CT8.out w9 B9.out).mono ?_; rintro e w10 ⟨v, rfl, htx, hb⟩; obtain ⟨A5, c5, rfl⟩ := htx.len; have B10 := hid (B9.out.trans (hb.mono B9.out.size)); clear hb htx))
        go_ret
        exact ⟨rfl, B10.out⟩
  · by_cases hm : isEnd e = true
    · rw [isEnd_may, Bool.and_eq_true, decide_eq_true_eq, decide_eq_true_eq] at hm
      obtain ⟨h0, h2⟩ := hm
      go_wp2_with (first
        | (go_at_call 27; refine CA8.out.mono ?_; rintro e w9 ⟨rfl, hb⟩; have B9 := hid (B8.out.trans (hb.mono B8.out.size)); clear hb))
      go_ret
      exact ⟨rfl, B9.out⟩
    · rw [Bool.not_eq_true] at hm
      obtain ⟨hx, hk⟩ := HNO.out hm
      subst hx
      subst hk
      have HMM := hid hm
      have hYE := HYE.out
      have hYsz : Y.size = 163 := by rw [HY.out, List.size_toArray, qZ_ok.len]
      have CT8 : Hid (∀ w1, Below w.heap.size w w1 → Calls Tryd.prog 35 #[.agg PE, .agg (kc K)] w1 (TxsA w1 [])) := fun w1 hb => CT.out w1 hb HMM.out
      rw [isEnd_may] at hm
      have hcase : e < 0 ∨ (0 ≤ e ∧ 2 < e) := by
        rw [Bool.and_eq_false_iff] at hm
        rcases hm with h | h
        · rw [decide_eq_false_iff_not] at h; omega
        · rw [decide_eq_false_iff_not] at h; omega
      clear hm
      rcases hcase with h0 | ⟨h0, h2⟩
      · have h0' : ¬ (0 ≤ e) := by omega
        go_wp2_with (first
          | (go_at_call 27; refine CA8.out.mono ?_; rintro e w9 ⟨rfl, hb⟩; have B9 := hid (B8.out.trans (hb.mono B8.out.size)); have K29 := hid (K28.out.below hb); clear hb)
          | (refine wpList_buildC rfl 66 _ rfl PE ?hc ?_; case hc => (simp only [List.map_toArray, List.map_cons, List.map_nil, Act.eval]; exact HPB))
          | (refine load_at rfl 24 (.tmp 4) rfl (w.heap.size + 1) 0 rfl (u8s K) _ (blk_key K29.out) Tryd.underlying24 rfl HKI.out (kc K) rfl ?_)
          | (go_at_call 35; refine (CT8.out w9 B9.out).mono ?_; rintro e w10 ⟨v, rfl, htx, hb⟩; obtain ⟨A5, c5, rfl⟩ := htx.len; have B10 := hid (B9.out.trans (hb.mono B9.out.size)); clear hb htx))
        go_ret
        exact ⟨rfl, B10.out⟩
      · have h2' : ¬ (e ≤ 2) := by omega
        go_wp2_with (first
          | (go_at_call 27; refine CA8.out.mono ?_; rintro e w9 ⟨rfl, hb⟩; have B9 := hid (B8.out.trans (hb.mono B8.out.size)); have K29 := hid (K28.out.below hb); clear hb)
          | (refine wpList_buildC rfl 66 _ rfl PE ?hc ?_; case hc => (simp only [List.map_toArray, List.map_cons, List.map_nil, Act.eval]; exact HPB))
          | (refine load_at rfl 24 (.tmp 4) rfl (w.heap.size + 1) 0 rfl (u8s K) _ (blk_key K29.out) Tryd.underlying24 rfl HKI.out (kc K) rfl ?_)
          | (go_at_call 35; refine (CT8.out w9 B9.out).mono ?_; rintro e w10 ⟨v, rfl, htx, hb⟩; obtain ⟨A5, c5, rfl⟩ := htx.len; have B10 := hid (B9.out.trans (hb.mono B9.out.size)); clear hb htx))
        go_ret
        exact ⟨rfl, B10.out⟩
end Go.Proofs.YtenjiaelaikkcaaDoor
