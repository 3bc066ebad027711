/-
  What is proved here: a node is added just if it may: the walk of the statement.
-/
import Derived.Test.YtdeohkgdmbfocaaDoorMX19
import Derived.Test.YtdeohkgdmbfocaaDoorMX23
import Derived.Deep.DeepCutAuto
set_option linter.unusedSimpArgs false
set_option linter.unusedVariables false
namespace Go.Proofs.YtdeohkgdmbfocaaDoor
open Go.ChangeShapes Go.WideShapes Go.ChangeAt Go.RowKit
set_option linter.unusedVariables false
set_option linter.unusedSimpArgs false
set_option maxRecDepth 20000

theorem xNode_two {w : World} {f g b : Nat} {N : List Nd} {A : Option Addr} {c : Nat} {tv : Value} (h : Fo w f g b N A c tv) (i : Int) : ∃ (q : Nd) (r : Bool), r = isNd N.length i ∧ NdOk q ∧ (r = true → q = N[i.toNat]?.getD ndZ) ∧
    ∀ w', Below w.heap.size w w' → Calls Tryd.prog 27 #[.pointer (some ⟨f, 0, none⟩), .int .i64 i] w' fun e w'' => e = .returned (.tuple #[.agg (nc q).toArray, .bool r]) ∧ Below w'.heap.size w' w'' := by
  obtain ⟨r, hi⟩ : ∃ r, r = isNd N.length i := ⟨_, rfl⟩
  cases r with
  | false => exact ⟨ndZ, false, hi, ndZ_ok, (fun h => by cases h), (fun w' hb => xNode_no (h.below hb) i hi.symm)⟩
  | true =>
    have hi' := hi.symm
    unfold isNd at hi'
    rw [decide_eq_true_eq] at hi'
    obtain ⟨k, rfl⟩ : ∃ k : Nat, i = k := ⟨i.toNat, by omega⟩
    have hlt : k < N.length := by omega
    have hk : N[k]? = some N[k] := List.getElem?_eq_getElem hlt
    exact ⟨N[k], true, hi, h.ok _ (List.getElem_mem hlt), (fun _ => by rw [Int.toNat_natCast, hk]; rfl), (fun w' hb => xNode_at (h.below hb) k _ hk)⟩
theorem may_no {N : List Nd} {l a d : Int} {B : List Int} (h : (isNd N.length a && isNd N.length d && frm l B && decide (l < 256)) = false) : mayB N l B a d = false := by
  cases hm : mayB N l B a d with
  | false => rfl
  | true =>
    obtain ⟨n, x, y, e1, h1, h2, e2, e3, hx, hy⟩ := may_parts hm
    subst e1 e2 e3
    have i1 : isNd N.length (x : Int) = true := by unfold isNd; rw [decide_eq_true_eq]; omega
    have i2 : isNd N.length (y : Int) = true := by unfold isNd; rw [decide_eq_true_eq]; omega
    rw [i1, i2, h2, decide_eq_true (show (n : Int) < 256 by omega)] at h
    exact absurd h (by decide)
theorem ch_ok {l : Int} {B : List Int} (hf : frm l B = true) (hl : l < 256) : chB l B 0 = true ∧ chB l B 1 = true := by
  unfold chB
  rw [hf, decide_eq_true (show l ≠ 256 by omega)]
  exact ⟨rfl, rfl⟩
theorem may_yes {N : List Nd} {l a d : Int} {B : List Int} (h1 : isNd N.length a = true) (h2 : isNd N.length d = true) (hf : frm l B = true) (hl : l < 256) :
    mayB N l B a d = (wth (l + 1) B (N[a.toNat]?.getD ndZ).pn (N[a.toNat]?.getD ndZ).pb && wth (l + 1) (setb B l.toNat) (N[d.toNat]?.getD ndZ).pn (N[d.toNat]?.getD ndZ).pb) := by
  unfold mayB fitB
  rw [(ch_ok hf hl).1, (ch_ok hf hl).2, h1, h2]
  rfl
theorem child_0 {l : Int} {B : List Int} (hB : Ky B) (hf : frm l B = true) (hl : l < 256) (w : World) : Calls Tryd.prog 31 #[.agg (pc l B), .int .i64 0] w fun e w' => e = .returned (.tuple #[.agg (pc (l + 1) B), .bool true]) ∧ Below w.heap.size w w' :=
  (rChild_any l B 0 hB w).mono fun e w' ⟨he, hw⟩ => ⟨by rw [he]; unfold chV; rw [if_pos (ch_ok hf hl).1]; rfl, hw⟩
theorem child_1 {l : Int} {B : List Int} (hB : Ky B) (hf : frm l B = true) (hl : l < 256) (w : World) : Calls Tryd.prog 31 #[.agg (pc l B), .int .i64 1] w fun e w' => e = .returned (.tuple #[.agg (pc (l + 1) (setb B l.toNat)), .bool true]) ∧ Below w.heap.size w w' :=
  (rChild_any l B 1 hB w).mono fun e w' ⟨he, hw⟩ => ⟨by rw [he]; unfold chV; rw [if_pos (ch_ok hf hl).2]; rfl, hw⟩
theorem cut_any {k : List Int} (hk : Ky k) (w : World) : Calls Tryd.prog 32 #[.agg (kc k), .int .i64 256] w fun e w' => e = .returned (.agg (pc 256 k)) ∧ Below w.heap.size w w' := by
  have h := rCut_any k hk 256 w
  rw [show lim 256 = 256 from rfl, cut_all hk 256 (Nat.le_refl _)] at h
  exact h
set_option maxHeartbeats 20000000 in
theorem adds_walk {w : World} {A0 : Option Addr} {m c0 : Nat} {P : List KV} (h : InP w A0 m P) (q : Nd) (hq : NdOk q) (ht : Tab w) : Calls Tryd.prog 7 #[.slice A0 m c0, .agg (nc q).toArray] w fun e w' => e = .returned (.bool true) ∧ Below w.heap.size w w' := by
  have K1 : Hid (Blk (w.alloc (.cells (nc q).toArray 56)) w.heap.size 56 (nc q).toArray) := Blk.new w 56 _
  have B0 : Hid (Below w.heap.size w (w.alloc (.cells (nc q).toArray 56))) := (Below.refl _ _).alloc (Nat.le_refl _) _
  have CA := hid (fun w1 (hb : Below w.heap.size w w1) => xawake_any w1 (ht.below hb))
  by_cases hm : 25 < m
  · have hml : m ≤ 9223372036854775807 := h.2.1
    clear h
    clear hq
    go_enter Tryd.func7, Tryd.ntmps7
    go_wp2_with (first
      | (go_at_call 9; refine (CA.out _ B0.out).mono ?_; rintro e w1 ⟨rfl, hb⟩; have B1 := hid (B0.out.trans (hb.mono B0.out.size)); clear hb)
      | (go_at_call 9; refine (CA.out _ B1.out).mono ?_; rintro e w2 ⟨rfl, hb⟩; have B2 := hid (B1.out.trans (hb.mono B1.out.size)); clear hb))
    go_ret
    exact ⟨rfl, B2.out⟩
  · have CB := hid (fun w1 (hb : Below w.heap.size w w1) => xBuilt_any (c0 := c0) (h.below hb) (by omega) (ht.below hb))
    have HPL : Hid (P.length ≤ 25) := by have := h.1; show _ ≤ _; omega
    have HT := hid ht
    have HQ := hid hq
    clear h ht hq
    obtain ⟨Z, HZ, hZ0, hZs⟩ := zero_node
    go_enter Tryd.func7, Tryd.ntmps7
    go_upto_region 4 with (first
      | (go_at_call 9; refine (CA.out _ B0.out).mono ?_; rintro e w1 ⟨rfl, hb⟩; have B1 := hid (B0.out.trans (hb.mono B0.out.size)); have K2 := hid (K1.out.below hb); clear hb)
      | (go_at_call 19; refine (CB.out _ B1.out).mono ?_; rintro e w2 ⟨f, ti, g, b, N, A, c, tv, T, rfl, bt⟩; have BT := hid bt; clear bt))
    have B2 : Hid (Below w.heap.size w w2) := B1.out.trans (BT.out.bl.mono B1.out.size)
    have K3 : Hid (Blk w2 w.heap.size 56 (nc q).toArray) := K2.out.below BT.out.bl
    have OW : Hid (w.heap.size < f ∧ w.heap.size < g ∧ w.heap.size < b) := by
      have h1 := BT.out.own; have h2 := K2.out.lt
      show _ ∧ _ ∧ _; omega
    have HFEW : Hid (Few N.length) := by show N.length < 100000; have h1 := BT.out.nl; have h2 := HPL.out; omega
    have FO := hid BT.out.fo
    clear BT K1 K2 B0 B1 CB HPL hm
    have CS := hid (xSize_at FO.out)
    obtain ⟨q1, r1, hr1, hq1, he1, cn1⟩ := xNode_two FO.out q.l
    obtain ⟨q2, r2, hr2, hq2, he2, cn2⟩ := xNode_two FO.out q.r
    have HR1 := hid hr1; have HR2 := hid hr2; have HE1 := hid he1; have HE2 := hid he2; have HQ1 := hid hq1; have HQ2 := hid hq2; have CN1 := hid cn1; have CN2 := hid cn2
    have HI1 := hid (node_info2 hq1); have HI2 := hid (node_info2 hq2)
    have hz1 : Hid (Z.size = (nc q1).toArray.size) := by show _ = _; rw [HZ.out, List.size_toArray, List.size_toArray, ndZ_ok.nc, hq1.nc]
    have hz2 : Hid (Z.size = (nc q2).toArray.size) := by show _ = _; rw [HZ.out, List.size_toArray, List.size_toArray, ndZ_ok.nc, hq2.nc]
    clear hr1 hr2 hq1 hq2 he1 he2 cn1 cn2
    have c98 : w2.cell? ⟨w.heap.size, 98, none⟩ = some (.int .i64 q.l) := by have := (K3.out.node HQ.out).left; rwa [Nat.zero_add] at this
    obtain ⟨n, hn⟩ : ∃ n, n = N.length := ⟨_, rfl⟩
    have HN := hid hn
    rw [← hn] at CS
    clear hn
    go_upto_region 6 with (first
      | (go_at_call 26; refine CS.out.mono ?_; rintro e w3 ⟨rfl, rfl⟩)
      | (go_at_call 27; refine (CN1.out _ (Below.refl _ _)).mono ?_; rintro e w3 ⟨rfl, hb⟩; have B3 := hid hb; clear hb)
      | (refine wpList_store_row rfl 56 (.tmp 8) (.tmp 41) rfl w3.heap.size (nc q1).toArray rfl rfl 56 Z (Blk.new w3 56 Z) HI1.out hz1.out (nc_one2 _) ?_))
    have A1 : Hid (w2.heap.size ≤ w3.heap.size) := B3.out.size
    have K4 : Hid (Blk ((w3.alloc (.cells Z 56)).setRow w3.heap.size (nc q1).toArray) w3.heap.size 56 (nc q1).toArray) := (Blk.new w3 56 Z).row _
    have B4 : Hid (Below w2.heap.size w2 ((w3.alloc (.cells Z 56)).setRow w3.heap.size (nc q1).toArray)) := below_setRow (B3.out.alloc A1.out _) A1.out _
    generalize hp1 : w3.heap.size = p1 at A1 K4 B4 ⊢
    generalize (w3.alloc (.cells Z 56)).setRow p1 (nc q1).toArray = w4 at K4 B4 ⊢
    clear c98 hp1 B3
    have c99 : w4.cell? ⟨w.heap.size, 99, none⟩ = some (.int .i64 q.r) := by have := ((K3.out.below B4.out).node HQ.out).right; rwa [Nat.zero_add] at this
    go_upto_region 7 with (first
      | (go_at_call 27; refine (CN2.out _ B4.out).mono ?_; rintro e w5 ⟨rfl, hb⟩; have B5 := hid (B4.out.trans (hb.mono B4.out.size)); have K5 := hid (K4.out.below hb); clear hb)
      | (refine wpList_store_row rfl 56 (.tmp 10) (.tmp 48) rfl w5.heap.size (nc q2).toArray rfl rfl 56 Z (Blk.new w5 56 Z) HI2.out hz2.out (nc_one2 _) ?_))
    have A2 : Hid (w2.heap.size ≤ w5.heap.size) := B5.out.size
    have K6 : Hid (Blk ((w5.alloc (.cells Z 56)).setRow w5.heap.size (nc q2).toArray) w5.heap.size 56 (nc q2).toArray) := (Blk.new w5 56 Z).row _
    have K7 : Hid (Blk ((w5.alloc (.cells Z 56)).setRow w5.heap.size (nc q2).toArray) p1 56 (nc q1).toArray) := K5.out.below (below_setRow ((Below.refl w5.heap.size w5).alloc (Nat.le_refl _) _) (Nat.le_refl _) _)
    have B6 : Hid (Below w2.heap.size w2 ((w5.alloc (.cells Z 56)).setRow w5.heap.size (nc q2).toArray)) := below_setRow (B5.out.alloc A2.out _) A2.out _
    generalize hp2 : w5.heap.size = p2 at A2 K6 K7 B6 ⊢
    generalize (w5.alloc (.cells Z 56)).setRow p2 (nc q2).toArray = w6 at K6 K7 B6 ⊢
    clear c99 hp2 B4 B5 K4 K5 CN1 CN2 HI1 HI2 hz1 hz2 CS
    have HN1 : Hid ((n : Int) < 100000) := by have h1 := HFEW.out; have h2 := HN.out; have h1' : N.length < 100000 := h1; show _ < _; omega
    have HWR : Hid (wrap64 ((n : Int) + 1) = (n : Int) + 1) := by
      have h2 : (n : Int) < 100000 := HN1.out
      exact hid (IntWalk.wrap64_in ((n : Int) + 1) (by omega))
    obtain ⟨m0, hm0⟩ : ∃ m0, m0 = (r1 && r2 && frm q.n q.b && decide (q.n < 256)) := ⟨_, rfl⟩
    have HM0 := hid hm0
    clear hm0
    have HQI := hid (node_info HQ.out)
    have HPI := hid (pcl_info q.n HQ.out.b)
    go_cut [12] (fun s12 wx => s12 = .bool m0 ∧ Hid (Below w6.heap.size w6 wx))
    case first =>
      have CF := hid (rFormed_any q.n q.b HQ.out.b w6)
      have NB := hid ((K3.out.below B6.out).node HQ.out)
      have PR : Hid (w6.rangeAt w.heap.size 65 (.int .i64 q.n :: u8s q.b)) := by have := NB.out.pre; rwa [Nat.zero_add] at this
      have KB := hid (K3.out.below B6.out)
      have hm0 := HM0.out
      cases r1 with
      | false =>
        obtain rfl : m0 = false := hm0
        go_wp2
        go_meet
        exact ⟨rfl, Below.refl _ _⟩
      | true =>
        cases r2 with
        | false =>
          obtain rfl : m0 = false := hm0
          go_wp2
          go_meet
          exact ⟨rfl, Below.refl _ _⟩
        | true =>
          generalize frm q.n q.b = fl at CF hm0 HM0
          cases fl with
          | false =>
            obtain rfl : m0 = false := hm0
            go_wp2_with (first
              | (refine load_at (by first | rfl | simp [Region.wanted, yielded, *]) 54 (.tmp 55) rfl w.heap.size 65 rfl (.int .i64 q.n :: u8s q.b) _ PR.out Tryd.underlying54 rfl HPI.out (pc q.n q.b) rfl ?_)
              | (go_at_call 30; refine CF.out.mono ?_; rintro e w7 ⟨rfl, hb⟩; have BB := hid hb; clear hb))
            go_meet
            exact ⟨rfl, BB.out⟩
          | true =>
            have big : ∀ w7, Below w6.heap.size w6 w7 → w7.cell? ⟨w.heap.size, 65, none⟩ = some (.int .i64 q.n) := fun w7 hb => by have := ((KB.out.below hb).node HQ.out).len; rwa [Nat.zero_add] at this
            have BIG := hid big
            have hm1 : m0 = decide (q.n < 256) := by rw [hm0]; rfl
            have HM1 := hid hm1
            clear big hm0 hm1 HM0
            generalize q.n = ql at CF PR HPI BIG HM1
            go_wp2_with (first
              | (refine load_at (by first | rfl | simp [Region.wanted, yielded, *]) 54 (.tmp 55) rfl w.heap.size 65 rfl (.int .i64 ql :: u8s q.b) _ PR.out Tryd.underlying54 rfl HPI.out (pc ql q.b) rfl ?_)
              | (go_at_call 30; refine CF.out.mono ?_; rintro e w7 ⟨rfl, hb⟩; have BB := hid hb; have c65 := BIG.out w7 hb; clear hb))
            go_meet
            rw [HM1.out]
            exact ⟨rfl, BB.out⟩
    case rest =>
    obtain ⟨rfl, GX⟩ := hcut
    generalize wc = w7 at GX ⊢
    have B7 := hid (B6.out.trans (GX.out.mono B6.out.size))
    have K8 := hid (K6.out.below GX.out); have K9 := hid (K7.out.below GX.out)
    clear K6 K7 B6 GX
    obtain ⟨mv, hmv⟩ : ∃ mv, mv = mayB N q.n q.b q.l q.r := ⟨_, rfl⟩
    have HMV := hid hmv
    clear hmv
    go_upto_if 65 with (fail)
    go_cut [12] (fun s12 wx => s12 = .bool mv ∧ Hid (Below w7.heap.size w7 wx))
    case first =>
      have hm0 := HM0.out
      cases m0 with
      | false =>
        have hmv := HMV.out
        rw [may_no (by rw [← HR1.out, ← HR2.out]; exact hm0.symm)] at hmv
        have HMF := hid hmv
        clear hmv hm0 HM0
        go_wp2
        go_meet
        exact ⟨by rw [HMF.out], Below.refl _ _⟩
      | true =>
        obtain ⟨hra, hrb, hfr, hln⟩ : r1 = true ∧ r2 = true ∧ frm q.n q.b = true ∧ q.n < 256 := by
          have h := hm0.symm
          simp only [Bool.and_eq_true, decide_eq_true_eq] at h
          exact ⟨h.1.1.1, h.1.1.2, h.1.2, h.2⟩
        have hmv := HMV.out
        rw [may_yes (HR1.out.symm.trans hra) (HR2.out.symm.trans hrb) hfr hln, ← HE1.out hra, ← HE2.out hrb] at hmv
        have C0 := hid (child_0 (l := q.n) HQ.out.b hfr hln); have C1 := hid (child_1 (l := q.n) HQ.out.b hfr hln)
        have HK0 : Hid (Ky q.b) := HQ.out.b
        have HK1 : Hid (Ky (setb q.b q.n.toNat)) := setb_ky _ _
        clear hra hrb hfr hln hm0 HM0 HMV HE1 HE2 HR1 HR2
        obtain ⟨Z3, HZ3, hZ30, hZ3s⟩ := zero_pre
        have KB := hid (K3.out.below B7.out)
        have NB := hid (KB.out.node HQ.out)
        have PR0 := hid (fun w1 (hb : Below w7.heap.size w7 w1) => (show w1.rangeAt w.heap.size 65 (.int .i64 q.n :: u8s q.b) by have := ((KB.out.below hb).node HQ.out).pre; rwa [Nat.zero_add] at this))
        have M1 := hid (fun w1 (hb : Below w7.heap.size w7 w1) => (K9.out.below hb).node HQ1.out)
        have M2 := hid (fun w1 (hb : Below w7.heap.size w7 w1) => (K8.out.below hb).node HQ2.out)
        have HS0 := hid (pc_info (q.n + 1) HK0.out); have HS1 := hid (pc_info (q.n + 1) HK1.out)
        have HT0 := hid (pcl_info (q.n + 1) HK0.out); have HT1 := hid (pcl_info (q.n + 1) HK1.out)
        have zz : ∀ (l : Int) (B : List Int), Ky B → Z3.size = (pc l B).size := fun l B hB => by rw [HZ3.out, pc_size _ zk_ky, pc_size _ hB]
        have HY0 : Hid (Z3.size = (pc (q.n + 1) q.b).size) := zz _ _ HK0.out
        have HY1 : Hid (Z3.size = (pc (q.n + 1) (setb q.b q.n.toNat)).size) := zz _ _ HK1.out
        have HL1 := hid (pcl_info q1.n HQ1.out.b); have HL2 := hid (pcl_info q2.n HQ2.out.b)
        have HP1 := hid (pc_info q1.n HQ1.out.b); have HP2 := hid (pc_info q2.n HQ2.out.b)
        have HZ1 : Hid (Z3.size = (pc q1.n q1.b).size) := zz _ _ HQ1.out.b
        have HZ2 : Hid (Z3.size = (pc q2.n q2.b).size) := zz _ _ HQ2.out.b
        have HZZ := hid zz
        clear zz NB
        go_upto_region 10 with (first
          | (refine load_at rfl 54 (.tmp 67) rfl w.heap.size 65 rfl (.int .i64 q.n :: u8s q.b) _ (PR0.out _ (Below.refl _ _)) Tryd.underlying54 rfl HPI.out (pc q.n q.b) rfl ?_)
          | (go_at_call 31; refine (C0.out _).mono ?_; rintro e y1 ⟨rfl, hb⟩; have Y1 := hid hb; clear hb)
          | (refine wpList_store_row rfl 54 (.tmp 13) (.tmp 70) rfl y1.heap.size (pc (q.n + 1) q.b) rfl rfl 54 Z3 (Blk.new y1 54 Z3) HS0.out HY0.out (pc_one _ _) ?_))
        have J1 : Hid (w7.heap.size ≤ y1.heap.size) := Y1.out.size
        have KC : Hid (Blk ((y1.alloc (.cells Z3 54)).setRow y1.heap.size (pc (q.n + 1) q.b)) y1.heap.size 54 (pc (q.n + 1) q.b)) := (Blk.new y1 54 Z3).row _
        have Y2 : Hid (Below w7.heap.size w7 ((y1.alloc (.cells Z3 54)).setRow y1.heap.size (pc (q.n + 1) q.b))) := below_setRow (Y1.out.alloc J1.out _) J1.out _
        generalize y1.heap.size = p13 at J1 KC Y2 ⊢
        generalize (y1.alloc (.cells Z3 54)).setRow p13 (pc (q.n + 1) q.b) = y2 at KC Y2 ⊢
        clear Y1
        go_upto_region 11 with (first
          | (refine load_at rfl 54 (.tmp 73) rfl w.heap.size 65 rfl (.int .i64 q.n :: u8s q.b) _ (PR0.out _ Y2.out) Tryd.underlying54 rfl HPI.out (pc q.n q.b) rfl ?_)
          | (go_at_call 31; refine (C1.out _).mono ?_; rintro e y3 ⟨rfl, hb⟩; have Y3 := hid (Y2.out.trans (hb.mono Y2.out.size)); have KC3 := hid (KC.out.below hb); clear hb)
          | (refine wpList_store_row rfl 54 (.tmp 15) (.tmp 76) rfl y3.heap.size (pc (q.n + 1) (setb q.b q.n.toNat)) rfl rfl 54 Z3 (Blk.new y3 54 Z3) HS1.out HY1.out (pc_one _ _) ?_))
        have J2 : Hid (w7.heap.size ≤ y3.heap.size) := Y3.out.size
        have KD : Hid (Blk ((y3.alloc (.cells Z3 54)).setRow y3.heap.size (pc (q.n + 1) (setb q.b q.n.toNat))) y3.heap.size 54 (pc (q.n + 1) (setb q.b q.n.toNat))) := (Blk.new y3 54 Z3).row _
        have KC4 : Hid (Blk ((y3.alloc (.cells Z3 54)).setRow y3.heap.size (pc (q.n + 1) (setb q.b q.n.toNat))) p13 54 (pc (q.n + 1) q.b)) := KC3.out.below (below_setRow ((Below.refl y3.heap.size y3).alloc (Nat.le_refl _) _) (Nat.le_refl _) _)
        have Y4 : Hid (Below w7.heap.size w7 ((y3.alloc (.cells Z3 54)).setRow y3.heap.size (pc (q.n + 1) (setb q.b q.n.toNat)))) := below_setRow (Y3.out.alloc J2.out _) J2.out _
        generalize y3.heap.size = p15 at J2 KD KC4 Y4 ⊢
        generalize (y3.alloc (.cells Z3 54)).setRow p15 (pc (q.n + 1) (setb q.b q.n.toNat)) = w0 at KD KC4 Y4 ⊢
        clear Y3 Y2 KC KC3
        have NP1 : Hid (w0.rangeAt p1 65 (.int .i64 q1.n :: u8s q1.b)) := by have := (M1.out _ Y4.out).pre; rwa [Nat.zero_add] at this
        have NP2 : Hid (w0.rangeAt p2 65 (.int .i64 q2.n :: u8s q2.b)) := by have := (M2.out _ Y4.out).pre; rwa [Nat.zero_add] at this
        go_cut [17, 18] (fun s17 s18 wx => ∃ g17 g18, s17 = .pointer (some ⟨g17, 0, none⟩) ∧ s18 = .pointer (some ⟨g18, 0, none⟩) ∧ Hid (Blk wx g17 54 (pc q1.n q1.b)) ∧ Hid (Blk wx g18 54 (pc q2.n q2.b)) ∧ Hid (Below w0.heap.size w0 wx) ∧ Hid (w0.heap.size ≤ g17) ∧ Hid (w0.heap.size ≤ g18) ∧ Hid (g17 ≠ g18))
        case first =>
          refine wp_region_held (S := fun w' => Hid (Below w0.heap.size w0 w')) (by kernel_rfl) ?_
          change wpAnyH _ _ _ _ _ _ _ _ w0.drew
          have Gx0 : Hid (Below w0.heap.size w0 w0.drew) := (Below.refl _ _).drew
          generalize w0.drew = x0 at Gx0  ⊢
          refine wpAnyH_take (i := 0) (oi := { dst := some 78, op := _, type := _, pos := _, after := _, guard := _ }) (v := ?_) rfl (by kernel_rfl) (by kernel_rfl) (by kernel_rfl) (fun _ _ _ h => h) (Or.inl ⟨by kernel_rfl, ?_⟩) Gx0 ?_
          rotate_left
          · (intro w hSw; go_simp; try with_reducible rfl)
          try simp only [Act.put, List.setIfInBounds_toArray, List.set_cons_zero, List.set_cons_succ]
          refine wpAnyH_take (i := 1) (oi := { dst := some 79, op := _, type := _, pos := _, after := _, guard := _ }) (v := .agg ((pc q1.n q1.b))) rfl (by kernel_rfl) (by kernel_rfl) (by kernel_rfl) (fun _ _ _ h => h) (yieldsIf_load_mid (cs := (.int .i64 q1.n :: u8s q1.b)) (by rfl) _ _ rfl _ _ rfl _ (fun w' hSw => (rng_bel hSw.out NP1.out)) Tryd.underlying54 rfl HL1.out) Gx0 ?_
          try simp only [Act.put, List.setIfInBounds_toArray, List.set_cons_zero, List.set_cons_succ]
          refine wpAnyH_take (i := 2) (oi := { dst := some 80, op := _, type := _, pos := _, after := _, guard := _ }) (v := ?_) rfl (by kernel_rfl) (by kernel_rfl) (by kernel_rfl) (fun _ _ _ h => h) (Or.inl ⟨by kernel_rfl, ?_⟩) Gx0 ?_
          rotate_left
          · (intro w hSw; go_simp; try with_reducible rfl)
          try simp only [Act.put, List.setIfInBounds_toArray, List.set_cons_zero, List.set_cons_succ]
          refine wpAnyH_take (i := 3) (oi := { dst := some 81, op := _, type := _, pos := _, after := _, guard := _ }) (v := .agg ((pc q2.n q2.b))) rfl (by kernel_rfl) (by kernel_rfl) (by kernel_rfl) (fun _ _ _ h => h) (yieldsIf_load_mid (cs := (.int .i64 q2.n :: u8s q2.b)) (by rfl) _ _ rfl _ _ rfl _ (fun w' hSw => (rng_bel hSw.out NP2.out)) Tryd.underlying54 rfl HL2.out) Gx0 ?_
          try simp only [Act.put, List.setIfInBounds_toArray, List.set_cons_zero, List.set_cons_succ]
          refine wpAnyH_ready (rs := [4, 5]) (by kernel_rfl) (by simp) ?_
          refine (AllReadyH.cons (o := { dst := some 17, op := _, type := _, pos := _, after := _, guard := _ }) rfl (fun Qc hQc => ?_) (AllReadyH.cons (o := { dst := some 18, op := _, type := _, pos := _, after := _, guard := _ }) rfl (fun Qc hQc => ?_) AllReadyH.nil))
          ·
            go_simp
            have NAx1 : Hid (Blk (x0.alloc (.cells Z3 54)) x0.heap.size 54 Z3) := Blk.new x0 54 Z3
            have Gx1 := hid (Gx0.out.alloc Gx0.out.size (.cells Z3 54))
            have GEA : Hid (w0.heap.size ≤ x0.heap.size) := Gx0.out.size
            refine hQc.out _ _ Gx1 (fun hHeld => ?_)
            clear hQc Qc hHeld
            generalize x0.heap.size = g17 at NAx1 GEA ⊢
            generalize x0.alloc (.cells Z3 54) = x1 at NAx1 Gx1 ⊢
            try simp only [Act.put, List.setIfInBounds_toArray, List.set_cons_zero, List.set_cons_succ]
            refine wpAnyH_ready (rs := [5]) (by kernel_rfl) (by simp) ?_
            refine (AllReadyH.cons (o := { dst := some 18, op := _, type := _, pos := _, after := _, guard := _ }) rfl (fun Qc hQc => ?_) AllReadyH.nil)
            go_simp
            have NBx2 : Hid (Blk (x1.alloc (.cells Z3 54)) x1.heap.size 54 Z3) := Blk.new x1 54 Z3
            have NAx2 := hid (NAx1.out.alloc (.cells Z3 54))
            have NE : Hid (g17 ≠ x1.heap.size) := Nat.ne_of_lt NAx1.out.lt
            have Gx2 := hid (Gx1.out.alloc Gx1.out.size (.cells Z3 54))
            have GEB : Hid (w0.heap.size ≤ x1.heap.size) := Gx1.out.size
            refine hQc.out _ _ Gx2 (fun hHeld => ?_)
            clear hQc Qc hHeld
            generalize x1.heap.size = g18 at NBx2 GEB NE ⊢
            generalize x1.alloc (.cells Z3 54) = x2 at NBx2 Gx2 NAx2 ⊢
            try simp only [Act.put, List.setIfInBounds_toArray, List.set_cons_zero, List.set_cons_succ]
            refine wpAnyH_ready (rs := [6]) (by kernel_rfl) (by simp) ?_
            refine (AllReadyH.cons (o := { dst := none, op := _, type := _, pos := _, after := _, guard := _ }) rfl (fun Qc hQc => ?_) AllReadyH.nil)
            rw [if_pos (by rfl)]
            refine wp_store_row 54 (.tmp 17) (.tmp 79) rfl g17 (pc q1.n q1.b) rfl rfl 54 Z3 NAx2.out HP1.out HZ1.out (pc_one _ _) ?_
            have Gx3 : Hid (Below w0.heap.size w0 (x2.setRow g17 (pc q1.n q1.b))) := below_setRow Gx2.out GEA.out _
            have NAx3 := hid (NAx2.out.row (pc q1.n q1.b))
            have NBx3 : Hid (Blk (x2.setRow g17 (pc q1.n q1.b)) g18 54 Z3) := NBx2.out.same (setRow_other x2 g17 g18 _ (by have := NE.out; omega))
            refine hQc.out _ _ Gx3 (fun hHeld => ?_)
            clear hQc Qc hHeld
            generalize x2.setRow g17 (pc q1.n q1.b) = x3 at NAx3 Gx3 NBx3 ⊢
            try simp only [Act.put, List.setIfInBounds_toArray, List.set_cons_zero, List.set_cons_succ]
            refine wpAnyH_ready (rs := [7]) (by kernel_rfl) (by simp) ?_
            refine (AllReadyH.cons (o := { dst := none, op := _, type := _, pos := _, after := _, guard := _ }) rfl (fun Qc hQc => ?_) AllReadyH.nil)
            rw [if_pos (by rfl)]
            refine wp_store_row 54 (.tmp 18) (.tmp 81) rfl g18 (pc q2.n q2.b) rfl rfl 54 Z3 NBx3.out HP2.out HZ2.out (pc_one _ _) ?_
            have Gx4 : Hid (Below w0.heap.size w0 (x3.setRow g18 (pc q2.n q2.b))) := below_setRow Gx3.out GEB.out _
            have NBx4 := hid (NBx3.out.row (pc q2.n q2.b))
            have NAx4 : Hid (Blk (x3.setRow g18 (pc q2.n q2.b)) g17 54 (pc q1.n q1.b)) := NAx3.out.same (setRow_other x3 g18 g17 _ (by have := NE.out; omega))
            refine hQc.out _ _ Gx4 (fun hHeld => ?_)
            clear hQc Qc hHeld
            generalize x3.setRow g18 (pc q2.n q2.b) = x4 at NBx4 Gx4 NAx4 ⊢
            try simp only [Act.put, List.setIfInBounds_toArray, List.set_cons_zero, List.set_cons_succ]
            refine wpAnyH_done (by kernel_rfl) ?_ _
            try simp only [Act.put, List.setIfInBounds_toArray, List.set_cons_zero, List.set_cons_succ]
            go_wp2
            go_meet
            exact ⟨g17, g18, rfl, rfl, NAx4, NBx4, Gx4, GEA, GEB, by have := NE.out; show _ ≠ _; omega⟩
          ·
            go_simp
            have NBx5 : Hid (Blk (x0.alloc (.cells Z3 54)) x0.heap.size 54 Z3) := Blk.new x0 54 Z3
            have Gx5 := hid (Gx0.out.alloc Gx0.out.size (.cells Z3 54))
            have GEB : Hid (w0.heap.size ≤ x0.heap.size) := Gx0.out.size
            refine hQc.out _ _ Gx5 (fun hHeld => ?_)
            clear hQc Qc hHeld
            generalize x0.heap.size = g18 at NBx5 GEB ⊢
            generalize x0.alloc (.cells Z3 54) = x5 at NBx5 Gx5 ⊢
            try simp only [Act.put, List.setIfInBounds_toArray, List.set_cons_zero, List.set_cons_succ]
            refine wpAnyH_ready (rs := [4]) (by kernel_rfl) (by simp) ?_
            refine (AllReadyH.cons (o := { dst := some 17, op := _, type := _, pos := _, after := _, guard := _ }) rfl (fun Qc hQc => ?_) AllReadyH.nil)
            go_simp
            have NAx6 : Hid (Blk (x5.alloc (.cells Z3 54)) x5.heap.size 54 Z3) := Blk.new x5 54 Z3
            have NBx6 := hid (NBx5.out.alloc (.cells Z3 54))
            have NE : Hid (g18 ≠ x5.heap.size) := Nat.ne_of_lt NBx5.out.lt
            have Gx6 := hid (Gx5.out.alloc Gx5.out.size (.cells Z3 54))
            have GEA : Hid (w0.heap.size ≤ x5.heap.size) := Gx5.out.size
            refine hQc.out _ _ Gx6 (fun hHeld => ?_)
            clear hQc Qc hHeld
            generalize x5.heap.size = g17 at NAx6 GEA NE ⊢
            generalize x5.alloc (.cells Z3 54) = x6 at NAx6 Gx6 NBx6 ⊢
            try simp only [Act.put, List.setIfInBounds_toArray, List.set_cons_zero, List.set_cons_succ]
            refine wpAnyH_ready (rs := [6]) (by kernel_rfl) (by simp) ?_
            refine (AllReadyH.cons (o := { dst := none, op := _, type := _, pos := _, after := _, guard := _ }) rfl (fun Qc hQc => ?_) AllReadyH.nil)
            rw [if_pos (by rfl)]
            refine wp_store_row 54 (.tmp 17) (.tmp 79) rfl g17 (pc q1.n q1.b) rfl rfl 54 Z3 NAx6.out HP1.out HZ1.out (pc_one _ _) ?_
            have Gx7 : Hid (Below w0.heap.size w0 (x6.setRow g17 (pc q1.n q1.b))) := below_setRow Gx6.out GEA.out _
            have NAx7 := hid (NAx6.out.row (pc q1.n q1.b))
            have NBx7 : Hid (Blk (x6.setRow g17 (pc q1.n q1.b)) g18 54 Z3) := NBx6.out.same (setRow_other x6 g17 g18 _ (by have := NE.out; omega))
            refine hQc.out _ _ Gx7 (fun hHeld => ?_)
            clear hQc Qc hHeld
            generalize x6.setRow g17 (pc q1.n q1.b) = x7 at NAx7 Gx7 NBx7 ⊢
            try simp only [Act.put, List.setIfInBounds_toArray, List.set_cons_zero, List.set_cons_succ]
            refine wpAnyH_ready (rs := [7]) (by kernel_rfl) (by simp) ?_
            refine (AllReadyH.cons (o := { dst := none, op := _, type := _, pos := _, after := _, guard := _ }) rfl (fun Qc hQc => ?_) AllReadyH.nil)
            rw [if_pos (by rfl)]
            refine wp_store_row 54 (.tmp 18) (.tmp 81) rfl g18 (pc q2.n q2.b) rfl rfl 54 Z3 NBx7.out HP2.out HZ2.out (pc_one _ _) ?_
            have Gx8 : Hid (Below w0.heap.size w0 (x7.setRow g18 (pc q2.n q2.b))) := below_setRow Gx7.out GEB.out _
            have NBx8 := hid (NBx7.out.row (pc q2.n q2.b))
            have NAx8 : Hid (Blk (x7.setRow g18 (pc q2.n q2.b)) g17 54 (pc q1.n q1.b)) := NAx7.out.same (setRow_other x7 g18 g17 _ (by have := NE.out; omega))
            refine hQc.out _ _ Gx8 (fun hHeld => ?_)
            clear hQc Qc hHeld
            generalize x7.setRow g18 (pc q2.n q2.b) = x8 at NBx8 Gx8 NAx8 ⊢
            try simp only [Act.put, List.setIfInBounds_toArray, List.set_cons_zero, List.set_cons_succ]
            refine wpAnyH_done (by kernel_rfl) ?_ _
            try simp only [Act.put, List.setIfInBounds_toArray, List.set_cons_zero, List.set_cons_succ]
            go_wp2
            go_meet
            exact ⟨g17, g18, rfl, rfl, NAx8, NBx8, Gx8, GEA, GEB, by have := NE.out; show _ ≠ _; omega⟩
        case rest =>
        obtain ⟨g17, g18, rfl, rfl, NA, NB, GX, GEA, GEB, NE⟩ := hcut
        generalize wc = z0 at NA NB GX ⊢
        have HA1 := hid (cut_any (k := q1.k) HQ1.out.k); have HA2 := hid (cut_any (k := q2.k) HQ2.out.k)
        have HJ1 := hid (u8s_info HQ1.out.k); have HJ2 := hid (u8s_info HQ2.out.k)
        have HX1 := hid (pc_info 256 HQ1.out.k); have HX2 := hid (pc_info 256 HQ2.out.k)
        have HY3 : Hid ((pc q1.n q1.b).size = (pc 256 q1.k).size) := by show _ = _; rw [pc_size _ HQ1.out.b, pc_size _ HQ1.out.k]
        have HY4 : Hid ((pc q2.n q2.b).size = (pc 256 q2.k).size) := by show _ = _; rw [pc_size _ HQ2.out.b, pc_size _ HQ2.out.k]
        have HV1 := hid (pcl_info 256 HQ1.out.k); have HV2 := hid (pcl_info 256 HQ2.out.k)
        have ca : z0.cell? ⟨p1, 0, none⟩ = some (.bool q1.leaf) := (M1.out _ (Y4.out.trans (GX.out.mono Y4.out.size))).leaf
        cases hl1 : q1.leaf with
        | true =>
          rw [hl1] at ca
          have HL8 := hid hl1; have HMM0 := hid hmv
          clear hl1 hmv
          have KY1 := hid (M1.out _ (Y4.out.trans (GX.out.mono Y4.out.size))).key
          go_upto_region 14 with (first
            | (refine load_at rfl 24 (.tmp 84) rfl p1 1 rfl (u8s q1.k) _ (by have := KY1.out; rwa [Nat.zero_add] at this) Tryd.underlying24 rfl HJ1.out (kc q1.k) rfl ?_)
            | (go_at_call 32; refine (HA1.out _).mono ?_; rintro e u1 ⟨rfl, hb⟩; have GU1 := hid (GX.out.trans (hb.mono GX.out.size)); have NAu1 := hid (NA.out.below hb); have NBu1 := hid (NB.out.below hb); clear hb)
            | (refine wpList_store_row rfl 54 (.tmp 17) (.tmp 86) rfl g17 (pc 256 q1.k) rfl rfl 54 (pc q1.n q1.b) NAu1.out HX1.out HY3.out (pc_one _ _) ?_))
          have Gz1 : Hid (Below w0.heap.size w0 (u1.setRow g17 (pc 256 q1.k))) := below_setRow GU1.out GEA.out _
          have NAz1 := hid (NAu1.out.row (pc 256 q1.k))
          have NBz1 : Hid (Blk (u1.setRow g17 (pc 256 q1.k)) g18 54 (pc q2.n q2.b)) := NBu1.out.same (setRow_other u1 g17 g18 _ (Ne.symm NE.out))
          generalize u1.setRow g17 (pc 256 q1.k) = z1 at Gz1 NBz1 NAz1 ⊢
          clear ca
          have hmv := HMM0.out
          have cb : z1.cell? ⟨p2, 0, none⟩ = some (.bool q2.leaf) := (M2.out _ (Y4.out.trans (Gz1.out.mono Y4.out.size))).leaf
          cases hl2 : q2.leaf with
          | true =>
            rw [hl2] at cb
            have HL9 := hid hl2; have HMM := hid hmv
            clear hl2 hmv
            have KY2 := hid (M2.out _ (Y4.out.trans (Gz1.out.mono Y4.out.size))).key
            go_upto_region 16 with (first
              | (refine load_at rfl 24 (.tmp 89) rfl p2 1 rfl (u8s q2.k) _ (by have := KY2.out; rwa [Nat.zero_add] at this) Tryd.underlying24 rfl HJ2.out (kc q2.k) rfl ?_)
              | (go_at_call 32; refine (HA2.out _).mono ?_; rintro e u2 ⟨rfl, hb⟩; have GU2 := hid (Gz1.out.trans (hb.mono Gz1.out.size)); have NAu2 := hid (NAz1.out.below hb); have NBu2 := hid (NBz1.out.below hb); clear hb)
              | (refine wpList_store_row rfl 54 (.tmp 18) (.tmp 91) rfl g18 (pc 256 q2.k) rfl rfl 54 (pc q2.n q2.b) NBu2.out HX2.out HY4.out (pc_one _ _) ?_))
            have Gz2 : Hid (Below w0.heap.size w0 (u2.setRow g18 (pc 256 q2.k))) := below_setRow GU2.out GEB.out _
            have NBz2 := hid (NBu2.out.row (pc 256 q2.k))
            have NAz2 : Hid (Blk (u2.setRow g18 (pc 256 q2.k)) g17 54 (pc (256) (q1.k))) := NAu2.out.same (setRow_other u2 g18 g17 _ NE.out)
            generalize u2.setRow g18 (pc 256 q2.k) = z2 at Gz2 NBz2 NAz2 ⊢
            clear cb
            have hl1 := HL8.out; have hl2 := HL9.out; have hmv := HMM.out
            have CW1 := hid (fun w => rWithin_any (q.n + 1) (256) q.b (q1.k) HK0.out HQ1.out.k w)
            have CW2 := hid (fun w => rWithin_any (q.n + 1) (256) (setb q.b q.n.toNat) (q2.k) HK1.out HQ2.out.k w)
            rw [show q1.pn = 256 by unfold Nd.pn; rw [hl1]; rfl, show q1.pb = q1.k by unfold Nd.pb; rw [hl1]; rfl, show q2.pn = 256 by unfold Nd.pn; rw [hl2]; rfl, show q2.pb = q2.k by unfold Nd.pb; rw [hl2]; rfl] at hmv
            generalize wth (q.n + 1) q.b (256) (q1.k) = W1 at CW1 hmv
            generalize wth (q.n + 1) (setb q.b q.n.toNat) (256) (q2.k) = W2 at CW2 hmv
            have HMF := hid hmv
            have KC6 := hid (KC4.out.below Gz2.out); have KD6 := hid (KD.out.below Gz2.out)
            clear hmv hl1 hl2
            cases W1 with
            | false =>
              go_wp2_with (first
                | (refine load_at rfl 54 (.tmp 13) rfl p13 0 rfl (.int .i64 (q.n + 1) :: u8s q.b) _ (blk_pre KC6.out) Tryd.underlying54 rfl HT0.out (pc (q.n + 1) q.b) rfl ?_)
                | (refine load_at rfl 54 (.tmp 17) rfl g17 0 rfl (.int .i64 (256) :: u8s (q1.k)) _ (blk_pre NAz2.out) Tryd.underlying54 rfl HV1.out (pc (256) (q1.k)) rfl ?_)
                | (go_at_call 33; refine (CW1.out _).mono ?_; rintro e y5 ⟨rfl, hb⟩; have BY := hid (Gz2.out.trans (hb.mono Gz2.out.size)); clear hb))
              go_meet
              exact ⟨by rw [HMF.out]; rfl, Y4.out.trans (BY.out.mono Y4.out.size)⟩
            | true =>
              go_wp2_with (first
                | (refine load_at rfl 54 (.tmp 13) rfl p13 0 rfl (.int .i64 (q.n + 1) :: u8s q.b) _ (blk_pre KC6.out) Tryd.underlying54 rfl HT0.out (pc (q.n + 1) q.b) rfl ?_)
                | (refine load_at rfl 54 (.tmp 17) rfl g17 0 rfl (.int .i64 (256) :: u8s (q1.k)) _ (blk_pre NAz2.out) Tryd.underlying54 rfl HV1.out (pc (256) (q1.k)) rfl ?_)
                | (go_at_call 33; with_reducible refine (CW1.out _).mono ?_; rintro e y5 ⟨rfl, hb⟩; have BY := hid (Gz2.out.trans (hb.mono Gz2.out.size)); have KD7 := hid (KD6.out.below hb); have NB7 := hid (NBz2.out.below hb); clear hb)
                | (refine load_at (by first | rfl | simp [Region.wanted, yielded, *]) 54 (.tmp 15) rfl p15 0 rfl (.int .i64 (q.n + 1) :: u8s (setb q.b q.n.toNat)) _ (blk_pre KD7.out) Tryd.underlying54 rfl HT1.out (pc (q.n + 1) (setb q.b q.n.toNat)) rfl ?_)
                | (refine load_at (by first | rfl | simp [Region.wanted, yielded, *]) 54 (.tmp 18) rfl g18 0 rfl (.int .i64 (256) :: u8s (q2.k)) _ (blk_pre NB7.out) Tryd.underlying54 rfl HV2.out (pc (256) (q2.k)) rfl ?_)
                | (go_at_call 33; refine (CW2.out _).mono ?_; rintro e y6 ⟨rfl, hb⟩; have BZ := hid (BY.out.trans (hb.mono BY.out.size)); clear hb))
              go_meet
              exact ⟨by rw [HMF.out]; rfl, Y4.out.trans (BZ.out.mono Y4.out.size)⟩
          | false =>
            rw [hl2] at cb
            have HL9 := hid hl2; have HMM := hid hmv
            clear hl2 hmv
            go_upto_region 16 with (fail)
            clear cb
            have hl1 := HL8.out; have hl2 := HL9.out; have hmv := HMM.out
            have CW1 := hid (fun w => rWithin_any (q.n + 1) (256) q.b (q1.k) HK0.out HQ1.out.k w)
            have CW2 := hid (fun w => rWithin_any (q.n + 1) (q2.n) (setb q.b q.n.toNat) (q2.b) HK1.out HQ2.out.b w)
            rw [show q1.pn = 256 by unfold Nd.pn; rw [hl1]; rfl, show q1.pb = q1.k by unfold Nd.pb; rw [hl1]; rfl, show q2.pn = q2.n by unfold Nd.pn; rw [hl2]; rfl, show q2.pb = q2.b by unfold Nd.pb; rw [hl2]; rfl] at hmv
            generalize wth (q.n + 1) q.b (256) (q1.k) = W1 at CW1 hmv
            generalize wth (q.n + 1) (setb q.b q.n.toNat) (q2.n) (q2.b) = W2 at CW2 hmv
            have HMF := hid hmv
            have KC6 := hid (KC4.out.below Gz1.out); have KD6 := hid (KD.out.below Gz1.out)
            clear hmv hl1 hl2
            cases W1 with
            | false =>
              go_wp2_with (first
                | (refine load_at rfl 54 (.tmp 13) rfl p13 0 rfl (.int .i64 (q.n + 1) :: u8s q.b) _ (blk_pre KC6.out) Tryd.underlying54 rfl HT0.out (pc (q.n + 1) q.b) rfl ?_)
                | (refine load_at rfl 54 (.tmp 17) rfl g17 0 rfl (.int .i64 (256) :: u8s (q1.k)) _ (blk_pre NAz1.out) Tryd.underlying54 rfl HV1.out (pc (256) (q1.k)) rfl ?_)
                | (go_at_call 33; refine (CW1.out _).mono ?_; rintro e y5 ⟨rfl, hb⟩; have BY := hid (Gz1.out.trans (hb.mono Gz1.out.size)); clear hb))
              go_meet
              exact ⟨by rw [HMF.out]; rfl, Y4.out.trans (BY.out.mono Y4.out.size)⟩
            | true =>
              go_wp2_with (first
                | (refine load_at rfl 54 (.tmp 13) rfl p13 0 rfl (.int .i64 (q.n + 1) :: u8s q.b) _ (blk_pre KC6.out) Tryd.underlying54 rfl HT0.out (pc (q.n + 1) q.b) rfl ?_)
                | (refine load_at rfl 54 (.tmp 17) rfl g17 0 rfl (.int .i64 (256) :: u8s (q1.k)) _ (blk_pre NAz1.out) Tryd.underlying54 rfl HV1.out (pc (256) (q1.k)) rfl ?_)
                | (go_at_call 33; with_reducible refine (CW1.out _).mono ?_; rintro e y5 ⟨rfl, hb⟩; have BY := hid (Gz1.out.trans (hb.mono Gz1.out.size)); have KD7 := hid (KD6.out.below hb); have NB7 := hid (NBz1.out.below hb); clear hb)
                | (refine load_at (by first | rfl | simp [Region.wanted, yielded, *]) 54 (.tmp 15) rfl p15 0 rfl (.int .i64 (q.n + 1) :: u8s (setb q.b q.n.toNat)) _ (blk_pre KD7.out) Tryd.underlying54 rfl HT1.out (pc (q.n + 1) (setb q.b q.n.toNat)) rfl ?_)
                | (refine load_at (by first | rfl | simp [Region.wanted, yielded, *]) 54 (.tmp 18) rfl g18 0 rfl (.int .i64 (q2.n) :: u8s (q2.b)) _ (blk_pre NB7.out) Tryd.underlying54 rfl HL2.out (pc (q2.n) (q2.b)) rfl ?_)
                | (go_at_call 33; refine (CW2.out _).mono ?_; rintro e y6 ⟨rfl, hb⟩; have BZ := hid (BY.out.trans (hb.mono BY.out.size)); clear hb))
              go_meet
              exact ⟨by rw [HMF.out]; rfl, Y4.out.trans (BZ.out.mono Y4.out.size)⟩
        | false =>
          rw [hl1] at ca
          have HL8 := hid hl1; have HMM0 := hid hmv
          clear hl1 hmv
          go_upto_region 14 with (fail)
          clear ca
          have Gz0 := hid GX.out; have NAz0 := hid NA.out; have NBz0 := hid NB.out
          have hmv := HMM0.out
          have cb : z0.cell? ⟨p2, 0, none⟩ = some (.bool q2.leaf) := (M2.out _ (Y4.out.trans (Gz0.out.mono Y4.out.size))).leaf
          cases hl2 : q2.leaf with
          | true =>
            rw [hl2] at cb
            have HL9 := hid hl2; have HMM := hid hmv
            clear hl2 hmv
            have KY2 := hid (M2.out _ (Y4.out.trans (Gz0.out.mono Y4.out.size))).key
            go_upto_region 16 with (first
              | (refine load_at rfl 24 (.tmp 89) rfl p2 1 rfl (u8s q2.k) _ (by have := KY2.out; rwa [Nat.zero_add] at this) Tryd.underlying24 rfl HJ2.out (kc q2.k) rfl ?_)
              | (go_at_call 32; refine (HA2.out _).mono ?_; rintro e u2 ⟨rfl, hb⟩; have GU2 := hid (Gz0.out.trans (hb.mono Gz0.out.size)); have NAu2 := hid (NAz0.out.below hb); have NBu2 := hid (NBz0.out.below hb); clear hb)
              | (refine wpList_store_row rfl 54 (.tmp 18) (.tmp 91) rfl g18 (pc 256 q2.k) rfl rfl 54 (pc q2.n q2.b) NBu2.out HX2.out HY4.out (pc_one _ _) ?_))
            have Gz2 : Hid (Below w0.heap.size w0 (u2.setRow g18 (pc 256 q2.k))) := below_setRow GU2.out GEB.out _
            have NBz2 := hid (NBu2.out.row (pc 256 q2.k))
            have NAz2 : Hid (Blk (u2.setRow g18 (pc 256 q2.k)) g17 54 (pc (q1.n) (q1.b))) := NAu2.out.same (setRow_other u2 g18 g17 _ NE.out)
            generalize u2.setRow g18 (pc 256 q2.k) = z2 at Gz2 NBz2 NAz2 ⊢
            clear cb
            have hl1 := HL8.out; have hl2 := HL9.out; have hmv := HMM.out
            have CW1 := hid (fun w => rWithin_any (q.n + 1) (q1.n) q.b (q1.b) HK0.out HQ1.out.b w)
            have CW2 := hid (fun w => rWithin_any (q.n + 1) (256) (setb q.b q.n.toNat) (q2.k) HK1.out HQ2.out.k w)
            rw [show q1.pn = q1.n by unfold Nd.pn; rw [hl1]; rfl, show q1.pb = q1.b by unfold Nd.pb; rw [hl1]; rfl, show q2.pn = 256 by unfold Nd.pn; rw [hl2]; rfl, show q2.pb = q2.k by unfold Nd.pb; rw [hl2]; rfl] at hmv
            generalize wth (q.n + 1) q.b (q1.n) (q1.b) = W1 at CW1 hmv
            generalize wth (q.n + 1) (setb q.b q.n.toNat) (256) (q2.k) = W2 at CW2 hmv
            have HMF := hid hmv
            have KC6 := hid (KC4.out.below Gz2.out); have KD6 := hid (KD.out.below Gz2.out)
            clear hmv hl1 hl2
            cases W1 with
            | false =>
              go_wp2_with (first
                | (refine load_at rfl 54 (.tmp 13) rfl p13 0 rfl (.int .i64 (q.n + 1) :: u8s q.b) _ (blk_pre KC6.out) Tryd.underlying54 rfl HT0.out (pc (q.n + 1) q.b) rfl ?_)
                | (refine load_at rfl 54 (.tmp 17) rfl g17 0 rfl (.int .i64 (q1.n) :: u8s (q1.b)) _ (blk_pre NAz2.out) Tryd.underlying54 rfl HL1.out (pc (q1.n) (q1.b)) rfl ?_)
                | (go_at_call 33; refine (CW1.out _).mono ?_; rintro e y5 ⟨rfl, hb⟩; have BY := hid (Gz2.out.trans (hb.mono Gz2.out.size)); clear hb))
              go_meet
              exact ⟨by rw [HMF.out]; rfl, Y4.out.trans (BY.out.mono Y4.out.size)⟩
            | true =>
              go_wp2_with (first
                | (refine load_at rfl 54 (.tmp 13) rfl p13 0 rfl (.int .i64 (q.n + 1) :: u8s q.b) _ (blk_pre KC6.out) Tryd.underlying54 rfl HT0.out (pc (q.n + 1) q.b) rfl ?_)
                | (refine load_at rfl 54 (.tmp 17) rfl g17 0 rfl (.int .i64 (q1.n) :: u8s (q1.b)) _ (blk_pre NAz2.out) Tryd.underlying54 rfl HL1.out (pc (q1.n) (q1.b)) rfl ?_)
                | (go_at_call 33; with_reducible refine (CW1.out _).mono ?_; rintro e y5 ⟨rfl, hb⟩; have BY := hid (Gz2.out.trans (hb.mono Gz2.out.size)); have KD7 := hid (KD6.out.below hb); have NB7 := hid (NBz2.out.below hb); clear hb)
                | (refine load_at (by first | rfl | simp [Region.wanted, yielded, *]) 54 (.tmp 15) rfl p15 0 rfl (.int .i64 (q.n + 1) :: u8s (setb q.b q.n.toNat)) _ (blk_pre KD7.out) Tryd.underlying54 rfl HT1.out (pc (q.n + 1) (setb q.b q.n.toNat)) rfl ?_)
                | (refine load_at (by first | rfl | simp [Region.wanted, yielded, *]) 54 (.tmp 18) rfl g18 0 rfl (.int .i64 (256) :: u8s (q2.k)) _ (blk_pre NB7.out) Tryd.underlying54 rfl HV2.out (pc (256) (q2.k)) rfl ?_)
                | (go_at_call 33; refine (CW2.out _).mono ?_; rintro e y6 ⟨rfl, hb⟩; have BZ := hid (BY.out.trans (hb.mono BY.out.size)); clear hb))
              go_meet
              exact ⟨by rw [HMF.out]; rfl, Y4.out.trans (BZ.out.mono Y4.out.size)⟩
          | false =>
            rw [hl2] at cb
            have HL9 := hid hl2; have HMM := hid hmv
            clear hl2 hmv
            go_upto_region 16 with (fail)
            clear cb
            have hl1 := HL8.out; have hl2 := HL9.out; have hmv := HMM.out
            have CW1 := hid (fun w => rWithin_any (q.n + 1) (q1.n) q.b (q1.b) HK0.out HQ1.out.b w)
            have CW2 := hid (fun w => rWithin_any (q.n + 1) (q2.n) (setb q.b q.n.toNat) (q2.b) HK1.out HQ2.out.b w)
            rw [show q1.pn = q1.n by unfold Nd.pn; rw [hl1]; rfl, show q1.pb = q1.b by unfold Nd.pb; rw [hl1]; rfl, show q2.pn = q2.n by unfold Nd.pn; rw [hl2]; rfl, show q2.pb = q2.b by unfold Nd.pb; rw [hl2]; rfl] at hmv
            generalize wth (q.n + 1) q.b (q1.n) (q1.b) = W1 at CW1 hmv
            generalize wth (q.n + 1) (setb q.b q.n.toNat) (q2.n) (q2.b) = W2 at CW2 hmv
            have HMF := hid hmv
            have KC6 := hid (KC4.out.below Gz0.out); have KD6 := hid (KD.out.below Gz0.out)
            clear hmv hl1 hl2
            cases W1 with
            | false =>
              go_wp2_with (first
                | (refine load_at rfl 54 (.tmp 13) rfl p13 0 rfl (.int .i64 (q.n + 1) :: u8s q.b) _ (blk_pre KC6.out) Tryd.underlying54 rfl HT0.out (pc (q.n + 1) q.b) rfl ?_)
                | (refine load_at rfl 54 (.tmp 17) rfl g17 0 rfl (.int .i64 (q1.n) :: u8s (q1.b)) _ (blk_pre NAz0.out) Tryd.underlying54 rfl HL1.out (pc (q1.n) (q1.b)) rfl ?_)
                | (go_at_call 33; refine (CW1.out _).mono ?_; rintro e y5 ⟨rfl, hb⟩; have BY := hid (Gz0.out.trans (hb.mono Gz0.out.size)); clear hb))
              go_meet
              exact ⟨by rw [HMF.out]; rfl, Y4.out.trans (BY.out.mono Y4.out.size)⟩
            | true =>
              go_wp2_with (first
                | (refine load_at rfl 54 (.tmp 13) rfl p13 0 rfl (.int .i64 (q.n + 1) :: u8s q.b) _ (blk_pre KC6.out) Tryd.underlying54 rfl HT0.out (pc (q.n + 1) q.b) rfl ?_)
                | (refine load_at rfl 54 (.tmp 17) rfl g17 0 rfl (.int .i64 (q1.n) :: u8s (q1.b)) _ (blk_pre NAz0.out) Tryd.underlying54 rfl HL1.out (pc (q1.n) (q1.b)) rfl ?_)
                | (go_at_call 33; with_reducible refine (CW1.out _).mono ?_; rintro e y5 ⟨rfl, hb⟩; have BY := hid (Gz0.out.trans (hb.mono Gz0.out.size)); have KD7 := hid (KD6.out.below hb); have NB7 := hid (NBz0.out.below hb); clear hb)
                | (refine load_at (by first | rfl | simp [Region.wanted, yielded, *]) 54 (.tmp 15) rfl p15 0 rfl (.int .i64 (q.n + 1) :: u8s (setb q.b q.n.toNat)) _ (blk_pre KD7.out) Tryd.underlying54 rfl HT1.out (pc (q.n + 1) (setb q.b q.n.toNat)) rfl ?_)
                | (refine load_at (by first | rfl | simp [Region.wanted, yielded, *]) 54 (.tmp 18) rfl g18 0 rfl (.int .i64 (q2.n) :: u8s (q2.b)) _ (blk_pre NB7.out) Tryd.underlying54 rfl HL2.out (pc (q2.n) (q2.b)) rfl ?_)
                | (go_at_call 33; refine (CW2.out _).mono ?_; rintro e y6 ⟨rfl, hb⟩; have BZ := hid (BY.out.trans (hb.mono BY.out.size)); clear hb))
              go_meet
              exact ⟨by rw [HMF.out]; rfl, Y4.out.trans (BZ.out.mono Y4.out.size)⟩
    case rest =>
    obtain ⟨rfl, GX⟩ := hcut
    generalize wc = w8 at GX ⊢
    have B8 := hid (B7.out.trans (GX.out.mono B7.out.size))
    clear GX K8 K9 B7
    have K8 := hid (K3.out.below B8.out)
    have KW8 := hid K8.out
    have BW8 := hid (B2.out.trans (B8.out.mono B2.out.size))
    have FO8 := hid (FO.out.below B8.out)
    have TB := hid (HT.out.below BW8.out)
    have NA8 := hid (K8.out.node HQ.out).all
    cases hl : q.leaf with
    | true =>
      have CADD := hid (xAdd_leaf FO8.out q HQ.out hl HFEW.out TB.out)
      rw [← HN.out] at CADD
      clear FO K8 B8
      go_upto_region 18 with (first
        | (refine load_at rfl 56 (.tmp 3) rfl w.heap.size 0 rfl (nc q) _ NA8.out Tryd.underlying56 rfl HQI.out (nc q).toArray rfl ?_)
        | (go_at_call 28; refine CADD.out.mono ?_; rintro e w9 ⟨rfl, hg⟩; have HG := hid hg; clear hg))
      obtain ⟨g', b', A', c', tv', hfo, _, _, ho⟩ := HG.out
      have B9 : Hid (Below w.heap.size w w9) := BW8.out.trans (ho.below (B := w.heap.size) BW8.out.size (fun k hk => by have := OW.out; rcases hk with e | e | e <;> omega))
      have K9 : Hid (Blk w9 w.heap.size 56 (nc q).toArray) := KW8.out.same (ho.block _ KW8.out.lt (by have := OW.out; rintro (e | e | e) <;> omega))
      have CS9 := hid (xSize_at hfo)
      rw [List.length_append, List.length_singleton, ← HN.out, Int.natCast_add] at CS9
      clear hfo ho
      have cl : w9.cell? ⟨w.heap.size, 0, none⟩ = some (.bool true) := by have := (K9.out.node HQ.out).leaf; rwa [hl] at this
      clear hl
      go_wp2_with (go_at_call 26; refine CS9.out.mono ?_; rintro e w10 ⟨rfl, rfl⟩)
      go_ret
      refine ⟨?_, B9.out⟩
      show Ending.returned (.bool ((n : Int) + 1 == wrap64 ((n : Int) + 1))) = _
      rw [HWR.out, beq_self_eq_true]
    | false =>
      cases mv with
      | true =>
        have CADD := hid (xAdd_yes FO8.out q HQ.out hl HMV.out.symm HFEW.out TB.out)
        rw [← HN.out] at CADD
        clear FO K8 B8
        go_upto_region 18 with (first
          | (refine load_at rfl 56 (.tmp 3) rfl w.heap.size 0 rfl (nc q) _ NA8.out Tryd.underlying56 rfl HQI.out (nc q).toArray rfl ?_)
          | (go_at_call 28; refine CADD.out.mono ?_; rintro e w9 ⟨rfl, hg⟩; have HG := hid hg; clear hg))
        obtain ⟨g', b', A', c', tv', hfo, _, _, ho⟩ := HG.out
        have B9 : Hid (Below w.heap.size w w9) := BW8.out.trans (ho.below (B := w.heap.size) BW8.out.size (fun k hk => by have := OW.out; rcases hk with e | e | e <;> omega))
        have K9 : Hid (Blk w9 w.heap.size 56 (nc q).toArray) := KW8.out.same (ho.block _ KW8.out.lt (by have := OW.out; rintro (e | e | e) <;> omega))
        have CS9 := hid (xSize_at hfo)
        rw [List.length_append, List.length_singleton, ← HN.out, Int.natCast_add] at CS9
        clear hfo ho
        have cl : w9.cell? ⟨w.heap.size, 0, none⟩ = some (.bool false) := by have := (K9.out.node HQ.out).leaf; rwa [hl] at this
        clear hl
        go_wp2_with (go_at_call 26; refine CS9.out.mono ?_; rintro e w10 ⟨rfl, rfl⟩)
        go_ret
        refine ⟨?_, B9.out⟩
        show Ending.returned (.bool ((n : Int) + 1 == wrap64 ((n : Int) + 1))) = _
        rw [HWR.out, beq_self_eq_true]
      | false =>
        have CADD := hid (xAdd_no FO8.out q HQ.out hl HMV.out.symm)
        clear FO K8 B8
        go_upto_region 18 with (first
          | (refine load_at rfl 56 (.tmp 3) rfl w.heap.size 0 rfl (nc q) _ NA8.out Tryd.underlying56 rfl HQI.out (nc q).toArray rfl ?_)
          | (go_at_call 28; refine CADD.out.mono ?_; rintro e w9 ⟨rfl, hg⟩; have HG := hid hg; clear hg))
        have hg := HG.out
        have B9 : Hid (Below w.heap.size w w9) := BW8.out.trans (hg.mono BW8.out.size)
        have K9 : Hid (Blk w9 w.heap.size 56 (nc q).toArray) := KW8.out.below hg
        have CS9 := hid (xSize_at (FO8.out.below hg))
        rw [← HN.out] at CS9
        have cl : w9.cell? ⟨w.heap.size, 0, none⟩ = some (.bool false) := by have := (K9.out.node HQ.out).leaf; rwa [hl] at this
        clear hl hg
        go_wp2_with (go_at_call 26; refine CS9.out.mono ?_; rintro e w10 ⟨rfl, rfl⟩)
        go_ret
        exact ⟨rfl, B9.out⟩
end Go.Proofs.YtdeohkgdmbfocaaDoor
