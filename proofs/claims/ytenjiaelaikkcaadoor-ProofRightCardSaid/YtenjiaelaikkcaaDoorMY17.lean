/-
  What is proved here: what is shown is right, and shows what the tree has of the key: the walk of the statement.
-/
import Derived.Test.YtenjiaelaikkcaaDoorMY14
import Derived.Test.YtenjiaelaikkcaaDoorMY12
set_option linter.unusedSimpArgs false
set_option linter.unusedVariables false
namespace Go.Proofs.YtenjiaelaikkcaaDoor
open Go.ChangeShapes Go.WideShapes Go.ChangeAt Go.RowKit
set_option linter.unusedVariables false
set_option linter.unusedSimpArgs false
set_option maxRecDepth 20000

theorem shS_len {K : List Int} : ∀ {t : Tr}, (shS K t).length + 1 ≤ t.list.length
  | .leaf k v => by simp [shS, Tr.list]
  | .inner n b l r => by
    have h1 := shS_len (K := K) (t := l); have h2 := shS_len (K := K) (t := r)
    have p1 := l.pos; have p2 := r.pos
    show (shS K (.inner n b l r)).length + 1 ≤ (l.list ++ r.list).length
    unfold shS
    rw [List.length_append]
    split
    · split <;> simp only [List.length_cons] <;> omega
    · simp; omega
/-- what Root, Show, Check and Get answer of one tree -/
theorem tree_all {wr : World} {f g b c : Nat} {N : List Nd} {A : Option Addr} {tv : Value} {ti : Int} {T : Option Tr} {K : List Int} (h : Fo wr f g b N A c tv) (ht : TAt N ti T) (hs : szO T ≤ 20) (hK : Ky K) (htb : Tab wr) :
    ∃ (H0 : List Int) (p : QP) (o : Option (List Int)), Ky H0 ∧ p.Ok ∧ p.ss.length ≤ 100 ∧ Ky (o.getD zk) ∧
      Hid (∀ x, Below wr.heap.size wr x → Calls Tryd.prog 14 #[.pointer (some ⟨f, 0, none⟩), .int .i64 ti] x fun e w' => e = .returned (.tuple #[.agg (kc H0), .int .i64 0]) ∧ Below x.heap.size x w') ∧
      Hid (∀ x, Below wr.heap.size wr x → Calls Tryd.prog 28 #[.pointer (some ⟨f, 0, none⟩), .int .i64 ti, .agg (kc K)] x (ShA x p)) ∧
      chkV K H0 p = .tuple #[.agg (kc (o.getD zk)), .bool o.isSome, .bool true] ∧
      Hid (∀ x, Below wr.heap.size wr x → Calls Tryd.prog 15 #[.pointer (some ⟨f, 0, none⟩), .int .i64 ti, .agg (kc K)] x fun e w' => e = .returned (.tuple #[.agg (kc (o.getD zk)), .bool o.isSome]) ∧ Below x.heap.size x w') := by
  cases T with
  | none =>
    obtain rfl : ti = -1 := ht
    have CI : ∀ x, Below wr.heap.size wr x → ∀ w1, Below x.heap.size x w1 → Calls Tryd.prog 37 #[.pointer (some ⟨f, 0, none⟩), .int .i64 (-1)] w1 fun e w' => e = .returned (.bool true) ∧ w1 = w' := fun x hx w1 hb => by
      have := xisTree_at ((h.below hx).below hb) (-1)
      rw [show isTr N.length (-1) = true by unfold isTr; simp] at this
      exact this
    refine ⟨emptyH, qZ, none, emptyH_ky, qZ_ok, by decide, zk_ky, fun x hx => ?_, fun x hx => ?_, ?_, fun x hx => ?_⟩
    · exact xRoot_none (htb.below hx) (CI x hx)
    · refine (qShow_none (htb.below hx) (CI x hx)).mono (fun e w' h9 => ?_)
      exact ⟨none, 0, h9.1, InS.nil _ _, h9.2⟩
    · exact chkZ K
    · exact xGet_empty hK (CI x hx)
  | some t =>
    obtain ⟨k, rfl, hr, hok⟩ := ht
    have hsz : t.list.length ≤ 20 := hs
    obtain ⟨q, hq, _, hqh⟩ := rep_node hr
    have hl := shS_len (K := K) (t := t)
    refine ⟨t.hash hLf hIn, shP K t, getL t.list K, hash_ky2 t, shP_ok hok, ?_, ?_, fun x hx => ?_, fun x hx => ?_, chk_shP hok, fun x hx => ?_⟩
    · rw [show (shP K t).ss = shS K t from endP_ss _ _]; omega
    · rw [← shw_shP hok]
      have hpk := shP_ok (K := K) hok
      unfold shwO
      split
      · exact hpk.v
      · exact zk_ky
    · have := xRoot_at (h.below hx) k q hq
      rw [hqh] at this
      exact this
    · exact qShow_tree (h.below hx) k t hr hok K hK (by omega) (htb.below hx)
    · exact xGet_tree (h.below hx) k t hr hok K hK (by omega)
set_option maxHeartbeats 8000000 in
theorem right_walk {w : World} {A0 : Option Addr} {m c0 : Nat} {P : List KV} {K : List Int} (h : InP w A0 m P) (hK : Ky K) (ht : Tab w) : Calls Tryd.prog 7 #[.slice A0 m c0, .agg (kc K)] w fun e w' => e = .returned (.bool true) ∧ Below w.heap.size w w' := by
  have K1 : Hid (Blk (w.alloc (.cells (kc K) 24)) w.heap.size 24 (kc K)) := Blk.new w 24 _
  have B0 : Hid (Below w.heap.size w (w.alloc (.cells (kc K) 24))) := (Below.refl _ _).alloc (Nat.le_refl _) _
  have CA := hid (fun w1 (hb : Below w.heap.size w w1) => qawake_any w1 (ht.below hb))
  have hml : m ≤ 9223372036854775807 := h.2.1
  by_cases hm : 20 < m
  · have hm' : (20 : Int) < (m : Int) := by omega
    clear h
    go_enter Tryd.func7, Tryd.ntmps7
    go_wp2_with (first
      | (go_at_call 27; refine (CA.out _ B0.out).mono ?_; rintro e w1 ⟨rfl, hb⟩; have B1 := hid (B0.out.trans (hb.mono B0.out.size)); clear hb)
      | (go_at_call 27; refine (CA.out _ B1.out).mono ?_; rintro e w2 ⟨rfl, hb⟩; have B2 := hid (B1.out.trans (hb.mono B1.out.size)); clear hb))
    go_ret
    exact ⟨rfl, B2.out⟩
  · have hm' : ¬ (20 : Int) < (m : Int) := by omega
    obtain ⟨Z, HZ, hZ0, hZs⟩ := zero_key
    obtain ⟨Y, HY, hY0, hYs⟩ := zero_qproof
    have CB := hid (fun w1 (hb : Below w.heap.size w w1) => xBuilt_any (c0 := c0) (h.below hb) (by omega : m ≤ 25) (ht.below hb))
    have HPL : Hid (P.length ≤ 20) := by show _ ≤ _; rw [h.1]; omega
    have HK := hid hK; have HT := hid ht
    have HKI := hid (u8s_info hK)
    clear h hm hK ht
    go_enter Tryd.func7, Tryd.ntmps7
    go_upto_region 4 with (first
      | (go_at_call 27; refine (CA.out _ B0.out).mono ?_; rintro e w1 ⟨rfl, hb⟩; have B1 := hid (B0.out.trans (hb.mono B0.out.size)); have K2 := hid (K1.out.below hb); clear hb)
      | (go_at_call 21; refine (CB.out _ B1.out).mono ?_; rintro e w3 ⟨f, ti, g, b, N, A, c, tv, T, rfl, hbt⟩; have BT := hid hbt; clear hbt))
    have B3 := hid (B1.out.trans (BT.out.bl.mono B1.out.size))
    have K3 := hid (K2.out.below BT.out.bl)
    obtain ⟨H0, p, o, hH0, hpk, hpl, hok, CR, CS, hch, CG⟩ := tree_all BT.out.fo BT.out.t (Nat.le_trans BT.out.sz HPL.out) HK.out (HT.out.below B3.out)
    have HH0 := hid hH0; have HPK := hid hpk; have HPLn := hid hpl
    have HHI := hid (kc_info hH0); have HHL := hid (u8s_info hH0)
    have HHZ : Hid (Z.size = (kc H0).size) := by show _ = _; rw [HZ.out, kc_size zk_ky, kc_size hH0]
    have CC := hid (fun x (hb : Below w3.heap.size w3 x) A5 c5 (hin : InS x A5 p.ss.length p.ss) => qCheck_any (c := c5) (root := H0) x hin HPK.out HK.out HH0.out HPLn.out (HT.out.below (B3.out.trans (hb.mono B3.out.size))))
    rw [hch] at CC
    have heq := fun w => equal_key 9998 (o.getD zk) (o.getD zk) hok hok w
    rw [decide_eq_true rfl] at heq
    have HVI := hid (kc_info hok); have HVL := hid (u8s_info hok)
    have HVZ : Hid (Z.size = (kc (o.getD zk)).size) := by show _ = _; rw [HZ.out, kc_size zk_ky, kc_size hok]
    generalize o.getD zk = ov at CC CG heq HVI HVL HVZ
    generalize o.isSome = ob at CC CG
    have R3 : Hid (Below w3.heap.size w3 w3) := Below.refl _ _
    clear hH0 hpk hpl hch hok CA CB BT B0 K1 B1 K2
    go_upto_region 5 with (first
      | (go_at_call 14; refine (CR.out _ R3.out).mono ?_; rintro e w4 ⟨rfl, hb⟩; have R4 := hid hb; have K4 := hid (K3.out.below hb); clear hb)
      | (refine wpList_store_row rfl 24 (.tmp 7) (.tmp 33) rfl w4.heap.size (kc H0) rfl rfl 24 Z (Blk.new w4 24 Z) HHI.out HHZ.out (kc_one _) ?_))
    have BX : Hid (Below w4.heap.size w4 ((w4.alloc (.cells Z 24)).setRow w4.heap.size (kc H0))) := below_setRow ((Below.refl _ _).alloc (Nat.le_refl _) _) (Nat.le_refl _) _
    have N7 : Hid (Blk ((w4.alloc (.cells Z 24)).setRow w4.heap.size (kc H0)) w4.heap.size 24 (kc H0)) := (Blk.new w4 24 Z).row _
    have R5 := hid (R4.out.trans (BX.out.mono R4.out.size)); have K5 := hid (K4.out.below BX.out)
    clear BX R4 K4 K3 CR
    generalize (w4.alloc (.cells Z 24)).setRow w4.heap.size (kc H0) = w5 at N7 R5 K5 ⊢
    generalize w4.heap.size = g7 at N7 ⊢
    go_upto_region 6 with (first
      | (refine load_at rfl 24 (.tmp 3) rfl w.heap.size 0 rfl (u8s K) _ (blk_key K5.out) Tryd.underlying24 rfl HKI.out (kc K) rfl ?_)
      | (go_at_call 28; refine (CS.out _ R5.out).mono ?_; rintro e w6 ⟨A5, c5, rfl, hin5, hb⟩; have IN6 := hid hin5; have R6 := hid (R5.out.trans (hb.mono R5.out.size)); have K6 := hid (K5.out.below hb); have N76 := hid (N7.out.below hb); have HI2 := hid (proof_info2 HPK.out (.slice A5 p.ss.length c5)); have HL2 := hid (proof_info HPK.out (.slice A5 p.ss.length c5)); have HZ2 : Hid (Y.size = (prc (.slice A5 p.ss.length c5) p).toArray.size) := (by show _ = _; rw [HY.out, List.size_toArray, List.size_toArray, qZ_ok.len, HPK.out.len]); clear hb hin5)
      | (refine wpList_store_row rfl 66 (.tmp 9) (.tmp 40) rfl w6.heap.size (prc (.slice A5 p.ss.length c5) p).toArray rfl rfl 66 Y (Blk.new w6 66 Y) HI2.out HZ2.out pr_one ?_))
    have BX : Hid (Below w6.heap.size w6 ((w6.alloc (.cells Y 66)).setRow w6.heap.size (prc (.slice A5 p.ss.length c5) p).toArray)) := below_setRow ((Below.refl _ _).alloc (Nat.le_refl _) _) (Nat.le_refl _) _
    have N9 : Hid (PrAt ((w6.alloc (.cells Y 66)).setRow w6.heap.size (prc (.slice A5 p.ss.length c5) p).toArray) w6.heap.size (.slice A5 p.ss.length c5) p) := ((Blk.new w6 66 Y).row _).pr HPK.out
    have R7 := hid (R6.out.trans (BX.out.mono R6.out.size)); have K7 := hid (K6.out.below BX.out); have N77 := hid (N76.out.below BX.out); have IN7 := hid (IN6.out.below BX.out)
    clear BX R6 K6 K5 R5 N7 N76 IN6 CS HI2 HZ2
    generalize (w6.alloc (.cells Y 66)).setRow w6.heap.size (prc (.slice A5 p.ss.length c5) p).toArray = w7 at N9 R7 K7 N77 IN7 ⊢
    generalize w6.heap.size = g9 at N9 ⊢
    have CC7 := hid (CC.out w7 R7.out A5 c5 IN7.out)
    go_upto_region 7 with (first
      | (refine load_at rfl 66 (.tmp 9) rfl g9 0 rfl (prc (.slice A5 p.ss.length c5) p) _ N9.out.all Tryd.underlying66 rfl HL2.out (prc (.slice A5 p.ss.length c5) p).toArray rfl ?_)
      | (refine load_at rfl 24 (.tmp 3) rfl w.heap.size 0 rfl (u8s K) _ (blk_key K7.out) Tryd.underlying24 rfl HKI.out (kc K) rfl ?_)
      | (refine load_at rfl 24 (.tmp 7) rfl g7 0 rfl (u8s H0) _ (blk_key N77.out) Tryd.underlying24 rfl HHL.out (kc H0) rfl ?_)
      | (go_at_call 32; refine CC7.out.mono ?_; rintro e w8 ⟨rfl, hb⟩; have R8 := hid (R7.out.trans (hb.mono R7.out.size)); have K8 := hid (K7.out.below hb); clear hb)
      | (refine wpList_store_row rfl 24 (.tmp 11) (.tmp 47) rfl w8.heap.size (kc ov) rfl rfl 24 Z (Blk.new w8 24 Z) HVI.out HVZ.out (kc_one _) ?_))
    have BX : Hid (Below w8.heap.size w8 ((w8.alloc (.cells Z 24)).setRow w8.heap.size (kc ov))) := below_setRow ((Below.refl _ _).alloc (Nat.le_refl _) _) (Nat.le_refl _) _
    have N11 : Hid (Blk ((w8.alloc (.cells Z 24)).setRow w8.heap.size (kc ov)) w8.heap.size 24 (kc ov)) := (Blk.new w8 24 Z).row _
    have R9 := hid (R8.out.trans (BX.out.mono R8.out.size)); have K9 := hid (K8.out.below BX.out)
    clear BX R8 K8 K7 R7 N77 IN7 CC CC7 N9 HL2
    generalize (w8.alloc (.cells Z 24)).setRow w8.heap.size (kc ov) = w9 at N11 R9 K9 ⊢
    generalize w8.heap.size = g11 at N11 ⊢
    go_upto_region 8 with (first
      | (refine load_at rfl 24 (.tmp 3) rfl w.heap.size 0 rfl (u8s K) _ (blk_key K9.out) Tryd.underlying24 rfl HKI.out (kc K) rfl ?_)
      | (go_at_call 15; refine (CG.out _ R9.out).mono ?_; rintro e w10 ⟨rfl, hb⟩; have R10 := hid (R9.out.trans (hb.mono R9.out.size)); have N12 := hid (N11.out.below hb); clear hb)
      | (refine wpList_store_row rfl 24 (.tmp 14) (.tmp 55) rfl w10.heap.size (kc ov) rfl rfl 24 Z (Blk.new w10 24 Z) HVI.out HVZ.out (kc_one _) ?_))
    have BX : Hid (Below w10.heap.size w10 ((w10.alloc (.cells Z 24)).setRow w10.heap.size (kc ov))) := below_setRow ((Below.refl _ _).alloc (Nat.le_refl _) _) (Nat.le_refl _) _
    have N14 : Hid (Blk ((w10.alloc (.cells Z 24)).setRow w10.heap.size (kc ov)) w10.heap.size 24 (kc ov)) := (Blk.new w10 24 Z).row _
    have R11 := hid (R10.out.trans (BX.out.mono R10.out.size)); have N13 := hid (N12.out.below BX.out)
    clear BX R10 N12 N11 K9 R9 CG
    generalize (w10.alloc (.cells Z 24)).setRow w10.heap.size (kc ov) = w11 at N13 N14 R11 ⊢
    generalize w10.heap.size = g14 at N14 ⊢
    have BF := hid (B3.out.trans (R11.out.mono B3.out.size))
    cases ob
    all_goals
      go_wp2_with (first
        | (refine load_at rfl 24 (.tmp 11) rfl g11 0 rfl (u8s ov) _ (blk_key N13.out) Tryd.underlying24 rfl HVL.out (kc ov) rfl ?_)
        | (refine load_at rfl 24 (.tmp 14) rfl g14 0 rfl (u8s ov) _ (blk_key N14.out) Tryd.underlying24 rfl HVL.out (kc ov) rfl ?_))
      go_ret
      exact ⟨rfl, BF.out⟩
end Go.Proofs.YtenjiaelaikkcaaDoor
