/-
  What is proved here: whatever rows make a tree with a root, its keys and values have that root: the walk of the statement.
-/
import Derived.Test.YtjhaamffgkialaaGreatDoorMDM6
import Derived.Test.YtjhaamffgkialaaGreatDoorMYL
set_option linter.unusedSimpArgs false
set_option linter.unusedVariables false
namespace Go.Proofs.YtjhaamffgkialaaGreatDoor
open Go.ChangeShapes Go.WideShapes Go.ChangeAt Go.RowKit Go.Shelf
set_option linter.unusedVariables false
set_option linter.unusedSimpArgs false
set_option maxRecDepth 20000

theorem DpA.form {w : World} {f B M : Nat} {K : List Int} {e : Ending} {w' : World} (h : DpA w f B M K e w') : ∃ n5 er5 : Int, e = .returned (.tuple #[.int .i64 n5, .int .i64 er5]) ∧ Below B w w' ∧
    ((n5 = 0 ∧ er5 ≠ 0) ∨ (er5 = 0 ∧ ∃ (g' b' : Nat) (N' : List Nd) (A' : Option Addr) (c' : Nat) (tv' : Value) (T' : Option Tr), Fo w' f g' b' N' A' c' tv' ∧ FrOk hLf hIn N' ∧ TAt N' n5 T' ∧ hsO T' = K ∧ N'.length ≤ M)) := by
  obtain ⟨hb, h⟩ := h
  rcases h with ⟨er, h1, rfl⟩ | ⟨top, g', b', N', A', c', tv', T', rfl, h1, h2, h3, h4, h5⟩
  · exact ⟨0, er, rfl, hb, .inl ⟨rfl, h1⟩⟩
  · exact ⟨top, 0, rfl, hb, .inr ⟨rfl, g', b', N', A', c', tv', T', h1, h2, h3, h4, h5⟩⟩
theorem rt_hs {N : List Nd} {ti : Int} {T : Option Tr} (hT : TAt N ti T) : Srt (lstO T) ∧ rtL (lstO T) = hsO T ∧ (lstO T).length ≤ N.length := by
  cases T with
  | none => exact ⟨List.Pairwise.nil, rfl, Nat.zero_le _⟩
  | some t =>
    obtain ⟨k, _, hr, hok⟩ := hT
    exact ⟨(Tr.srt hok).1, root_tree emptyH hLf hIn t hok _ (Nat.le_refl _), tree_small hr hok⟩
set_option maxHeartbeats 16000000 in
theorem dsound_main {w : World} {A0 A1 : Option Addr} {n0 c0 n1 c1 : Nat} {P : List KV} {L : List Rw} {K : List Int} (h : InP w A0 n0 P) (hr : InW w A1 n1 L) (hK : Ky K) (h0 : n0 ≤ 15) (h1 : n1 ≤ 40) (ht : Tab w) :
    Calls Tryz.prog 3 #[.slice A0 n0 c0, .slice A1 n1 c1, .agg (kc K)] w fun e w' => e = .returned (.bool true) ∧ Below w.heap.size w w' := by
  obtain ⟨Z, HZ, hZ0, hZs⟩ := zero_key
  have K5 : Hid (Blk (w.alloc (.cells (kc K) 25)) w.heap.size 25 (kc K)) := Blk.new w 25 _
  have B0 : Hid (Below w.heap.size w (w.alloc (.cells (kc K) 25))) := (Below.refl _ _).alloc (Nat.le_refl _) _
  have CA := hid (fun w1 (hb : Below w.heap.size w w1) => dawake_any w1 (ht.below hb))
  have CL := hid (fun w1 (hb : Below w.heap.size w w1) => xBuilt_any (c0 := c0) (h.below hb) (by omega) (ht.below hb))
  have CW := hid (fun w1 (hb : Below w.heap.size w w1) => drows_any (c0 := c1) w1 (hr.below hb) (by omega))
  have HPL : Hid (P.length ≤ 15) := by have := h.1; show _ ≤ _; omega
  have HRL : Hid (L.length ≤ 40) := by have := hr.1; show _ ≤ _; omega
  have HT := hid ht; have HK := hid hK; have HKI := hid (u8s_info hK); have HKC := hid (kc_info hK)
  have hzs : Hid (Z.size = (kc K).size) := by show _ = _; rw [HZ.out, kc_size zk_ky, kc_size hK]
  have hm1 : ¬ (15 : Int) < (n0 : Int) := by omega
  have hm2 : ¬ (40 : Int) < (n1 : Int) := by omega
  have hmx1 : n0 ≤ 9223372036854775807 := h.2.1
  have hmx2 : n1 ≤ 9223372036854775807 := hr.2.1
  have heq := fun w => eql_key K K hK hK w
  rw [decide_eq_true rfl] at heq
  clear h hr ht h0 h1 hK
  unfold BtA at CL
  go_enter Tryz.func3, Tryz.ntmps3
  go_upto_region 4 with (first
    | (go_at_call 4; refine (CA.out _ B0.out).mono ?_; rintro e w1 ⟨rfl, hb⟩; have B1 := hid (B0.out.trans (hb.mono B0.out.size)); have K1 := hid (K5.out.below hb); clear hb)
    | (go_at_call 5; refine (CL.out _ B1.out).mono ?_; rintro e w2 ⟨f, ti, g, b, N, A, c, tv, T, rfl, bt⟩; have BT := hid bt; clear bt))
  clear hm1 hm2 CA CL K5 B0
  have K2 := hid (K1.out.below BT.out.bl)
  have B2 := hid (B1.out.trans (BT.out.bl.mono B1.out.size))
  have hnl : N.length ≤ 1050 := by have h1 := BT.out.nl; have h2 := HPL.out; omega
  have LT1 : Hid (w.heap.size < w1.heap.size) := K1.out.lt
  have CP := hid (fun (x : World) (hb : Below w2.heap.size w2 x) (n9 : Nat) (A3 : Option Addr) (c3 : Nat) (ho : OwR n9 x (.slice A3 L.length c3) L) => dApply_any (B := w1.heap.size) HK.out (BT.out.fo.below hb) BT.out.fr BT.out.t (HT.out.below (B2.out.trans (hb.mono B2.out.size))) ho
    (by obtain ⟨o1, o2, o3⟩ := BT.out.own; have h1 := LT1.out; have h2 := BT.out.bl.size; have h3 := hb.size; exact ⟨by omega, by omega, o1, o2, o3⟩) (by omega) (by have := HRL.out; omega))
  have HML : Hid (N.length + L.length ≤ 1090) := by have := HRL.out; show _ ≤ _; omega
  have B12 := hid BT.out.bl
  clear BT HPL K1 hnl
  refine wp_region_held (S := fun w' => Hid (Blk w' w.heap.size 25 (kc K))) (by kernel_rfl) ?_
  change wpAnyH _ _ _ _ _ _ _ _ w2.drew
  have D0 : Hid (Below w2.heap.size w2 w2.drew) := (Below.refl _ _).drew
  have G0 : Hid (Blk w2.drew w.heap.size 25 (kc K)) := K2.out.below D0.out
  clear K2
  generalize w2.drew = x0 at D0 G0 ⊢
  refine wpAnyH_take (i := 0) (oi := { dst := some 32, op := _, type := _, pos := _, after := _, guard := _ }) (v := .pointer (some ⟨f, 0, none⟩)) rfl (by kernel_rfl) (by kernel_rfl) (by kernel_rfl) (fun _ _ _ h => h) (Or.inl ⟨by kernel_rfl, ?_⟩) G0 ?_
  · (intro w' hSw; go_simp; try with_reducible rfl)
  try simp only [Act.put, List.setIfInBounds_toArray, List.set_cons_zero, List.set_cons_succ]
  refine wpAnyH_take (i := 1) (oi := { dst := some 33, op := _, type := _, pos := _, after := _, guard := _ }) (v := .int .i64 ti) rfl (by kernel_rfl) (by kernel_rfl) (by kernel_rfl) (fun _ _ _ h => h) (Or.inl ⟨by kernel_rfl, ?_⟩) G0 ?_
  · (intro w' hSw; go_simp; try with_reducible rfl)
  try simp only [Act.put, List.setIfInBounds_toArray, List.set_cons_zero, List.set_cons_succ]
  refine wpAnyH_take (i := 2) (oi := { dst := some 34, op := _, type := _, pos := _, after := _, guard := _ }) (v := .slice A1 n1 c1) rfl (by kernel_rfl) (by kernel_rfl) (by kernel_rfl) (fun _ _ _ h => h) (Or.inl ⟨by kernel_rfl, ?_⟩) G0 ?_
  · (intro w' hSw; go_simp; try with_reducible rfl)
  try simp only [Act.put, List.setIfInBounds_toArray, List.set_cons_zero, List.set_cons_succ]
  refine wpAnyH_take (i := 4) (oi := { dst := some 36, op := _, type := _, pos := _, after := _, guard := _ }) (v := .agg (kc K)) rfl (by kernel_rfl) (by kernel_rfl) (by kernel_rfl) (fun _ _ _ h => h) (yieldsIf_load_mid (cs := u8s K) (by rfl) _ _ rfl _ _ rfl _ (fun w' hSw => blk_key hSw.out) Tryz.underlying25 rfl HKI.out) G0 ?_
  try simp only [Act.put, List.setIfInBounds_toArray, List.set_cons_zero, List.set_cons_succ]
  refine wpAnyH_ready (rs := [3]) (by kernel_rfl) (by simp) ?_
  refine (AllReadyH.cons (o := { dst := some 35, op := _, type := _, pos := _, after := _, guard := _ }) rfl (fun Qc hQc => ?_) AllReadyH.nil)
  go_simp
  go_at_call 7
  refine (CW.out x0 (B2.out.trans (D0.out.mono B2.out.size))).mono ?_
  rintro e x1 ⟨v, rfl, ho, hb⟩
  have D1 := hid (D0.out.trans (hb.mono D0.out.size))
  have G1 := hid (G0.out.below hb)
  obtain ⟨A3, c3, hv⟩ := ho.len
  subst hv
  have HO := hid ho
  clear hb ho
  go_wp2_with fail
  refine hQc.out _ _ G1 (fun hHeld => ?_)
  clear hQc Qc hHeld
  try simp only [Act.put, List.setIfInBounds_toArray, List.set_cons_zero, List.set_cons_succ]
  refine wpAnyH_ready (rs := [5]) (by kernel_rfl) (by simp) ?_
  refine (AllReadyH.cons (o := { dst := some 37, op := _, type := _, pos := _, after := _, guard := _ }) rfl (fun Qc hQc => ?_) AllReadyH.nil)
  go_simp
  go_at_call 6
  refine (CP.out x1 D1.out _ A3 c3 HO.out).mono ?_
  rintro e x2 h2
  obtain ⟨n5, er5, rfl, hb2, h55⟩ := DpA.form h2
  have H55 := hid h55
  have D2 := hid hb2
  have G2 : Hid (Blk x2 w.heap.size 25 (kc K)) := G1.out.same (hb2.block _ LT1.out)
  clear h2 hb2 h55
  go_wp2_with fail
  refine hQc.out _ _ G2 (fun hHeld => ?_)
  clear hQc Qc hHeld
  try simp only [Act.put, List.setIfInBounds_toArray, List.set_cons_zero, List.set_cons_succ]
  refine wpAnyH_take (i := 6) (oi := { dst := some 31, op := _, type := _, pos := _, after := _, guard := _ }) (v := .tuple #[.int .i64 n5, .int .i64 er5]) rfl (by kernel_rfl) (by kernel_rfl) (by kernel_rfl) (fun _ _ _ h => h) (Or.inl ⟨by kernel_rfl, ?_⟩) G2 ?_
  · (intro w' hSw; go_simp; try with_reducible rfl)
  try simp only [Act.put, List.setIfInBounds_toArray, List.set_cons_zero, List.set_cons_succ]
  refine wpAnyH_take (i := 7) (oi := { dst := some 38, op := _, type := _, pos := _, after := _, guard := _ }) (v := .int .i64 n5) rfl (by kernel_rfl) (by kernel_rfl) (by kernel_rfl) (fun _ _ _ h => h) (Or.inl ⟨by kernel_rfl, ?_⟩) G2 ?_
  · (intro w' hSw; go_simp; try with_reducible rfl)
  try simp only [Act.put, List.setIfInBounds_toArray, List.set_cons_zero, List.set_cons_succ]
  refine wpAnyH_take (i := 8) (oi := { dst := some 39, op := _, type := _, pos := _, after := _, guard := _ }) (v := .int .i64 er5) rfl (by kernel_rfl) (by kernel_rfl) (by kernel_rfl) (fun _ _ _ h => h) (Or.inl ⟨by kernel_rfl, ?_⟩) G2 ?_
  · (intro w' hSw; go_simp; try with_reducible rfl)
  try simp only [Act.put, List.setIfInBounds_toArray, List.set_cons_zero, List.set_cons_succ]
  refine wpAnyH_take (i := 9) (oi := { dst := some 9, op := _, type := _, pos := _, after := _, guard := _ }) (v := .int .i64 n5) rfl (by kernel_rfl) (by kernel_rfl) (by kernel_rfl) (fun _ _ _ h => h) (Or.inl ⟨by kernel_rfl, ?_⟩) G2 ?_
  · (intro w' hSw; go_simp; try with_reducible rfl)
  try simp only [Act.put, List.setIfInBounds_toArray, List.set_cons_zero, List.set_cons_succ]
  refine wpAnyH_take (i := 10) (oi := { dst := some 10, op := _, type := _, pos := _, after := _, guard := _ }) (v := .int .i64 er5) rfl (by kernel_rfl) (by kernel_rfl) (by kernel_rfl) (fun _ _ _ h => h) (Or.inl ⟨by kernel_rfl, ?_⟩) G2 ?_
  · (intro w' hSw; go_simp; try with_reducible rfl)
  try simp only [Act.put, List.setIfInBounds_toArray, List.set_cons_zero, List.set_cons_succ]
  refine wpAnyH_done (by kernel_rfl) ?_ _
  try simp only [Act.put, List.setIfInBounds_toArray, List.set_cons_zero, List.set_cons_succ]
  have BX : Hid (Below w.heap.size w x2) := (B2.out.trans (D1.out.mono B2.out.size)).trans (D2.out.mono (Nat.le_of_lt LT1.out))
  clear CW CP HO G0 G1 D0 D1 D2 B12
  rcases H55.out with ⟨rfl, hne⟩ | ⟨rfl, g', b', N', A', c', tv', T', hfo, hfr, hT2, hroot, hlen⟩
  · clear H55
    go_wp2
    go_ret
    exact ⟨rfl, BX.out⟩
  · clear H55
    obtain ⟨hs1, hs2, hs3⟩ := rt_hs hT2
    rw [hroot] at hs2
    have CR := hid (droot_any hfo hT2 (HT.out.below BX.out)).2
    rw [hroot] at CR
    have HFO := hid hfo; have HT2 := hid hT2; have HS := hid hs1; have HS2 := hid hs2
    have HLN : Hid ((lstO T').length ≤ 1090) := by have := HML.out; show _ ≤ _; omega
    clear hs1 hs2 hs3 hfo hfr hT2 hroot hlen
    unfold hV at CR
    go_upto_region 8 with (first
      | (go_at_call 8; refine CR.out.mono ?_; rintro e x3 ⟨rfl, hb⟩; have D3 := hid hb; have G3 := hid (G2.out.below hb); clear hb)
      | (refine wpList_store_row rfl 25 (.tmp 11) (.tmp 48) rfl x3.heap.size (kc K) rfl rfl 25 Z (Blk.new x3 25 Z) HKC.out hzs.out (kc_one _) ?_))
    have D4 : Hid (Below x2.heap.size x2 ((x3.alloc (.cells Z 25)).setRow x3.heap.size (kc K))) := below_setRow (D3.out.alloc D3.out.size _) D3.out.size _
    have KR : Hid (Blk ((x3.alloc (.cells Z 25)).setRow x3.heap.size (kc K)) x3.heap.size 25 (kc K)) := (Blk.new x3 25 Z).row _
    have G4 := hid (G2.out.below D4.out)
    generalize (x3.alloc (.cells Z 25)).setRow x3.heap.size (kc K) = x4 at D4 KR G4 ⊢
    clear D3 G3 CR
    generalize x3.heap.size = g11 at KR ⊢
    refine wp_region_held (S := fun w' => Hid (Blk w' g11 25 (kc K) ∧ Blk w' w.heap.size 25 (kc K))) (by kernel_rfl) ?_
    change wpAnyH _ _ _ _ _ _ _ _ x4.drew
    have D5 : Hid (Below x2.heap.size x2 x4.drew) := D4.out.drew
    have G5 : Hid (Blk x4.drew g11 25 (kc K) ∧ Blk x4.drew w.heap.size 25 (kc K)) := ⟨KR.out.drew, G4.out.drew⟩
    clear D4 KR G4 G2
    generalize x4.drew = x5 at D5 G5 ⊢
    refine wpAnyH_take (i := 0) (oi := { dst := some 50, op := _, type := _, pos := _, after := _, guard := _ }) (v := .agg (kc K)) rfl (by kernel_rfl) (by kernel_rfl) (by kernel_rfl) (fun _ _ _ h => h) (yieldsIf_load_mid (cs := u8s K) (by rfl) _ _ rfl _ _ rfl _ (fun w' hSw => blk_key hSw.out.1) Tryz.underlying25 rfl HKI.out) G5 ?_
    try simp only [Act.put, List.setIfInBounds_toArray, List.set_cons_zero, List.set_cons_succ]
    refine wpAnyH_take (i := 1) (oi := { dst := some 51, op := _, type := _, pos := _, after := _, guard := _ }) (v := .agg (kc K)) rfl (by kernel_rfl) (by kernel_rfl) (by kernel_rfl) (fun _ _ _ h => h) (yieldsIf_load_mid (cs := u8s K) (by rfl) _ _ rfl _ _ rfl _ (fun w' hSw => blk_key hSw.out.2) Tryz.underlying25 rfl HKI.out) G5 ?_
    try simp only [Act.put, List.setIfInBounds_toArray, List.set_cons_zero, List.set_cons_succ]
    refine wpAnyH_take (i := 2) (oi := { dst := some 52, op := _, type := _, pos := _, after := _, guard := _ }) (v := .bool true) rfl (by kernel_rfl) (by kernel_rfl) (by kernel_rfl) (fun _ _ _ h => h) (Or.inl ⟨by kernel_rfl, ?_⟩) G5 ?_
    · (intro w' hSw; go_simp; try with_reducible rfl)
    try simp only [Act.put, List.setIfInBounds_toArray, List.set_cons_zero, List.set_cons_succ]
    refine wpAnyH_take (i := 3) (oi := { dst := some 53, op := _, type := _, pos := _, after := _, guard := _ }) (v := .bool true) rfl (by kernel_rfl) (by kernel_rfl) (by kernel_rfl) (fun _ _ _ h => h) (Or.inl ⟨by kernel_rfl, ?_⟩) G5 ?_
    · (intro w' hSw; go_simp; try with_reducible rfl)
    try simp only [Act.put, List.setIfInBounds_toArray, List.set_cons_zero, List.set_cons_succ]
    refine wpAnyH_take (i := 4) (oi := { dst := some 54, op := _, type := _, pos := _, after := _, guard := _ }) (v := .pointer (some ⟨f, 0, none⟩)) rfl (by kernel_rfl) (by kernel_rfl) (by kernel_rfl) (fun _ _ _ h => h) (Or.inl ⟨by kernel_rfl, ?_⟩) G5 ?_
    · (intro w' hSw; go_simp; try with_reducible rfl)
    try simp only [Act.put, List.setIfInBounds_toArray, List.set_cons_zero, List.set_cons_succ]
    refine wpAnyH_take (i := 5) (oi := { dst := some 55, op := _, type := _, pos := _, after := _, guard := _ }) (v := .int .i64 n5) rfl (by kernel_rfl) (by kernel_rfl) (by kernel_rfl) (fun _ _ _ h => h) (Or.inl ⟨by kernel_rfl, ?_⟩) G5 ?_
    · (intro w' hSw; go_simp; try with_reducible rfl)
    try simp only [Act.put, List.setIfInBounds_toArray, List.set_cons_zero, List.set_cons_succ]
    refine wpAnyH_take (i := 9) (oi := { dst := some 59, op := _, type := _, pos := _, after := _, guard := _ }) (v := .agg (kc K)) rfl (by kernel_rfl) (by kernel_rfl) (by kernel_rfl) (fun _ _ _ h => h) (yieldsIf_load_mid (cs := u8s K) (by rfl) _ _ rfl _ _ rfl _ (fun w' hSw => blk_key hSw.out.2) Tryz.underlying25 rfl HKI.out) G5 ?_
    try simp only [Act.put, List.setIfInBounds_toArray, List.set_cons_zero, List.set_cons_succ]
    refine wpAnyH_ready (rs := [6]) (by kernel_rfl) (by simp) ?_
    refine (AllReadyH.cons (o := { dst := some 56, op := _, type := _, pos := _, after := _, guard := _ }) rfl (fun Qc hQc => ?_) AllReadyH.nil)
    go_simp
    go_at_call 11
    refine (xList_any (HFO.out.below D5.out) HT2.out (by have := HLN.out; omega)).mono ?_
    rintro e x6 ⟨v6, rfl, ho6, hb⟩
    have D6 := hid (D5.out.trans (hb.mono D5.out.size))
    have G6 : Hid (Blk x6 g11 25 (kc K) ∧ Blk x6 w.heap.size 25 (kc K)) := ⟨G5.out.1.below hb, G5.out.2.below hb⟩
    obtain ⟨A6, c6, hv6⟩ := ho6.len
    subst hv6
    have I6 := hid (ho6.in (by have := HLN.out; omega))
    clear ho6 hb
    go_wp2_with fail
    refine hQc.out _ _ G6 (fun hHeld => ?_)
    clear hQc Qc hHeld
    try simp only [Act.put, List.setIfInBounds_toArray, List.set_cons_zero, List.set_cons_succ]
    refine wpAnyH_ready (rs := [7]) (by kernel_rfl) (by simp) ?_
    refine (AllReadyH.cons (o := { dst := some 57, op := _, type := _, pos := _, after := _, guard := _ }) rfl (fun Qc hQc => ?_) AllReadyH.nil)
    go_simp
    go_at_call 10
    refine (dlpairs_any x6 I6.out (by have := HLN.out; omega)).mono ?_
    rintro e x7 ⟨v7, rfl, ho7, hb⟩
    have D7 := hid (D6.out.trans (hb.mono D6.out.size))
    have G7 : Hid (Blk x7 g11 25 (kc K) ∧ Blk x7 w.heap.size 25 (kc K)) := ⟨G6.out.1.below hb, G6.out.2.below hb⟩
    obtain ⟨A7, c7, hv7, hcap⟩ := ho7.cap
    subst hv7
    have I7 := hid (ho7.in (by have := HLN.out; omega))
    have HCP := hid hcap
    clear ho7 hb hcap
    go_wp2_with fail
    refine hQc.out _ _ G7 (fun hHeld => ?_)
    clear hQc Qc hHeld
    try simp only [Act.put, List.setIfInBounds_toArray, List.set_cons_zero, List.set_cons_succ]
    refine wpAnyH_ready (rs := [8]) (by kernel_rfl) (by simp) ?_
    refine (AllReadyH.cons (o := { dst := some 58, op := _, type := _, pos := _, after := _, guard := _ }) rfl (fun Qc hQc => ?_) AllReadyH.nil)
    go_simp
    go_at_call 9
    refine (yRoot_any x7 I7.out HS.out HCP.out (by have := HLN.out; omega)).mono ?_
    rw [HS2.out]
    rintro e x8 ⟨rfl, hb⟩
    have D8 := hid (D7.out.trans (hb.mono D7.out.size))
    have G8 : Hid (Blk x8 g11 25 (kc K) ∧ Blk x8 w.heap.size 25 (kc K)) := ⟨G7.out.1.below hb, G7.out.2.below hb⟩
    clear hb
    go_wp2_with fail
    refine hQc.out _ _ G8 (fun hHeld => ?_)
    clear hQc Qc hHeld
    try simp only [Act.put, List.setIfInBounds_toArray, List.set_cons_zero, List.set_cons_succ]
    refine wpAnyH_take (i := 10) (oi := { dst := some 60, op := _, type := _, pos := _, after := _, guard := _ }) (v := .bool true) rfl (by kernel_rfl) (by kernel_rfl) (by kernel_rfl) (fun _ _ _ h => h) (Or.inl ⟨by kernel_rfl, ?_⟩) G8 ?_
    · (intro w' hSw; go_simp; try with_reducible rfl)
    try simp only [Act.put, List.setIfInBounds_toArray, List.set_cons_zero, List.set_cons_succ]
    refine wpAnyH_take (i := 11) (oi := { dst := some 61, op := _, type := _, pos := _, after := _, guard := _ }) (v := .bool true) rfl (by kernel_rfl) (by kernel_rfl) (by kernel_rfl) (fun _ _ _ h => h) (Or.inl ⟨by kernel_rfl, ?_⟩) G8 ?_
    · (intro w' hSw; go_simp; try with_reducible rfl)
    try simp only [Act.put, List.setIfInBounds_toArray, List.set_cons_zero, List.set_cons_succ]
    refine wpAnyH_take (i := 12) (oi := { dst := some 6, op := _, type := _, pos := _, after := _, guard := _ }) (v := .bool true) rfl (by kernel_rfl) (by kernel_rfl) (by kernel_rfl) (fun _ _ _ h => h) (Or.inl ⟨by kernel_rfl, ?_⟩) G8 ?_
    · (intro w' hSw; go_simp; try with_reducible rfl)
    try simp only [Act.put, List.setIfInBounds_toArray, List.set_cons_zero, List.set_cons_succ]
    refine wpAnyH_done (by kernel_rfl) ?_ _
    try simp only [Act.put, List.setIfInBounds_toArray, List.set_cons_zero, List.set_cons_succ]
    clear heq
    go_wp2
    go_ret
    exact ⟨rfl, BX.out.trans (D8.out.mono BX.out.size)⟩
theorem dsound_walk {w : World} {A0 A1 : Option Addr} {n0 c0 n1 c1 : Nat} {P : List KV} {L : List Rw} {K : List Int} (h : InP w A0 n0 P) (hr : InW w A1 n1 L) (hK : Ky K) (ht : Tab w) :
    Calls Tryz.prog 3 #[.slice A0 n0 c0, .slice A1 n1 c1, .agg (kc K)] w fun e w' => e = .returned (.bool true) ∧ Below w.heap.size w w' := by
  by_cases hn : 15 < n0 ∨ 40 < n1
  · have B0 : Hid (Below w.heap.size w (w.alloc (.cells (kc K) 25))) := (Below.refl _ _).alloc (Nat.le_refl _) _
    have CA := hid (fun w1 (hb : Below w.heap.size w w1) => dawake_any w1 (ht.below hb))
    have hml : n0 ≤ 9223372036854775807 := h.2.1
    have hml2 : n1 ≤ 9223372036854775807 := hr.2.1
    clear h hr ht hK
    by_cases h15 : (15 : Int) < (n0 : Int)
    · clear hn
      go_enter Tryz.func3, Tryz.ntmps3
      go_wp2_with (first
        | (go_at_call 4; refine (CA.out _ B0.out).mono ?_; rintro e w1 ⟨rfl, hb⟩; have B1 := hid (B0.out.trans (hb.mono B0.out.size)); clear hb B0)
        | (go_at_call 4; refine (CA.out _ B1.out).mono ?_; rintro e w2 ⟨rfl, hb⟩; have B2 := hid (B1.out.trans (hb.mono B1.out.size)); clear hb))
      go_ret
      exact ⟨rfl, B2.out⟩
    · have h10 : (40 : Int) < (n1 : Int) := by omega
      clear hn
      go_enter Tryz.func3, Tryz.ntmps3
      go_wp2_with (first
        | (go_at_call 4; refine (CA.out _ B0.out).mono ?_; rintro e w1 ⟨rfl, hb⟩; have B1 := hid (B0.out.trans (hb.mono B0.out.size)); clear hb B0)
        | (go_at_call 4; refine (CA.out _ B1.out).mono ?_; rintro e w2 ⟨rfl, hb⟩; have B2 := hid (B1.out.trans (hb.mono B1.out.size)); clear hb))
      go_ret
      exact ⟨rfl, B2.out⟩
  · exact dsound_main h hr hK (by omega) (by omega) ht
end Go.Proofs.YtjhaamffgkialaaGreatDoor
