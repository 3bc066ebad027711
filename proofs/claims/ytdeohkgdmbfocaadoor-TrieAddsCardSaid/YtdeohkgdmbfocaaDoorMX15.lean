/-
  What is proved here: Put over a key that is there, with another value.
-/
import Derived.Test.YtdeohkgdmbfocaaDoorMX14
set_option linter.unusedSimpArgs false
set_option linter.unusedVariables false
namespace Go.Proofs.YtdeohkgdmbfocaaDoor
open Go.ChangeShapes Go.WideShapes Go.ChangeAt Go.RowKit Go.Shelf
set_option linter.unusedVariables false
set_option linter.unusedSimpArgs false
set_option maxRecDepth 20000
attribute [local go_sem] Oper.semAt_some

set_option maxHeartbeats 8000000 in
theorem put_over {w : World} {f g b : Nat} {N : List Nd} {A : Option Addr} {c : Nat} {tv : Value} (h : Fo w f g b N A c tv) (hfr : FrOk hLf hIn N) {K V : List Int} (hK : Ky K) (hV : Ky V) (hlen : Few N.length) (ht : Tab w)
    (i : Nat) (t : Tr) (hr : Rep hLf hIn N i t) (hok : t.ok) (hsm : Few t.list.length) (V0 : List Int) (hg0 : ∀ L u x, Way N K t i L u x → Rep hLf hIn N x u → u.ok → Ends K u → u = .leaf K V0) (hV0 : V0 ≠ V)
    : Calls Tryd.prog 10 #[.pointer (some ⟨f, 0, none⟩), .int .i64 i, .agg (kc K), .agg (kc V)] w (PutA w f g b N (t.put K V) (2 + t.list.length)) := by
  refine (callsIn_wide (n := 2)).1 ?_
  refine callsIn_of_wp_marks Tryd.func10 rfl trivial ?_ rfl
  simp only [Tryd.ntmps10, List.size_toArray, List.length_cons, List.length_nil, Nat.reduceAdd, Nat.reduceSub, Array.replicate_succ, Array.replicate_zero, List.push_toArray, List.append_toArray, List.nil_append, List.cons_append]
  refine (wpIn_wide (n := 2)).2 ?_
  obtain ⟨hk1, hk2, hk3, hb0⟩ := three_blks w #[.pointer (some ⟨f, 0, none⟩)] (kc K) (kc V) 26 24 24
  have BX0 : Hid (Bx3 w.heap.size f K V (((w.alloc (.cells #[.pointer (some ⟨f, 0, none⟩)] 26)).alloc (.cells (kc K) 24)).alloc (.cells (kc V) 24))) := ⟨hk1, hk2, hk3⟩
  have B0 := hid hb0
  have HKI := hid (u8s_info hK); have HVI := hid (u8s_info hV)
  have FO := hid h; have HF := hid hfr; have HK := hid hK; have HV := hid hV; have HL := hid hlen; have HT := hid ht
  have CI := hid (fun w1 (hb : Below w.heap.size w w1) => xisTree_at (h.below hb) i)
  have hti : isTr N.length i = true := by unfold isTr isNd; rw [decide_eq_true (show (0 : Int) ≤ i ∧ (i : Int) < N.length from ⟨by omega, by have := hr.lt; omega⟩)]; simp
  rw [hti] at CI
  have CW := hid (fun w1 (hb : Below w.heap.size w w1) => xway_at (h.below hb) i t hr hok K hK (show t.list.length < 100000 from hsm))
  have HG0 := hid hg0; have HSM := hid hsm
  clear hti hr hok hsm hg0
  clear hk1 hk2 hk3 hb0 h hfr hK hV hlen ht
  have c4 : (((w.alloc (.cells #[.pointer (some ⟨f, 0, none⟩)] 26)).alloc (.cells (kc K) 24)).alloc (.cells (kc V) 24)).cell? ⟨w.heap.size, 0, none⟩ = some (.pointer (some ⟨f, 0, none⟩)) := BX0.out.k4.cell 0
  go_upto_region 4 with (first
    | (go_at_call 34; refine (CI.out _ B0.out).mono ?_; rintro e w1 ⟨rfl, rfl⟩)
    | (refine load_at rfl 24 (.tmp 6) rfl (w.heap.size + 1) 0 rfl (u8s K) _ (blk_key BX0.out.k6) Tryd.underlying24 rfl HKI.out (kc K) rfl ?_)
    | (go_at_call 35; refine (CW.out _ B0.out).mono ?_; rintro e w2 ⟨L, u, x, A2, c2, rfl, hway, hru, huok, hend, hlu, hrow, hb⟩; have BX2 := hid (BX0.out.below hb); have B2 := hid (B0.out.trans (hb.mono B0.out.size)); obtain rfl := HG0.out L u x hway hru huok hend; have hq : N[x]? = some (ndL K V0 (hLf K V0)) := hru; have CH := hid (xhasKey_at (FO.out.below B2.out) x _ hq K HK.out); rw [show (ndL K V0 (hLf K V0)).has K = true by unfold Nd.has; simp [ndL]] at CH; have WAY := hid hway; have HRU := hid hru; have HUO := hid huok; have HLU := hid hlu; have ROW2 := hid (own_weak hrow (Nat.zero_le _)); have HQ := hid hq; clear hway hru huok hend hlu hrow hb hq))
  clear c4
  have c4 : w2.cell? ⟨w.heap.size, 0, none⟩ = some (.pointer (some ⟨f, 0, none⟩)) := BX2.out.k4.cell 0
  go_upto_region 5 with (first
    | (refine load_at rfl 24 (.tmp 6) rfl (w.heap.size + 1) 0 rfl (u8s K) _ (blk_key BX2.out.k6) Tryd.underlying24 rfl HKI.out (kc K) rfl ?_)
    | (go_at_call 36; refine CH.out.mono ?_; rintro e w3 ⟨rfl, hb⟩; have BX3 := hid (BX2.out.below hb); have B3 := hid (B2.out.trans (hb.mono B2.out.size)); have ROW3a := hid (own_keep ROW2.out (fun k hk => hb.block k (ROW2.out.lt k hk).2)); clear hb))
  clear c4
  have F3 := FO.out.below B3.out
  obtain ⟨hA3, na3⟩ := F3.node HQ.out
  have cn0 : w3.cell? ⟨f, 0, none⟩ = some (.slice (some ⟨g, 0, none⟩) N.length c) := by rw [← hA3]; exact F3.kf.cell 0
  obtain ⟨n, hn⟩ : ∃ n, n = N.length := ⟨_, rfl⟩
  rw [← hn] at cn0
  have hlt : x < n := by rw [hn]; exact (List.getElem?_eq_some_iff.1 HQ.out).1
  have hne : ((x : Int) != -1) = true := by simp
  have hnl : ((x : Int) == -1) = false := by simp
  have c40 : w3.cell? ⟨w.heap.size, 0, none⟩ = some (.pointer (some ⟨f, 0, none⟩)) := BX3.out.k4.cell 0
  have cn := fun p : PW (Kp w3) => cell_bel p.h cn0
  have cp := fun p : PW (Kp w3) => cell_bel p.h c40
  have NV : Hid (w3.rangeAt g (x * 132 + 33) (u8s V0)) := na3.val
  have HV0I := hid (u8s_info (F3.ok _ (List.mem_of_getElem? HQ.out)).v)
  have NVp := hid (fun p : PW (Kp w3) => rng_bel p.h NV.out)
  have K7p := hid (fun p : PW (Kp w3) => kp_key BX3.out.k7 p)
  have heq := fun w => eql_key V0 V (F3.ok _ (List.mem_of_getElem? HQ.out)).v HV.out w
  rw [decide_eq_false hV0] at heq
  clear F3 hA3 na3 cn0 c40
  refine region_kept (Kp w3) (by kernel_rfl) (by kernel_rfl) (kp_begin w3) ?_
  repeat (first
    | go_big_quiet_skip
    | (go_big_quiet_want; refine quiet_load 24 (.tmp 41) rfl g (x * 132 + 33) rfl (u8s V0) _ (fun p => NVp.out p) Tryd.underlying24 rfl HV0I.out (kc V0) rfl ?_; go_big_quiet_on; simp only [Act.put, List.setIfInBounds_toArray, List.set_cons_zero, List.set_cons_succ])
    | (go_big_quiet_want; refine quiet_load 24 (.tmp 7) rfl (w.heap.size + 1 + 1) 0 rfl (u8s V) _ (fun p => K7p.out p) Tryd.underlying24 rfl HVI.out (kc V) rfl ?_; go_big_quiet_on; simp only [Act.put, List.setIfInBounds_toArray, List.set_cons_zero, List.set_cons_succ])
    | (go_big_quiet_want; go_big_quiet_op; first | go_big_quiet_on))
  refine wpQuiet_nil ?_
  intro _ hw'
  obtain ⟨p, hw''⟩ := hw'
  subst hw''
  clear cn cp heq
  have BX4 := hid (BX3.out.below p.h)
  have B4 := hid (B3.out.trans (p.h.mono B3.out.size))
  have ROW3 := hid (own_keep ROW3a.out (fun k hk => p.h.block k (ROW3a.out.lt k hk).2))
  have c4 : p.w.cell? ⟨w.heap.size, 0, none⟩ = some (.pointer (some ⟨f, 0, none⟩)) := BX4.out.k4.cell 0
  generalize p.w = w4 at BX4 B4 c4 ROW3 ⊢
  clear BX0 BX2 BX3 B0 B2 B3 CI CW CH ROW2 ROW3a
  have F4 := FO.out.below B4.out
  have ROW4 : Hid (w4.ownsRow 0 3 1 (.slice A2 L.length c2) L.length (i64s (ns L))) := ROW3.out
  have c0 : w4.cell? ⟨f, 0, none⟩ = some (.slice A N.length c) := F4.kf.cell 0
  rw [← hn] at c0
  have HN := hid hn
  have hgt : ¬ ((1048576 : Int) < (n : Int) + ((L.length : Int) + 1)) := few_gt2 HL.out hn (few_way HSM.out HLU.out)
  have CL := hid (xleaf_at F4 K V HK.out HV.out (few_lt HL.out) (HT.out.below B4.out))
  have HF4 := hid F4
  clear F4 hn
  go_upto_region 13 with (fail)
  clear c0 hgt
  go_upto_region 14 with (first
    | (refine load_at rfl 24 (.tmp 6) rfl (w.heap.size + 1) 0 rfl (u8s K) _ (blk_key BX4.out.k6) Tryd.underlying24 rfl HKI.out (kc K) rfl ?_)
    | (refine load_at rfl 24 (.tmp 7) rfl (w.heap.size + 1 + 1) 0 rfl (u8s V) _ (blk_key BX4.out.k7) Tryd.underlying24 rfl HVI.out (kc V) rfl ?_)
    | (go_at_call 37; refine CL.out.mono ?_; rintro e w5 ⟨rfl, hg⟩; have HG5 := hid hg; clear hg))
  obtain ⟨g5, b5, A5, c5, tv5, hfo5, hg5, hb5, hon5⟩ := HG5.out.parts
  have BX5 := hid (BX4.out.only HF4.out hon5)
  have ROW5 := hid (own_only HF4.out hon5 ROW4.out)
  have HN5 : Hid (N.length = n) := HN.out.symm
  rw [HN5.out]
  have SZ5 : Hid (w.heap.size ≤ w5.heap.size) := Nat.le_trans B4.out.size hon5.size
  have BX6 := hid (BX5.out.below ((Below.refl w5.heap.size w5).alloc (Nat.le_refl _) (.cells #[.int .i64 n] 3)))
  have ROW6 := hid (own_keep ROW5.out (fun k hk => Below.heap_alloc w5 (.cells #[.int .i64 n] 3) k (ROW5.out.lt k hk).2))
  have FO6 := hid (hfo5.below ((Below.refl w5.heap.size w5).alloc (Nat.le_refl _) (.cells #[.int .i64 n] 3)))
  have K15 : Hid (Blk (w5.alloc (.cells #[.int .i64 n] 3)) w5.heap.size 3 #[.int .i64 (n : Nat)]) := Blk.new w5 3 _
  have ON6 : Hid (OnlyS (Ow f g b) w (w5.alloc (.cells #[.int .i64 n] 3))) := ((OnlyS.of_below B4.out (Nat.le_refl _)).trans hon5).alloc _
  have G5 : Hid (g5 = g ∨ w.heap.size ≤ g5) := hg5.imp id (fun h => Nat.le_trans B4.out.size h)
  have Q5 : Hid (b5 = b ∨ w.heap.size ≤ b5) := hb5.imp id (fun h => Nat.le_trans B4.out.size h)
  have ROWNE : Hid (∀ k, (Value.slice A2 L.length c2).ownBlock = some k → k ≠ w5.heap.size) := fun k hk => Nat.ne_of_lt (ROW5.out.lt k hk).2
  clear hfo5 hg5 hb5 hon5 HG5 CL c4 BX5 ROW5 ROW4 BX4 B4 HF4
  generalize hE15 : w5.heap.size = e15 at K15 SZ5 ROWNE ⊢
  generalize w5.alloc (.cells #[.int .i64 n] 3) = w6 at BX6 ROW6 FO6 K15 ON6 ⊢
  clear hE15
  obtain ⟨U, hU0, hUL, hSO⟩ : ∃ U : Nat → Tr, U 0 = t.put K V ∧ U (L).length = (Tr.leaf K V0).put K V ∧ StepsOk N K U L := steps_of HK.out HV.out WAY.out
  have HU0 := hid hU0; have HSO := hid hSO
  have I0 : Hid (PtE 1 (fun _ => False) f g b w N K U L w.heap.size (w.heap.size + 1) e15 [] w6) := ⟨g5, b5, A5, c5, tv5, [ndL K V (hLf K V)], n, FO6.out, G5.out, Q5.out, ON6.out, BX6.out.k4, BX6.out.k6, K15.out, SZ5.out, by rw [List.length_append, HN5.out]; simp, by simp, fun _ h => h.elim, fun _ => by
    obtain ⟨h1, h2⟩ := FrOk.leaf hLf hIn HF.out HK.out HV.out
    rw [HN5.out] at h2
    exact ⟨h1, by show Rep _ _ _ _ (U L.length); rw [hUL]; show Rep _ _ _ _ (if K = K then _ else _); rw [if_pos rfl]; exact h2⟩⟩
  have CB := hid (fun w => xback_any A2 L.length c2 w)
  clear hU0 hSO
  go_wp2_with (go_at_call 39; refine (CB.out _).mono ?_; rintro e w7 ⟨rfl, hw7⟩; have HW7 := hid hw7; clear hw7)
  have S6 : Hid (w7.heap.size = w6.heap.size + 1) := by show _ = _; rw [HW7.out]; simp
  have BL7 : Hid (Below w6.heap.size w6 w7) := by show Below _ _ _; rw [HW7.out]; exact (Below.refl _ _).alloc (Nat.le_refl _) _
  have IT : Hid (ItB w6.heap.size A2 L.length c2 (ns L) w7) := by
    refine ⟨?_, own_keep ROW6.out (fun k hk => BL7.out.block k (ROW6.out.lt k hk).2)⟩
    rw [HW7.out]; exact Blk.new w6 31 _
  have NE7 : Hid (w6.heap.size ≠ e15) := fun e => by have h1 := K15.out.lt; omega
  have RNE : Hid (∀ k, ItS w6.heap.size A2 k → k ≠ e15) := fun k hk => by rcases hk with h | ⟨a, h, e⟩; rw [h]; exact NE7.out; subst h; rw [e]; exact ROWNE.out _ rfl
  have RTY : Hid (∀ k, ItS w6.heap.size A2 k → ∃ t cs, Blk w7 k t cs ∧ (t = 31 ∨ t = 3)) := fun k hk => by rcases hk with h | ⟨a, h, e⟩; rw [h]; exact ⟨_, _, IT.out.kb, .inl rfl⟩; subst h; rw [e]; exact row_ty IT.out.row rfl
  have I7 : Hid (PtE 1 (ItS w6.heap.size A2) f g b w N K U L w.heap.size (w.heap.size + 1) e15 [] w7) := by
    obtain ⟨g', b', A', c', tv', M, top, hs⟩ := I0.out
    exact ⟨g', b', A', c', tv', M, top, hs.fo.below BL7.out, hs.hg, hs.hb, hs.on.trans (OnlyS.of_below BL7.out (Nat.le_refl _)), hs.k4.below BL7.out, hs.k6.below BL7.out, hs.k15.below BL7.out, hs.he, hs.lt, hs.few, fun k hk => ⟨RTY.out k hk, RNE.out k hk⟩, hs.cond⟩
  have BX7 := hid (BX6.out.below BL7.out)
  have BW7 : Hid (w.heap.size ≤ w7.heap.size) := by obtain ⟨g', b', A', c', tv', M, top, hs⟩ := I7.out; exact hs.on.size
  have LT7 : Hid (e15 < w7.heap.size ∧ w.heap.size < w7.heap.size) := ⟨(K15.out.below BL7.out).lt, BX7.out.k4.lt⟩
  have ET : Hid (∃ t cs, Blk w7 e15 t cs ∧ t = 3) := ⟨_, _, K15.out.below BL7.out, rfl⟩
  clear BX6 ROW6 FO6 ON6 G5 Q5 HW7 BX7 CB I0 SZ5
  have HM : Hid (L.length = (L).length) := rfl
  generalize w6.heap.size = bs at S6 IT RNE RTY NE7 I7 ⊢
  clear K15
  clear hUL hne hnl hlt hV0
  refine (wpIn_wide (n := 2)).1 ?_
  refine wpIn_rangeFunc_ownF (n := 2) rfl (by omega) (gf := 66) (lb := #[.pointer (some ⟨bs, 0, none⟩)]) rfl trivial (enters_of Tryd.func66 (by kernel_rfl) rfl)
    (back_stops (m := (L).length) (few_mil (few_way HSM.out HLU.out)) bs A2 c2 (ns L) w7 IT.out) KpS.t (KpS.b (S := ItS bs A2) (fun k hk => by obtain ⟨t, cs, h1, _⟩ := RTY.out k hk; exact h1.lt)) (Below.refl _ _) (fun _ => rfl) (PtE 1 (ItS bs A2) f g b w N K U L w.heap.size (w.heap.size + 1) e15) (fun _ _ _ => False) (PtE.own (by have := LT7.out; omega)) (fun _ _ _ _ _ hs _ _ => hs) I7.out
    ?a1 ?assign ?body ?done ?stop
  case assign =>
    intro l x W K hK
    have HKK := hid hK
    clear hK
    dsimp only [encB]
    rw [zip2]
    simp only [List.setIfInBounds_toArray, List.set_cons_succ, List.set_cons_zero]
    refine wpIn_region_lit (l := [_]) ?_
    refine wpListIn_plain rfl (fun K2 hK2 => ?_)
    refine wpInR_value (.int .i64 (nv (ns L) x)) (fun c h => by cases h) (by rw [exec_assign (.tmp 80) rfl]; rfl) ?_
    refine hK2 _ _ ?_
    simp only [Act.put, List.setIfInBounds_toArray, List.set_cons_succ, List.set_cons_zero]
    exact HKK.out
  case body =>
    rintro l pre x W hI hlen
    obtain ⟨g', b', A', c', tv', M, top, hs⟩ := hI
    obtain ⟨k, hk⟩ := x
    obtain ⟨y, q, n0, a0, d0, e1, e2, e3, e4, e5, la, ld, ln, hst⟩ := HSO.out k hk
    have hq : (N ++ M)[y]? = some q := by rw [List.getElem?_append_left (List.getElem?_eq_some_iff.1 e2).1]; exact e2
    have hlm : (N ++ M).length < 1048576 := few_m HL.out (Nat.le_trans hs.few (by omega)) hlen (few_le (few_way HSM.out HLU.out))
    have ll : N.length ≤ (N ++ M).length := by rw [List.length_append]; omega
    have CT := hid (xturned_at hs.fo y top a0 d0 n0 q hq hs.lt e3 e4 e5 (Nat.lt_of_lt_of_le la ll) (Nat.lt_of_lt_of_le ld ll) ln K HK.out hlm (tab_only HT.out (FO.out.not_tab HT.out) hs.on))
    have ex : nv (ns L) (⟨k, hk⟩ : Fin (L).length) = (y : Int) := by unfold nv ns; rw [List.getElem?_map, e1]; rfl
    have c4 : W.cell? ⟨w.heap.size, 0, none⟩ = some (.pointer (some ⟨f, 0, none⟩)) := hs.k4.cell 0
    have c15 : W.cell? ⟨e15, 0, none⟩ = some (.int .i64 (top : Nat)) := hs.k15.cell 0
    have ld6 : (Instr.loadAt 24 (.pointer (some ⟨w.heap.size + 1, 0, none⟩))).run Tryd.prog W = .ok (.agg (kc K)) W := run_loadAt_mid W (w.heap.size + 1) 0 24 (u8s K) _ (blk_key hs.k6) Tryd.underlying24 rfl HKI.out
    have HST := hid (hst M top)
    obtain ⟨nl, hnl⟩ : ∃ nl, nl = (N ++ M).length := ⟨_, rfl⟩
    rw [← hnl] at CT
    have HNL2 := hid hnl
    clear hnl
    have HS := hid hs
    have HLE := hid hlen
    clear e1 e2 e3 e4 e5 la ld ln hst hq hlm ll hs hlen
    dsimp only
    rw [ex]
    clear ex
    refine wpIn_block ?_
    refine wpIn_cut (fun _ w' => KeepsOthers W w' ∧ KpS (ItS bs A2) W w' ∧ PtE 1 (ItS bs A2) f g b w N K U L w.heap.size (w.heap.size + 1) e15 (pre ++ [⟨k, hk⟩]) w') ?_ ?_
    · refine plain_round (L := [_, _, _, _, _, _]) (by rfl) ?_
      go_wp2_with (first
        | (refine load_at rfl 24 (.tmp 6) rfl (w.heap.size + 1) 0 rfl (u8s K) _ (blk_key HS.out.k6) Tryd.underlying24 rfl HKI.out (kc K) rfl ?_)
        | (go_at_call 40; refine CT.out.mono ?_; rintro e W2 ⟨rfl, hg⟩; have hp0 := HS.out.step HLE.out ⟨k, hk⟩ _ hg HST.out; rw [← HNL2.out] at hp0; have HP := hid hp0; clear hp0; have c15b : W2.cell? ⟨e15, 0, none⟩ = some (.int .i64 (top : Nat)) := (grew_blk HS.out hg).cell 0; have f15b : W2.frozen? ⟨e15, 0, none⟩ = false := (grew_blk HS.out hg).frozen 0; clear hg))
      exact HP.out
    · intro a' w' h
      exact h
  case done =>
    rintro D' ys W hD hys hI hK
    obtain ⟨g', b', A', c', tv', M, top, hs⟩ := hI
    have c15 : W.cell? ⟨e15, 0, none⟩ = some (.int .i64 (top : Nat)) := hs.k15.cell 0
    have HS := hid hs; have HKD := hid hK; have HYS := hid hys
    have HD : Hid (w7.heap.size ≤ D') := hD
    clear hs hK hys hD
    go_wp2
    refine ⟨by simp, .inl ⟨_, _, rfl, run_takeDeferred HKD.out, ?_⟩⟩
    have hg := grownBy_putObj' W D' (.deferred none)
    have hr : ∀ r, some D' = some r → ∃ o : Obj, W.heap[r]? = some o ∧ o.isCells = false := fun r e => by cases e; exact ⟨_, HKD.out, rfl⟩
    have hl : ys.length = (L).length := by
      have := congrArg List.length HYS.out
      rw [List.length_map, downs_length] at this
      exact this
    obtain ⟨h1, h2⟩ := HS.out.cond (by rw [hl]; exact HYS.out)
    rw [hl, Nat.sub_self, HU0.out] at h2
    refine ⟨_, results_tmp2 rfl _ _ _, M, top, rfl, ⟨g', b', A', c', tv', HS.out.fo.own hg hr, HS.out.hg, HS.out.hb, HS.out.on.grown hg (fun k e => by cases e; right; have := HD.out; have := LT7.out; have := BW7.out; omega)⟩, h2, h1, ?_⟩
    have := HS.out.few
    rw [hl] at this
    exact Nat.le_trans this (by have := HLU.out; omega)
  case stop =>
    rintro D c pre W _ _ h _
    exact h.elim
end Go.Proofs.YtdeohkgdmbfocaaDoor
