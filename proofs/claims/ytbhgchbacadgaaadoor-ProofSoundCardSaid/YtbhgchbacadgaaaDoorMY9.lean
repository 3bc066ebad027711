/-
  What is proved here: what Check answers.
-/
import Derived.Test.YtbhgchbacadgaaaDoorMY8
import Derived.Test.YtbhgchbacadgaaaDoorMTk
import Derived.Deep.CutBlock
set_option linter.unusedSimpArgs false
set_option linter.unusedVariables false
namespace Go.Proofs.YtbhgchbacadgaaaDoor
open Go.ChangeShapes Go.WideShapes Go.ChangeAt Go.RowKit
set_option linter.unusedVariables false
set_option linter.unusedSimpArgs false
set_option maxRecDepth 20000

theorem proof_info {q : QP} (h : q.Ok) (V : Value) : (Tryd.prog.info? 66).map (·.size) = some (prc V q).length := by rw [h.len]; kernel_rfl
theorem txs_last {key : List Int} {q : QP} {n : Nat} (hn : q.ss.length = n) (h : isEnd q.e = true) : (txsX key q).length = n + 1 ∧ (txsX key q)[n]? = some (topQ key q) := by
  rw [txs_in h]
  refine ⟨by rw [List.length_reverse, all_len, hn], ?_⟩
  have := all_last key (endX q) q.ss
  rw [hn] at this
  exact this
theorem topX_bs {key t : List Int} (ht : Bs t) : ∀ {ss : List QS}, (∀ s ∈ ss, s.Ok) → Bs (topX key t ss)
  | [], _ => ht
  | s :: ss, h => by
    show Bs (stepX key s _)
    rw [stepX_sd]
    have h1 := h s (by simp)
    obtain ⟨h2, h3⟩ := sdV_ky (K := key) (n := s.n) (sum_ky (topX key t ss)) h1.o
    exact innX_bs h1.b h2 h3
theorem topQ_bs {key : List Int} {q : QP} (h : q.Ok) : Bs (topQ key q) := topX_bs (endX_bs h) h.ss
theorem topQ_len {key : List Int} {q : QP} (h : q.Ok) : (topQ key q).length < 20000 := top_len (endX_len h) h.ss
theorem allX_bs {key t : List Int} (ht : Bs t) : ∀ {ss : List QS}, (∀ s ∈ ss, s.Ok) → ∀ x ∈ allX key t ss, Bs x
  | [], _, x, hx => by rw [List.mem_singleton.1 hx]; exact ht
  | s :: ss, h, x, hx => by
    rcases List.mem_cons.1 hx with rfl | hx
    · exact topX_bs ht h
    · exact allX_bs ht (fun s hs => h s (List.mem_cons_of_mem _ hs)) x hx
theorem txsX_all {key : List Int} {q : QP} (h : q.Ok) : ∀ x ∈ txsX key q, Bs x ∧ x.length < 20000 := fun x hx => by
  unfold txsX at hx
  split at hx
  · exact ⟨allX_bs (endX_bs h) h.ss x (List.mem_reverse.1 hx), all_mem_len (endX_len h) h.ss x (List.mem_reverse.1 hx)⟩
  · simp at hx
/-- what stands in Check -/
structure CkF (w : World) (P : Array Value) (key root : List Int) (Z : Array Value) (x : World) : Prop where
  pr : Blk x w.heap.size 66 P
  kk : Blk x (w.heap.size + 1) 24 (kc key)
  rt : Blk x (w.heap.size + 1 + 1) 24 (kc root)
  rs : Blk x (w.heap.size + 1 + 1 + 1) 24 Z
  bl : Below w.heap.size w x
theorem CkF.below {w x y : World} {P : Array Value} {key root : List Int} {Z : Array Value} (h : CkF w P key root Z x) (hb : Below x.heap.size x y) : CkF w P key root Z y :=
  ⟨h.pr.below hb, h.kk.below hb, h.rt.below hb, h.rs.below hb, h.bl.trans (hb.mono h.bl.size)⟩
set_option maxHeartbeats 4000000 in
theorem check_no {A : Option Addr} {n c : Nat} {q : QP} {key root : List Int} (w : World) (hin : InS w A n q.ss) (hq : q.Ok) (hK : Ky key) (hR : Ky root) (h : leadB key q = false) :
    Calls Tryd.prog 31 #[.agg (prc (.slice A n c) q).toArray, .agg (kc key), .agg (kc root)] w fun e w' => e = .returned (chkV key root q) ∧ Below w.heap.size w w' := by
  obtain ⟨Z, HZ, hZ0, hZs⟩ := zero_key
  obtain ⟨hk1, hk2, hk3, hb0⟩ := three_blks w (prc (.slice A n c) q).toArray (kc key) (kc root) 66 24 24
  have hsz : (((w.alloc (.cells (prc (.slice A n c) q).toArray 66)).alloc (.cells (kc key) 24)).alloc (.cells (kc root) 24)).heap.size = w.heap.size + 1 + 1 + 1 := by simp
  have hk4 := Blk.new (((w.alloc (.cells (prc (.slice A n c) q).toArray 66)).alloc (.cells (kc key) 24)).alloc (.cells (kc root) 24)) 24 Z
  rw [hsz] at hk4
  have CK0 : Hid (CkF w (prc (.slice A n c) q).toArray key root Z ((((w.alloc (.cells (prc (.slice A n c) q).toArray 66)).alloc (.cells (kc key) 24)).alloc (.cells (kc root) 24)).alloc (.cells Z 24))) := ⟨hk1.alloc _, hk2.alloc _, hk3.alloc _, hk4, hb0.alloc (by rw [hsz]; omega) _⟩
  have HQ := hid hq
  have HPI := hid (proof_info hq (.slice A n c))
  have HKI := hid (u8s_info hK); have HRI := hid (u8s_info hR)
  have HPA := hid (fun (x : World) (h : CkF w (prc (.slice A n c) q).toArray key root Z x) => h.pr.pr hq)
  have HZI := hid (kc_info zk_ky)
  have HZZ : Hid (Z.size = (kc zk).size) := by show _ = _; rw [HZ.out]
  have CL := hid (fun w1 (hb : Below w.heap.size w w1) => qleads_any (c := c) w1 (hin.below hb) hq hK)
  rw [h] at CL
  have HV : Hid (chkV key root q = .tuple #[.agg (kc zk), .bool false, .bool false]) := by show _ = _; unfold chkV chkB; rw [h]; rfl
  clear hk1 hk2 hk3 hk4 hb0 hsz hin hq hK hR h
  go_enter Tryd.func31, Tryd.ntmps31
  go_wp2_with (first
    | (refine load_at rfl 66 (.tmp 3) rfl w.heap.size 0 rfl (prc (.slice A n c) q) _ (HPA.out _ CK0.out).all Tryd.underlying66 rfl HPI.out (prc (.slice A n c) q).toArray rfl ?_)
    | (refine load_at rfl 24 (.tmp 4) rfl (w.heap.size + 1) 0 rfl (u8s key) _ (blk_key CK0.out.kk) Tryd.underlying24 rfl HKI.out (kc key) rfl ?_)
    | (go_at_call 68; refine (CL.out _ CK0.out.bl).mono ?_; rintro e w1 ⟨rfl, hb⟩; have CK1 := hid (CK0.out.below hb); clear hb)
    | (refine build_h0 rfl rfl ?_)
    | (refine wpList_store_row rfl 24 (.tmp 6) (.tmp 14) rfl (w.heap.size + 1 + 1 + 1) (kc zk) rfl rfl 24 Z CK1.out.rs HZI.out HZZ.out (kc_one _) ?_))
  try go_frame
  refine bodyPost_ret (results_three Tryd.results31 _ _ (w.heap.size + 1 + 1 + 1) 24 (kc zk) (0, 0) _ rfl (CK1.out.rs.row _) Tryd.underlying24 rfl HZI.out) rfl ?_
  exact ⟨by rw [HV.out]; rfl, below_setRow CK1.out.bl (by omega) _⟩
set_option maxHeartbeats 4000000 in
theorem check_other {A : Option Addr} {n c : Nat} {q : QP} {key root : List Int} (w : World) (hin : InS w A n q.ss) (hq : q.Ok) (hK : Ky key) (hR : Ky root) (hn : n ≤ 100) (ht : Tab w) (h : leadB key q = true) (hs : ¬ sum (topQ key q) = root) :
    Calls Tryd.prog 31 #[.agg (prc (.slice A n c) q).toArray, .agg (kc key), .agg (kc root)] w fun e w' => e = .returned (chkV key root q) ∧ Below w.heap.size w w' := by
  obtain ⟨Z, HZ, hZ0, hZs⟩ := zero_key
  obtain ⟨hk1, hk2, hk3, hb0⟩ := three_blks w (prc (.slice A n c) q).toArray (kc key) (kc root) 66 24 24
  have hsz : (((w.alloc (.cells (prc (.slice A n c) q).toArray 66)).alloc (.cells (kc key) 24)).alloc (.cells (kc root) 24)).heap.size = w.heap.size + 1 + 1 + 1 := by simp
  have hk4 := Blk.new (((w.alloc (.cells (prc (.slice A n c) q).toArray 66)).alloc (.cells (kc key) 24)).alloc (.cells (kc root) 24)) 24 Z
  rw [hsz] at hk4
  have CK0 : Hid (CkF w (prc (.slice A n c) q).toArray key root Z ((((w.alloc (.cells (prc (.slice A n c) q).toArray 66)).alloc (.cells (kc key) 24)).alloc (.cells (kc root) 24)).alloc (.cells Z 24))) := ⟨hk1.alloc _, hk2.alloc _, hk3.alloc _, hk4, hb0.alloc (by rw [hsz]; omega) _⟩
  have HQ := hid hq
  have HPI := hid (proof_info hq (.slice A n c))
  have HKI := hid (u8s_info hK); have HRI := hid (u8s_info hR)
  have HPA := hid (fun (x : World) (h : CkF w (prc (.slice A n c) q).toArray key root Z x) => h.pr.pr hq)
  have HZI := hid (kc_info zk_ky)
  have HZZ : Hid (Z.size = (kc zk).size) := by show _ = _; rw [HZ.out]
  have CL := hid (fun w1 (hb : Below w.heap.size w w1) => qleads_any (c := c) w1 (hin.below hb) hq hK)
  have CT := hid (fun w1 (hb : Below w.heap.size w w1) => qtexts_any (c := c) w1 (hin.below hb) hq hK hn (ht.below hb))
  have HT := hid ht
  have HQL := hid hin.len
  have HLE := hid (lead_end h)
  have HN := hid hn
  rw [h] at CL
  have HRK := hid hR
  have HV : Hid (chkV key root q = .tuple #[.agg (kc zk), .bool false, .bool false]) := by show _ = _; unfold chkV chkB; rw [h, decide_eq_false hs]; rfl
  have HNE := hid hs
  clear hk1 hk2 hk3 hk4 hb0 hsz hin hq hK hR h hn ht hs
  go_enter Tryd.func31, Tryd.ntmps31
  go_upto_region 4 with (first
    | (refine load_at rfl 66 (.tmp 3) rfl w.heap.size 0 rfl (prc (.slice A n c) q) _ (HPA.out _ CK0.out).all Tryd.underlying66 rfl HPI.out (prc (.slice A n c) q).toArray rfl ?_)
    | (refine load_at rfl 24 (.tmp 4) rfl (w.heap.size + 1) 0 rfl (u8s key) _ (blk_key CK0.out.kk) Tryd.underlying24 rfl HKI.out (kc key) rfl ?_)
    | (go_at_call 68; refine (CL.out _ CK0.out.bl).mono ?_; rintro e w1 ⟨rfl, hb⟩; have CK1 := hid (CK0.out.below hb); clear hb)
    | (refine load_at rfl 66 (.tmp 3) rfl w.heap.size 0 rfl (prc (.slice A n c) q) _ (HPA.out _ CK1.out).all Tryd.underlying66 rfl HPI.out (prc (.slice A n c) q).toArray rfl ?_)
    | (refine load_at rfl 24 (.tmp 4) rfl (w.heap.size + 1) 0 rfl (u8s key) _ (blk_key CK1.out.kk) Tryd.underlying24 rfl HKI.out (kc key) rfl ?_)
    | (go_at_call 34; refine (CT.out _ CK1.out.bl).mono ?_; rintro e w2 ⟨v, rfl, htx, hb⟩; have TX2 := hid htx; have CK2 := hid (CK1.out.below hb); obtain ⟨A1, c1, hv⟩ := htx.len; rw [(txs_last (key := key) HQL.out HLE.out).1] at hv; subst hv; clear hb htx))
  obtain ⟨hlm, g1, B1, d1, rfl, hg1, hc1, hd1, hB1⟩ := TX2.out.at (j := n) (by rw [(txs_last (key := key) HQL.out HLE.out).1]; omega)
  rw [(txs_last (key := key) HQL.out HLE.out).2] at hc1 hd1 hB1
  simp only [Option.getD_some] at hc1 hd1 hB1
  have cl := fun p : PW (Kp w2) => cell_bel p.h hc1
  have CS := hid (fun (w1 : World) (hb : Below w2.heap.size w2 w1) => show Calls Tryd.prog 69 #[.slice B1 (topQ key q).length d1] w1 (fun e w' => e = .returned (.agg (kc (sum (topQ key q)))) ∧ Below w1.heap.size w1 w') from Sum_any B1 d1 (topQ key q) w1 (hB1.1.belowN hb) (topQ_bs HQ.out) (by have := topQ_len (key := key) HQ.out; omega) hd1 (HT.out.below (CK2.out.bl.trans (hb.mono CK2.out.bl.size))))
  have KRp := hid (fun p : PW (Kp w2) => kp_key CK2.out.rt p)
  have hn2 : n < 1000 := by have := HN.out; omega
  obtain ⟨X, hX⟩ : ∃ X, X = topQ key q := ⟨_, rfl⟩
  rw [← hX] at cl CS
  obtain ⟨sx, hsx⟩ : ∃ sx, sx = sum X := ⟨_, rfl⟩
  rw [← hsx] at CS
  have heq := fun w => equal_key 9998 sx root (by rw [hsx]; exact sum_ky _) HRK.out w
  have HSX : Hid (sx = sum (topQ key q)) := by show _ = _; rw [hsx, hX]
  rw [decide_eq_false (by rw [HSX.out]; exact HNE.out)] at heq
  clear hlm hg1 hc1 hd1 hB1 hX hsx TX2
  refine region_kept (Kp w2) (by kernel_rfl) (by kernel_rfl) (kp_begin w2) ?_
  repeat (first
    | go_big_quiet_skip
    | (go_big_quiet_want; refine quiet_load 24 (.tmp 5) rfl (w.heap.size + 1 + 1) 0 rfl (u8s root) _ (fun p => KRp.out p) Tryd.underlying24 rfl HRI.out (kc root) rfl ?_; go_big_quiet_on; simp only [Act.put, List.setIfInBounds_toArray, List.set_cons_zero, List.set_cons_succ])
    | (go_big_quiet_want; go_big_quiet_op; first | go_big_quiet_on | go_big_quiet_call (first
      | (go_at_call 69; with_reducible exact kp_call (CS.out _ (PW.h _))))))
  refine wpQuiet_nil ?_
  intro _ hw'
  obtain ⟨p, hw''⟩ := hw'
  subst hw''
  clear cl heq
  have CK3 := hid (CK2.out.below p.h)
  generalize p.w = w3 at CK3 ⊢
  go_wp2_with (first
    | (refine build_h0 rfl rfl ?_)
    | (refine wpList_store_row rfl 24 (.tmp 6) (.tmp 27) rfl (w.heap.size + 1 + 1 + 1) (kc zk) rfl rfl 24 Z CK3.out.rs HZI.out HZZ.out (kc_one _) ?_))
  try go_frame
  refine bodyPost_ret (results_three Tryd.results31 _ _ (w.heap.size + 1 + 1 + 1) 24 (kc zk) (0, 0) _ rfl (CK3.out.rs.row _) Tryd.underlying24 rfl HZI.out) rfl ?_
  exact ⟨by rw [HV.out]; rfl, below_setRow CK3.out.bl (by omega) _⟩
set_option maxHeartbeats 4000000 in
theorem check_yes {A : Option Addr} {n c : Nat} {q : QP} {key root : List Int} (w : World) (hin : InS w A n q.ss) (hq : q.Ok) (hK : Ky key) (hR : Ky root) (hn : n ≤ 100) (ht : Tab w) (h : leadB key q = true) (hs : sum (topQ key q) = root) :
    Calls Tryd.prog 31 #[.agg (prc (.slice A n c) q).toArray, .agg (kc key), .agg (kc root)] w fun e w' => e = .returned (chkV key root q) ∧ Below w.heap.size w w' := by
  obtain ⟨Z, HZ, hZ0, hZs⟩ := zero_key
  obtain ⟨hk1, hk2, hk3, hb0⟩ := three_blks w (prc (.slice A n c) q).toArray (kc key) (kc root) 66 24 24
  have hsz : (((w.alloc (.cells (prc (.slice A n c) q).toArray 66)).alloc (.cells (kc key) 24)).alloc (.cells (kc root) 24)).heap.size = w.heap.size + 1 + 1 + 1 := by simp
  have hk4 := Blk.new (((w.alloc (.cells (prc (.slice A n c) q).toArray 66)).alloc (.cells (kc key) 24)).alloc (.cells (kc root) 24)) 24 Z
  rw [hsz] at hk4
  have CK0 : Hid (CkF w (prc (.slice A n c) q).toArray key root Z ((((w.alloc (.cells (prc (.slice A n c) q).toArray 66)).alloc (.cells (kc key) 24)).alloc (.cells (kc root) 24)).alloc (.cells Z 24))) := ⟨hk1.alloc _, hk2.alloc _, hk3.alloc _, hk4, hb0.alloc (by rw [hsz]; omega) _⟩
  have HQ := hid hq
  have HPI := hid (proof_info hq (.slice A n c))
  have HKI := hid (u8s_info hK); have HRI := hid (u8s_info hR)
  have HPA := hid (fun (x : World) (h : CkF w (prc (.slice A n c) q).toArray key root Z x) => h.pr.pr hq)
  have HZI := hid (kc_info zk_ky)
  have HZZ : Hid (Z.size = (kc zk).size) := by show _ = _; rw [HZ.out]
  have CL := hid (fun w1 (hb : Below w.heap.size w w1) => qleads_any (c := c) w1 (hin.below hb) hq hK)
  have CT := hid (fun w1 (hb : Below w.heap.size w w1) => qtexts_any (c := c) w1 (hin.below hb) hq hK hn (ht.below hb))
  have HT := hid ht
  have HQL := hid hin.len
  have HLE := hid (lead_end h)
  have HN := hid hn
  rw [h] at CL
  have HRK := hid hR; have HKK := hid hK
  have HEQ := hid hs
  have HVI := hid (kc_info hq.v); have HVL := hid (u8s_info hq.v); have HkL := hid (u8s_info hq.k)
  have HVZ : Hid (Z.size = (kc q.v).size) := by show _ = _; rw [HZ.out, kc_size zk_ky, kc_size hq.v]
  have HCV : Hid (chkV key root q = .tuple #[.agg (kc ((shwO key q).getD zk)), .bool (shwO key q).isSome, .bool true]) := by show _ = _; unfold chkV chkB; rw [h, decide_eq_true hs]; rfl
  clear hk1 hk2 hk3 hk4 hb0 hsz hin hq hK hR h hn ht hs
  go_enter Tryd.func31, Tryd.ntmps31
  go_upto_region 4 with (first
    | (refine load_at rfl 66 (.tmp 3) rfl w.heap.size 0 rfl (prc (.slice A n c) q) _ (HPA.out _ CK0.out).all Tryd.underlying66 rfl HPI.out (prc (.slice A n c) q).toArray rfl ?_)
    | (refine load_at rfl 24 (.tmp 4) rfl (w.heap.size + 1) 0 rfl (u8s key) _ (blk_key CK0.out.kk) Tryd.underlying24 rfl HKI.out (kc key) rfl ?_)
    | (go_at_call 68; refine (CL.out _ CK0.out.bl).mono ?_; rintro e w1 ⟨rfl, hb⟩; have CK1 := hid (CK0.out.below hb); clear hb)
    | (refine load_at rfl 66 (.tmp 3) rfl w.heap.size 0 rfl (prc (.slice A n c) q) _ (HPA.out _ CK1.out).all Tryd.underlying66 rfl HPI.out (prc (.slice A n c) q).toArray rfl ?_)
    | (refine load_at rfl 24 (.tmp 4) rfl (w.heap.size + 1) 0 rfl (u8s key) _ (blk_key CK1.out.kk) Tryd.underlying24 rfl HKI.out (kc key) rfl ?_)
    | (go_at_call 34; refine (CT.out _ CK1.out.bl).mono ?_; rintro e w2 ⟨v, rfl, htx, hb⟩; have TX2 := hid htx; have CK2 := hid (CK1.out.below hb); obtain ⟨A1, c1, hv⟩ := htx.len; rw [(txs_last (key := key) HQL.out HLE.out).1] at hv; subst hv; clear hb htx))
  obtain ⟨hlm, g1, B1, d1, rfl, hg1, hc1, hd1, hB1⟩ := TX2.out.at (j := n) (by rw [(txs_last (key := key) HQL.out HLE.out).1]; omega)
  rw [(txs_last (key := key) HQL.out HLE.out).2] at hc1 hd1 hB1
  simp only [Option.getD_some] at hc1 hd1 hB1
  have cl := fun p : PW (Kp w2) => cell_bel p.h hc1
  have CS := hid (fun (w1 : World) (hb : Below w2.heap.size w2 w1) => show Calls Tryd.prog 69 #[.slice B1 (topQ key q).length d1] w1 (fun e w' => e = .returned (.agg (kc (sum (topQ key q)))) ∧ Below w1.heap.size w1 w') from Sum_any B1 d1 (topQ key q) w1 (hB1.1.belowN hb) (topQ_bs HQ.out) (by have := topQ_len (key := key) HQ.out; omega) hd1 (HT.out.below (CK2.out.bl.trans (hb.mono CK2.out.bl.size))))
  have KRp := hid (fun p : PW (Kp w2) => kp_key CK2.out.rt p)
  have hn2 : n < 1000 := by have := HN.out; omega
  obtain ⟨X, hX⟩ : ∃ X, X = topQ key q := ⟨_, rfl⟩
  rw [← hX] at cl CS
  obtain ⟨sx, hsx⟩ : ∃ sx, sx = sum X := ⟨_, rfl⟩
  rw [← hsx] at CS
  have heq := fun w => equal_key 9998 sx root (by rw [hsx]; exact sum_ky _) HRK.out w
  have HSX : Hid (sx = sum (topQ key q)) := by show _ = _; rw [hsx, hX]
  rw [decide_eq_true (by rw [HSX.out]; exact HEQ.out)] at heq
  clear hlm hg1 hc1 hd1 hB1 hX hsx TX2
  refine region_kept (Kp w2) (by kernel_rfl) (by kernel_rfl) (kp_begin w2) ?_
  repeat (first
    | go_big_quiet_skip
    | (go_big_quiet_want; refine quiet_load 24 (.tmp 5) rfl (w.heap.size + 1 + 1) 0 rfl (u8s root) _ (fun p => KRp.out p) Tryd.underlying24 rfl HRI.out (kc root) rfl ?_; go_big_quiet_on; simp only [Act.put, List.setIfInBounds_toArray, List.set_cons_zero, List.set_cons_succ])
    | (go_big_quiet_want; go_big_quiet_op; first | go_big_quiet_on | go_big_quiet_call (first
      | (go_at_call 69; with_reducible exact kp_call (CS.out _ (PW.h _))))))
  refine wpQuiet_nil ?_
  intro _ hw'
  obtain ⟨p, hw''⟩ := hw'
  subst hw''
  clear cl heq
  have CK3 := hid (CK2.out.below p.h)
  generalize p.w = w3 at CK3 ⊢
  have PA3 := hid (HPA.out _ CK3.out)
  obtain ⟨ev, hev⟩ : ∃ ev, ev = q.e := ⟨_, rfl⟩
  have c1 : w3.cell? ⟨w.heap.size, 1, none⟩ = some (.int .i64 ev) := by rw [hev]; exact PA3.out.«end»
  by_cases h1 : ev = 1
  · by_cases h2 : q.k = key
    · have HV : Hid (chkV key root q = .tuple #[.agg (kc q.v), .bool true, .bool true]) := by show _ = _; rw [HCV.out, show shwO key q = some q.v from if_pos ⟨hev ▸ h1, h2⟩]; rfl
      have heq2 := fun w => equal_key 9998 q.k key HQ.out.k HKK.out w
      rw [decide_eq_true h2] at heq2
      subst h1
      clear hev h2
      go_wp2_with (first
        | (refine load_at rfl 24 (.tmp 32) rfl w.heap.size 2 rfl (u8s q.k) _ PA3.out.key Tryd.underlying24 rfl HkL.out (kc q.k) rfl ?_)
        | (refine load_at rfl 24 (.tmp 4) rfl (w.heap.size + 1) 0 rfl (u8s key) _ (blk_key CK3.out.kk) Tryd.underlying24 rfl HKI.out (kc key) rfl ?_)
        | (refine load_at rfl 24 (.tmp 38) rfl w.heap.size 34 rfl (u8s q.v) _ PA3.out.val Tryd.underlying24 rfl HVL.out (kc q.v) rfl ?_)
        | (refine wpList_store_row rfl 24 (.tmp 6) (.tmp 39) rfl (w.heap.size + 1 + 1 + 1) (kc q.v) rfl rfl 24 Z CK3.out.rs HVI.out HVZ.out (kc_one _) ?_))
      try go_frame
      refine bodyPost_ret (results_three Tryd.results31 _ _ (w.heap.size + 1 + 1 + 1) 24 (kc q.v) (0, 0) _ rfl (CK3.out.rs.row _) Tryd.underlying24 rfl HVI.out) rfl ?_
      exact ⟨by rw [HV.out]; rfl, below_setRow CK3.out.bl (by omega) _⟩
    · have HV : Hid (chkV key root q = .tuple #[.agg (kc zk), .bool false, .bool true]) := by show _ = _; rw [HCV.out, show shwO key q = none from if_neg (fun h => h2 h.2)]; rfl
      have heq2 := fun w => equal_key 9998 q.k key HQ.out.k HKK.out w
      rw [decide_eq_false h2] at heq2
      subst h1
      clear hev h2
      go_wp2_with (first
        | (refine load_at rfl 24 (.tmp 32) rfl w.heap.size 2 rfl (u8s q.k) _ PA3.out.key Tryd.underlying24 rfl HkL.out (kc q.k) rfl ?_)
        | (refine load_at rfl 24 (.tmp 4) rfl (w.heap.size + 1) 0 rfl (u8s key) _ (blk_key CK3.out.kk) Tryd.underlying24 rfl HKI.out (kc key) rfl ?_)
        | (refine build_h0 rfl rfl ?_)
        | (refine wpList_store_row rfl 24 (.tmp 6) (.tmp 37) rfl (w.heap.size + 1 + 1 + 1) (kc zk) rfl rfl 24 Z CK3.out.rs HZI.out HZZ.out (kc_one _) ?_))
      try go_frame
      refine bodyPost_ret (results_three Tryd.results31 _ _ (w.heap.size + 1 + 1 + 1) 24 (kc zk) (0, 0) _ rfl (CK3.out.rs.row _) Tryd.underlying24 rfl HZI.out) rfl ?_
      exact ⟨by rw [HV.out]; rfl, below_setRow CK3.out.bl (by omega) _⟩
  · have HV : Hid (chkV key root q = .tuple #[.agg (kc zk), .bool false, .bool true]) := by show _ = _; rw [HCV.out, show shwO key q = none from if_neg (fun h => h1 (hev ▸ h.1))]; rfl
    clear hev
    go_wp2_with (first
      | (refine build_h0 rfl rfl ?_)
      | (refine wpList_store_row rfl 24 (.tmp 6) (.tmp 37) rfl (w.heap.size + 1 + 1 + 1) (kc zk) rfl rfl 24 Z CK3.out.rs HZI.out HZZ.out (kc_one _) ?_))
    try go_frame
    refine bodyPost_ret (results_three Tryd.results31 _ _ (w.heap.size + 1 + 1 + 1) 24 (kc zk) (0, 0) _ rfl (CK3.out.rs.row _) Tryd.underlying24 rfl HZI.out) rfl ?_
    exact ⟨by rw [HV.out]; rfl, below_setRow CK3.out.bl (by omega) _⟩
theorem qCheck_any {A : Option Addr} {n c : Nat} {q : QP} {key root : List Int} (w : World) (hin : InS w A n q.ss) (hq : q.Ok) (hK : Ky key) (hR : Ky root) (hn : n ≤ 100) (ht : Tab w) :
    Calls Tryd.prog 31 #[.agg (prc (.slice A n c) q).toArray, .agg (kc key), .agg (kc root)] w fun e w' => e = .returned (chkV key root q) ∧ Below w.heap.size w w' := by
  cases h : leadB key q with
  | false => exact check_no w hin hq hK hR h
  | true =>
    by_cases hs : sum (topQ key q) = root
    · exact check_yes w hin hq hK hR hn ht h hs
    · exact check_other w hin hq hK hR hn ht h hs
end Go.Proofs.YtbhgchbacadgaaaDoor
/-
  What is proved here: a proof as the program has it, and as the reference has it.
-/
namespace Go.Proofs.YtbhgchbacadgaaaDoor
open Go.ChangeShapes Go.WideShapes Go.ChangeAt Go.RowKit
set_option linter.unusedVariables false
set_option linter.unusedSimpArgs false
set_option maxRecDepth 20000

section
variable {V : Value} {q : QP}
theorem pu_1 (x : Int) : putRow (prc V q).toArray 1 [.int .i64 x] = (prc V { q with e := x }).toArray :=
  putRow_mid (A := [V]) (M := [.int .i64 q.e]) rfl rfl
theorem pu_2 {x : List Int} (hq : Ky q.k) (hx : Ky x) : putRow (prc V q).toArray 2 (u8s x) = (prc V { q with k := x }).toArray :=
  putRow_mid (A := [V, .int .i64 q.e]) (M := u8s q.k) rfl (by rw [u8s_length, u8s_length, hq.len, hx.len])
theorem pu_3 {x : List Int} (h1 : Ky q.k) (hq : Ky q.v) (hx : Ky x) : putRow (prc V q).toArray 34 (u8s x) = (prc V { q with v := x }).toArray :=
  putRow_mid (A := V :: .int .i64 q.e :: u8s q.k) (M := u8s q.v) (by rw [List.length_cons, List.length_cons, u8s_length, h1.len]) (by rw [u8s_length, u8s_length, hq.len, hx.len])
theorem pu_4 {n : Int} {x : List Int} (h1 : Ky q.k) (h2 : Ky q.v) (hq : Ky q.b) (hx : Ky x) : putRow (prc V q).toArray 66 (.int .i64 n :: u8s x) = (prc V { q with n := n, b := x }).toArray := by
  have := putRow_mid (A := V :: .int .i64 q.e :: (u8s q.k ++ u8s q.v)) (M := .int .i64 q.n :: u8s q.b) (M' := .int .i64 n :: u8s x) (C := u8s q.l ++ u8s q.r) (o := 66) (by simp [u8s_length, h1.len, h2.len]) (by simp [u8s_length, hq.len, hx.len])
  simpa only [prc, List.cons_append, List.append_assoc] using this
theorem pu_5 {x : List Int} (h1 : Ky q.k) (h2 : Ky q.v) (h3 : Ky q.b) (hq : Ky q.l) (hx : Ky x) : putRow (prc V q).toArray 99 (u8s x) = (prc V { q with l := x }).toArray := by
  have := putRow_mid (A := V :: .int .i64 q.e :: (u8s q.k ++ (u8s q.v ++ (.int .i64 q.n :: u8s q.b)))) (M := u8s q.l) (M' := u8s x) (C := u8s q.r) (o := 99) (by simp [u8s_length, h1.len, h2.len, h3.len]) (by simp [u8s_length, hq.len, hx.len])
  simpa only [prc, List.cons_append, List.append_assoc] using this
theorem pu_6 {x : List Int} (h1 : Ky q.k) (h2 : Ky q.v) (h3 : Ky q.b) (h4 : Ky q.l) (hq : Ky q.r) (hx : Ky x) : putRow (prc V q).toArray 131 (u8s x) = (prc V { q with r := x }).toArray := by
  have := putRow_mid (A := V :: .int .i64 q.e :: (u8s q.k ++ (u8s q.v ++ ((.int .i64 q.n :: u8s q.b) ++ u8s q.l)))) (M := u8s q.r) (M' := u8s x) (C := []) (o := 131) (by simp [u8s_length, h1.len, h2.len, h3.len, h4.len]) (by simp [u8s_length, hq.len, hx.len])
  simpa only [prc, List.cons_append, List.append_assoc, List.append_nil] using this
end
/-- the zero proof -/
def qZ : QP := ⟨[], 0, z32, z32, 0, z32, z32, z32⟩
theorem qZ_ok : qZ.Ok := ⟨fun s hs => by simp [qZ] at hs, ky_zero, ky_zero, ky_zero, ky_zero, ky_zero⟩
def nilV : Value := .slice none 0 0
structure PrTy (t : TypeId) : Prop where
  i : (Tryd.prog.info? t).map (fun i => (i.zero, i.size, i.bytes)) = some (some (.agg (prc nilV qZ).toArray), 163, 200)
  p : ∃ fields, Tryd.prog.underlying t = some (.struct fields) ∧ fields.toList.mapM (fun f => (Tryd.prog.info? f.type).map fun i => (f.offset, i.size)) = some [(0, 1), (1, 1), (2, 32), (34, 32), (66, 33), (99, 32), (131, 32)]
theorem prTy_q : PrTy 66 := ⟨by kernel_rfl, _, Tryd.underlying66, by kernel_rfl⟩
theorem prTy_z : PrTy 72 := ⟨by kernel_rfl, _, Tryd.underlying72, by kernel_rfl⟩
theorem zproof_info {q : QP} (h : q.Ok) (V : Value) : (Tryd.prog.info? 72).map (·.size) = some (prc V q).length := by rw [h.len]; kernel_rfl
theorem pr_built {t : TypeId} (ht : PrTy t) {q : QP} (h : q.Ok) : Tryd.prog.built t [(1, .int .i64 q.e), (2, .agg (kc q.k)), (3, .agg (kc q.v)), (4, .agg (pc q.n q.b)), (5, .agg (kc q.l)), (6, .agg (kc q.r))] = some (prc nilV q).toArray := by
  obtain ⟨i0, hi, hz0, hz1, hz2⟩ := info_parts ht.i
  obtain ⟨fields, hu, hpl⟩ := ht.p
  unfold Program.built
  rw [hi, hu]
  simp only [hz0, hpl]
  have e3 : (Value.agg (prc nilV qZ).toArray).cells = (prc nilV qZ).toArray := rfl
  have sz : (prc nilV qZ).toArray.size = 163 := rfl
  rw [e3, fill_step (v := .int .i64 q.e) (off := 1) (size := 1) rfl rfl (by simp only [putRow_len, sz]; decide), fill_step (v := .agg (kc q.k)) (off := 2) (size := 32) rfl (kc_size h.k) (by simp only [putRow_len, sz]; decide), fill_step (v := .agg (kc q.v)) (off := 34) (size := 32) rfl (kc_size h.v) (by simp only [putRow_len, sz]; decide), fill_step (v := .agg (pc q.n q.b)) (off := 66) (size := 33) rfl (pc_size q.n h.b) (by simp only [putRow_len, sz]; decide), fill_step (v := .agg (kc q.l)) (off := 99) (size := 32) rfl (kc_size h.l) (by simp only [putRow_len, sz]; decide), fill_step (v := .agg (kc q.r)) (off := 131) (size := 32) rfl (kc_size h.r) (by simp only [putRow_len, sz]; decide), fill_end]
  have c0 : (Value.int .i64 q.e).cells.toList = [.int .i64 q.e] := rfl
  have c1 : ∀ x, (Value.agg (kc x)).cells.toList = u8s x := fun _ => rfl
  have c2 : (Value.agg (pc q.n q.b)).cells.toList = .int .i64 q.n :: u8s q.b := rfl
  rw [c0, c1, c1, c1, c1, c2, pu_1, pu_2 (q := { qZ with e := q.e }) ky_zero h.k, pu_3 (q := { qZ with e := q.e, k := q.k }) h.k ky_zero h.v, pu_4 (q := { qZ with e := q.e, k := q.k, v := q.v }) h.k h.v ky_zero h.b, pu_5 (q := { qZ with e := q.e, k := q.k, v := q.v, n := q.n, b := q.b }) h.k h.v h.b ky_zero h.l, pu_6 (q := { qZ with e := q.e, k := q.k, v := q.v, n := q.n, b := q.b, l := q.l }) h.k h.v h.b h.l ky_zero h.r]
  rfl
theorem pr_built1 {t : TypeId} (ht : PrTy t) (e : Int) : Tryd.prog.built t [(1, .int .i64 e)] = some (prc nilV { qZ with e := e }).toArray := by
  obtain ⟨i0, hi, hz0, hz1, hz2⟩ := info_parts ht.i
  obtain ⟨fields, hu, hpl⟩ := ht.p
  unfold Program.built
  rw [hi, hu]
  simp only [hz0, hpl]
  have e3 : (Value.agg (prc nilV qZ).toArray).cells = (prc nilV qZ).toArray := rfl
  have sz : (prc nilV qZ).toArray.size = 163 := rfl
  rw [e3, fill_step (v := .int .i64 e) (off := 1) (size := 1) rfl rfl (by simp only [putRow_len, sz]; decide), fill_end]
  have c0 : (Value.int .i64 e).cells.toList = [.int .i64 e] := rfl
  rw [c0, pu_1]
theorem qZe_ok (e : Int) : ({ qZ with e := e } : QP).Ok := ⟨fun s hs => by simp [qZ] at hs, ky_zero, ky_zero, ky_zero, ky_zero, ky_zero⟩
theorem pr_one {A : Option Addr} {n c : Nat} {q : QP} : ((prc (.slice A n c) q).toArray.all (·.oneCell') = true) := by
  rw [Array.all_eq_true']
  intro v hv
  exact prc_one A n c q v (by simpa using hv)
theorem proof_info2 {q : QP} (h : q.Ok) (V : Value) : (Tryd.prog.info? 66).map (·.size) = some (prc V q).toArray.size := by rw [List.size_toArray, h.len]; kernel_rfl
theorem zproof_info2 {q : QP} (h : q.Ok) (V : Value) : (Tryd.prog.info? 72).map (·.size) = some (prc V q).toArray.size := by rw [List.size_toArray, h.len]; kernel_rfl
theorem zero_zproof : ∃ Z : Array Value, Hid (Z = (prc nilV qZ).toArray) ∧ (¬ Z = #[]) ∧ ∀ w : World, Sem.run Tryd.prog (zeroValue 72) w = Result.ok (.agg Z) w := by
  refine ⟨(prc nilV qZ).toArray, rfl, fun h => ?_, fun w => by kernel_rfl⟩
  have := congrArg Array.size h
  rw [List.size_toArray, qZ_ok.len] at this
  exact absurd this (by decide)
theorem zero_qproof : ∃ Z : Array Value, Hid (Z = (prc nilV qZ).toArray) ∧ (¬ Z = #[]) ∧ ∀ w : World, Sem.run Tryd.prog (zeroValue 66) w = Result.ok (.agg Z) w := by
  refine ⟨(prc nilV qZ).toArray, rfl, fun h => ?_, fun w => by kernel_rfl⟩
  have := congrArg Array.size h
  rw [List.size_toArray, qZ_ok.len] at this
  exact absurd this (by decide)
/-- a proof that is told: its steps in memory -/
def PrA (w : World) (q : QP) (e : Ending) (w' : World) : Prop := ∃ A c, e = .returned (.agg (prc (.slice A q.ss.length c) q).toArray) ∧ InS w' A q.ss.length q.ss ∧ Below w.heap.size w w'
/-- what stands while steps are copied -/
structure CpF (w : World) (tI tO tE : TypeId) (P : Array Value) (q : QP) (g3 : Nat) (Z : Array Value) (v : Value) (S : List QS) (x : World) : Prop where
  ar : Blk x w.heap.size tI P
  rs : Blk x (w.heap.size + 1) tO Z
  bx : Blk x g3 tO (prc v q).toArray
  st : OwS w.heap.size tE x v S
  bl : Below w.heap.size w x
section
variable {w x y : World} {tI tO tE : TypeId} {P Z : Array Value} {q : QP} {g3 : Nat} {v : Value} {S : List QS}
theorem CpF.below (h : CpF w tI tO tE P q g3 Z v S x) (hb : Below x.heap.size x y) : CpF w tI tO tE P q g3 Z v S y := ⟨h.ar.below hb, h.rs.below hb, h.bx.below hb, h.st.below hb, h.bl.trans (hb.mono h.bl.size)⟩
theorem CpF.push {v' : Value} {s : QS} (h : CpF w tI tO tE P q g3 Z v S x) (hd : tO ≠ tE ∧ tI ≠ tE ∧ tI ≠ tO) (hg : w.heap.size + 1 < g3) (ht : OwS w.heap.size tE y v' (S ++ [s])) (hb : But v x y) : Blk y g3 tO (prc v q).toArray ∧ CpF w tI tO tE P q g3 Z v' (S ++ [s]) (y.setCell ⟨g3, 0, none⟩ v') := by
  have ne : ∀ {k t cs}, Blk x k t cs → t ≠ tE → v.ownBlock ≠ some k := fun hk ht e => by
    obtain ⟨_, C, h2⟩ := h.st.ty _ e
    exact hk.ne h2 ht rfl
  have kb := hb.blk h.bx (ne h.bx hd.1)
  refine ⟨kb, (hb.blk h.ar (ne h.ar hd.2.1)).far (show w.heap.size ≠ g3 by omega) _, (hb.blk h.rs (ne h.rs hd.1)).far (show w.heap.size + 1 ≠ g3 by omega) _, kb.setd 0 v', ht.keep (fun k hk => Below.heap_setCell y _ _ k (fun e => ?_)), ?_⟩
  · have e' : k = g3 := e
    obtain ⟨_, C, h2⟩ := ht.ty k hk
    rw [e'] at h2
    exact kb.ne h2 hd.1 rfl
  · exact (h.bl.trans (hb.bel h.bl.size (fun k hk => (h.st.ty k hk).1))).setCell (p := ⟨g3, 0, none⟩) (by show _ ≤ g3; omega) _
end
/-- what stands whatever is appended -/
structure CpS (w : World) (tI : TypeId) (P : Array Value) (x : World) : Prop where
  ar : Blk x w.heap.size tI P
  bl : Below w.heap.size w x
theorem CpS.below {w x y : World} {tI : TypeId} {P : Array Value} (h : CpS w tI P x) (hb : Below x.heap.size x y) : CpS w tI P y := ⟨h.ar.below hb, h.bl.trans (hb.mono h.bl.size)⟩
set_option maxHeartbeats 8000000 in
theorem qFrom_any {A : Option Addr} {n c : Nat} {q0 : QP} (w : World) (hin : InS w A n q0.ss) (hq : q0.Ok) (hn : n ≤ 500) : Calls Tryd.prog 32 #[.agg (prc (.slice A n c) q0).toArray] w (PrA w q0) := by
  obtain ⟨Z, HZ, hZ0, hZs⟩ := zero_qproof
  obtain ⟨hp1, _, _⟩ := two_blks w (prc (.slice A n c) q0).toArray Z 72 66
  obtain ⟨hk1, hk2, hk3, hb0⟩ := three_blks w (prc (.slice A n c) q0).toArray Z Z 72 66 66
  have PA := hid (hp1.pr hq)
  have c1 := PA.out.«end»
  have HIN := hid hin; have HQ := hid hq; have HN := hid hn
  have HQL : Hid (q0.ss.length = n) := hin.len
  have HkI := hid (u8s_info hq.k); have HvI := hid (u8s_info hq.v); have HlI := hid (u8s_info hq.l); have HrI := hid (u8s_info hq.r); have HpI := hid (pcl_info q0.n hq.b)
  have HBT := pr_built prTy_q hq
  have HI2 := hid (proof_info2 hq nilV)
  have HZS : Hid (Z.size = (prc nilV q0).toArray.size) := by show _ = _; rw [HZ.out, List.size_toArray, List.size_toArray, qZ_ok.len, hq.len]
  have K1 := hid hk1; have K2 := hid hk2; have K3 := hid hk3; have B0 := hid hb0
  clear hp1 hk1 hk2 hk3 hb0 hin hq hn
  unfold PrA
  rw [HQL.out]
  generalize he : q0.e = ev at c1 HBT
  go_enter Tryd.func32, Tryd.ntmps32
  go_wp2_with (first
    | (refine load_at rfl 24 (.tmp 7) rfl w.heap.size 2 rfl (u8s q0.k) _ PA.out.key Tryd.underlying24 rfl HkI.out (kc q0.k) rfl ?_)
    | (refine load_at rfl 24 (.tmp 9) rfl w.heap.size 34 rfl (u8s q0.v) _ PA.out.val Tryd.underlying24 rfl HvI.out (kc q0.v) rfl ?_)
    | (refine load_at rfl 55 (.tmp 11) rfl w.heap.size 66 rfl (.int .i64 q0.n :: u8s q0.b) _ PA.out.pre Tryd.underlying55 rfl HpI.out (pc q0.n q0.b) rfl ?_)
    | (refine load_at rfl 24 (.tmp 13) rfl w.heap.size 99 rfl (u8s q0.l) _ PA.out.left Tryd.underlying24 rfl HlI.out (kc q0.l) rfl ?_)
    | (refine load_at rfl 24 (.tmp 15) rfl w.heap.size 131 rfl (u8s q0.r) _ PA.out.right Tryd.underlying24 rfl HrI.out (kc q0.r) rfl ?_)
    | (refine wpList_buildC rfl 66 _ rfl (prc nilV q0).toArray ?hc ?_; case hc => (simp only [List.map_toArray, List.map_cons, List.map_nil, Act.eval]; exact HBT))
    | (refine wpList_store_row rfl 66 (.tmp 3) (.tmp 17) rfl (w.heap.size + 1 + 1) (prc nilV q0).toArray rfl rfl 66 Z K3.out HI2.out HZS.out pr_one ?_))
  generalize ((w.alloc (.cells (prc (.slice A n c) q0).toArray 72)).alloc (.cells Z 66)).alloc (.cells Z 66) = w0 at K1 K2 K3 B0 ⊢
  have KX : Hid (CpF w 72 66 129 (prc (.slice A n c) q0).toArray q0 (w.heap.size + 1 + 1) Z nilV (q0.ss.take 0) (w0.setRow (w.heap.size + 1 + 1) (prc nilV q0).toArray)) :=
    ⟨K1.out.rowFar (by omega) _, K2.out.rowFar (by omega) _, K3.out.row _, OwS.nil _ _ _, below_setRow B0.out (by omega) _⟩
  have HG3 : Hid (w.heap.size + 1 < w.heap.size + 1 + 1) := by show _ < _; omega
  clear K1 K2 K3 B0 PA c1 HBT HI2 HZS HkI HvI HlI HrI HpI he
  generalize w0.setRow (w.heap.size + 1 + 1) (prc nilV q0).toArray = w1 at KX ⊢
  generalize w.heap.size + 1 + 1 = g3 at KX HG3 ⊢
  go_loopw [4] (fun i wr => ∃ k A2 c2, k ≤ n ∧ i = .int .i64 (k : Nat) ∧ Hid (CpF w 72 66 129 (prc (.slice A n c) q0).toArray q0 g3 Z (.slice A2 k c2) (q0.ss.take k) wr)) (fun i _ => n - (intOf i).toNat)
  case atStart => exact ⟨0, none, 0, Nat.zero_le _, rfl, KX⟩
  case round =>
    obtain ⟨k, A2, c2, hk, rfl, TX⟩ := hrel
    have c0 : wr.cell? ⟨w.heap.size, 0, none⟩ = some (.slice A n c) := TX.out.ar.cell 0
    have hmax := HIN.out.max
    by_cases hkn : k < n
    · have hlt : ((k : Int) < (n : Int)) := by omega
      obtain ⟨b, oo, s, rfl, hs, hok, hrng⟩ := HIN.out.at hkn
      have HAT := hid hrng; have HSK := hid hs; have SOK := hid hok
      have HSI := hid (zstep_info hok)
      have HK1 : Hid ((q0.ss.take k).length ≤ 1000) := by have := HN.out; rw [List.length_take, HQL.out]; show _ ≤ _; omega
      have HKN : Hid (k ≤ n) := hk
      clear hs hok hrng
      go_upto_region 5 with (fail)
      clear c0 hlt
      have GX0 : Hid (CpS w 72 (prc (.slice (some ⟨b, oo, none⟩) n c) q0).toArray wr) := ⟨TX.out.ar, TX.out.bl⟩
      refine wp_region_held (S := fun w' => Hid (CpS w 72 (prc (.slice (some ⟨b, oo, none⟩) n c) q0).toArray w')) (by kernel_rfl) ?_
      change wpAnyH _ _ _ _ _ _ _ _ wr.drew
      have Gx0 : Hid (CpS w 72 (prc (.slice (some ⟨b, oo, none⟩) n c) q0).toArray wr.drew) := ⟨GX0.out.ar.below (Below.refl _ _).drew, GX0.out.bl.trans ((Below.refl wr.heap.size wr).drew.mono GX0.out.bl.size)⟩
      have TX' : Hid (CpF w 72 66 129 (prc (.slice (some ⟨b, oo, none⟩) n c) q0).toArray q0 g3 Z (.slice A2 k c2) (q0.ss.take k) wr.drew) := TX.out.below (Below.refl _ _).drew
      clear TX
      have TX := TX'
      clear TX'
      generalize wr.drew = x0 at Gx0 TX ⊢
      have TXx0 := TX
      clear TX
      refine tk 0 (some 25) ?_
      refine tk 2 (some 27) ?_
      refine tk 3 (some 28) ?_ (hy := by intro w hSw; have c5 := hSw.out.ar.cell 0; rw [show (prc (.slice (some ⟨b, oo, none⟩) n c) q0).toArray[0]? = some (.slice (some ⟨b, oo, none⟩) n c) from rfl] at c5; go_simp; try with_reducible rfl)
      refine tk 4 (some 29) ?_
      refine tk 5 (some 30) ?_
      refine tkv 6 (some 31) (.agg ((stc s).toArray)) rfl (yieldsIf_load_mid (cs := stc s) (by rfl) _ _ rfl _ _ rfl _ (fun w' hSw => rng_bel hSw.out.bl HAT.out) Tryd.underlying130 rfl HSI.out) ?_
      refine wpAnyH_ready (rs := [1, 7]) (by kernel_rfl) (by simp) ?_
      refine (AllReadyH.cons (o := { dst := some 26, op := _, type := _, pos := _, after := _, guard := _ }) rfl (fun Qc hQc => ?_) (AllReadyH.cons (o := { dst := some 32, op := _, type := _, pos := _, after := _, guard := _ }) rfl (fun Qc hQc => ?_) AllReadyH.nil))
      ·
        have c0 : x0.cell? ⟨g3, 0, none⟩ = some (.slice A2 k c2) := TXx0.out.bx.cell 0
        go_simp
        refine hQc.out _ _ Gx0 (fun hHeld => ?_)
        clear hQc Qc c0
        try simp only [Act.put, List.setIfInBounds_toArray, List.set_cons_zero, List.set_cons_succ]
        refine rd1 7 (some 32) (fun Qc hQc => ?_)
        rw [if_pos (by rfl)]
        refine wp_step_one stTy_q (.tmp 31) rfl s SOK.out rfl ?_
        have NB : Hid (Blk (x0.alloc (.cells (stc s).toArray 129)) x0.heap.size 129 (stc s).toArray) := Blk.new x0 129 (stc s).toArray
        have hb : Below x0.heap.size x0 (x0.alloc (.cells (stc s).toArray 129)) := (Below.refl _ _).alloc (Nat.le_refl _) _
        have TXx1 := hid (TXx0.out.below hb)
        have Gx1 := hid (Gx0.out.below hb)
        clear hb
        refine hQc.out _ _ Gx1 (fun hHeld => ?_)
        clear hQc Qc hHeld
        generalize x0.heap.size = g5 at NB ⊢
        generalize x0.alloc (.cells (stc s).toArray 129) = x1 at NB TXx1 Gx1 ⊢
        try simp only [Act.put, List.setIfInBounds_toArray, List.set_cons_zero, List.set_cons_succ]
        refine rd1 8 (some 33) (fun Qc hQc => ?_)
        rw [if_pos (by rfl)]
        refine wp_append_st stTy_q (.tmp 26) (.tmp 32) rfl w.heap.size (q0.ss.take k) (.slice A2 k c2) rfl TXx1.out.st g5 s rfl NB.out SOK.out HK1.out TXx1.out.bl.size ?_
        intro v9 x2 ht9 hbt9
        have HT9 := hid ht9; have HB9 := hid hbt9
        have PSH := hid (fun v' => TXx1.out.push (v' := v') (y := x2) (by decide) HG3.out (s := s))
        obtain ⟨A9, c9, hv9⟩ := HT9.out.len
        rw [List.length_append, List.length_take, HQL.out, Nat.min_eq_left HKN.out, List.length_singleton] at hv9
        subst hv9
        have PS9 := hid (PSH.out _ HT9.out HB9.out)
        have Gx2 : Hid (CpS w 72 (prc (.slice (some ⟨b, oo, none⟩) n c) q0).toArray x2) := ⟨HB9.out.blk Gx1.out.ar (fun e => by obtain ⟨_, C, h2⟩ := TXx1.out.st.ty _ e; exact Gx1.out.ar.ne h2 (by decide) rfl), TXx1.out.bl.trans (HB9.out.bel TXx1.out.bl.size (fun k hk => (TXx1.out.st.ty k hk).1))⟩
        clear ht9 hbt9 PSH
        refine hQc.out _ _ Gx2 (fun hHeld => ?_)
        clear hQc Qc hHeld
        try simp only [Act.put, List.setIfInBounds_toArray, List.set_cons_zero, List.set_cons_succ]
        refine tk 9 (some 34) ?_
        refine rd1 10 none (fun Qc hQc => ?_)
        have c1 : x2.cell? ⟨g3, 0, none⟩ = some (.slice A2 k c2) := PS9.out.1.cell 0
        have f1 : x2.frozen? ⟨g3, 0, none⟩ = false := PS9.out.1.frozen 0
        go_simp
        clear c1 f1
        have TF := hid PS9.out.2
        have Gx3 : Hid (CpS w 72 (prc (.slice (some ⟨b, oo, none⟩) n c) q0).toArray (x2.setCell ⟨g3, 0, none⟩ (Value.slice A9 (k + 1) c9))) := ⟨TF.out.ar, TF.out.bl⟩
        refine hQc.out _ _ Gx3 (fun hHeld => ?_)
        clear hQc Qc hHeld
        generalize x2.setCell ⟨g3, 0, none⟩ (Value.slice A9 (k + 1) c9) = x3 at TF Gx3 ⊢
        try simp only [Act.put, List.setIfInBounds_toArray, List.set_cons_zero, List.set_cons_succ]
        refine wpAnyH_done (by kernel_rfl) ?_ _
        try simp only [Act.put, List.setIfInBounds_toArray, List.set_cons_zero, List.set_cons_succ]
        go_wp2
        go_roundw
        case rel => exact ⟨k + 1, A9, c9, by omega, rfl, by show CpF _ _ _ _ _ _ _ _ _ (q0.ss.take (k + 1)) _; rw [List.take_add_one, HSK.out]; exact TF.out⟩
        case measure => simp [intOf]; omega
      ·
        rw [if_pos (by rfl)]
        refine wp_step_one stTy_q (.tmp 31) rfl s SOK.out rfl ?_
        have NB : Hid (Blk (x0.alloc (.cells (stc s).toArray 129)) x0.heap.size 129 (stc s).toArray) := Blk.new x0 129 (stc s).toArray
        have hb : Below x0.heap.size x0 (x0.alloc (.cells (stc s).toArray 129)) := (Below.refl _ _).alloc (Nat.le_refl _) _
        have TXx4 := hid (TXx0.out.below hb)
        have Gx4 := hid (Gx0.out.below hb)
        clear hb
        refine hQc.out _ _ Gx4 (fun hHeld => ?_)
        clear hQc Qc hHeld
        generalize x0.heap.size = g5 at NB ⊢
        generalize x0.alloc (.cells (stc s).toArray 129) = x4 at NB TXx4 Gx4 ⊢
        try simp only [Act.put, List.setIfInBounds_toArray, List.set_cons_zero, List.set_cons_succ]
        refine rd1 1 (some 26) (fun Qc hQc => ?_)
        have c0 : x4.cell? ⟨g3, 0, none⟩ = some (.slice A2 k c2) := TXx4.out.bx.cell 0
        go_simp
        refine hQc.out _ _ Gx4 (fun hHeld => ?_)
        clear hQc Qc c0
        try simp only [Act.put, List.setIfInBounds_toArray, List.set_cons_zero, List.set_cons_succ]
        refine rd1 8 (some 33) (fun Qc hQc => ?_)
        rw [if_pos (by rfl)]
        refine wp_append_st stTy_q (.tmp 26) (.tmp 32) rfl w.heap.size (q0.ss.take k) (.slice A2 k c2) rfl TXx4.out.st g5 s rfl NB.out SOK.out HK1.out TXx4.out.bl.size ?_
        intro v9 x5 ht9 hbt9
        have HT9 := hid ht9; have HB9 := hid hbt9
        have PSH := hid (fun v' => TXx4.out.push (v' := v') (y := x5) (by decide) HG3.out (s := s))
        obtain ⟨A9, c9, hv9⟩ := HT9.out.len
        rw [List.length_append, List.length_take, HQL.out, Nat.min_eq_left HKN.out, List.length_singleton] at hv9
        subst hv9
        have PS9 := hid (PSH.out _ HT9.out HB9.out)
        have Gx5 : Hid (CpS w 72 (prc (.slice (some ⟨b, oo, none⟩) n c) q0).toArray x5) := ⟨HB9.out.blk Gx4.out.ar (fun e => by obtain ⟨_, C, h2⟩ := TXx4.out.st.ty _ e; exact Gx4.out.ar.ne h2 (by decide) rfl), TXx4.out.bl.trans (HB9.out.bel TXx4.out.bl.size (fun k hk => (TXx4.out.st.ty k hk).1))⟩
        clear ht9 hbt9 PSH
        refine hQc.out _ _ Gx5 (fun hHeld => ?_)
        clear hQc Qc hHeld
        try simp only [Act.put, List.setIfInBounds_toArray, List.set_cons_zero, List.set_cons_succ]
        refine tk 9 (some 34) ?_
        refine rd1 10 none (fun Qc hQc => ?_)
        have c1 : x5.cell? ⟨g3, 0, none⟩ = some (.slice A2 k c2) := PS9.out.1.cell 0
        have f1 : x5.frozen? ⟨g3, 0, none⟩ = false := PS9.out.1.frozen 0
        go_simp
        clear c1 f1
        have TF := hid PS9.out.2
        have Gx6 : Hid (CpS w 72 (prc (.slice (some ⟨b, oo, none⟩) n c) q0).toArray (x5.setCell ⟨g3, 0, none⟩ (Value.slice A9 (k + 1) c9))) := ⟨TF.out.ar, TF.out.bl⟩
        refine hQc.out _ _ Gx6 (fun hHeld => ?_)
        clear hQc Qc hHeld
        generalize x5.setCell ⟨g3, 0, none⟩ (Value.slice A9 (k + 1) c9) = x6 at TF Gx6 ⊢
        try simp only [Act.put, List.setIfInBounds_toArray, List.set_cons_zero, List.set_cons_succ]
        refine wpAnyH_done (by kernel_rfl) ?_ _
        try simp only [Act.put, List.setIfInBounds_toArray, List.set_cons_zero, List.set_cons_succ]
        go_wp2
        go_roundw
        case rel => exact ⟨k + 1, A9, c9, by omega, rfl, by show CpF _ _ _ _ _ _ _ _ _ (q0.ss.take (k + 1)) _; rw [List.take_add_one, HSK.out]; exact TF.out⟩
        case measure => simp [intOf]; omega
    · obtain rfl : k = n := by omega
      have hnl : ¬ ((k : Int) < (k : Int)) := by omega
      have HI9 := hid (proof_info HQ.out (.slice A2 k c2))
      have HI8 := hid (proof_info2 HQ.out (.slice A2 k c2))
      have HZS : Hid (Z.size = (prc (.slice A2 k c2) q0).toArray.size) := by show _ = _; rw [HZ.out, List.size_toArray, List.size_toArray, qZ_ok.len, HQ.out.len]
      have PB := hid (TX.out.bx.pr HQ.out)
      go_wp2_with (first
        | (refine load_at rfl 66 (.tmp 3) rfl g3 0 rfl (prc (.slice A2 k c2) q0) _ PB.out.all Tryd.underlying66 rfl HI9.out (prc (.slice A2 k c2) q0).toArray rfl ?_)
        | (refine wpList_store_row rfl 66 (.tmp 2) (.tmp 35) rfl (w.heap.size + 1) (prc (.slice A2 k c2) q0).toArray rfl rfl 66 Z TX.out.rs HI8.out HZS.out pr_one ?_))
      try go_frame
      have hst := TX.out.st
      rw [List.take_of_length_le (by rw [HQL.out]; omega)] at hst
      have hfin : Below wr.heap.size wr wr := Below.refl _ _
      refine bodyPost_ret (results_cell_row Tryd.results32 _ _ (w.heap.size + 1) 66 (prc (.slice A2 k c2) q0).toArray (0, 0) _ rfl (TX.out.rs.row _) Tryd.underlying66 rfl HI8.out) rfl ?_
      refine ⟨A2, ⟨c2, rfl⟩, ?_, below_setRow TX.out.bl (by omega) _⟩
      refine InS.keep (hst.in (by rw [HQL.out]; have := HN.out; omega)) (below_setRow (Below.refl 0 wr) (Nat.zero_le (w.heap.size + 1)) _).size (fun _ a ha hl => ?_)
      refine setRow_other wr (w.heap.size + 1) a.block _ (fun e => ?_)
      obtain ⟨_, C, h2⟩ := TX.out.st.ty a.block (by rw [ha]; rfl)
      rw [e] at h2
      exact TX.out.rs.ne h2 (by decide) rfl
set_option maxHeartbeats 8000000 in
theorem qTo_any {A : Option Addr} {n c : Nat} {q0 : QP} (w : World) (hin : InS w A n q0.ss) (hq : q0.Ok) (hn : n ≤ 500) : Calls Tryd.prog 29 #[.agg (prc (.slice A n c) q0).toArray] w (PrA w q0) := by
  obtain ⟨Z, HZ, hZ0, hZs⟩ := zero_zproof
  obtain ⟨hp1, _, _⟩ := two_blks w (prc (.slice A n c) q0).toArray Z 66 72
  obtain ⟨hk1, hk2, hk3, hb0⟩ := three_blks w (prc (.slice A n c) q0).toArray Z Z 66 72 72
  have PA := hid (hp1.pr hq)
  have c1 := PA.out.«end»
  have HIN := hid hin; have HQ := hid hq; have HN := hid hn
  have HQL : Hid (q0.ss.length = n) := hin.len
  have HkI := hid (u8s_info hq.k); have HvI := hid (u8s_info hq.v); have HlI := hid (u8s_info hq.l); have HrI := hid (u8s_info hq.r); have HpI := hid (pcl_info q0.n hq.b)
  have HBT := pr_built prTy_z hq
  have HI2 := hid (zproof_info2 hq nilV)
  have HZS : Hid (Z.size = (prc nilV q0).toArray.size) := by show _ = _; rw [HZ.out, List.size_toArray, List.size_toArray, qZ_ok.len, hq.len]
  have K1 := hid hk1; have K2 := hid hk2; have K3 := hid hk3; have B0 := hid hb0
  clear hp1 hk1 hk2 hk3 hb0 hin hq hn
  unfold PrA
  rw [HQL.out]
  generalize he : q0.e = ev at c1 HBT
  go_enter Tryd.func29, Tryd.ntmps29
  go_wp2_with (first
    | (refine load_at rfl 24 (.tmp 7) rfl w.heap.size 2 rfl (u8s q0.k) _ PA.out.key Tryd.underlying24 rfl HkI.out (kc q0.k) rfl ?_)
    | (refine load_at rfl 24 (.tmp 9) rfl w.heap.size 34 rfl (u8s q0.v) _ PA.out.val Tryd.underlying24 rfl HvI.out (kc q0.v) rfl ?_)
    | (refine load_at rfl 55 (.tmp 11) rfl w.heap.size 66 rfl (.int .i64 q0.n :: u8s q0.b) _ PA.out.pre Tryd.underlying55 rfl HpI.out (pc q0.n q0.b) rfl ?_)
    | (refine load_at rfl 24 (.tmp 13) rfl w.heap.size 99 rfl (u8s q0.l) _ PA.out.left Tryd.underlying24 rfl HlI.out (kc q0.l) rfl ?_)
    | (refine load_at rfl 24 (.tmp 15) rfl w.heap.size 131 rfl (u8s q0.r) _ PA.out.right Tryd.underlying24 rfl HrI.out (kc q0.r) rfl ?_)
    | (refine wpList_buildC rfl 72 _ rfl (prc nilV q0).toArray ?hc ?_; case hc => (simp only [List.map_toArray, List.map_cons, List.map_nil, Act.eval]; exact HBT))
    | (refine wpList_store_row rfl 72 (.tmp 3) (.tmp 17) rfl (w.heap.size + 1 + 1) (prc nilV q0).toArray rfl rfl 72 Z K3.out HI2.out HZS.out pr_one ?_))
  generalize ((w.alloc (.cells (prc (.slice A n c) q0).toArray 66)).alloc (.cells Z 72)).alloc (.cells Z 72) = w0 at K1 K2 K3 B0 ⊢
  have KX : Hid (CpF w 66 72 130 (prc (.slice A n c) q0).toArray q0 (w.heap.size + 1 + 1) Z nilV (q0.ss.take 0) (w0.setRow (w.heap.size + 1 + 1) (prc nilV q0).toArray)) :=
    ⟨K1.out.rowFar (by omega) _, K2.out.rowFar (by omega) _, K3.out.row _, OwS.nil _ _ _, below_setRow B0.out (by omega) _⟩
  have HG3 : Hid (w.heap.size + 1 < w.heap.size + 1 + 1) := by show _ < _; omega
  clear K1 K2 K3 B0 PA c1 HBT HI2 HZS HkI HvI HlI HrI HpI he
  generalize w0.setRow (w.heap.size + 1 + 1) (prc nilV q0).toArray = w1 at KX ⊢
  generalize w.heap.size + 1 + 1 = g3 at KX HG3 ⊢
  go_loopw [4] (fun i wr => ∃ k A2 c2, k ≤ n ∧ i = .int .i64 (k : Nat) ∧ Hid (CpF w 66 72 130 (prc (.slice A n c) q0).toArray q0 g3 Z (.slice A2 k c2) (q0.ss.take k) wr)) (fun i _ => n - (intOf i).toNat)
  case atStart => exact ⟨0, none, 0, Nat.zero_le _, rfl, KX⟩
  case round =>
    obtain ⟨k, A2, c2, hk, rfl, TX⟩ := hrel
    have c0 : wr.cell? ⟨w.heap.size, 0, none⟩ = some (.slice A n c) := TX.out.ar.cell 0
    have hmax := HIN.out.max
    by_cases hkn : k < n
    · have hlt : ((k : Int) < (n : Int)) := by omega
      obtain ⟨b, oo, s, rfl, hs, hok, hrng⟩ := HIN.out.at hkn
      have HAT := hid hrng; have HSK := hid hs; have SOK := hid hok
      have HSI := hid (step_info hok)
      have HK1 : Hid ((q0.ss.take k).length ≤ 1000) := by have := HN.out; rw [List.length_take, HQL.out]; show _ ≤ _; omega
      have HKN : Hid (k ≤ n) := hk
      clear hs hok hrng
      go_upto_region 5 with (fail)
      clear c0 hlt
      have GX0 : Hid (CpS w 66 (prc (.slice (some ⟨b, oo, none⟩) n c) q0).toArray wr) := ⟨TX.out.ar, TX.out.bl⟩
      refine wp_region_held (S := fun w' => Hid (CpS w 66 (prc (.slice (some ⟨b, oo, none⟩) n c) q0).toArray w')) (by kernel_rfl) ?_
      change wpAnyH _ _ _ _ _ _ _ _ wr.drew
      have Gx0 : Hid (CpS w 66 (prc (.slice (some ⟨b, oo, none⟩) n c) q0).toArray wr.drew) := ⟨GX0.out.ar.below (Below.refl _ _).drew, GX0.out.bl.trans ((Below.refl wr.heap.size wr).drew.mono GX0.out.bl.size)⟩
      have TX' : Hid (CpF w 66 72 130 (prc (.slice (some ⟨b, oo, none⟩) n c) q0).toArray q0 g3 Z (.slice A2 k c2) (q0.ss.take k) wr.drew) := TX.out.below (Below.refl _ _).drew
      clear TX
      have TX := TX'
      clear TX'
      generalize wr.drew = x0 at Gx0 TX ⊢
      have TXx0 := TX
      clear TX
      refine tk 0 (some 25) ?_
      refine tk 2 (some 27) ?_
      refine tk 3 (some 28) ?_ (hy := by intro w hSw; have c5 := hSw.out.ar.cell 0; rw [show (prc (.slice (some ⟨b, oo, none⟩) n c) q0).toArray[0]? = some (.slice (some ⟨b, oo, none⟩) n c) from rfl] at c5; go_simp; try with_reducible rfl)
      refine tk 4 (some 29) ?_
      refine tk 5 (some 30) ?_
      refine tkv 6 (some 31) (.agg ((stc s).toArray)) rfl (yieldsIf_load_mid (cs := stc s) (by rfl) _ _ rfl _ _ rfl _ (fun w' hSw => rng_bel hSw.out.bl HAT.out) Tryd.underlying129 rfl HSI.out) ?_
      refine wpAnyH_ready (rs := [1, 7]) (by kernel_rfl) (by simp) ?_
      refine (AllReadyH.cons (o := { dst := some 26, op := _, type := _, pos := _, after := _, guard := _ }) rfl (fun Qc hQc => ?_) (AllReadyH.cons (o := { dst := some 32, op := _, type := _, pos := _, after := _, guard := _ }) rfl (fun Qc hQc => ?_) AllReadyH.nil))
      ·
        have c0 : x0.cell? ⟨g3, 0, none⟩ = some (.slice A2 k c2) := TXx0.out.bx.cell 0
        go_simp
        refine hQc.out _ _ Gx0 (fun hHeld => ?_)
        clear hQc Qc c0
        try simp only [Act.put, List.setIfInBounds_toArray, List.set_cons_zero, List.set_cons_succ]
        refine rd1 7 (some 32) (fun Qc hQc => ?_)
        rw [if_pos (by rfl)]
        refine wp_step_one stTy_z (.tmp 31) rfl s SOK.out rfl ?_
        have NB : Hid (Blk (x0.alloc (.cells (stc s).toArray 130)) x0.heap.size 130 (stc s).toArray) := Blk.new x0 130 (stc s).toArray
        have hb : Below x0.heap.size x0 (x0.alloc (.cells (stc s).toArray 130)) := (Below.refl _ _).alloc (Nat.le_refl _) _
        have TXx1 := hid (TXx0.out.below hb)
        have Gx1 := hid (Gx0.out.below hb)
        clear hb
        refine hQc.out _ _ Gx1 (fun hHeld => ?_)
        clear hQc Qc hHeld
        generalize x0.heap.size = g5 at NB ⊢
        generalize x0.alloc (.cells (stc s).toArray 130) = x1 at NB TXx1 Gx1 ⊢
        try simp only [Act.put, List.setIfInBounds_toArray, List.set_cons_zero, List.set_cons_succ]
        refine rd1 8 (some 33) (fun Qc hQc => ?_)
        rw [if_pos (by rfl)]
        refine wp_append_st stTy_z (.tmp 26) (.tmp 32) rfl w.heap.size (q0.ss.take k) (.slice A2 k c2) rfl TXx1.out.st g5 s rfl NB.out SOK.out HK1.out TXx1.out.bl.size ?_
        intro v9 x2 ht9 hbt9
        have HT9 := hid ht9; have HB9 := hid hbt9
        have PSH := hid (fun v' => TXx1.out.push (v' := v') (y := x2) (by decide) HG3.out (s := s))
        obtain ⟨A9, c9, hv9⟩ := HT9.out.len
        rw [List.length_append, List.length_take, HQL.out, Nat.min_eq_left HKN.out, List.length_singleton] at hv9
        subst hv9
        have PS9 := hid (PSH.out _ HT9.out HB9.out)
        have Gx2 : Hid (CpS w 66 (prc (.slice (some ⟨b, oo, none⟩) n c) q0).toArray x2) := ⟨HB9.out.blk Gx1.out.ar (fun e => by obtain ⟨_, C, h2⟩ := TXx1.out.st.ty _ e; exact Gx1.out.ar.ne h2 (by decide) rfl), TXx1.out.bl.trans (HB9.out.bel TXx1.out.bl.size (fun k hk => (TXx1.out.st.ty k hk).1))⟩
        clear ht9 hbt9 PSH
        refine hQc.out _ _ Gx2 (fun hHeld => ?_)
        clear hQc Qc hHeld
        try simp only [Act.put, List.setIfInBounds_toArray, List.set_cons_zero, List.set_cons_succ]
        refine tk 9 (some 34) ?_
        refine rd1 10 none (fun Qc hQc => ?_)
        have c1 : x2.cell? ⟨g3, 0, none⟩ = some (.slice A2 k c2) := PS9.out.1.cell 0
        have f1 : x2.frozen? ⟨g3, 0, none⟩ = false := PS9.out.1.frozen 0
        go_simp
        clear c1 f1
        have TF := hid PS9.out.2
        have Gx3 : Hid (CpS w 66 (prc (.slice (some ⟨b, oo, none⟩) n c) q0).toArray (x2.setCell ⟨g3, 0, none⟩ (Value.slice A9 (k + 1) c9))) := ⟨TF.out.ar, TF.out.bl⟩
        refine hQc.out _ _ Gx3 (fun hHeld => ?_)
        clear hQc Qc hHeld
        generalize x2.setCell ⟨g3, 0, none⟩ (Value.slice A9 (k + 1) c9) = x3 at TF Gx3 ⊢
        try simp only [Act.put, List.setIfInBounds_toArray, List.set_cons_zero, List.set_cons_succ]
        refine wpAnyH_done (by kernel_rfl) ?_ _
        try simp only [Act.put, List.setIfInBounds_toArray, List.set_cons_zero, List.set_cons_succ]
        go_wp2
        go_roundw
        case rel => exact ⟨k + 1, A9, c9, by omega, rfl, by show CpF _ _ _ _ _ _ _ _ _ (q0.ss.take (k + 1)) _; rw [List.take_add_one, HSK.out]; exact TF.out⟩
        case measure => simp [intOf]; omega
      ·
        rw [if_pos (by rfl)]
        refine wp_step_one stTy_z (.tmp 31) rfl s SOK.out rfl ?_
        have NB : Hid (Blk (x0.alloc (.cells (stc s).toArray 130)) x0.heap.size 130 (stc s).toArray) := Blk.new x0 130 (stc s).toArray
        have hb : Below x0.heap.size x0 (x0.alloc (.cells (stc s).toArray 130)) := (Below.refl _ _).alloc (Nat.le_refl _) _
        have TXx4 := hid (TXx0.out.below hb)
        have Gx4 := hid (Gx0.out.below hb)
        clear hb
        refine hQc.out _ _ Gx4 (fun hHeld => ?_)
        clear hQc Qc hHeld
        generalize x0.heap.size = g5 at NB ⊢
        generalize x0.alloc (.cells (stc s).toArray 130) = x4 at NB TXx4 Gx4 ⊢
        try simp only [Act.put, List.setIfInBounds_toArray, List.set_cons_zero, List.set_cons_succ]
        refine rd1 1 (some 26) (fun Qc hQc => ?_)
        have c0 : x4.cell? ⟨g3, 0, none⟩ = some (.slice A2 k c2) := TXx4.out.bx.cell 0
        go_simp
        refine hQc.out _ _ Gx4 (fun hHeld => ?_)
        clear hQc Qc c0
        try simp only [Act.put, List.setIfInBounds_toArray, List.set_cons_zero, List.set_cons_succ]
        refine rd1 8 (some 33) (fun Qc hQc => ?_)
        rw [if_pos (by rfl)]
        refine wp_append_st stTy_z (.tmp 26) (.tmp 32) rfl w.heap.size (q0.ss.take k) (.slice A2 k c2) rfl TXx4.out.st g5 s rfl NB.out SOK.out HK1.out TXx4.out.bl.size ?_
        intro v9 x5 ht9 hbt9
        have HT9 := hid ht9; have HB9 := hid hbt9
        have PSH := hid (fun v' => TXx4.out.push (v' := v') (y := x5) (by decide) HG3.out (s := s))
        obtain ⟨A9, c9, hv9⟩ := HT9.out.len
        rw [List.length_append, List.length_take, HQL.out, Nat.min_eq_left HKN.out, List.length_singleton] at hv9
        subst hv9
        have PS9 := hid (PSH.out _ HT9.out HB9.out)
        have Gx5 : Hid (CpS w 66 (prc (.slice (some ⟨b, oo, none⟩) n c) q0).toArray x5) := ⟨HB9.out.blk Gx4.out.ar (fun e => by obtain ⟨_, C, h2⟩ := TXx4.out.st.ty _ e; exact Gx4.out.ar.ne h2 (by decide) rfl), TXx4.out.bl.trans (HB9.out.bel TXx4.out.bl.size (fun k hk => (TXx4.out.st.ty k hk).1))⟩
        clear ht9 hbt9 PSH
        refine hQc.out _ _ Gx5 (fun hHeld => ?_)
        clear hQc Qc hHeld
        try simp only [Act.put, List.setIfInBounds_toArray, List.set_cons_zero, List.set_cons_succ]
        refine tk 9 (some 34) ?_
        refine rd1 10 none (fun Qc hQc => ?_)
        have c1 : x5.cell? ⟨g3, 0, none⟩ = some (.slice A2 k c2) := PS9.out.1.cell 0
        have f1 : x5.frozen? ⟨g3, 0, none⟩ = false := PS9.out.1.frozen 0
        go_simp
        clear c1 f1
        have TF := hid PS9.out.2
        have Gx6 : Hid (CpS w 66 (prc (.slice (some ⟨b, oo, none⟩) n c) q0).toArray (x5.setCell ⟨g3, 0, none⟩ (Value.slice A9 (k + 1) c9))) := ⟨TF.out.ar, TF.out.bl⟩
        refine hQc.out _ _ Gx6 (fun hHeld => ?_)
        clear hQc Qc hHeld
        generalize x5.setCell ⟨g3, 0, none⟩ (Value.slice A9 (k + 1) c9) = x6 at TF Gx6 ⊢
        try simp only [Act.put, List.setIfInBounds_toArray, List.set_cons_zero, List.set_cons_succ]
        refine wpAnyH_done (by kernel_rfl) ?_ _
        try simp only [Act.put, List.setIfInBounds_toArray, List.set_cons_zero, List.set_cons_succ]
        go_wp2
        go_roundw
        case rel => exact ⟨k + 1, A9, c9, by omega, rfl, by show CpF _ _ _ _ _ _ _ _ _ (q0.ss.take (k + 1)) _; rw [List.take_add_one, HSK.out]; exact TF.out⟩
        case measure => simp [intOf]; omega
    · obtain rfl : k = n := by omega
      have hnl : ¬ ((k : Int) < (k : Int)) := by omega
      have HI9 := hid (zproof_info HQ.out (.slice A2 k c2))
      have HI8 := hid (zproof_info2 HQ.out (.slice A2 k c2))
      have HZS : Hid (Z.size = (prc (.slice A2 k c2) q0).toArray.size) := by show _ = _; rw [HZ.out, List.size_toArray, List.size_toArray, qZ_ok.len, HQ.out.len]
      have PB := hid (TX.out.bx.pr HQ.out)
      go_wp2_with (first
        | (refine load_at rfl 72 (.tmp 3) rfl g3 0 rfl (prc (.slice A2 k c2) q0) _ PB.out.all Tryd.underlying72 rfl HI9.out (prc (.slice A2 k c2) q0).toArray rfl ?_)
        | (refine wpList_store_row rfl 72 (.tmp 2) (.tmp 35) rfl (w.heap.size + 1) (prc (.slice A2 k c2) q0).toArray rfl rfl 72 Z TX.out.rs HI8.out HZS.out pr_one ?_))
      try go_frame
      have hst := TX.out.st
      rw [List.take_of_length_le (by rw [HQL.out]; omega)] at hst
      have hfin : Below wr.heap.size wr wr := Below.refl _ _
      refine bodyPost_ret (results_cell_row Tryd.results29 _ _ (w.heap.size + 1) 72 (prc (.slice A2 k c2) q0).toArray (0, 0) _ rfl (TX.out.rs.row _) Tryd.underlying72 rfl HI8.out) rfl ?_
      refine ⟨A2, ⟨c2, rfl⟩, ?_, below_setRow TX.out.bl (by omega) _⟩
      refine InS.keep (hst.in (by rw [HQL.out]; have := HN.out; omega)) (below_setRow (Below.refl 0 wr) (Nat.zero_le (w.heap.size + 1)) _).size (fun _ a ha hl => ?_)
      refine setRow_other wr (w.heap.size + 1) a.block _ (fun e => ?_)
      obtain ⟨_, C, h2⟩ := TX.out.st.ty a.block (by rw [ha]; rfl)
      rw [e] at h2
      exact TX.out.rs.ne h2 (by decide) rfl
end Go.Proofs.YtbhgchbacadgaaaDoor
/-
  What is proved here: whether some texts of two lists clash.
-/
namespace Go.Proofs.YtbhgchbacadgaaaDoor
open Go.ChangeShapes Go.WideShapes Go.ChangeAt Go.RowKit
set_option linter.unusedVariables false
set_option linter.unusedSimpArgs false
set_option maxRecDepth 20000

theorem same_any {A B : Option Addr} {c d : Nat} {X Y : List Int} (w : World) (hx : Rp w none A X) (hy : Rp w none B Y) (hl : X.length < 1000000000) (hl2 : Y.length < 1000000000) :
    Calls Tryd.prog 70 #[.slice A X.length c, .slice B Y.length d] w fun e w' => e = .returned (.bool (decide (X = Y))) ∧ Below w.heap.size w w' :=
  (Same_quiet A B c d X Y w hx hy (by omega) (by omega)).mono fun e w' ⟨he, q, hw⟩ => ⟨he, by rw [hw]; exact pbelow_drewN (Below.refl _ _) q⟩
theorem InR.at {w : World} {A : Option Addr} {n : Nat} {L : List (List Int)} (h : InR w A n L) {k : Nat} (hk : k < n) : ∃ b o B c xs, A = some ⟨b, o, none⟩ ∧ L[k]? = some xs ∧ w.cell? ⟨b, o + k, none⟩ = some (.slice B xs.length c) ∧ Bs xs ∧ Rp w none B xs := by
  obtain ⟨_, _, h3⟩ := h
  obtain ⟨b, o, e, _, hat⟩ := h3 (by omega)
  obtain ⟨B, c, xs, h5, h6, h7, h8, _⟩ := hat k hk
  exact ⟨b, o, B, c, xs, e, h5, h6, h7, h8⟩
/-- do two texts clash? -/
def clash1 (x y : List Int) : Bool := !decide (x = y) && decide (sum x = sum y)
theorem clash_none {A B : List (List Int)} (h : ∀ i, i < A.length → ∀ k, k < B.length → clash1 (A[i]?.getD []) (B[k]?.getD []) = false) : clashB A B = false := by
  cases hc : clashB A B with
  | false => rfl
  | true =>
    unfold clashB at hc
    rw [List.any_eq_true] at hc
    obtain ⟨x, hx, hc⟩ := hc
    rw [List.any_eq_true] at hc
    obtain ⟨y, hy, hc⟩ := hc
    obtain ⟨i, hi, rfl⟩ := List.getElem_of_mem hx
    obtain ⟨k, hk, rfl⟩ := List.getElem_of_mem hy
    have := h i hi k hk
    rw [List.getElem?_eq_getElem hi, List.getElem?_eq_getElem hk] at this
    have e : clash1 A[i] B[k] = true := hc
    rw [show clash1 ((some A[i]).getD []) ((some B[k]).getD []) = clash1 A[i] B[k] from rfl, e] at this
    cases this
theorem clash_some {A B : List (List Int)} {i k : Nat} {x y : List Int} (hx : A[i]? = some x) (hy : B[k]? = some y) (h : clash1 x y = true) : clashB A B = true := by
  unfold clashB
  rw [List.any_eq_true]
  refine ⟨x, List.mem_of_getElem? hx, ?_⟩
  rw [List.any_eq_true]
  exact ⟨y, List.mem_of_getElem? hy, h⟩
set_option maxHeartbeats 8000000 in
theorem zClash_any {A B : Option Addr} {n m c d : Nat} {L M : List (List Int)} (w : World) (hL : InR w A n L) (hM : InR w B m M) (h1 : ∀ x ∈ L, x.length < 20000) (h2 : ∀ x ∈ M, x.length < 20000) :
    Calls Tryd.prog 33 #[.slice A n c, .slice B m d] w fun e w' => e = .returned (.bool (clashB L M)) ∧ Below w.heap.size w w' := by
  have HL := hid hL; have HM := hid hM; have H1 := hid h1; have H2 := hid h2
  have hn := hL.2.1; have hm := hM.2.1
  clear hL hM h1 h2
  go_enter Tryd.func33, Tryd.ntmps33
  go_wp2
  go_loopw [5] (fun i wr => ∃ k : Nat, k ≤ n ∧ i = .int .i64 (k : Nat) ∧ Hid (∀ i, i < k → ∀ j, j < m → clash1 (L[i]?.getD []) (M[j]?.getD []) = false) ∧ Hid (Below w.heap.size w wr)) (fun i _ => n - (intOf i).toNat)
  case atStart => exact ⟨0, Nat.zero_le _, rfl, (fun i hi => by omega), Below.refl _ _⟩
  case round =>
    obtain ⟨k, hk, rfl, HNO, BL⟩ := hrel
    by_cases hkn : k < n
    · have hlt : ((k : Int) < (n : Int)) := by omega
      go_wp2
      clear hlt
      go_loopw [6] (fun i wr => ∃ j : Nat, j ≤ m ∧ i = .int .i64 (j : Nat) ∧ Hid (∀ t, t < j → clash1 (L[k]?.getD []) (M[t]?.getD []) = false) ∧ Hid (Below w.heap.size w wr)) (fun i _ => m - (intOf i).toNat)
      case atStart => exact ⟨0, Nat.zero_le _, rfl, (fun i hi => by omega), BL⟩
      case round =>
        obtain ⟨j, hj, rfl, HNJ, BJ⟩ := hrel
        by_cases hjm : j < m
        · have hlt : ((j : Int) < (m : Int)) := by omega
          have hlk : ((k : Int) < (n : Int)) := by omega
          have i1 := HL.out.below BJ.out
          have i2 := HM.out.below BJ.out
          obtain ⟨b1, o1, B1, d1, x, rfl, hx, hc1, hb1, hr1⟩ := i1.at hkn
          obtain ⟨b2, o2, B2, d2, y, rfl, hy, hc2, hb2, hr2⟩ := i2.at hjm
          have hlx := H1.out x (List.mem_of_getElem? hx)
          have hly := H2.out y (List.mem_of_getElem? hy)

          have cl1 := fun p : PW (Kp wr) => cell_bel p.h hc1
          have cl2 := fun p : PW (Kp wr) => cell_bel p.h hc2
          have CE := hid (fun (w1 : World) (hb : Below wr.heap.size wr w1) => same_any (c := d1) (d := d2) w1 (hr1.belowN hb) (hr2.belowN hb) (by omega) (by omega))
          have C1 := hid (fun (w1 : World) (hb : Below wr.heap.size wr w1) => show Calls Tryd.prog 24 #[.slice B1 x.length d1] w1 (fun e w' => e = .returned (.agg (kc (sum x))) ∧ Below w1.heap.size w1 w') from RSum_any B1 d1 x w1 (hr1.belowN hb) hb1 (by omega))
          have C2 := hid (fun (w1 : World) (hb : Below wr.heap.size wr w1) => show Calls Tryd.prog 24 #[.slice B2 y.length d2] w1 (fun e w' => e = .returned (.agg (kc (sum y))) ∧ Below w1.heap.size w1 w') from RSum_any B2 d2 y w1 (hr2.belowN hb) hb2 (by omega))
          have heq := fun w => equal_key 9998 (sum x) (sum y) (sum_ky _) (sum_ky _) w
          have HX := hid hx; have HY := hid hy
          have HCL : Hid (clash1 (L[k]?.getD []) (M[j]?.getD []) = (!decide (x = y) && decide (sum x = sum y))) := by show _ = _; rw [hx, hy]; rfl
          clear i1 i2 hx hy hb1 hb2 hr1 hr2
          by_cases he : x = y
          · rw [decide_eq_true he] at CE HCL
            clear heq he
            go_upto_region 7 with (fail)
            clear hlt hlk
            refine region_kept (Kp wr) (by kernel_rfl) (by kernel_rfl) (kp_begin wr) ?_
            repeat (first
              | go_big_quiet_skip
              | (go_big_quiet_want; go_big_quiet_op; first | go_big_quiet_on | go_big_quiet_call (first
                | (go_at_call 70; with_reducible exact kp_call (CE.out _ (PW.h _))))))
            refine wpQuiet_nil ?_
            intro _ hw'
            obtain ⟨p, hw''⟩ := hw'
            subst hw''
            go_wp2
            go_roundw
            case rel =>
              refine ⟨j + 1, by omega, rfl, ?_, BJ.out.trans (p.h.mono BJ.out.size)⟩
              intro t ht
              by_cases h9 : t < j
              · exact HNJ.out t h9
              · obtain rfl : t = j := by omega
                rw [HCL.out]; rfl
            case measure => simp [intOf]; omega
          · rw [decide_eq_false he] at CE HCL
            clear he
            by_cases hs : sum x = sum y
            · have HYES : Hid (clashB L M = true) := clash_some HX.out HY.out (by have := HCL.out; rw [HX.out, HY.out, decide_eq_true hs] at this; exact this)
              rw [decide_eq_true hs] at heq
              generalize sum x = sx at C1 heq
              generalize sum y = sy at C2 heq
              clear hs HCL
              go_upto_region 7 with (fail)
              clear hlt hlk
              refine region_kept (Kp wr) (by kernel_rfl) (by kernel_rfl) (kp_begin wr) ?_
              repeat (first
                | go_big_quiet_skip
                | (go_big_quiet_want; go_big_quiet_op; first | go_big_quiet_on | go_big_quiet_call (first
                  | (go_at_call 70; with_reducible exact kp_call (CE.out _ (PW.h _)))
                  | (go_at_call 24; with_reducible exact kp_call (C1.out _ (PW.h _)))
                  | (go_at_call 24; with_reducible exact kp_call (C2.out _ (PW.h _))))))
              refine wpQuiet_nil ?_
              intro _ hw'
              obtain ⟨p, hw''⟩ := hw'
              subst hw''
              clear cl1 cl2 heq
              go_wp2
              go_ret
              exact ⟨by rw [HYES.out]; rfl, BJ.out.trans (p.h.mono BJ.out.size)⟩
            · rw [decide_eq_false hs] at heq HCL
              generalize sum x = sx at C1 heq
              generalize sum y = sy at C2 heq
              clear hs
              go_upto_region 7 with (fail)
              clear hlt hlk
              refine region_kept (Kp wr) (by kernel_rfl) (by kernel_rfl) (kp_begin wr) ?_
              repeat (first
                | go_big_quiet_skip
                | (go_big_quiet_want; go_big_quiet_op; first | go_big_quiet_on | go_big_quiet_call (first
                  | (go_at_call 70; with_reducible exact kp_call (CE.out _ (PW.h _)))
                  | (go_at_call 24; with_reducible exact kp_call (C1.out _ (PW.h _)))
                  | (go_at_call 24; with_reducible exact kp_call (C2.out _ (PW.h _))))))
              refine wpQuiet_nil ?_
              intro _ hw'
              obtain ⟨p, hw''⟩ := hw'
              subst hw''
              clear cl1 cl2 heq
              go_wp2
              go_roundw
              case rel =>
                refine ⟨j + 1, by omega, rfl, ?_, BJ.out.trans (p.h.mono BJ.out.size)⟩
                intro t ht
                by_cases h9 : t < j
                · exact HNJ.out t h9
                · obtain rfl : t = j := by omega
                  rw [HCL.out]; rfl
              case measure => simp [intOf]; omega
        · obtain rfl : j = m := by omega
          have hnl : ¬ ((j : Int) < (j : Int)) := by omega
          go_wp2
          go_roundw
          case rel =>
            refine ⟨k + 1, by omega, rfl, ?_, BJ⟩
            intro t ht i hi
            by_cases h9 : t < k
            · exact HNO.out t h9 i hi
            · obtain rfl : t = k := by omega
              exact HNJ.out i hi
          case measure => simp [intOf]; omega
    · obtain rfl : k = n := by omega
      have hnl : ¬ ((k : Int) < (k : Int)) := by omega
      have HCB : Hid (clashB L M = false) := clash_none (fun i hi j hj => HNO.out i (by rw [← HL.out.1]; exact hi) j (by rw [← HM.out.1]; exact hj))
      go_wp2
      go_ret
      exact ⟨by rw [HCB.out]; rfl, BL.out⟩
end Go.Proofs.YtbhgchbacadgaaaDoor
