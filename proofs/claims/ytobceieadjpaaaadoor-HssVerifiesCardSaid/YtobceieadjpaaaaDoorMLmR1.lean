/-
  What is proved here: to which public key the code says that a signature leads.
-/
import Derived.Test.YtobceieadjpaaaaDoorMRr1
set_option linter.unusedSimpArgs false
set_option linter.unusedVariables false
namespace Go.Proofs.YtobceieadjpaaaaDoor
open Go.ChangeShapes Go.WideShapes Go.ChangeAt Go.RowKit
set_option linter.unusedVariables false
set_option maxRecDepth 20000

attribute [local go_sem] Oper.semAt_some
set_option maxHeartbeats 8000000 in
theorem lRecover_any (id : List Int) (q : Int) (A : Option Addr) (m c : Nat) (msg : List Int) (A2 : Option Addr) (m2 c2 : Nat) (sig : List Int) (w : World) (hi : Idn id) (hq : 0 ≤ q ∧ q < 4294967296) (hm : m = msg.length) (hr : Rp w none A msg) (hb : Bs msg) (hl : msg.length < 2000000) (hc : m ≤ c)
    (hm2 : m2 = sig.length) (hr2 : Rp w none A2 sig) (hb2 : Bs sig) (hl2 : sig.length < 1000000) (ht : Tab w) :
    Calls Tryd.prog 14 #[.agg (u8s id).toArray, .int .u32 q, .slice A m c, .slice A2 m2 c2] w fun e w' => e = .returned (.tuple #[.agg (u8s (recK id q msg sig)).toArray, .bool (sigB sig)]) ∧ Below w.heap.size w w' := by
  obtain ⟨Z, HZ, hZ0, hZs⟩ := zero_Hash
  obtain ⟨ZK, hzk, hZK0, hZKs⟩ := zero_key
  obtain ⟨hk1, hk2, hb0⟩ := blks2 w (u8s id).toArray Z 23 26
  have K1 := hid hk1; have K2 := hid hk2; have B0 := hid hb0
  have S0 : Hid (((w.alloc (.cells (u8s id).toArray 23)).alloc (.cells Z 26)).heap.size = w.heap.size + 1 + 1) := by show _ = _; simp
  obtain ⟨k, hk⟩ : ∃ k, k = ((RS.got false sig).num 4 4294967295).1 := ⟨_, rfl⟩
  obtain ⟨st1, hst1⟩ : ∃ s, s = ((RS.got false sig).num 4 4294967295).2 := ⟨_, rfl⟩
  have CN : Hid (∀ w1, Below w.heap.size w w1 → Calls Tryd.prog 46 #[.slice A2 m2 c2] w1 fun e w' => ∃ g, e = .returned (.pointer (some ⟨g, 0, none⟩)) ∧ w1.heap.size ≤ g ∧ RRep w' (some ⟨g, 0, none⟩) (.got false sig) ∧ Below w1.heap.size w1 w') := fun w1 hb1 => by
    have := New_any A2 c2 sig w1 (hr2.belowN hb1) (by omega) hb2
    rw [← hm2] at this
    exact this
  have CU : Hid (∀ rd w1, RRep w1 (some ⟨rd, 0, none⟩) (.got false sig) → Calls Tryd.prog 47 #[.pointer (some ⟨rd, 0, none⟩)] w1 fun e w' => e = .returned (.int .u32 k) ∧ RRep w' (some ⟨rd, 0, none⟩) st1 ∧ OnlyS (Of (some ⟨rd, 0, none⟩)) w1 w') := fun rd w1 h => by
    rw [hk, hst1]
    exact RU32_any _ _ w1 h
  have CSH := hid (shapeOf_any k)
  have IDI := hid (id_info hi); have SHI := hid (shape_info k)
  have KSI := hid (key_cinfo k hi q); have KZS : Hid (ZK.size = (keyC k id q).size) := hzk.trans (keyC_size k hi q).symm
  have KLI := hid (key_info k hi q)
  have KALL := hid (keyC_all k id q)
  have KCH := hid (key_ch k id q)
  have HIDN := hid hi; have HQ := hid hq; have HM := hid hm; have HL := hid hl; have HC := hid hc
  have HR := hid (fun (w1 : World) (hb : Below w.heap.size w w1) => hr.belowN hb)
  have HB := hid hb
  have HT := hid (fun (w1 : World) (hb : Below w.heap.size w w1) => ht.below hb)
  have HZS : Hid (Z.size = 32) := by show _ = _; rw [HZ.out, List.size_toArray, u8s_length]; simp
  have HSB := hid hb2; have HM2 := hid hm2; have HHI := hid (info_hash zeroK (by unfold zeroK; simp))
  have HZZ : Hid (Z = (u8s zeroK).toArray) := HZ.out
  have HZA : Hid (Z.all (·.oneCell') = true) := by rw [HZZ.out]; exact hid (u8s_all zeroK)
  rw [← HZZ.out] at HHI
  have hkb : 0 ≤ k ∧ k ≤ 4294967295 := by rw [hk]; exact num4_lo hb2
  have hkw : IntKind.i64.wrap k = k := IntWalk.i64_in _ (by omega)
  have CSZ := hid (lSize_any k)
  have HKE := hid hk; have HST := hid hst1
  clear hk1 hk2 hb0 hzk hi hq hm hr hb hl hc hm2 hr2 hb2 hl2 ht hk hst1
  refine (callsIn_wide (n := 2)).1 ?_
  refine callsIn_of_wp_marks Tryd.func14 rfl trivial ?_ rfl
  simp only [Tryd.ntmps14, List.size_toArray, List.length_cons, List.length_nil, Nat.reduceAdd, Nat.reduceSub, Array.replicate_succ, Array.replicate_zero, List.push_toArray, List.append_toArray, List.nil_append, List.cons_append]
  refine (wpIn_wide (n := 2)).2 ?_
  go_wp2_with (first
    | (go_at_call 46; refine (CN.out _ B0.out).mono ?_; rintro e w1 ⟨rd, rfl, hrd, hrr, hb1⟩; have HRD := hid hrd; have RR1 := hid hrr; have K3 := hid (K1.out.below hb1); have K4 := hid (K2.out.below hb1); have B1 := hid (B0.out.trans (hb1.mono B0.out.size)); clear hrd hrr hb1)
    | (go_at_call 47; have hxx : Below w1.heap.size w1 (w1.alloc (.cells #[.pointer (some ⟨rd, 0, none⟩)] 81)) := (Below.refl _ _).alloc (Nat.le_refl _) _; have LR1 : Hid (rd < w1.heap.size) := RR1.out.lt ⟨_, rfl, rfl⟩; have LR2 : Hid (w.heap.size + 1 < rd) := (by have h1 : (_ : Nat) ≤ rd := HRD.out; rw [S0.out] at h1; exact h1); have LR3 : Hid (w.heap.size + 1 < w1.heap.size) := hid (Nat.lt_trans LR2.out LR1.out); refine (CU.out rd _ (RR1.out.below hxx)).mono ?_; rintro e w0 ⟨rfl, hr2, ho2⟩; have RR2 := hid hr2; have K1 := hid ((K3.out.below hxx).only ho2 (not_of (by have := LR2.out; omega))); have K4 := hid ((K4.out.below hxx).only ho2 (not_of (Nat.ne_of_lt LR2.out))); have BX1 := hid ((Blk.new w1 81 #[.pointer (some ⟨rd, 0, none⟩)]).only ho2 (not_of (Nat.ne_of_gt LR1.out))); have B2 : Hid (Below w.heap.size w w0) := (B1.out.trans (hxx.mono B1.out.size)).trans (ho2.below (Nat.le_trans B1.out.size hxx.size) (fun j hj => by obtain ⟨a, e, rfl⟩ := hj; injection e with e; subst e; show _ ≤ rd; have := LR2.out; omega)); clear hr2 ho2 hxx))
  generalize w1.heap.size = rb at LR1 LR2 LR3 BX1 ⊢
  clear RR1 K2 K3 B1 HRD
  refine wp_cut (fun a' w' => ∃ g, a' = { tmps := #[.agg (u8s id).toArray, .int .u32 q, .slice A m c, .slice A2 m2 c2, .pointer (some ⟨w.heap.size, 0, none⟩), undef, undef, undef, .pointer (some ⟨w.heap.size + 1, 0, none⟩), .bool false, .pointer (some ⟨rb, 0, none⟩), .int .i64 k, .pointer (some ⟨g, 0, none⟩), undef, undef, undef, undef, undef, .slice A2 m2 c2, .pointer (some ⟨rd, 0, none⟩), .pointer (some ⟨rd, 0, none⟩), .int .u32 k, .int .i64 k, .int .i64 k, .agg (shp k), .agg (u8s id).toArray, .int .u32 q, .agg (keyC k id q), undef, undef, undef, undef, undef, undef, undef, undef, undef, undef, undef, undef, undef, undef, undef, undef, undef, undef, undef, undef, undef, undef, undef, undef, undef, undef, undef, undef, undef, undef, undef, undef, undef, undef, undef, undef, undef, undef, undef, undef, undef, undef, undef, undef, undef, undef, undef], defers := [] } ∧ KeyAt (keyC k id q) w0 w' g) ?_ ?_
  · skip
    have GB0 : Hid (Bw w0 w0) := ⟨Below.refl _ _⟩
    refine wp_region_held (S := fun w' => Hid (Bw w0 w')) (by kernel_rfl) ?_
    change wpAnyH _ _ _ _ _ _ _ _ w0.drew
    have Gx0 : Hid (Bw w0 w0.drew) := GB0.out.drew
    have HBx0 : Below w0.heap.size w0 w0.drew := (Below.refl _ _).drew
    clear HBx0
    generalize w0.drew = x0 at Gx0  ⊢
    refine wpAnyH_take (i := 0) (oi := { dst := some 23, op := _, type := _, pos := _, after := _, guard := _ }) (v := ?_) rfl (by kernel_rfl) (by kernel_rfl) (by kernel_rfl) (fun _ _ _ h => h) (Or.inl ⟨by kernel_rfl, ?_⟩) (by assumption) ?_
    rotate_left
    · (intro w hSw; go_simp; try with_reducible rfl)
    try simp only [Act.put, List.setIfInBounds_toArray, List.set_cons_zero, List.set_cons_succ]
    refine wpAnyH_take (i := 2) (oi := { dst := some 25, op := _, type := _, pos := _, after := _, guard := _ }) (v := .agg ((u8s id).toArray)) rfl (by kernel_rfl) (by kernel_rfl) (by kernel_rfl) (fun _ _ _ h => h) (yieldsIf_load_mid (cs := u8s id) (by rfl) _ _ rfl _ _ rfl _ (fun w' hSw => blk_row (K1.out.below (Hid.out hSw).bl)) Tryd.underlying23 rfl IDI.out) (by assumption) ?_
    try simp only [Act.put, List.setIfInBounds_toArray, List.set_cons_zero, List.set_cons_succ]
    refine wpAnyH_take (i := 3) (oi := { dst := some 26, op := _, type := _, pos := _, after := _, guard := _ }) (v := ?_) rfl (by kernel_rfl) (by kernel_rfl) (by kernel_rfl) (fun _ _ _ h => h) (Or.inl ⟨by kernel_rfl, ?_⟩) (by assumption) ?_
    rotate_left
    · (intro w hSw; go_simp; try with_reducible rfl)
    try simp only [Act.put, List.setIfInBounds_toArray, List.set_cons_zero, List.set_cons_succ]
    refine wpAnyH_ready (rs := [1, 5]) (by kernel_rfl) (by simp) ?_
    refine (AllReadyH.cons (o := { dst := some 24, op := _, type := _, pos := _, after := _, guard := _ }) rfl (fun Qc hQc => ?_) (AllReadyH.cons (o := { dst := some 12, op := _, type := _, pos := _, after := _, guard := _ }) rfl (fun Qc hQc => ?_) AllReadyH.nil))
    ·
      go_simp
      go_at_call 35; refine (CSH.out _).mono ?_; rintro e x1 ⟨rfl, hbx1⟩
      have Gx1 := hid (Gx0.out.below hbx1)
      clear hbx1
      go_wp2_with fail
      refine hQc.out _ _ Gx1 (fun hHeld => ?_)
      clear hQc Qc Gx0
      try simp only [Act.put, List.setIfInBounds_toArray, List.set_cons_zero, List.set_cons_succ]
      refine wpAnyH_take (i := 4) (oi := { dst := some 27, op := _, type := _, pos := _, after := _, guard := _ }) (v := .agg (keyC k id q)) rfl (by kernel_rfl) (by kernel_rfl) (by kernel_rfl) (fun _ _ _ h => h) (yieldsIf_key (by rfl) (.tmp 24) (.tmp 25) (.tmp 26) rfl k id q HIDN.out rfl rfl rfl) (by assumption) ?_
      try simp only [Act.put, List.setIfInBounds_toArray, List.set_cons_zero, List.set_cons_succ]
      refine wpAnyH_ready (rs := [5]) (by kernel_rfl) (by simp) ?_
      refine (AllReadyH.cons (o := { dst := some 12, op := _, type := _, pos := _, after := _, guard := _ }) rfl (fun Qc hQc => ?_) AllReadyH.nil)
      go_simp
      have Gx2 := hid (Gx1.out.alloc (.cells ZK 64))
      have HBx2 : Below x1.heap.size x1 (x1.alloc (.cells ZK 64)) := (Below.refl _ _).alloc (Nat.le_refl _) _
      have A := hid (Blk.new x1 64 ZK)
      have LE : Hid (w0.heap.size ≤ x1.heap.size) := Gx1.out.bl.size
      clear HBx2
      refine hQc.out _ _ Gx2 (fun hHeld => ?_)
      clear hQc Qc Gx1
      generalize hgx2 : x1.heap.size = g at A LE  ⊢
      generalize x1.alloc (.cells ZK 64) = x2 at Gx2 A  hHeld ⊢
      clear hgx2
      try simp only [Act.put, List.setIfInBounds_toArray, List.set_cons_zero, List.set_cons_succ]
      refine wpAnyH_ready (rs := [6]) (by kernel_rfl) (by simp) ?_
      refine (AllReadyH.cons (o := { dst := none, op := _, type := _, pos := _, after := _, guard := _ }) rfl (fun Qc hQc => ?_) AllReadyH.nil)
      rw [if_pos (by rfl)]
      refine wp_store_row 64 (.tmp 12) (.tmp 27) rfl (g) (keyC k id q) rfl rfl 64 ZK A.out KSI.out KZS.out KALL.out ?_
      have Gx3 := hid (Gx2.out.row (g := g) LE.out (keyC k id q))
      have KWx3 := hid ((A.out).row (keyC k id q))
      refine hQc.out _ _ Gx3 (fun hHeld => ?_)
      clear hQc Qc Gx2
      generalize x2.setRow (g) (keyC k id q) = x3 at Gx3 KWx3 hHeld ⊢
      try simp only [Act.put, List.setIfInBounds_toArray, List.set_cons_zero, List.set_cons_succ]
      refine wpAnyH_done (by kernel_rfl) ?_ _
      try simp only [Act.put, List.setIfInBounds_toArray, List.set_cons_zero, List.set_cons_succ]
      exact ⟨g, rfl, ⟨KWx3.out, LE.out, Gx3.out⟩⟩
    ·
      go_simp
      have Gx4 := hid (Gx0.out.alloc (.cells ZK 64))
      have HBx4 : Below x0.heap.size x0 (x0.alloc (.cells ZK 64)) := (Below.refl _ _).alloc (Nat.le_refl _) _
      have A := hid (Blk.new x0 64 ZK)
      have LE : Hid (w0.heap.size ≤ x0.heap.size) := Gx0.out.bl.size
      clear HBx4
      refine hQc.out _ _ Gx4 (fun hHeld => ?_)
      clear hQc Qc Gx0
      generalize hgx4 : x0.heap.size = g at A LE  ⊢
      generalize x0.alloc (.cells ZK 64) = x4 at Gx4 A  hHeld ⊢
      clear hgx4
      try simp only [Act.put, List.setIfInBounds_toArray, List.set_cons_zero, List.set_cons_succ]
      refine wpAnyH_ready (rs := [1]) (by kernel_rfl) (by simp) ?_
      refine (AllReadyH.cons (o := { dst := some 24, op := _, type := _, pos := _, after := _, guard := _ }) rfl (fun Qc hQc => ?_) AllReadyH.nil)
      go_simp
      go_at_call 35; refine (CSH.out _).mono ?_; rintro e x5 ⟨rfl, hbx5⟩
      have Gx5 := hid (Gx4.out.below hbx5)
      have A := hid (A.out.below hbx5)
      clear hbx5
      go_wp2_with fail
      refine hQc.out _ _ Gx5 (fun hHeld => ?_)
      clear hQc Qc Gx4
      try simp only [Act.put, List.setIfInBounds_toArray, List.set_cons_zero, List.set_cons_succ]
      refine wpAnyH_take (i := 4) (oi := { dst := some 27, op := _, type := _, pos := _, after := _, guard := _ }) (v := .agg (keyC k id q)) rfl (by kernel_rfl) (by kernel_rfl) (by kernel_rfl) (fun _ _ _ h => h) (yieldsIf_key (by rfl) (.tmp 24) (.tmp 25) (.tmp 26) rfl k id q HIDN.out rfl rfl rfl) (by assumption) ?_
      try simp only [Act.put, List.setIfInBounds_toArray, List.set_cons_zero, List.set_cons_succ]
      refine wpAnyH_ready (rs := [6]) (by kernel_rfl) (by simp) ?_
      refine (AllReadyH.cons (o := { dst := none, op := _, type := _, pos := _, after := _, guard := _ }) rfl (fun Qc hQc => ?_) AllReadyH.nil)
      rw [if_pos (by rfl)]
      refine wp_store_row 64 (.tmp 12) (.tmp 27) rfl (g) (keyC k id q) rfl rfl 64 ZK A.out KSI.out KZS.out KALL.out ?_
      have Gx6 := hid (Gx5.out.row (g := g) LE.out (keyC k id q))
      have KWx6 := hid ((A.out).row (keyC k id q))
      refine hQc.out _ _ Gx6 (fun hHeld => ?_)
      clear hQc Qc Gx5
      generalize x5.setRow (g) (keyC k id q) = x6 at Gx6 KWx6 hHeld ⊢
      try simp only [Act.put, List.setIfInBounds_toArray, List.set_cons_zero, List.set_cons_succ]
      refine wpAnyH_done (by kernel_rfl) ?_ _
      try simp only [Act.put, List.setIfInBounds_toArray, List.set_cons_zero, List.set_cons_succ]
      exact ⟨g, rfl, ⟨KWx6.out, LE.out, Gx6.out⟩⟩

  · rintro a' w3 ⟨g, rfl, hka⟩
    have HKA := hid hka
    have c1 : w3.cell? ⟨g, 1, none⟩ = some (.int .i64 (kchains k : Nat)) := by rw [HKA.out.b.cell]; exact KCH.out
    have G3 : Hid (Blk w3 g 64 (keyC k id q)) := HKA.out.b
    have HGL : Hid (w0.heap.size ≤ g) := HKA.out.le
    have Z3 := hid (K4.out.below HKA.out.bw.bl)
    have BX3 := hid (BX1.out.below HKA.out.bw.bl)
    have RR3 := hid (RR2.out.below HKA.out.bw.bl)
    have B3 := hid (B2.out.trans (HKA.out.bw.bl.mono B2.out.size))
    have LR4 : Hid (rb < w0.heap.size) := BX1.out.lt
    clear hka HKA K1 K4 B2 BX1 RR2
    by_cases hch : kchains k = 0
    · have hno : sigB sig = false := sigB_no HSB.out (.inl (by rw [← HKE.out]; exact hch))
      have hrk : recK id q msg sig = zeroK := by unfold recK; rw [if_neg (by rw [hno]; simp)]
      rw [hch] at c1
      have HNO := hid hno; have HRK := hid hrk
      clear hno hrk hch
      go_wp2_with (first
        | (refine wpList_store_row rfl 26 (.tmp 8) (.tmp 39) rfl (w.heap.size + 1) Z rfl rfl 26 Z Z3.out HHI.out rfl HZA.out ?_))
      refine ⟨_, results_two Tryd.results14 _ _ (w.heap.size + 1) 26 Z (0, 0) _ rfl (Z3.out.row _) Tryd.underlying26 rfl HHI.out, by rw [HNO.out, HRK.out, HZZ.out]; rfl, below_setRow B3.out (by omega) _⟩
    · by_cases hsz : sig.length = ksize k
      · have HCF := rec_facts HSB.out (by rw [← HKE.out]; exact hch) (by rw [← HKE.out]; exact hsz)
        rw [← HKE.out, ← HST.out] at HCF
        obtain ⟨hsb, hkv, hst, hkd, hsl⟩ := HCF
        have hrk : recK id q msg sig = ledK k id q msg sig := by unfold recK; rw [if_pos hsb, ← hkv]
        have RR4 : RRep w3 (some ⟨rd, 0, none⟩) (.got false (sig.drop 4)) := by have := RR3.out; rw [hst] at this; exact this
        obtain ⟨d, hra, hd3⟩ := RRepA.of RR4 (by rw [List.length_drop]; omega)
        have RA3 := hid hra; have HD3 := hid hd3; have HKD := hid hkd; have HSL := hid hsl; have HSB2 := hid hsb; have HRK := hid hrk
        obtain ⟨salt, hsalt⟩ : ∃ salt, salt = (sig.drop 4).take 32 := ⟨_, rfl⟩
        have hsky : Ky salt := by rw [hsalt]; exact ⟨by rw [List.length_take, List.length_drop]; omega, (HSB.out.drop 4).take 32⟩
        have HSK := hid hsky
        obtain ⟨H, hH⟩ : ∃ H, H = hashed id q salt msg := ⟨_, rfl⟩
        have hhk : Ky H := by rw [hH]; exact under_ky _ _ _ _
        have HHK := hid hhk
        have CP : Hid (∀ w1, RRepA w1 rd d (sig.drop 4) → Calls Tryd.prog 48 #[.pointer (some ⟨rd, 0, none⟩), .int .i64 32] w1 fun e w' => ∃ A' c', e = .returned (.slice A' 32 c') ∧ 32 ≤ c' ∧ Fresh w1 w' A' salt ∧ RRepA w' rd d (sig.drop 36) ∧ OnlyS (Of (some ⟨rd, 0, none⟩)) w1 w') := fun w1 h => by
          have := RPlainA rd d 32 (sig.drop 4) w1 h (by rw [List.length_drop]; omega)
          rw [List.drop_drop, ← hsalt] at this
          exact this
        have CSU : Hid (∀ (A1 : Option Addr) (w1 : World), InR w1 A1 2 [salt, msg] → Below w.heap.size w w1 → Calls Tryd.prog 40 #[.agg (keyC k id q), .int .i64 33153, .slice A1 2 2] w1 fun e w' => e = .returned (.agg (u8s H).toArray) ∧ Below w1.heap.size w1 w') := fun A1 w1 h hb1 => by
          have := ksum_any k id q 33153 A1 2 2 [salt, msg] w1 HIDN.out HQ.out (by decide) h (by decide) (fun f hf => by
            simp only [List.mem_cons, List.not_mem_nil, or_false] at hf
            rcases hf with rfl | rfl
            · rw [hsky.len]; decide
            · have := HL.out; omega) (fun f hf => by
            simp only [List.mem_cons, List.not_mem_nil, or_false] at hf
            rcases hf with rfl | rfl
            · exact hsky.bs
            · exact HB.out) (by simp only [List.flatten_cons, List.flatten_nil, List.append_nil, List.length_append]; rw [hsky.len]; have := HL.out; omega) (HT.out _ hb1)
          rw [show [salt, msg].flatten = salt ++ msg by simp, show under id q 33153 (salt ++ msg) = H by rw [hH]; rfl] at this
          exact this
        have CSD := hid (fun w1 => sdigits_any k H hkd hhk w1)
        have HH2 := hid hH; have HSALT := hid hsalt
        obtain ⟨mm, hmm⟩ : ∃ mm, mm = (kmost k).toNat := ⟨_, rfl⟩
        have hm0 : kmost k = (mm : Int) := by rw [hmm]; rcases hkd with rfl | rfl | rfl | rfl <;> decide
        have hm1 : mm < 256 := by rw [hmm]; rcases hkd with rfl | rfl | rfl | rfl <;> decide
        have CGR := hid (fun w => greatest_any k w hkd)
        rw [hm0] at CGR
        have HMM := hid hmm; have HM1 := hid hm1
        clear hmm hm0 hm1
        have hc0 : ((kchains k : Nat) : Int) ≠ 0 := by omega
        have hc1 : (((kchains k : Nat) : Int) == 0) = false := by simpa using hc0
        have hs0 : ((m2 : Nat) : Int) = ((ksize k : Nat) : Int) := by rw [HM2.out, hsz]
        have hs1 : (((m2 : Nat) : Int) == ((ksize k : Nat) : Int)) = true := by simpa using hs0
        have hch5 := kchains_le k
        have hmk := make_rows (kchains k) (by omega)
        obtain ⟨ch, hchn⟩ : ∃ ch, ch = kchains k := ⟨_, rfl⟩
        have HCHN := hid hchn
        rw [← hchn] at c1 hc0 hc1 hch5 hmk
        obtain ⟨sz, hszn⟩ : ∃ sz, sz = ksize k := ⟨_, rfl⟩
        rw [← hszn] at CSZ hs0 hs1
        have HC5 := hid hch5
        clear RR3 RR4 hra hd3 hkd hsl hsb hrk hsky hH hhk hsalt hch hsz hkv hst hchn hszn
        go_wp2_with (first
          | (go_at_call 44; refine (CSZ.out _).mono ?_; rintro e w4 ⟨rfl, hb4⟩; have Z4 := hid (Z3.out.below hb4); have G4 := hid (G3.out.below hb4); have BX4 := hid (BX3.out.below hb4); have RA4 := hid (RA3.out.below hb4); have B4 := hid (B3.out.trans (hb4.mono B3.out.size)); have c4 : w4.cell? ⟨g, 1, none⟩ = some (.int .i64 (ch : Nat)) := cell_bel hb4 c1; have d4 : w4.cell? ⟨rb, 0, none⟩ = some (.pointer (some ⟨rd, 0, none⟩)) := BX4.out.cell 0; have LT4 : Hid (w3.heap.size ≤ w4.heap.size) := hb4.size; clear hb4)
          | (go_at_call 48; refine (CP.out _ RA4.out).mono ?_; rintro e w5 ⟨A5, c5, rfl, hc5, hf5, hr5, ho5⟩; have C5 := hid hc5; have F5 := hid hf5.rp0; have RA5 := hid hr5; have O5 := hid ho5; have N1 : Hid (g ≠ rd) := (by show _ ≠ _; have := HGL.out; have := LR4.out; have := LR1.out; omega); have N2 : Hid (rb ≠ rd) := Nat.ne_of_gt LR1.out; have Z5 := hid (Z4.out.only ho5 (not_of (Nat.ne_of_lt LR2.out))); have G5 := hid (G4.out.only ho5 (not_of N1.out)); have BX5 := hid (BX4.out.only ho5 (not_of N2.out)); have B5 : Hid (Below w.heap.size w w5) := B4.out.trans (Rw.b ⟨ho5⟩ B4.out.size (by have := LR2.out; omega)); have c5' : w5.cell? ⟨g, 1, none⟩ = some (.int .i64 (ch : Nat)) := (G5.out.cell 1).trans ((G4.out.cell 1).symm.trans c4); clear hc5 hf5 hr5 ho5))
        have hbb : Below w5.heap.size w5 ((w5.alloc (.cells (Array.replicate (32 * ch) (.int .u8 0)) 5)).alloc (.cells #[.slice (some ⟨w5.heap.size, 0, none⟩) 0 (32 * ch)] 29)) := ((Below.refl _ _).alloc (Nat.le_refl _) _).alloc (by simp) _
        have OW6 : Hid (((w5.alloc (.cells (Array.replicate (32 * ch) (.int .u8 0)) 5)).alloc (.cells #[.slice (some ⟨w5.heap.size, 0, none⟩) 0 (32 * ch)] 29)).ownsRow w5.heap.size 5 1 (.slice (some ⟨w5.heap.size, 0, none⟩) 0 (32 * ch)) 0 (u8s [])) := (own_made w5 (32 * ch) w5.heap.size (by unfold maxLen; omega) (Nat.le_refl _)).alloc _
        have EB6 : Hid (Blk ((w5.alloc (.cells (Array.replicate (32 * ch) (.int .u8 0)) 5)).alloc (.cells #[.slice (some ⟨w5.heap.size, 0, none⟩) 0 (32 * ch)] 29)) (w5.heap.size + 1) 29 #[.slice (some ⟨w5.heap.size, 0, none⟩) 0 (32 * ch)]) := by
          have := Blk.new (w5.alloc (.cells (Array.replicate (32 * ch) (.int .u8 0)) 5)) 29 #[.slice (some ⟨w5.heap.size, 0, none⟩) 0 (32 * ch)]
          rw [World.size_alloc] at this
          exact this
        have S6 : Hid (((w5.alloc (.cells (Array.replicate (32 * ch) (.int .u8 0)) 5)).alloc (.cells #[.slice (some ⟨w5.heap.size, 0, none⟩) 0 (32 * ch)] 29)).heap.size = w5.heap.size + 1 + 1) := by show _ = _; simp
        have LT5 : Hid (g < w5.heap.size) := G5.out.lt
        have LT6 : Hid (rb < w5.heap.size) := BX5.out.lt
        have LT7 : Hid (d < w5.heap.size) := by show _ < _; have := HD3.out; have := LT4.out; have := O5.out.size; omega
        have G6 := hid (G5.out.below hbb); have Z6 := hid (Z5.out.below hbb); have BX6 := hid (BX5.out.below hbb); have RA6 := hid (RA5.out.below hbb); have F6 := hid (F5.out.belowN hbb); have B6 := hid (B5.out.trans (hbb.mono B5.out.size))
        have LW5 : Hid (w.heap.size + 1 < w5.heap.size) := by show _ < _; have := LR3.out; have := LT6.out; omega
        clear hbb Z3 G3 BX3 RA3 B3 Z4 G4 BX4 RA4 B4 Z5 G5 BX5 RA5 B5 F5 O5 c1 c4 d4 c5' LT4 HD3
        generalize (w5.alloc (.cells (Array.replicate (32 * ch) (.int .u8 0)) 5)).alloc (.cells #[.slice (some ⟨w5.heap.size, 0, none⟩) 0 (32 * ch)] 29) = w6 at OW6 EB6 S6 G6 Z6 BX6 RA6 F6 B6 ⊢
        generalize w5.heap.size = nb at OW6 EB6 S6 LT5 LT6 LT7 LW5 ⊢
        refine wp_cut (fun a' w' => ∃ rx bs sc A7 c7, a' = { tmps := #[.agg (u8s id).toArray, .int .u32 q, .slice A m c, .slice A2 m2 c2, .pointer (some ⟨w.heap.size, 0, none⟩), undef, undef, undef, .pointer (some ⟨w.heap.size + 1, 0, none⟩), .bool false, .pointer (some ⟨rb, 0, none⟩), .int .i64 k, .pointer (some ⟨g, 0, none⟩), .slice A5 32 c5, .pointer (some ⟨nb + 1, 0, none⟩), undef, undef, undef, .slice A2 m2 c2, .pointer (some ⟨rd, 0, none⟩), .pointer (some ⟨rd, 0, none⟩), .int .u32 k, .int .i64 k, .int .i64 k, .agg (shp k), .agg (u8s id).toArray, .int .u32 q, .agg (keyC k id q), .pointer (some ⟨g, 0, none⟩), .pointer (some ⟨g, 1, none⟩), .int .i64 (ch : Int), .bool false, .bool false, .slice A2 m2 c2, .int .i64 (sz : Int), .int .i64 k, .int .i64 (sz : Int), .bool false, .bool false, undef, .pointer (some ⟨rd, 0, none⟩), .slice A5 32 c5, .pointer (some ⟨g, 0, none⟩), .pointer (some ⟨g, 1, none⟩), .int .i64 (ch : Int), .int .i64 (32 * (ch : Int)), .slice (some ⟨nb, 0, none⟩) 0 (32 * ch), .pointer (some ⟨g, 0, none⟩), .agg (shp k), .agg (keyC k id q), .slice A5 32 c5, .slice A m c, .slice (some ⟨rx, 0, none⟩) 2 2, .agg (u8s H).toArray, .func (.func 97) #[] #[.pointer (some ⟨bs, 0, none⟩), .pointer (some ⟨sc, 0, none⟩)], undef, undef, undef, undef, undef, undef, undef, undef, undef, undef, undef, undef, undef, undef, undef, undef, undef, undef, undef, undef], defers := [] } ∧ Cb k bs sc A7 34 c7 (kall k H) w' ∧ (∀ j, CbS bs sc A7 j → w6.heap.size ≤ j) ∧ (∀ j, CbS bs sc A7 j → NotInt w' j) ∧ Bw w6 w') ?_ ?_
        · have GB6 : Hid (Bw w6 w6) := ⟨Below.refl _ _⟩
          refine wp_region_held (S := fun w' => Hid (Bw w6 w')) (by kernel_rfl) ?_
          change wpAnyH _ _ _ _ _ _ _ _ w6.drew
          have Gx0 : Hid (Bw w6 w6.drew) := GB6.out.drew
          have HBx0 : Below w6.heap.size w6 w6.drew := (Below.refl _ _).drew
          clear HBx0
          generalize w6.drew = x0 at Gx0  ⊢
          refine wpAnyH_take (i := 0) (oi := { dst := some 47, op := _, type := _, pos := _, after := _, guard := _ }) (v := ?_) rfl (by kernel_rfl) (by kernel_rfl) (by kernel_rfl) (fun _ _ _ h => h) (Or.inl ⟨by kernel_rfl, ?_⟩) (by assumption) ?_
          rotate_left
          · (intro w hSw; go_simp; try with_reducible rfl)
          try simp only [Act.put, List.setIfInBounds_toArray, List.set_cons_zero, List.set_cons_succ]
          refine wpAnyH_take (i := 1) (oi := { dst := some 48, op := _, type := _, pos := _, after := _, guard := _ }) (v := .agg (shp k)) rfl (by kernel_rfl) (by kernel_rfl) (by kernel_rfl) (fun _ _ _ h => h) (yieldsIf_load_mid (cs := (shp k).toList) (by rfl) _ _ rfl _ _ rfl _ (fun w' hSw => key_shape (G6.out.below (Hid.out hSw).bl)) Tryd.underlying61 rfl SHI.out) (by assumption) ?_
          try simp only [Act.put, List.setIfInBounds_toArray, List.set_cons_zero, List.set_cons_succ]
          refine wpAnyH_take (i := 2) (oi := { dst := some 49, op := _, type := _, pos := _, after := _, guard := _ }) (v := .agg (keyC k id q)) rfl (by kernel_rfl) (by kernel_rfl) (by kernel_rfl) (fun _ _ _ h => h) (yieldsIf_load_mid (cs := (keyC k id q).toList) (by rfl) _ _ rfl _ _ rfl _ (fun w' hSw => blk_rng (G6.out.below (Hid.out hSw).bl)) Tryd.underlying64 rfl KLI.out) (by assumption) ?_
          try simp only [Act.put, List.setIfInBounds_toArray, List.set_cons_zero, List.set_cons_succ]
          refine wpAnyH_take (i := 3) (oi := { dst := some 50, op := _, type := _, pos := _, after := _, guard := _ }) (v := ?_) rfl (by kernel_rfl) (by kernel_rfl) (by kernel_rfl) (fun _ _ _ h => h) (Or.inl ⟨by kernel_rfl, ?_⟩) (by assumption) ?_
          rotate_left
          · (intro w hSw; go_simp; try with_reducible rfl)
          try simp only [Act.put, List.setIfInBounds_toArray, List.set_cons_zero, List.set_cons_succ]
          refine wpAnyH_take (i := 4) (oi := { dst := some 51, op := _, type := _, pos := _, after := _, guard := _ }) (v := ?_) rfl (by kernel_rfl) (by kernel_rfl) (by kernel_rfl) (fun _ _ _ h => h) (Or.inl ⟨by kernel_rfl, ?_⟩) (by assumption) ?_
          rotate_left
          · (intro w hSw; go_simp; try with_reducible rfl)
          try simp only [Act.put, List.setIfInBounds_toArray, List.set_cons_zero, List.set_cons_succ]
          refine wpAnyH_ready (rs := [5]) (by kernel_rfl) (by simp) ?_
          refine (AllReadyH.cons (o := { dst := some 52, op := _, type := _, pos := _, after := _, guard := _ }) rfl (fun Qc hQc => ?_) AllReadyH.nil)
          go_simp
          have Gx1 := hid (Gx0.out.alloc (.cells #[.slice A5 32 c5, .slice A m c] 29))
          have HBx1 : Below x0.heap.size x0 (x0.alloc (.cells #[.slice A5 32 c5, .slice A m c] 29)) := (Below.refl _ _).alloc (Nat.le_refl _) _
          have NR : Hid (InR (x0.alloc (.cells #[.slice A5 32 c5, .slice A m c] 29)) (some ⟨x0.heap.size, 0, none⟩) 2 [salt, msg]) := inR_two HSK.out.len.symm HM.out (F6.out.belowN Gx0.out.bl) (HR.out _ (B6.out.trans (Gx0.out.bl.mono B6.out.size))) HSK.out.bs HB.out (by rw [HSK.out.len]; exact C5.out) (by have := HM.out; have := HC.out; omega) (by rw [HSK.out.len]; decide) (by have := HL.out; omega)
          clear HBx1
          refine hQc.out _ _ Gx1 (fun hHeld => ?_)
          clear hQc Qc Gx0
          generalize x0.alloc (.cells #[.slice A5 32 c5, .slice A m c] 29) = x1 at Gx1 NR hHeld ⊢
          try simp only [Act.put, List.setIfInBounds_toArray, List.set_cons_zero, List.set_cons_succ]
          refine wpAnyH_ready (rs := [6]) (by kernel_rfl) (by simp) ?_
          refine (AllReadyH.cons (o := { dst := some 53, op := _, type := _, pos := _, after := _, guard := _ }) rfl (fun Qc hQc => ?_) AllReadyH.nil)
          go_simp
          go_at_call 40; refine (CSU.out _ _ NR.out (B6.out.trans (Gx1.out.bl.mono B6.out.size))).mono ?_; rintro e x2 ⟨rfl, hbx2⟩
          have Gx2 := hid (Gx1.out.below hbx2)
          have NR := hid (NR.out.below hbx2)
          clear hbx2
          go_wp2_with fail
          refine hQc.out _ _ Gx2 (fun hHeld => ?_)
          clear hQc Qc Gx1
          try simp only [Act.put, List.setIfInBounds_toArray, List.set_cons_zero, List.set_cons_succ]
          refine wpAnyH_ready (rs := [7]) (by kernel_rfl) (by simp) ?_
          refine (AllReadyH.cons (o := { dst := some 54, op := _, type := _, pos := _, after := _, guard := _ }) rfl (fun Qc hQc => ?_) AllReadyH.nil)
          go_simp
          go_at_call 39; refine (CSD.out _).mono ?_; rintro e x3 ⟨bs, sc, A7, c7, rfl, hcb, hge, hni, hbx3⟩; have CBX := hid hcb; have GEX := hid hge; have NIX := hid hni; have LEX := hid (Gx2.out.bl.size); clear hcb hge hni
          have Gx3 := hid (Gx2.out.below hbx3)
          have NR := hid (NR.out.below hbx3)
          clear hbx3
          go_wp2_with fail
          refine hQc.out _ _ Gx3 (fun hHeld => ?_)
          clear hQc Qc Gx2
          try simp only [Act.put, List.setIfInBounds_toArray, List.set_cons_zero, List.set_cons_succ]
          refine wpAnyH_done (by kernel_rfl) ?_ _
          try simp only [Act.put, List.setIfInBounds_toArray, List.set_cons_zero, List.set_cons_succ]
          exact ⟨_, bs, sc, A7, c7, rfl, CBX.out, fun j hj => Nat.le_trans LEX.out (GEX.out j hj), NIX.out, Gx3.out⟩

        · rintro a' w7 ⟨rx, bs, sc, A7, c7, rfl, hcb, hge, hni, hbw⟩
          have CB7 := hid hcb; have GE7 := hid hge; have NI7 := hid hni
          have B7 := hid (B6.out.trans (hbw.bl.mono B6.out.size))
          obtain ⟨cur6, hcur6⟩ := ownsRow_blk OW6.out
          have I0 : RcI (keyC k id q) Z id q sig mm (32 * ch) w.heap.size g rb rd d nb (w.heap.size + 1) w [] w7 := ⟨G6.out.below hbw.bl, BX6.out.below hbw.bl, Z6.out.below hbw.bl, RA6.out.below hbw.bl, EB6.out.below hbw.bl, ownsRow_same OW6.out (hbw.bl.block nb hcur6.lt), B7.out⟩
          have HI0 := hid I0
          have LT7b : Hid (w6.heap.size ≤ w7.heap.size) := hbw.bl.size
          clear hcb hge hni hbw hcur6 I0 G6 BX6 Z6 RA6 EB6 OW6 B6 F6
          go_wp2
          refine (wpIn_wide (n := 2)).1 ?_
          refine wpIn_rangeFunc_ownF (n := 2) rfl (by omega) (gf := 97) (lb := #[.pointer (some ⟨bs, 0, none⟩), .pointer (some ⟨sc, 0, none⟩)]) rfl trivial (enters_of Tryd.func97 (by kernel_rfl) rfl)
            (cut_stops k HKD.out 34 (.inr rfl) bs sc A7 c7 (kall k H) (kall_bs HKD.out HHK.out) (kall_length HHK.out) w7 CB7.out) KpS.t (KpS.b (fun g hg => by
              obtain ⟨cs, t, h1, _⟩ := NI7.out g hg
              exact Blk.lt (cs := cs) h1)) (Below.refl _ _) (fun _ => rfl) (RcI (keyC k id q) Z id q sig mm (32 * ch) w.heap.size g rb rd d nb (w.heap.size + 1) w) (fun _ _ _ => False) (RcI.own (Nat.le_refl _) B7.out.size) (fun _ _ _ _ _ hs _ _ => hs) HI0.out
            (fun x => { tmps := #[.agg (u8s id).toArray, .int .u32 q, .slice A m c, .slice A2 m2 c2, .pointer (some ⟨w.heap.size, 0, none⟩), undef, undef, undef, .pointer (some ⟨w.heap.size + 1, 0, none⟩), .bool false, .pointer (some ⟨rb, 0, none⟩), .int .i64 k, .pointer (some ⟨g, 0, none⟩), .slice A5 32 c5, .pointer (some ⟨nb + 1, 0, none⟩), .int .i64 (x.1.val : Int), .int .i64 (x.2.val : Int), undef, .slice A2 m2 c2, .pointer (some ⟨rd, 0, none⟩), .pointer (some ⟨rd, 0, none⟩), .int .u32 k, .int .i64 k, .int .i64 k, .agg (shp k), .agg (u8s id).toArray, .int .u32 q, .agg (keyC k id q), .pointer (some ⟨g, 0, none⟩), .pointer (some ⟨g, 1, none⟩), .int .i64 (ch : Int), .bool false, .bool false, .slice A2 m2 c2, .int .i64 (sz : Int), .int .i64 k, .int .i64 (sz : Int), .bool false, .bool false, undef, .pointer (some ⟨rd, 0, none⟩), .slice A5 32 c5, .pointer (some ⟨g, 0, none⟩), .pointer (some ⟨g, 1, none⟩), .int .i64 (ch : Int), .int .i64 (32 * (ch : Int)), .slice (some ⟨nb, 0, none⟩) 0 (32 * ch), .pointer (some ⟨g, 0, none⟩), .agg (shp k), .agg (keyC k id q), .slice A5 32 c5, .slice A m c, .slice (some ⟨rx, 0, none⟩) 2 2, .agg (u8s H).toArray, .func (.func 97) #[] #[.pointer (some ⟨bs, 0, none⟩), .pointer (some ⟨sc, 0, none⟩)], .int .i64 (x.1.val : Int), .int .i64 (x.2.val : Int), undef, undef, undef, undef, undef, undef, undef, undef, undef, undef, undef, undef, undef, undef, undef, undef, undef, undef], defers := [] }) ?assign ?body ?done ?stop
          case assign =>
            intro l x W K hK
            dsimp only [encD]
            gi_wp2
            exact hK
          case body =>
            rintro l pre x W hI hlen
            have G8 := hid hI.key; have BX8 := hid hI.bx; have Z8 := hid hI.zz; have RR8 := hid hI.rr; have EB8 := hid hI.eb; have OW8 := hid hI.row; have B8 := hid hI.bl
            have hx1 : x.1.val < 265 := x.1.isLt
            have hx2 : x.2.val < 256 := x.2.isLt
            have HRC := hid (rowsC_snoc id q sig mm pre x)
            have hpl : pre.length < ch := by rw [HCHN.out]; exact hlen
            have HLS : Hid ((pre ++ [x]).length = pre.length + 1) := by show _ = _; simp
            obtain ⟨pl, hpln⟩ : ∃ pl, pl = pre.length := ⟨_, rfl⟩
            obtain ⟨i1, hi1⟩ : ∃ i1 : Nat, i1 = x.1.val := ⟨_, rfl⟩
            obtain ⟨t, ht1⟩ : ∃ t : Nat, t = x.2.val := ⟨_, rfl⟩
            have HLN : Hid ((pre ++ [x]).length = pl + 1) := by show _ = _; rw [HLS.out, ← hpln]
            rw [← hpln] at hpl RR8 EB8 OW8
            rw [← hi1] at hx1
            rw [← ht1] at hx2
            rw [← hpln, ← hi1, ← ht1] at HRC
            rw [← hi1, ← ht1]
            obtain ⟨part, hpart⟩ : ∃ part, part = (sig.drop (36 + 32 * pl)).take 32 := ⟨_, rfl⟩
            rw [← hpart] at HRC
            have hpk : Ky part := by rw [hpart]; exact ⟨by rw [List.length_take, List.length_drop]; have := HSL.out; rw [← HCHN.out] at this; omega, (HSB.out.drop _).take 32⟩
            obtain ⟨R, hR⟩ : ∃ R, R = steps id q (i1 : Int) part t (mm - t) := ⟨_, rfl⟩
            rw [← hR] at HRC
            have hky : Ky R := by rw [hR]; exact steps_ky hpk _ _
            have CPL : Hid (∀ w1, RRepA w1 rd d (sig.drop (36 + 32 * pl)) → Calls Tryd.prog 48 #[.pointer (some ⟨rd, 0, none⟩), .int .i64 32] w1 fun e w' => ∃ A' c', e = .returned (.slice A' 32 c') ∧ 32 ≤ c' ∧ Fresh w1 w' A' part ∧ RRepA w' rd d (sig.drop (36 + 32 * (pl + 1))) ∧ OnlyS (Of (some ⟨rd, 0, none⟩)) w1 w') := fun w1 h => by
              have := RPlainA rd d 32 (sig.drop (36 + 32 * pl)) w1 h (by rw [List.length_drop]; have := HSL.out; rw [← HCHN.out] at this; omega)
              rw [List.drop_drop, ← hpart, show 36 + 32 * pl + 32 = 36 + 32 * (pl + 1) by omega] at this
              exact this
            have CW1 : Hid (∀ w1, Below w.heap.size w w1 → Calls Tryd.prog 41 #[.agg (keyC k id q), .int .i64 (i1 : Int), .agg (u8s part).toArray, .int .i64 (t : Int), .int .i64 (mm : Int)] w1 fun e w' => e = .returned (.agg (u8s R).toArray) ∧ Below w1.heap.size w1 w') := fun w1 hb => by
              rw [hR]
              exact walk_any k id q i1 part t mm w1 HIDN.out HQ.out (by omega) hpk hx2 HM1.out (HT.out w1 hb)
            have RI := hid (info_hash R hky.len); have PI := hid (hash_info hpk.len)
            have RZ : Hid (Z.size = (u8s R).toArray.size) := by show _ = _; rw [HZS.out, hash_size hky.len]
            have HKR := hid hky; have HPK := hid hpk; have HPL := hid hpl
            have LTR : Hid (rd < W.heap.size) := RR8.out.lt
            have LTN : Hid (nb < W.heap.size) := by obtain ⟨cur, h⟩ := ownsRow_blk OW8.out; exact h.lt
            have LTD : Hid (d < W.heap.size) := Nat.lt_trans LT7.out LTN.out
            have NG : Hid (g ≠ rd) := by show _ ≠ _; have := HGL.out; have := LR4.out; have := LR1.out; omega
            have NB : Hid (rb ≠ rd) := Nat.ne_of_gt LR1.out
            clear hI hlen hR hky hpk hx1 hx2 hpart hpln hi1 ht1 hpl HLS
            gi_wp2
            refine wpIn_cut (fun a' w' => ∃ ga c9 g2, a' = { tmps := #[.agg (u8s id).toArray, .int .u32 q, .slice A m c, .slice A2 m2 c2, .pointer (some ⟨w.heap.size, 0, none⟩), undef, undef, undef, .pointer (some ⟨w.heap.size + 1, 0, none⟩), .bool false, .pointer (some ⟨rb, 0, none⟩), .int .i64 k, .pointer (some ⟨g, 0, none⟩), .slice A5 32 c5, .pointer (some ⟨nb + 1, 0, none⟩), .int .i64 (i1 : Int), .int .i64 (t : Int), .pointer (some ⟨g2, 0, none⟩), .slice A2 m2 c2, .pointer (some ⟨rd, 0, none⟩), .pointer (some ⟨rd, 0, none⟩), .int .u32 k, .int .i64 k, .int .i64 k, .agg (shp k), .agg (u8s id).toArray, .int .u32 q, .agg (keyC k id q), .pointer (some ⟨g, 0, none⟩), .pointer (some ⟨g, 1, none⟩), .int .i64 (ch : Int), .bool false, .bool false, .slice A2 m2 c2, .int .i64 (sz : Int), .int .i64 k, .int .i64 (sz : Int), .bool false, .bool false, undef, .pointer (some ⟨rd, 0, none⟩), .slice A5 32 c5, .pointer (some ⟨g, 0, none⟩), .pointer (some ⟨g, 1, none⟩), .int .i64 (ch : Int), .int .i64 (32 * (ch : Int)), .slice (some ⟨nb, 0, none⟩) 0 (32 * ch), .pointer (some ⟨g, 0, none⟩), .agg (shp k), .agg (keyC k id q), .slice A5 32 c5, .slice A m c, .slice (some ⟨rx, 0, none⟩) 2 2, .agg (u8s H).toArray, .func (.func 97) #[] #[.pointer (some ⟨bs, 0, none⟩), .pointer (some ⟨sc, 0, none⟩)], .int .i64 (i1 : Int), .int .i64 (t : Int), .agg (keyC k id q), .int .i64 (i1 : Int), .pointer (some ⟨rd, 0, none⟩), .slice (some ⟨ga, 0, none⟩) 32 c9, .pointer (some ⟨ga, 0, none⟩), .agg (u8s part).toArray, .int .i64 (t : Int), .pointer (some ⟨g, 0, none⟩), .agg (shp k), .int .i64 (mm : Int), .agg (u8s R).toArray, undef, undef, undef, undef, undef, undef, undef], defers := [] } ∧ Blk w' g2 26 (u8s R).toArray ∧ W.heap.size ≤ g2 ∧ RRepA w' rd d (sig.drop (36 + 32 * (pl + 1))) ∧ Rw rd W w') ?_ ?_
            · have GBW : Hid (Rw rd W W) := ⟨OnlyS.refl _ _⟩
              have RRc := RR8
              refine region_round (S := fun w' => Hid (Rw rd W w')) (by kernel_rfl) (by rfl) ?_
              change wpAnyH _ _ _ _ _ _ _ _ W.drew
              have Gx0 : Hid (Rw rd W W.drew) := GBW.out.drew
              have HBx0 : Below W.heap.size W W.drew := (Below.refl _ _).drew
              have RRc := hid (RRc.out.below HBx0)
              clear HBx0
              generalize W.drew = x0 at Gx0 RRc ⊢
              refine wpAnyH_take (i := 0) (oi := { dst := some 57, op := _, type := _, pos := _, after := _, guard := _ }) (v := .agg (keyC k id q)) rfl (by kernel_rfl) (by kernel_rfl) (by kernel_rfl) (fun _ _ _ h => h) (yieldsIf_load_mid (cs := (keyC k id q).toList) (by rfl) _ _ rfl _ _ rfl _ (fun w' hSw => blk_rng (G8.out.only (Hid.out hSw).bl (not_of NG.out))) Tryd.underlying64 rfl KLI.out) (by assumption) ?_
              try simp only [Act.put, List.setIfInBounds_toArray, List.set_cons_zero, List.set_cons_succ]
              refine wpAnyH_take (i := 1) (oi := { dst := some 58, op := _, type := _, pos := _, after := _, guard := _ }) (v := ?_) rfl (by kernel_rfl) (by kernel_rfl) (by kernel_rfl) (fun _ _ _ h => h) (Or.inl ⟨by kernel_rfl, ?_⟩) (by assumption) ?_
              rotate_left
              · (intro w hSw; go_simp; try with_reducible rfl)
              try simp only [Act.put, List.setIfInBounds_toArray, List.set_cons_zero, List.set_cons_succ]
              refine wpAnyH_take (i := 2) (oi := { dst := some 59, op := _, type := _, pos := _, after := _, guard := _ }) (v := ?_) rfl (by kernel_rfl) (by kernel_rfl) (by kernel_rfl) (fun _ _ _ h => h) (Or.inl ⟨by kernel_rfl, ?_⟩) (by assumption) ?_
              rotate_left
              · (intro w hSw; have cbx : w.cell? ⟨rb, 0, none⟩ = some (.pointer (some ⟨rd, 0, none⟩)) := (BX8.out.only (Hid.out hSw).bl (not_of NB.out)).cell 0; go_simp; try with_reducible rfl)
              try simp only [Act.put, List.setIfInBounds_toArray, List.set_cons_zero, List.set_cons_succ]
              refine wpAnyH_take (i := 6) (oi := { dst := some 63, op := _, type := _, pos := _, after := _, guard := _ }) (v := ?_) rfl (by kernel_rfl) (by kernel_rfl) (by kernel_rfl) (fun _ _ _ h => h) (Or.inl ⟨by kernel_rfl, ?_⟩) (by assumption) ?_
              rotate_left
              · (intro w hSw; go_simp; try with_reducible rfl)
              try simp only [Act.put, List.setIfInBounds_toArray, List.set_cons_zero, List.set_cons_succ]
              refine wpAnyH_take (i := 7) (oi := { dst := some 64, op := _, type := _, pos := _, after := _, guard := _ }) (v := ?_) rfl (by kernel_rfl) (by kernel_rfl) (by kernel_rfl) (fun _ _ _ h => h) (Or.inl ⟨by kernel_rfl, ?_⟩) (by assumption) ?_
              rotate_left
              · (intro w hSw; go_simp; try with_reducible rfl)
              try simp only [Act.put, List.setIfInBounds_toArray, List.set_cons_zero, List.set_cons_succ]
              refine wpAnyH_take (i := 8) (oi := { dst := some 65, op := _, type := _, pos := _, after := _, guard := _ }) (v := .agg (shp k)) rfl (by kernel_rfl) (by kernel_rfl) (by kernel_rfl) (fun _ _ _ h => h) (yieldsIf_load_mid (cs := (shp k).toList) (by rfl) _ _ rfl _ _ rfl _ (fun w' hSw => key_shape (G8.out.only (Hid.out hSw).bl (not_of NG.out))) Tryd.underlying61 rfl SHI.out) (by assumption) ?_
              try simp only [Act.put, List.setIfInBounds_toArray, List.set_cons_zero, List.set_cons_succ]
              refine wpAnyH_ready (rs := [3, 11]) (by kernel_rfl) (by simp) ?_
              refine (AllReadyH.cons (o := { dst := some 60, op := _, type := _, pos := _, after := _, guard := _ }) rfl (fun Qc hQc => ?_) (AllReadyH.cons (o := { dst := some 17, op := _, type := _, pos := _, after := _, guard := _ }) rfl (fun Qc hQc => ?_) AllReadyH.nil))
              ·
                go_simp
                go_at_call 48; refine (CPL.out _ RRc.out).mono ?_; rintro e x1 ⟨A9, c9, rfl, hc9, hf9, hr9, ho9⟩
                obtain ⟨ga, cur, rfl, hga, hcb, hcc⟩ := hf9 (by rw [HPK.out.len]; decide)
                have Gx1 := hid (Rw.mk (Gx0.out.bl.trans ho9))
                have RRc := hid hr9; have CB := hid hcb; have HCC := hid hcc
                clear hc9 hf9 hr9 ho9 hga hcb hcc
                go_wp2_with fail
                refine hQc.out _ _ Gx1 (fun hHeld => ?_)
                clear hQc Qc Gx0
                try simp only [Act.put, List.setIfInBounds_toArray, List.set_cons_zero, List.set_cons_succ]
                refine wpAnyH_take (i := 4) (oi := { dst := some 61, op := _, type := _, pos := _, after := _, guard := _ }) (v := .pointer (some ⟨ga, 0, none⟩)) rfl (by kernel_rfl) (by kernel_rfl) (by kernel_rfl) (fun _ _ _ h => h) (Or.inl ⟨by kernel_rfl, ?_⟩) (by assumption) ?_
                · (intro w hSw; have haa := arrayAt_32 ga c9 w; go_simp; try with_reducible rfl)
                try simp only [Act.put, List.setIfInBounds_toArray, List.set_cons_zero, List.set_cons_succ]
                refine wpAnyH_ready (rs := [5, 9, 11]) (by kernel_rfl) (by simp) ?_
                refine (AllReadyH.cons (o := { dst := some 62, op := _, type := _, pos := _, after := _, guard := _ }) rfl (fun Qc hQc => ?_) (AllReadyH.cons (o := { dst := some 66, op := _, type := _, pos := _, after := _, guard := _ }) rfl (fun Qc hQc => ?_) (AllReadyH.cons (o := { dst := some 17, op := _, type := _, pos := _, after := _, guard := _ }) rfl (fun Qc hQc => ?_) AllReadyH.nil)))
                ·
                  rw [if_pos (by rfl)]
                  refine wp_load_mid 26 (.tmp 61) rfl ga 0 rfl (u8s part) _ (rng_of CB.out HCC.out) Tryd.underlying26 rfl PI.out ?_
                  refine hQc.out _ _ Gx1 (fun hHeld => ?_)
                  clear hQc Qc
                  try simp only [Act.put, List.setIfInBounds_toArray, List.set_cons_zero, List.set_cons_succ]
                  refine wpAnyH_ready (rs := [9, 11]) (by kernel_rfl) (by simp) ?_
                  refine (AllReadyH.cons (o := { dst := some 66, op := _, type := _, pos := _, after := _, guard := _ }) rfl (fun Qc hQc => ?_) (AllReadyH.cons (o := { dst := some 17, op := _, type := _, pos := _, after := _, guard := _ }) rfl (fun Qc hQc => ?_) AllReadyH.nil))
                  ·
                    go_simp
                    go_at_call 49; refine (CGR.out _).mono ?_; rintro e x3 ⟨rfl, hbx3⟩
                    have Gx3 := hid (Gx1.out.below hbx3)
                    have RRc := hid (RRc.out.below hbx3)
                    have CB := hid (CB.out.below hbx3)
                    clear hbx3
                    go_wp2_with fail
                    refine hQc.out _ _ Gx3 (fun hHeld => ?_)
                    clear hQc Qc Gx1
                    try simp only [Act.put, List.setIfInBounds_toArray, List.set_cons_zero, List.set_cons_succ]
                    refine wpAnyH_ready (rs := [10, 11]) (by kernel_rfl) (by simp) ?_
                    refine (AllReadyH.cons (o := { dst := some 67, op := _, type := _, pos := _, after := _, guard := _ }) rfl (fun Qc hQc => ?_) (AllReadyH.cons (o := { dst := some 17, op := _, type := _, pos := _, after := _, guard := _ }) rfl (fun Qc hQc => ?_) AllReadyH.nil))
                    ·
                      go_simp
                      go_at_call 41; refine (CW1.out _ (B8.out.trans (Gx3.out.b B8.out.size (by have := LR2.out; omega)))).mono ?_; rintro e x4 ⟨rfl, hbx4⟩
                      have Gx4 := hid (Gx3.out.below hbx4)
                      have RRc := hid (RRc.out.below hbx4)
                      have CB := hid (CB.out.below hbx4)
                      clear hbx4
                      go_wp2_with fail
                      refine hQc.out _ _ Gx4 (fun hHeld => ?_)
                      clear hQc Qc Gx3
                      try simp only [Act.put, List.setIfInBounds_toArray, List.set_cons_zero, List.set_cons_succ]
                      refine wpAnyH_ready (rs := [11]) (by kernel_rfl) (by simp) ?_
                      refine (AllReadyH.cons (o := { dst := some 17, op := _, type := _, pos := _, after := _, guard := _ }) rfl (fun Qc hQc => ?_) AllReadyH.nil)
                      go_simp
                      have Gx5 := hid (Gx4.out.alloc (.cells Z 26))
                      have HBx5 : Below x4.heap.size x4 (x4.alloc (.cells Z 26)) := (Below.refl _ _).alloc (Nat.le_refl _) _
                      have RRc := hid (RRc.out.below HBx5)
                      have CB := hid (CB.out.below HBx5)
                      have A := hid (Blk.new x4 26 Z)
                      have LE : Hid (W.heap.size ≤ x4.heap.size) := Gx4.out.bl.size
                      clear HBx5
                      refine hQc.out _ _ Gx5 (fun hHeld => ?_)
                      clear hQc Qc Gx4
                      generalize hgx5 : x4.heap.size = g2 at A LE RRc CB ⊢
                      generalize x4.alloc (.cells Z 26) = x5 at Gx5 A RRc CB hHeld ⊢
                      clear hgx5
                      try simp only [Act.put, List.setIfInBounds_toArray, List.set_cons_zero, List.set_cons_succ]
                      refine wpAnyH_ready (rs := [12]) (by kernel_rfl) (by simp) ?_
                      refine (AllReadyH.cons (o := { dst := none, op := _, type := _, pos := _, after := _, guard := _ }) rfl (fun Qc hQc => ?_) AllReadyH.nil)
                      rw [if_pos (by rfl)]
                      refine wp_store_row 26 (.tmp 17) (.tmp 67) rfl (g2) (u8s R).toArray rfl rfl 26 Z A.out RI.out RZ.out (u8s_all R) ?_
                      have Gx6 := hid (Gx5.out.row (g := g2) LE.out (u8s R).toArray)
                      have KWx6 := hid ((A.out).row (u8s R).toArray)
                      have RRc := hid (RRepA.rowFar (b := rd) (d := d) (g := g2) RRc.out (by have := LE.out; have := LTR.out; omega) (by have := LE.out; have := LTD.out; omega) (u8s R).toArray)
                      refine hQc.out _ _ Gx6 (fun hHeld => ?_)
                      clear hQc Qc Gx5
                      generalize x5.setRow (g2) (u8s R).toArray = x6 at Gx6 KWx6 RRc hHeld ⊢
                      try simp only [Act.put, List.setIfInBounds_toArray, List.set_cons_zero, List.set_cons_succ]
                      refine wpAnyH_done (by kernel_rfl) ?_ _
                      try simp only [Act.put, List.setIfInBounds_toArray, List.set_cons_zero, List.set_cons_succ]
                      exact ⟨ga, c9, g2, rfl, KWx6.out, LE.out, RRc.out, Gx6.out⟩
                    ·
                      go_simp
                      have Gx7 := hid (Gx3.out.alloc (.cells Z 26))
                      have HBx7 : Below x3.heap.size x3 (x3.alloc (.cells Z 26)) := (Below.refl _ _).alloc (Nat.le_refl _) _
                      have RRc := hid (RRc.out.below HBx7)
                      have CB := hid (CB.out.below HBx7)
                      have A := hid (Blk.new x3 26 Z)
                      have LE : Hid (W.heap.size ≤ x3.heap.size) := Gx3.out.bl.size
                      clear HBx7
                      refine hQc.out _ _ Gx7 (fun hHeld => ?_)
                      clear hQc Qc Gx3
                      generalize hgx7 : x3.heap.size = g2 at A LE RRc CB ⊢
                      generalize x3.alloc (.cells Z 26) = x7 at Gx7 A RRc CB hHeld ⊢
                      clear hgx7
                      try simp only [Act.put, List.setIfInBounds_toArray, List.set_cons_zero, List.set_cons_succ]
                      refine wpAnyH_ready (rs := [10]) (by kernel_rfl) (by simp) ?_
                      refine (AllReadyH.cons (o := { dst := some 67, op := _, type := _, pos := _, after := _, guard := _ }) rfl (fun Qc hQc => ?_) AllReadyH.nil)
                      go_simp
                      go_at_call 41; refine (CW1.out _ (B8.out.trans (Gx7.out.b B8.out.size (by have := LR2.out; omega)))).mono ?_; rintro e x8 ⟨rfl, hbx8⟩
                      have Gx8 := hid (Gx7.out.below hbx8)
                      have RRc := hid (RRc.out.below hbx8)
                      have CB := hid (CB.out.below hbx8)
                      have A := hid (A.out.below hbx8)
                      clear hbx8
                      go_wp2_with fail
                      refine hQc.out _ _ Gx8 (fun hHeld => ?_)
                      clear hQc Qc Gx7
                      try simp only [Act.put, List.setIfInBounds_toArray, List.set_cons_zero, List.set_cons_succ]
                      refine wpAnyH_ready (rs := [12]) (by kernel_rfl) (by simp) ?_
                      refine (AllReadyH.cons (o := { dst := none, op := _, type := _, pos := _, after := _, guard := _ }) rfl (fun Qc hQc => ?_) AllReadyH.nil)
                      rw [if_pos (by rfl)]
                      refine wp_store_row 26 (.tmp 17) (.tmp 67) rfl (g2) (u8s R).toArray rfl rfl 26 Z A.out RI.out RZ.out (u8s_all R) ?_
                      have Gx9 := hid (Gx8.out.row (g := g2) LE.out (u8s R).toArray)
                      have KWx9 := hid ((A.out).row (u8s R).toArray)
                      have RRc := hid (RRepA.rowFar (b := rd) (d := d) (g := g2) RRc.out (by have := LE.out; have := LTR.out; omega) (by have := LE.out; have := LTD.out; omega) (u8s R).toArray)
                      refine hQc.out _ _ Gx9 (fun hHeld => ?_)
                      clear hQc Qc Gx8
                      generalize x8.setRow (g2) (u8s R).toArray = x9 at Gx9 KWx9 RRc hHeld ⊢
                      try simp only [Act.put, List.setIfInBounds_toArray, List.set_cons_zero, List.set_cons_succ]
                      refine wpAnyH_done (by kernel_rfl) ?_ _
                      try simp only [Act.put, List.setIfInBounds_toArray, List.set_cons_zero, List.set_cons_succ]
                      exact ⟨ga, c9, g2, rfl, KWx9.out, LE.out, RRc.out, Gx9.out⟩
                  ·
                    go_simp
                    have Gx10 := hid (Gx1.out.alloc (.cells Z 26))
                    have HBx10 : Below x1.heap.size x1 (x1.alloc (.cells Z 26)) := (Below.refl _ _).alloc (Nat.le_refl _) _
                    have RRc := hid (RRc.out.below HBx10)
                    have CB := hid (CB.out.below HBx10)
                    have A := hid (Blk.new x1 26 Z)
                    have LE : Hid (W.heap.size ≤ x1.heap.size) := Gx1.out.bl.size
                    clear HBx10
                    refine hQc.out _ _ Gx10 (fun hHeld => ?_)
                    clear hQc Qc Gx1
                    generalize hgx10 : x1.heap.size = g2 at A LE RRc CB ⊢
                    generalize x1.alloc (.cells Z 26) = x10 at Gx10 A RRc CB hHeld ⊢
                    clear hgx10
                    try simp only [Act.put, List.setIfInBounds_toArray, List.set_cons_zero, List.set_cons_succ]
                    refine wpAnyH_ready (rs := [9]) (by kernel_rfl) (by simp) ?_
                    refine (AllReadyH.cons (o := { dst := some 66, op := _, type := _, pos := _, after := _, guard := _ }) rfl (fun Qc hQc => ?_) AllReadyH.nil)
                    go_simp
                    go_at_call 49; refine (CGR.out _).mono ?_; rintro e x11 ⟨rfl, hbx11⟩
                    have Gx11 := hid (Gx10.out.below hbx11)
                    have RRc := hid (RRc.out.below hbx11)
                    have CB := hid (CB.out.below hbx11)
                    have A := hid (A.out.below hbx11)
                    clear hbx11
                    go_wp2_with fail
                    refine hQc.out _ _ Gx11 (fun hHeld => ?_)
                    clear hQc Qc Gx10
                    try simp only [Act.put, List.setIfInBounds_toArray, List.set_cons_zero, List.set_cons_succ]
                    refine wpAnyH_ready (rs := [10]) (by kernel_rfl) (by simp) ?_
                    refine (AllReadyH.cons (o := { dst := some 67, op := _, type := _, pos := _, after := _, guard := _ }) rfl (fun Qc hQc => ?_) AllReadyH.nil)
                    go_simp
                    go_at_call 41; refine (CW1.out _ (B8.out.trans (Gx11.out.b B8.out.size (by have := LR2.out; omega)))).mono ?_; rintro e x12 ⟨rfl, hbx12⟩
                    have Gx12 := hid (Gx11.out.below hbx12)
                    have RRc := hid (RRc.out.below hbx12)
                    have CB := hid (CB.out.below hbx12)
                    have A := hid (A.out.below hbx12)
                    clear hbx12
                    go_wp2_with fail
                    refine hQc.out _ _ Gx12 (fun hHeld => ?_)
                    clear hQc Qc Gx11
                    try simp only [Act.put, List.setIfInBounds_toArray, List.set_cons_zero, List.set_cons_succ]
                    refine wpAnyH_ready (rs := [12]) (by kernel_rfl) (by simp) ?_
                    refine (AllReadyH.cons (o := { dst := none, op := _, type := _, pos := _, after := _, guard := _ }) rfl (fun Qc hQc => ?_) AllReadyH.nil)
                    rw [if_pos (by rfl)]
                    refine wp_store_row 26 (.tmp 17) (.tmp 67) rfl (g2) (u8s R).toArray rfl rfl 26 Z A.out RI.out RZ.out (u8s_all R) ?_
                    have Gx13 := hid (Gx12.out.row (g := g2) LE.out (u8s R).toArray)
                    have KWx13 := hid ((A.out).row (u8s R).toArray)
                    have RRc := hid (RRepA.rowFar (b := rd) (d := d) (g := g2) RRc.out (by have := LE.out; have := LTR.out; omega) (by have := LE.out; have := LTD.out; omega) (u8s R).toArray)
                    refine hQc.out _ _ Gx13 (fun hHeld => ?_)
                    clear hQc Qc Gx12
                    generalize x12.setRow (g2) (u8s R).toArray = x13 at Gx13 KWx13 RRc hHeld ⊢
                    try simp only [Act.put, List.setIfInBounds_toArray, List.set_cons_zero, List.set_cons_succ]
                    refine wpAnyH_done (by kernel_rfl) ?_ _
                    try simp only [Act.put, List.setIfInBounds_toArray, List.set_cons_zero, List.set_cons_succ]
                    exact ⟨ga, c9, g2, rfl, KWx13.out, LE.out, RRc.out, Gx13.out⟩
                ·
                  go_simp
                  go_at_call 49; refine (CGR.out _).mono ?_; rintro e x14 ⟨rfl, hbx14⟩
                  have Gx14 := hid (Gx1.out.below hbx14)
                  have RRc := hid (RRc.out.below hbx14)
                  have CB := hid (CB.out.below hbx14)
                  clear hbx14
                  go_wp2_with fail
                  refine hQc.out _ _ Gx14 (fun hHeld => ?_)
                  clear hQc Qc Gx1
                  try simp only [Act.put, List.setIfInBounds_toArray, List.set_cons_zero, List.set_cons_succ]
                  refine wpAnyH_ready (rs := [5, 11]) (by kernel_rfl) (by simp) ?_
                  refine (AllReadyH.cons (o := { dst := some 62, op := _, type := _, pos := _, after := _, guard := _ }) rfl (fun Qc hQc => ?_) (AllReadyH.cons (o := { dst := some 17, op := _, type := _, pos := _, after := _, guard := _ }) rfl (fun Qc hQc => ?_) AllReadyH.nil))
                  ·
                    rw [if_pos (by rfl)]
                    refine wp_load_mid 26 (.tmp 61) rfl ga 0 rfl (u8s part) _ (rng_of CB.out HCC.out) Tryd.underlying26 rfl PI.out ?_
                    refine hQc.out _ _ Gx14 (fun hHeld => ?_)
                    clear hQc Qc
                    try simp only [Act.put, List.setIfInBounds_toArray, List.set_cons_zero, List.set_cons_succ]
                    refine wpAnyH_ready (rs := [10, 11]) (by kernel_rfl) (by simp) ?_
                    refine (AllReadyH.cons (o := { dst := some 67, op := _, type := _, pos := _, after := _, guard := _ }) rfl (fun Qc hQc => ?_) (AllReadyH.cons (o := { dst := some 17, op := _, type := _, pos := _, after := _, guard := _ }) rfl (fun Qc hQc => ?_) AllReadyH.nil))
                    ·
                      go_simp
                      go_at_call 41; refine (CW1.out _ (B8.out.trans (Gx14.out.b B8.out.size (by have := LR2.out; omega)))).mono ?_; rintro e x16 ⟨rfl, hbx16⟩
                      have Gx16 := hid (Gx14.out.below hbx16)
                      have RRc := hid (RRc.out.below hbx16)
                      have CB := hid (CB.out.below hbx16)
                      clear hbx16
                      go_wp2_with fail
                      refine hQc.out _ _ Gx16 (fun hHeld => ?_)
                      clear hQc Qc Gx14
                      try simp only [Act.put, List.setIfInBounds_toArray, List.set_cons_zero, List.set_cons_succ]
                      refine wpAnyH_ready (rs := [11]) (by kernel_rfl) (by simp) ?_
                      refine (AllReadyH.cons (o := { dst := some 17, op := _, type := _, pos := _, after := _, guard := _ }) rfl (fun Qc hQc => ?_) AllReadyH.nil)
                      go_simp
                      have Gx17 := hid (Gx16.out.alloc (.cells Z 26))
                      have HBx17 : Below x16.heap.size x16 (x16.alloc (.cells Z 26)) := (Below.refl _ _).alloc (Nat.le_refl _) _
                      have RRc := hid (RRc.out.below HBx17)
                      have CB := hid (CB.out.below HBx17)
                      have A := hid (Blk.new x16 26 Z)
                      have LE : Hid (W.heap.size ≤ x16.heap.size) := Gx16.out.bl.size
                      clear HBx17
                      refine hQc.out _ _ Gx17 (fun hHeld => ?_)
                      clear hQc Qc Gx16
                      generalize hgx17 : x16.heap.size = g2 at A LE RRc CB ⊢
                      generalize x16.alloc (.cells Z 26) = x17 at Gx17 A RRc CB hHeld ⊢
                      clear hgx17
                      try simp only [Act.put, List.setIfInBounds_toArray, List.set_cons_zero, List.set_cons_succ]
                      refine wpAnyH_ready (rs := [12]) (by kernel_rfl) (by simp) ?_
                      refine (AllReadyH.cons (o := { dst := none, op := _, type := _, pos := _, after := _, guard := _ }) rfl (fun Qc hQc => ?_) AllReadyH.nil)
                      rw [if_pos (by rfl)]
                      refine wp_store_row 26 (.tmp 17) (.tmp 67) rfl (g2) (u8s R).toArray rfl rfl 26 Z A.out RI.out RZ.out (u8s_all R) ?_
                      have Gx18 := hid (Gx17.out.row (g := g2) LE.out (u8s R).toArray)
                      have KWx18 := hid ((A.out).row (u8s R).toArray)
                      have RRc := hid (RRepA.rowFar (b := rd) (d := d) (g := g2) RRc.out (by have := LE.out; have := LTR.out; omega) (by have := LE.out; have := LTD.out; omega) (u8s R).toArray)
                      refine hQc.out _ _ Gx18 (fun hHeld => ?_)
                      clear hQc Qc Gx17
                      generalize x17.setRow (g2) (u8s R).toArray = x18 at Gx18 KWx18 RRc hHeld ⊢
                      try simp only [Act.put, List.setIfInBounds_toArray, List.set_cons_zero, List.set_cons_succ]
                      refine wpAnyH_done (by kernel_rfl) ?_ _
                      try simp only [Act.put, List.setIfInBounds_toArray, List.set_cons_zero, List.set_cons_succ]
                      exact ⟨ga, c9, g2, rfl, KWx18.out, LE.out, RRc.out, Gx18.out⟩
                    ·
                      go_simp
                      have Gx19 := hid (Gx14.out.alloc (.cells Z 26))
                      have HBx19 : Below x14.heap.size x14 (x14.alloc (.cells Z 26)) := (Below.refl _ _).alloc (Nat.le_refl _) _
                      have RRc := hid (RRc.out.below HBx19)
                      have CB := hid (CB.out.below HBx19)
                      have A := hid (Blk.new x14 26 Z)
                      have LE : Hid (W.heap.size ≤ x14.heap.size) := Gx14.out.bl.size
                      clear HBx19
                      refine hQc.out _ _ Gx19 (fun hHeld => ?_)
                      clear hQc Qc Gx14
                      generalize hgx19 : x14.heap.size = g2 at A LE RRc CB ⊢
                      generalize x14.alloc (.cells Z 26) = x19 at Gx19 A RRc CB hHeld ⊢
                      clear hgx19
                      try simp only [Act.put, List.setIfInBounds_toArray, List.set_cons_zero, List.set_cons_succ]
                      refine wpAnyH_ready (rs := [10]) (by kernel_rfl) (by simp) ?_
                      refine (AllReadyH.cons (o := { dst := some 67, op := _, type := _, pos := _, after := _, guard := _ }) rfl (fun Qc hQc => ?_) AllReadyH.nil)
                      go_simp
                      go_at_call 41; refine (CW1.out _ (B8.out.trans (Gx19.out.b B8.out.size (by have := LR2.out; omega)))).mono ?_; rintro e x20 ⟨rfl, hbx20⟩
                      have Gx20 := hid (Gx19.out.below hbx20)
                      have RRc := hid (RRc.out.below hbx20)
                      have CB := hid (CB.out.below hbx20)
                      have A := hid (A.out.below hbx20)
                      clear hbx20
                      go_wp2_with fail
                      refine hQc.out _ _ Gx20 (fun hHeld => ?_)
                      clear hQc Qc Gx19
                      try simp only [Act.put, List.setIfInBounds_toArray, List.set_cons_zero, List.set_cons_succ]
                      refine wpAnyH_ready (rs := [12]) (by kernel_rfl) (by simp) ?_
                      refine (AllReadyH.cons (o := { dst := none, op := _, type := _, pos := _, after := _, guard := _ }) rfl (fun Qc hQc => ?_) AllReadyH.nil)
                      rw [if_pos (by rfl)]
                      refine wp_store_row 26 (.tmp 17) (.tmp 67) rfl (g2) (u8s R).toArray rfl rfl 26 Z A.out RI.out RZ.out (u8s_all R) ?_
                      have Gx21 := hid (Gx20.out.row (g := g2) LE.out (u8s R).toArray)
                      have KWx21 := hid ((A.out).row (u8s R).toArray)
                      have RRc := hid (RRepA.rowFar (b := rd) (d := d) (g := g2) RRc.out (by have := LE.out; have := LTR.out; omega) (by have := LE.out; have := LTD.out; omega) (u8s R).toArray)
                      refine hQc.out _ _ Gx21 (fun hHeld => ?_)
                      clear hQc Qc Gx20
                      generalize x20.setRow (g2) (u8s R).toArray = x21 at Gx21 KWx21 RRc hHeld ⊢
                      try simp only [Act.put, List.setIfInBounds_toArray, List.set_cons_zero, List.set_cons_succ]
                      refine wpAnyH_done (by kernel_rfl) ?_ _
                      try simp only [Act.put, List.setIfInBounds_toArray, List.set_cons_zero, List.set_cons_succ]
                      exact ⟨ga, c9, g2, rfl, KWx21.out, LE.out, RRc.out, Gx21.out⟩
                  ·
                    go_simp
                    have Gx22 := hid (Gx14.out.alloc (.cells Z 26))
                    have HBx22 : Below x14.heap.size x14 (x14.alloc (.cells Z 26)) := (Below.refl _ _).alloc (Nat.le_refl _) _
                    have RRc := hid (RRc.out.below HBx22)
                    have CB := hid (CB.out.below HBx22)
                    have A := hid (Blk.new x14 26 Z)
                    have LE : Hid (W.heap.size ≤ x14.heap.size) := Gx14.out.bl.size
                    clear HBx22
                    refine hQc.out _ _ Gx22 (fun hHeld => ?_)
                    clear hQc Qc Gx14
                    generalize hgx22 : x14.heap.size = g2 at A LE RRc CB ⊢
                    generalize x14.alloc (.cells Z 26) = x22 at Gx22 A RRc CB hHeld ⊢
                    clear hgx22
                    try simp only [Act.put, List.setIfInBounds_toArray, List.set_cons_zero, List.set_cons_succ]
                    refine wpAnyH_ready (rs := [5]) (by kernel_rfl) (by simp) ?_
                    refine (AllReadyH.cons (o := { dst := some 62, op := _, type := _, pos := _, after := _, guard := _ }) rfl (fun Qc hQc => ?_) AllReadyH.nil)
                    rw [if_pos (by rfl)]
                    refine wp_load_mid 26 (.tmp 61) rfl ga 0 rfl (u8s part) _ (rng_of CB.out HCC.out) Tryd.underlying26 rfl PI.out ?_
                    refine hQc.out _ _ Gx22 (fun hHeld => ?_)
                    clear hQc Qc
                    try simp only [Act.put, List.setIfInBounds_toArray, List.set_cons_zero, List.set_cons_succ]
                    refine wpAnyH_ready (rs := [10]) (by kernel_rfl) (by simp) ?_
                    refine (AllReadyH.cons (o := { dst := some 67, op := _, type := _, pos := _, after := _, guard := _ }) rfl (fun Qc hQc => ?_) AllReadyH.nil)
                    go_simp
                    go_at_call 41; refine (CW1.out _ (B8.out.trans (Gx22.out.b B8.out.size (by have := LR2.out; omega)))).mono ?_; rintro e x24 ⟨rfl, hbx24⟩
                    have Gx24 := hid (Gx22.out.below hbx24)
                    have RRc := hid (RRc.out.below hbx24)
                    have CB := hid (CB.out.below hbx24)
                    have A := hid (A.out.below hbx24)
                    clear hbx24
                    go_wp2_with fail
                    refine hQc.out _ _ Gx24 (fun hHeld => ?_)
                    clear hQc Qc Gx22
                    try simp only [Act.put, List.setIfInBounds_toArray, List.set_cons_zero, List.set_cons_succ]
                    refine wpAnyH_ready (rs := [12]) (by kernel_rfl) (by simp) ?_
                    refine (AllReadyH.cons (o := { dst := none, op := _, type := _, pos := _, after := _, guard := _ }) rfl (fun Qc hQc => ?_) AllReadyH.nil)
                    rw [if_pos (by rfl)]
                    refine wp_store_row 26 (.tmp 17) (.tmp 67) rfl (g2) (u8s R).toArray rfl rfl 26 Z A.out RI.out RZ.out (u8s_all R) ?_
                    have Gx25 := hid (Gx24.out.row (g := g2) LE.out (u8s R).toArray)
                    have KWx25 := hid ((A.out).row (u8s R).toArray)
                    have RRc := hid (RRepA.rowFar (b := rd) (d := d) (g := g2) RRc.out (by have := LE.out; have := LTR.out; omega) (by have := LE.out; have := LTD.out; omega) (u8s R).toArray)
                    refine hQc.out _ _ Gx25 (fun hHeld => ?_)
                    clear hQc Qc Gx24
                    generalize x24.setRow (g2) (u8s R).toArray = x25 at Gx25 KWx25 RRc hHeld ⊢
                    try simp only [Act.put, List.setIfInBounds_toArray, List.set_cons_zero, List.set_cons_succ]
                    refine wpAnyH_done (by kernel_rfl) ?_ _
                    try simp only [Act.put, List.setIfInBounds_toArray, List.set_cons_zero, List.set_cons_succ]
                    exact ⟨ga, c9, g2, rfl, KWx25.out, LE.out, RRc.out, Gx25.out⟩
                ·
                  go_simp
                  have Gx26 := hid (Gx1.out.alloc (.cells Z 26))
                  have HBx26 : Below x1.heap.size x1 (x1.alloc (.cells Z 26)) := (Below.refl _ _).alloc (Nat.le_refl _) _
                  have RRc := hid (RRc.out.below HBx26)
                  have CB := hid (CB.out.below HBx26)
                  have A := hid (Blk.new x1 26 Z)
                  have LE : Hid (W.heap.size ≤ x1.heap.size) := Gx1.out.bl.size
                  clear HBx26
                  refine hQc.out _ _ Gx26 (fun hHeld => ?_)
                  clear hQc Qc Gx1
                  generalize hgx26 : x1.heap.size = g2 at A LE RRc CB ⊢
                  generalize x1.alloc (.cells Z 26) = x26 at Gx26 A RRc CB hHeld ⊢
                  clear hgx26
                  try simp only [Act.put, List.setIfInBounds_toArray, List.set_cons_zero, List.set_cons_succ]
                  refine wpAnyH_ready (rs := [5, 9]) (by kernel_rfl) (by simp) ?_
                  refine (AllReadyH.cons (o := { dst := some 62, op := _, type := _, pos := _, after := _, guard := _ }) rfl (fun Qc hQc => ?_) (AllReadyH.cons (o := { dst := some 66, op := _, type := _, pos := _, after := _, guard := _ }) rfl (fun Qc hQc => ?_) AllReadyH.nil))
                  ·
                    rw [if_pos (by rfl)]
                    refine wp_load_mid 26 (.tmp 61) rfl ga 0 rfl (u8s part) _ (rng_of CB.out HCC.out) Tryd.underlying26 rfl PI.out ?_
                    refine hQc.out _ _ Gx26 (fun hHeld => ?_)
                    clear hQc Qc
                    try simp only [Act.put, List.setIfInBounds_toArray, List.set_cons_zero, List.set_cons_succ]
                    refine wpAnyH_ready (rs := [9]) (by kernel_rfl) (by simp) ?_
                    refine (AllReadyH.cons (o := { dst := some 66, op := _, type := _, pos := _, after := _, guard := _ }) rfl (fun Qc hQc => ?_) AllReadyH.nil)
                    go_simp
                    go_at_call 49; refine (CGR.out _).mono ?_; rintro e x28 ⟨rfl, hbx28⟩
                    have Gx28 := hid (Gx26.out.below hbx28)
                    have RRc := hid (RRc.out.below hbx28)
                    have CB := hid (CB.out.below hbx28)
                    have A := hid (A.out.below hbx28)
                    clear hbx28
                    go_wp2_with fail
                    refine hQc.out _ _ Gx28 (fun hHeld => ?_)
                    clear hQc Qc Gx26
                    try simp only [Act.put, List.setIfInBounds_toArray, List.set_cons_zero, List.set_cons_succ]
                    refine wpAnyH_ready (rs := [10]) (by kernel_rfl) (by simp) ?_
                    refine (AllReadyH.cons (o := { dst := some 67, op := _, type := _, pos := _, after := _, guard := _ }) rfl (fun Qc hQc => ?_) AllReadyH.nil)
                    go_simp
                    go_at_call 41; refine (CW1.out _ (B8.out.trans (Gx28.out.b B8.out.size (by have := LR2.out; omega)))).mono ?_; rintro e x29 ⟨rfl, hbx29⟩
                    have Gx29 := hid (Gx28.out.below hbx29)
                    have RRc := hid (RRc.out.below hbx29)
                    have CB := hid (CB.out.below hbx29)
                    have A := hid (A.out.below hbx29)
                    clear hbx29
                    go_wp2_with fail
                    refine hQc.out _ _ Gx29 (fun hHeld => ?_)
                    clear hQc Qc Gx28
                    try simp only [Act.put, List.setIfInBounds_toArray, List.set_cons_zero, List.set_cons_succ]
                    refine wpAnyH_ready (rs := [12]) (by kernel_rfl) (by simp) ?_
                    refine (AllReadyH.cons (o := { dst := none, op := _, type := _, pos := _, after := _, guard := _ }) rfl (fun Qc hQc => ?_) AllReadyH.nil)
                    rw [if_pos (by rfl)]
                    refine wp_store_row 26 (.tmp 17) (.tmp 67) rfl (g2) (u8s R).toArray rfl rfl 26 Z A.out RI.out RZ.out (u8s_all R) ?_
                    have Gx30 := hid (Gx29.out.row (g := g2) LE.out (u8s R).toArray)
                    have KWx30 := hid ((A.out).row (u8s R).toArray)
                    have RRc := hid (RRepA.rowFar (b := rd) (d := d) (g := g2) RRc.out (by have := LE.out; have := LTR.out; omega) (by have := LE.out; have := LTD.out; omega) (u8s R).toArray)
                    refine hQc.out _ _ Gx30 (fun hHeld => ?_)
                    clear hQc Qc Gx29
                    generalize x29.setRow (g2) (u8s R).toArray = x30 at Gx30 KWx30 RRc hHeld ⊢
                    try simp only [Act.put, List.setIfInBounds_toArray, List.set_cons_zero, List.set_cons_succ]
                    refine wpAnyH_done (by kernel_rfl) ?_ _
                    try simp only [Act.put, List.setIfInBounds_toArray, List.set_cons_zero, List.set_cons_succ]
                    exact ⟨ga, c9, g2, rfl, KWx30.out, LE.out, RRc.out, Gx30.out⟩
                  ·
                    go_simp
                    go_at_call 49; refine (CGR.out _).mono ?_; rintro e x31 ⟨rfl, hbx31⟩
                    have Gx31 := hid (Gx26.out.below hbx31)
                    have RRc := hid (RRc.out.below hbx31)
                    have CB := hid (CB.out.below hbx31)
                    have A := hid (A.out.below hbx31)
                    clear hbx31
                    go_wp2_with fail
                    refine hQc.out _ _ Gx31 (fun hHeld => ?_)
                    clear hQc Qc Gx26
                    try simp only [Act.put, List.setIfInBounds_toArray, List.set_cons_zero, List.set_cons_succ]
                    refine wpAnyH_ready (rs := [5]) (by kernel_rfl) (by simp) ?_
                    refine (AllReadyH.cons (o := { dst := some 62, op := _, type := _, pos := _, after := _, guard := _ }) rfl (fun Qc hQc => ?_) AllReadyH.nil)
                    rw [if_pos (by rfl)]
                    refine wp_load_mid 26 (.tmp 61) rfl ga 0 rfl (u8s part) _ (rng_of CB.out HCC.out) Tryd.underlying26 rfl PI.out ?_
                    refine hQc.out _ _ Gx31 (fun hHeld => ?_)
                    clear hQc Qc
                    try simp only [Act.put, List.setIfInBounds_toArray, List.set_cons_zero, List.set_cons_succ]
                    refine wpAnyH_ready (rs := [10]) (by kernel_rfl) (by simp) ?_
                    refine (AllReadyH.cons (o := { dst := some 67, op := _, type := _, pos := _, after := _, guard := _ }) rfl (fun Qc hQc => ?_) AllReadyH.nil)
                    go_simp
                    go_at_call 41; refine (CW1.out _ (B8.out.trans (Gx31.out.b B8.out.size (by have := LR2.out; omega)))).mono ?_; rintro e x33 ⟨rfl, hbx33⟩
                    have Gx33 := hid (Gx31.out.below hbx33)
                    have RRc := hid (RRc.out.below hbx33)
                    have CB := hid (CB.out.below hbx33)
                    have A := hid (A.out.below hbx33)
                    clear hbx33
                    go_wp2_with fail
                    refine hQc.out _ _ Gx33 (fun hHeld => ?_)
                    clear hQc Qc Gx31
                    try simp only [Act.put, List.setIfInBounds_toArray, List.set_cons_zero, List.set_cons_succ]
                    refine wpAnyH_ready (rs := [12]) (by kernel_rfl) (by simp) ?_
                    refine (AllReadyH.cons (o := { dst := none, op := _, type := _, pos := _, after := _, guard := _ }) rfl (fun Qc hQc => ?_) AllReadyH.nil)
                    rw [if_pos (by rfl)]
                    refine wp_store_row 26 (.tmp 17) (.tmp 67) rfl (g2) (u8s R).toArray rfl rfl 26 Z A.out RI.out RZ.out (u8s_all R) ?_
                    have Gx34 := hid (Gx33.out.row (g := g2) LE.out (u8s R).toArray)
                    have KWx34 := hid ((A.out).row (u8s R).toArray)
                    have RRc := hid (RRepA.rowFar (b := rd) (d := d) (g := g2) RRc.out (by have := LE.out; have := LTR.out; omega) (by have := LE.out; have := LTD.out; omega) (u8s R).toArray)
                    refine hQc.out _ _ Gx34 (fun hHeld => ?_)
                    clear hQc Qc Gx33
                    generalize x33.setRow (g2) (u8s R).toArray = x34 at Gx34 KWx34 RRc hHeld ⊢
                    try simp only [Act.put, List.setIfInBounds_toArray, List.set_cons_zero, List.set_cons_succ]
                    refine wpAnyH_done (by kernel_rfl) ?_ _
                    try simp only [Act.put, List.setIfInBounds_toArray, List.set_cons_zero, List.set_cons_succ]
                    exact ⟨ga, c9, g2, rfl, KWx34.out, LE.out, RRc.out, Gx34.out⟩
              ·
                go_simp
                have Gx35 := hid (Gx0.out.alloc (.cells Z 26))
                have HBx35 : Below x0.heap.size x0 (x0.alloc (.cells Z 26)) := (Below.refl _ _).alloc (Nat.le_refl _) _
                have RRc := hid (RRc.out.below HBx35)
                have A := hid (Blk.new x0 26 Z)
                have LE : Hid (W.heap.size ≤ x0.heap.size) := Gx0.out.bl.size
                clear HBx35
                refine hQc.out _ _ Gx35 (fun hHeld => ?_)
                clear hQc Qc Gx0
                generalize hgx35 : x0.heap.size = g2 at A LE RRc ⊢
                generalize x0.alloc (.cells Z 26) = x35 at Gx35 A RRc hHeld ⊢
                clear hgx35
                try simp only [Act.put, List.setIfInBounds_toArray, List.set_cons_zero, List.set_cons_succ]
                refine wpAnyH_ready (rs := [3]) (by kernel_rfl) (by simp) ?_
                refine (AllReadyH.cons (o := { dst := some 60, op := _, type := _, pos := _, after := _, guard := _ }) rfl (fun Qc hQc => ?_) AllReadyH.nil)
                go_simp
                go_at_call 48; refine (CPL.out _ RRc.out).mono ?_; rintro e x36 ⟨A9, c9, rfl, hc9, hf9, hr9, ho9⟩
                obtain ⟨ga, cur, rfl, hga, hcb, hcc⟩ := hf9 (by rw [HPK.out.len]; decide)
                have Gx36 := hid (Rw.mk (Gx35.out.bl.trans ho9))
                have RRc := hid hr9; have CB := hid hcb; have HCC := hid hcc
                have A := hid (A.out.only ho9 (not_of (by have := LE.out; have := LTR.out; omega)))
                clear hc9 hf9 hr9 ho9 hga hcb hcc
                go_wp2_with fail
                refine hQc.out _ _ Gx36 (fun hHeld => ?_)
                clear hQc Qc Gx35
                try simp only [Act.put, List.setIfInBounds_toArray, List.set_cons_zero, List.set_cons_succ]
                refine wpAnyH_take (i := 4) (oi := { dst := some 61, op := _, type := _, pos := _, after := _, guard := _ }) (v := .pointer (some ⟨ga, 0, none⟩)) rfl (by kernel_rfl) (by kernel_rfl) (by kernel_rfl) (fun _ _ _ h => h) (Or.inl ⟨by kernel_rfl, ?_⟩) (by assumption) ?_
                · (intro w hSw; have haa := arrayAt_32 ga c9 w; go_simp; try with_reducible rfl)
                try simp only [Act.put, List.setIfInBounds_toArray, List.set_cons_zero, List.set_cons_succ]
                refine wpAnyH_ready (rs := [5, 9]) (by kernel_rfl) (by simp) ?_
                refine (AllReadyH.cons (o := { dst := some 62, op := _, type := _, pos := _, after := _, guard := _ }) rfl (fun Qc hQc => ?_) (AllReadyH.cons (o := { dst := some 66, op := _, type := _, pos := _, after := _, guard := _ }) rfl (fun Qc hQc => ?_) AllReadyH.nil))
                ·
                  rw [if_pos (by rfl)]
                  refine wp_load_mid 26 (.tmp 61) rfl ga 0 rfl (u8s part) _ (rng_of CB.out HCC.out) Tryd.underlying26 rfl PI.out ?_
                  refine hQc.out _ _ Gx36 (fun hHeld => ?_)
                  clear hQc Qc
                  try simp only [Act.put, List.setIfInBounds_toArray, List.set_cons_zero, List.set_cons_succ]
                  refine wpAnyH_ready (rs := [9]) (by kernel_rfl) (by simp) ?_
                  refine (AllReadyH.cons (o := { dst := some 66, op := _, type := _, pos := _, after := _, guard := _ }) rfl (fun Qc hQc => ?_) AllReadyH.nil)
                  go_simp
                  go_at_call 49; refine (CGR.out _).mono ?_; rintro e x38 ⟨rfl, hbx38⟩
                  have Gx38 := hid (Gx36.out.below hbx38)
                  have RRc := hid (RRc.out.below hbx38)
                  have A := hid (A.out.below hbx38)
                  have CB := hid (CB.out.below hbx38)
                  clear hbx38
                  go_wp2_with fail
                  refine hQc.out _ _ Gx38 (fun hHeld => ?_)
                  clear hQc Qc Gx36
                  try simp only [Act.put, List.setIfInBounds_toArray, List.set_cons_zero, List.set_cons_succ]
                  refine wpAnyH_ready (rs := [10]) (by kernel_rfl) (by simp) ?_
                  refine (AllReadyH.cons (o := { dst := some 67, op := _, type := _, pos := _, after := _, guard := _ }) rfl (fun Qc hQc => ?_) AllReadyH.nil)
                  go_simp
                  go_at_call 41; refine (CW1.out _ (B8.out.trans (Gx38.out.b B8.out.size (by have := LR2.out; omega)))).mono ?_; rintro e x39 ⟨rfl, hbx39⟩
                  have Gx39 := hid (Gx38.out.below hbx39)
                  have RRc := hid (RRc.out.below hbx39)
                  have A := hid (A.out.below hbx39)
                  have CB := hid (CB.out.below hbx39)
                  clear hbx39
                  go_wp2_with fail
                  refine hQc.out _ _ Gx39 (fun hHeld => ?_)
                  clear hQc Qc Gx38
                  try simp only [Act.put, List.setIfInBounds_toArray, List.set_cons_zero, List.set_cons_succ]
                  refine wpAnyH_ready (rs := [12]) (by kernel_rfl) (by simp) ?_
                  refine (AllReadyH.cons (o := { dst := none, op := _, type := _, pos := _, after := _, guard := _ }) rfl (fun Qc hQc => ?_) AllReadyH.nil)
                  rw [if_pos (by rfl)]
                  refine wp_store_row 26 (.tmp 17) (.tmp 67) rfl (g2) (u8s R).toArray rfl rfl 26 Z A.out RI.out RZ.out (u8s_all R) ?_
                  have Gx40 := hid (Gx39.out.row (g := g2) LE.out (u8s R).toArray)
                  have KWx40 := hid ((A.out).row (u8s R).toArray)
                  have RRc := hid (RRepA.rowFar (b := rd) (d := d) (g := g2) RRc.out (by have := LE.out; have := LTR.out; omega) (by have := LE.out; have := LTD.out; omega) (u8s R).toArray)
                  refine hQc.out _ _ Gx40 (fun hHeld => ?_)
                  clear hQc Qc Gx39
                  generalize x39.setRow (g2) (u8s R).toArray = x40 at Gx40 KWx40 RRc hHeld ⊢
                  try simp only [Act.put, List.setIfInBounds_toArray, List.set_cons_zero, List.set_cons_succ]
                  refine wpAnyH_done (by kernel_rfl) ?_ _
                  try simp only [Act.put, List.setIfInBounds_toArray, List.set_cons_zero, List.set_cons_succ]
                  exact ⟨ga, c9, g2, rfl, KWx40.out, LE.out, RRc.out, Gx40.out⟩
                ·
                  go_simp
                  go_at_call 49; refine (CGR.out _).mono ?_; rintro e x41 ⟨rfl, hbx41⟩
                  have Gx41 := hid (Gx36.out.below hbx41)
                  have RRc := hid (RRc.out.below hbx41)
                  have A := hid (A.out.below hbx41)
                  have CB := hid (CB.out.below hbx41)
                  clear hbx41
                  go_wp2_with fail
                  refine hQc.out _ _ Gx41 (fun hHeld => ?_)
                  clear hQc Qc Gx36
                  try simp only [Act.put, List.setIfInBounds_toArray, List.set_cons_zero, List.set_cons_succ]
                  refine wpAnyH_ready (rs := [5]) (by kernel_rfl) (by simp) ?_
                  refine (AllReadyH.cons (o := { dst := some 62, op := _, type := _, pos := _, after := _, guard := _ }) rfl (fun Qc hQc => ?_) AllReadyH.nil)
                  rw [if_pos (by rfl)]
                  refine wp_load_mid 26 (.tmp 61) rfl ga 0 rfl (u8s part) _ (rng_of CB.out HCC.out) Tryd.underlying26 rfl PI.out ?_
                  refine hQc.out _ _ Gx41 (fun hHeld => ?_)
                  clear hQc Qc
                  try simp only [Act.put, List.setIfInBounds_toArray, List.set_cons_zero, List.set_cons_succ]
                  refine wpAnyH_ready (rs := [10]) (by kernel_rfl) (by simp) ?_
                  refine (AllReadyH.cons (o := { dst := some 67, op := _, type := _, pos := _, after := _, guard := _ }) rfl (fun Qc hQc => ?_) AllReadyH.nil)
                  go_simp
                  go_at_call 41; refine (CW1.out _ (B8.out.trans (Gx41.out.b B8.out.size (by have := LR2.out; omega)))).mono ?_; rintro e x43 ⟨rfl, hbx43⟩
                  have Gx43 := hid (Gx41.out.below hbx43)
                  have RRc := hid (RRc.out.below hbx43)
                  have A := hid (A.out.below hbx43)
                  have CB := hid (CB.out.below hbx43)
                  clear hbx43
                  go_wp2_with fail
                  refine hQc.out _ _ Gx43 (fun hHeld => ?_)
                  clear hQc Qc Gx41
                  try simp only [Act.put, List.setIfInBounds_toArray, List.set_cons_zero, List.set_cons_succ]
                  refine wpAnyH_ready (rs := [12]) (by kernel_rfl) (by simp) ?_
                  refine (AllReadyH.cons (o := { dst := none, op := _, type := _, pos := _, after := _, guard := _ }) rfl (fun Qc hQc => ?_) AllReadyH.nil)
                  rw [if_pos (by rfl)]
                  refine wp_store_row 26 (.tmp 17) (.tmp 67) rfl (g2) (u8s R).toArray rfl rfl 26 Z A.out RI.out RZ.out (u8s_all R) ?_
                  have Gx44 := hid (Gx43.out.row (g := g2) LE.out (u8s R).toArray)
                  have KWx44 := hid ((A.out).row (u8s R).toArray)
                  have RRc := hid (RRepA.rowFar (b := rd) (d := d) (g := g2) RRc.out (by have := LE.out; have := LTR.out; omega) (by have := LE.out; have := LTD.out; omega) (u8s R).toArray)
                  refine hQc.out _ _ Gx44 (fun hHeld => ?_)
                  clear hQc Qc Gx43
                  generalize x43.setRow (g2) (u8s R).toArray = x44 at Gx44 KWx44 RRc hHeld ⊢
                  try simp only [Act.put, List.setIfInBounds_toArray, List.set_cons_zero, List.set_cons_succ]
                  refine wpAnyH_done (by kernel_rfl) ?_ _
                  try simp only [Act.put, List.setIfInBounds_toArray, List.set_cons_zero, List.set_cons_succ]
                  exact ⟨ga, c9, g2, rfl, KWx44.out, LE.out, RRc.out, Gx44.out⟩

            · rintro a' w8 ⟨ga, c9, g2, rfl, hb2, hle2, hra2, hrw⟩
              have X9 := hid hb2; have LE9 := hid hle2; have RA9 := hid hra2; have RW9 := hid hrw
              have EB9 := hid (EB8.out.only hrw.bl (not_of (by have := LT6.out; have := LR1.out; omega)))
              have hcn := ownsRow_blk OW8.out
              obtain ⟨curN, hcn⟩ := hcn
              have OW9 := hid (ownsRow_same OW8.out ((hcn.only hrw.bl (not_of (by have := LT6.out; have := LR1.out; omega))).trans hcn.symm))
              have ce : w8.cell? ⟨nb + 1, 0, none⟩ = some (.slice (some ⟨nb, 0, none⟩) (32 * pl) (32 * ch)) := EB9.out.cell 0
              have ce' : w8.drew.cell? ⟨nb + 1, 0, none⟩ = some (.slice (some ⟨nb, 0, none⟩) (32 * pl) (32 * ch)) := ce
              have RX9 := hid (blk_rp X9.out)
              have HFIT : Hid (32 * pl + 32 ≤ 32 * ch) := by show _ ≤ _; have := HPL.out; omega
              have GN0 : Hid (Nx nb w8 w8.drew) := ⟨(OnlyS.refl _ _).drew⟩
              have fe : ∀ w9, w8.drew.grownBy w9 (some nb) → w9.cell? ⟨nb + 1, 0, none⟩ = some (.slice (some ⟨nb, 0, none⟩) (32 * pl) (32 * ch)) ∧ w9.frozen? ⟨nb + 1, 0, none⟩ = false := fun w9 h => by
                have hb9 : Blk w9 (nb + 1) 29 #[.slice (some ⟨nb, 0, none⟩) (32 * pl) (32 * ch)] := (EB9.out.drew).same (h.block (nb + 1) EB9.out.lt (by simp))
                exact ⟨hb9.cell 0, hb9.frozen 0⟩
              have FE := hid fe
              clear hb2 hle2 hra2 hrw hcn ce fe
              gi_wp2
              refine wpIn_cut (fun a' w' => ∃ w9, a' = { tmps := #[.agg (u8s id).toArray, .int .u32 q, .slice A m c, .slice A2 m2 c2, .pointer (some ⟨w.heap.size, 0, none⟩), undef, undef, undef, .pointer (some ⟨w.heap.size + 1, 0, none⟩), .bool false, .pointer (some ⟨rb, 0, none⟩), .int .i64 k, .pointer (some ⟨g, 0, none⟩), .slice A5 32 c5, .pointer (some ⟨nb + 1, 0, none⟩), .int .i64 (i1 : Int), .int .i64 (t : Int), .pointer (some ⟨g2, 0, none⟩), .slice A2 m2 c2, .pointer (some ⟨rd, 0, none⟩), .pointer (some ⟨rd, 0, none⟩), .int .u32 k, .int .i64 k, .int .i64 k, .agg (shp k), .agg (u8s id).toArray, .int .u32 q, .agg (keyC k id q), .pointer (some ⟨g, 0, none⟩), .pointer (some ⟨g, 1, none⟩), .int .i64 (ch : Int), .bool false, .bool false, .slice A2 m2 c2, .int .i64 (sz : Int), .int .i64 k, .int .i64 (sz : Int), .bool false, .bool false, undef, .pointer (some ⟨rd, 0, none⟩), .slice A5 32 c5, .pointer (some ⟨g, 0, none⟩), .pointer (some ⟨g, 1, none⟩), .int .i64 (ch : Int), .int .i64 (32 * (ch : Int)), .slice (some ⟨nb, 0, none⟩) 0 (32 * ch), .pointer (some ⟨g, 0, none⟩), .agg (shp k), .agg (keyC k id q), .slice A5 32 c5, .slice A m c, .slice (some ⟨rx, 0, none⟩) 2 2, .agg (u8s H).toArray, .func (.func 97) #[] #[.pointer (some ⟨bs, 0, none⟩), .pointer (some ⟨sc, 0, none⟩)], .int .i64 (i1 : Int), .int .i64 (t : Int), .agg (keyC k id q), .int .i64 (i1 : Int), .pointer (some ⟨rd, 0, none⟩), .slice (some ⟨ga, 0, none⟩) 32 c9, .pointer (some ⟨ga, 0, none⟩), .agg (u8s part).toArray, .int .i64 (t : Int), .pointer (some ⟨g, 0, none⟩), .agg (shp k), .int .i64 (mm : Int), .agg (u8s R).toArray, .slice (some ⟨nb, 0, none⟩) (32 * pl) (32 * ch), .slice (some ⟨g2, 0, none⟩) 32 32, .slice (some ⟨nb, 0, none⟩) (32 * pl + 32) (32 * ch), undef, undef, undef, undef], defers := [] } ∧ w9.ownsRow nb 5 1 (.slice (some ⟨nb, 0, none⟩) (32 * pl + 32) (32 * ch)) (32 * pl + 32) (u8s (rowsC id q sig mm pre ++ R)) ∧ w8.drew.grownBy w9 (some nb) ∧ w' = w9.setCell ⟨nb + 1, 0, none⟩ (.slice (some ⟨nb, 0, none⟩) (32 * pl + 32) (32 * ch))) ?_ ?_
              · refine region_round (S := fun w' => Hid (Nx nb w8 w')) (by kernel_rfl) (by rfl) ?_
                change wpAnyH _ _ _ _ _ _ _ _ w8.drew
                refine wpAnyH_take (i := 1) (oi := { dst := some 69, op := _, type := _, pos := _, after := _, guard := _ }) (v := ?_) rfl (by kernel_rfl) (by kernel_rfl) (by kernel_rfl) (fun _ _ _ h => h) (Or.inl ⟨by kernel_rfl, ?_⟩) (by assumption) ?_
                rotate_left
                · (intro w hSw; go_simp; try with_reducible rfl)
                try simp only [Act.put, List.setIfInBounds_toArray, List.set_cons_zero, List.set_cons_succ]
                refine wpAnyH_ready (rs := [0]) (by kernel_rfl) (by simp) ?_
                refine (AllReadyH.cons (o := { dst := some 68, op := _, type := _, pos := _, after := _, guard := _ }) rfl (fun Qc hQc => ?_) AllReadyH.nil)
                go_simp
                refine hQc.out _ _ GN0 (fun hHeld => ?_)
                clear hQc Qc
                try simp only [Act.put, List.setIfInBounds_toArray, List.set_cons_zero, List.set_cons_succ]
                refine wpAnyH_ready (rs := [2]) (by kernel_rfl) (by simp) ?_
                refine (AllReadyH.cons (o := { dst := some 70, op := _, type := _, pos := _, after := _, guard := _ }) rfl (fun Qc hQc => ?_) AllReadyH.nil)
                refine wp_append32 (.tmp 68) (.tmp 69) rfl nb (32 * pl) (32 * ch) (rowsC id q sig mm pre) R rfl OW9.out ⟨g2, 0, none⟩ 32 rfl HKR.out.len RX9.out HFIT.out ?_
                intro w9 how9 hgr9
                have GN1 : Hid (Nx nb w8 w9) := ⟨(OnlyS.refl _ _).drew.trans ⟨hgr9.os, hgr9.tape, hgr9.output, hgr9.size, fun k hk hn => hgr9.block k hk (fun e => hn (.inl (by injection e)))⟩⟩
                obtain ⟨ce9, fe9⟩ := FE.out w9 hgr9
                have HOW := hid how9; have HGR := hid hgr9
                clear how9 hgr9
                refine hQc.out _ _ GN1 (fun hHeld => ?_)
                clear hQc Qc
                try simp only [Act.put, List.setIfInBounds_toArray, List.set_cons_zero, List.set_cons_succ]
                refine wpAnyH_ready (rs := [3]) (by kernel_rfl) (by simp) ?_
                refine (AllReadyH.cons (o := { dst := none, op := _, type := _, pos := _, after := _, guard := _ }) rfl (fun Qc hQc => ?_) AllReadyH.nil)
                rw [if_pos (by rfl)]
                go_simp
                refine hQc.out _ _ (hid ⟨GN1.out.bl.setCell (.inl (.inr rfl)) _⟩) (fun hHeld => ?_)
                clear hQc Qc
                try simp only [Act.put, List.setIfInBounds_toArray, List.set_cons_zero, List.set_cons_succ]
                refine wpAnyH_done (by kernel_rfl) ?_ _
                try simp only [Act.put, List.setIfInBounds_toArray, List.set_cons_zero, List.set_cons_succ]
                exact ⟨w9, rfl, HOW.out, HGR.out, rfl⟩

              · rintro a' w10 ⟨w9, rfl, how9, hgr9, rfl⟩
                have o9 : OnlyS (fun j => j = nb ∨ j = nb + 1) w8.drew w9 := ⟨hgr9.os, hgr9.tape, hgr9.output, hgr9.size, fun k hk hn => hgr9.block k hk (fun e => hn (.inl (by injection e)))⟩
                have eb9 : Blk w9 (nb + 1) 29 #[.slice (some ⟨nb, 0, none⟩) (32 * pl) (32 * ch)] := (EB9.out.drew).same (hgr9.block (nb + 1) EB9.out.lt (by simp))
                have ra9 : RRepA w9 rd d (sig.drop (36 + 32 * (pl + 1))) := RA9.out.same (hgr9.block rd RA9.out.lt (by simp; have := LT6.out; have := LR1.out; omega)) (hgr9.block d (Nat.lt_of_lt_of_le LTD.out RW9.out.bl.size) (by simp; have := LT7.out; omega))
                have e32 : 32 * pl + 32 = 32 * (pl + 1) := by omega
                rw [e32] at how9
                have o12 : OnlyS (fun j => j = nb ∨ j = nb + 1) w8 (w9.setCell ⟨nb + 1, 0, none⟩ (.slice (some ⟨nb, 0, none⟩) (32 * pl + 32) (32 * ch))) := ((OnlyS.refl _ _).drew.trans o9).setCell (.inl (.inr rfl)) _
                have o3 : OnlyS (fun j => j = rd ∨ j = nb ∨ j = nb + 1) W (w9.setCell ⟨nb + 1, 0, none⟩ (.slice (some ⟨nb, 0, none⟩) (32 * pl + 32) (32 * ch))) := (RW9.out.bl.mono (fun k _ hk => by obtain ⟨a, e, rfl⟩ := hk; injection e with e; subst e; exact .inl rfl)).trans (o12.mono (fun k _ hk => .inr hk))
                have nU : ∀ j, j ≠ rd → j ≠ nb → j ≠ nb + 1 → ¬ (j = rd ∨ j = nb ∨ j = nb + 1) := fun j h1 h2 h3 h => by rcases h with h | h | h <;> contradiction
                have hcells : ∀ j, (j = rd ∨ j = nb ∨ j = nb + 1) → ∃ cs t, Blk W j t cs := by
                  rintro j (rfl | rfl | rfl)
                  · obtain ⟨A, c, h1, _⟩ := RR8.out
                    exact ⟨_, _, h1⟩
                  · obtain ⟨cur, h1⟩ := ownsRow_blk OW8.out
                    exact ⟨_, _, h1⟩
                  · exact ⟨_, _, EB8.out⟩
                have hz : RcI (keyC k id q) Z id q sig mm (32 * ch) w.heap.size g rb rd d nb (w.heap.size + 1) w (pre ++ [x]) (w9.setCell ⟨nb + 1, 0, none⟩ (.slice (some ⟨nb, 0, none⟩) (32 * pl + 32) (32 * ch))) := by
                  refine ⟨G8.out.only o3 (nU _ NG.out (by have := LT5.out; omega) (by have := LT5.out; omega)), BX8.out.only o3 (nU _ NB.out (by have := LT6.out; omega) (by have := LT6.out; omega)), Z8.out.only o3 (nU _ (by have := LR2.out; omega) (by have := LW5.out; omega) (by have := LW5.out; omega)), ?_, ?_, ?_, B8.out.trans (o3.below B8.out.size (fun j hj => ?_))⟩
                  · rw [HLN.out]
                    exact ra9.same (Below.heap_setCell w9 _ _ rd (by show rd ≠ nb + 1; have := LT6.out; have := LR1.out; omega)) (Below.heap_setCell w9 _ _ d (by show d ≠ nb + 1; have := LT7.out; omega))
                  · rw [HLN.out, ← e32]
                    exact eb9.setd 0 _
                  · rw [HLN.out, HRC.out]
                    exact ownsRow_same how9 (Below.heap_setCell w9 _ _ nb (by show nb ≠ nb + 1; omega))
                  · have := LR2.out; have := LW5.out
                    rcases hj with h | h | h <;> omega
                gi_wp2
                exact ⟨only_cells hcells o3, KpS.only o3 (fun j hj => nU _ (by have := GE7.out j hj; have := S6.out; have := LT6.out; have := LR1.out; omega) (by have := GE7.out j hj; have := S6.out; omega) (by have := GE7.out j hj; have := S6.out; omega)), hz⟩
          case done =>
            rintro D ys W hD rfl hI hK
            have hm : ndig k 34 = kchains k := rfl
            have hrow := hI.row; have heb := hI.eb
            rw [hm, upto_length] at hrow heb
            rw [rowsC_led] at hrow
            obtain ⟨hrp, hrl, hrc⟩ := rp_of_row hrow
            have hLK : under id q 32896 (rowsOf (kchains k) fun i => steps id q i ((sig.drop (36 + 32 * i)).take 32) (dgt k H i) (mm - dgt k H i)) = recK id q msg sig := by
              rw [HRK.out, HMM.out, HH2.out, HSALT.out]
              rfl
            have hfk : ∀ i : Nat, i < kchains k → Ky (steps id q i ((sig.drop (36 + 32 * i)).take 32) (dgt k H i) (mm - dgt k H i)) := fun i hi => steps_ky ⟨by rw [List.length_take, List.length_drop]; have := HSL.out; omega, (HSB.out.drop _).take 32⟩ _ _
            have hEB : Bs (rowsOf (kchains k) fun i => steps id q i ((sig.drop (36 + 32 * i)).take 32) (dgt k H i) (mm - dgt k H i)) := by
              intro v hv
              unfold rowsOf at hv
              rw [List.mem_flatMap] at hv
              obtain ⟨i, hi, hv⟩ := hv
              exact (hfk i (by simpa using hi)).bs v hv
            generalize (rowsOf (kchains k) fun i => steps id q i ((sig.drop (36 + 32 * i)).take 32) (dgt k H i) (mm - dgt k H i)) = E at hrp hrl hLK hEB
            have hky : Ky (recK id q msg sig) := by rw [← hLK]; exact under_ky _ _ _ _
            have hkc := kchains_le k
            have CS2 : Hid (∀ (A1 : Option Addr) (w1 : World), InR w1 A1 1 [E] → Below w.heap.size w w1 → Calls Tryd.prog 40 #[.agg (keyC k id q), .int .i64 32896, .slice A1 1 1] w1 fun e w' => e = .returned (.agg (u8s (recK id q msg sig)).toArray) ∧ Below w1.heap.size w1 w') := fun A1 w1 h hb1 => by
              have := ksum_any k id q 32896 A1 1 1 [E] w1 HIDN.out HQ.out (by decide) h (by decide) (fun f hf => by
                simp only [List.mem_cons, List.not_mem_nil, or_false] at hf
                subst hf
                omega) (fun f hf => by
                simp only [List.mem_cons, List.not_mem_nil, or_false] at hf
                subst hf
                exact hEB) (by simp only [List.flatten_cons, List.flatten_nil, List.append_nil]; omega) (HT.out _ hb1)
              rw [show [E].flatten = E by simp, hLK] at this
              exact this
            have HIN := hid (inR_one (w := W) (n1 := 32 * kchains k) (c1 := 32 * ch) hrl.symm hrp hEB (by omega) (by omega))
            have ce : W.cell? ⟨nb + 1, 0, none⟩ = some (.slice (some ⟨nb, 0, none⟩) (32 * kchains k) (32 * ch)) := heb.cell 0
            have hbb : Below W.heap.size W (W.alloc (.cells #[.slice (some ⟨nb, 0, none⟩) (32 * kchains k) (32 * ch)] 29)) := (Below.refl _ _).alloc (Nat.le_refl _) _
            have GD := hid hI.key; have ZD := hid (hI.zz.below hbb); have BD := hid (hI.bl.trans (hbb.mono hI.bl.size)); have HKX := hid hK
            have HD7 : Hid (w.heap.size + 1 < D) := by show _ < _; have := LW5.out; have := S6.out; have := LT7b.out; omega
            have HDW : Hid (D < W.heap.size) := by
              show _ < _
              rcases Nat.lt_or_ge D W.heap.size with h | h
              · exact h
              · rw [Array.getElem?_eq_none h] at hK; cases hK
            have LKI := hid (info_hash _ hky.len)
            have LKZ : Hid (Z.size = (u8s (recK id q msg sig)).toArray.size) := by show _ = _; rw [HZS.out, hash_size hky.len]
            have HRB := hid HSB2.out
            generalize hLKg : recK id q msg sig = LK at CS2 LKI LKZ
            have HLKG := hid hLKg
            clear hm hrow heb hrp hrl hrc hLK hfk hEB hky hbb hI hK hLKg
            generalize 32 * kchains k = ln at ce HIN ZD BD hkc
            go_wp2_with (first
              | (refine load_at rfl 64 (.tmp 12) rfl g 0 rfl (keyC k id q).toList _ (blk_rng GD.out) Tryd.underlying64 rfl KLI.out (keyC k id q) rfl ?_)
              | (go_at_call 40; refine (CS2.out _ _ HIN.out BD.out).mono ?_; rintro e w9 ⟨rfl, hb9⟩; have M9 := hid (ZD.out.below hb9); have BB := hid (BD.out.trans (hb9.mono BD.out.size)); have hk9 : w9.heap[D]? = some (.deferred (some [])) := (hb9.block D (Nat.lt_of_lt_of_le HDW.out (by rw [World.size_alloc]; omega))).trans ((Below.heap_alloc W _ D HDW.out).trans HKX.out); have HK9 := hid hk9; clear hb9 hk9)
              | (refine wpList_store_row rfl 26 (.tmp 8) (.tmp 74) rfl (w.heap.size + 1) (u8s LK).toArray rfl rfl 26 Z M9.out LKI.out LKZ.out (u8s_all LK) ?_))
            have hK10 : (w9.setRow (w.heap.size + 1) (u8s LK).toArray).heap[D]? = some (.deferred (some [])) := (setRow_other w9 _ D _ (by have := HD7.out; omega)).trans HK9.out
            refine ⟨by simp, .inl ⟨_, _, rfl, run_takeDeferred hK10, ?_⟩⟩
            refine ⟨_, results_two Tryd.results14 _ _ (w.heap.size + 1) 26 (u8s LK).toArray (0, 0) _ rfl ((M9.out.row _).same ((grownBy_putObj' _ D (.deferred none)).block _ (Blk.lt (M9.out.row _)) (fun e => by injection e with e; have := HD7.out; omega))) Tryd.underlying26 rfl LKI.out, by rw [HRB.out, HLKG.out]; rfl, (below_setRow BB.out (by omega) _).trans (belowK_b (w := w) (Nat.le_refl _) _ D _ _ (by have := HD7.out; omega) hK10 rfl rfl)⟩
          case stop =>
            rintro D c pre W _ _ h _
            exact h.elim
      · have hno : sigB sig = false := sigB_no HSB.out (.inr (by rw [← HKE.out]; exact hsz))
        have hrk : recK id q msg sig = zeroK := by unfold recK; rw [if_neg (by rw [hno]; simp)]
        have hc0 : ((kchains k : Nat) : Int) ≠ 0 := by omega
        have hc1 : (((kchains k : Nat) : Int) == 0) = false := by simpa using hc0
        have hs0 : ((m2 : Nat) : Int) ≠ ((ksize k : Nat) : Int) := by rw [HM2.out]; omega
        have HNO := hid hno; have HRK := hid hrk
        clear hno hrk hch hsz
        generalize kchains k = ch at c1 hc0 hc1
        generalize ksize k = sz at CSZ hs0
        go_wp2_with (first
          | (go_at_call 44; refine (CSZ.out _).mono ?_; rintro e w4 ⟨rfl, hb4⟩; have Z4 := hid (Z3.out.below hb4); have B4 := hid (B3.out.trans (hb4.mono B3.out.size)); clear hb4)
          | (refine wpList_store_row rfl 26 (.tmp 8) (.tmp 39) rfl (w.heap.size + 1) Z rfl rfl 26 Z Z4.out HHI.out rfl HZA.out ?_))
        refine ⟨_, results_two Tryd.results14 _ _ (w.heap.size + 1) 26 Z (0, 0) _ rfl (Z4.out.row _) Tryd.underlying26 rfl HHI.out, by rw [HNO.out, HRK.out, HZZ.out]; rfl, below_setRow B4.out (by omega) _⟩
end Go.Proofs.YtobceieadjpaaaaDoor
