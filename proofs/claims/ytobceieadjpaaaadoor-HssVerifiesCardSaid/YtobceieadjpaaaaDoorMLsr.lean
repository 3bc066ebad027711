/-
  What is proved here: the document's own node of a tree, and two hashes side by side.
-/
import Derived.Test.YtobceieadjpaaaaDoorMKa1
import Derived.Test.YtobceieadjpaaaaDoorMLs1
import Derived.Test.YtobceieadjpaaaaDoorMKa2
set_option linter.unusedSimpArgs false
set_option linter.unusedVariables false
namespace Go.Proofs.YtobceieadjpaaaaDoor
open Go.ChangeShapes Go.WideShapes Go.ChangeAt Go.RowKit
set_option linter.unusedVariables false
set_option maxRecDepth 20000

set_option maxHeartbeats 4000000 in
theorem tNode_any (id : List Int) (q i : Int) (A : Option Addr) (m c : Nat) (b : List Int) (w : World) (hi : Idn id) (hq : 0 ≤ q ∧ q < 4294967296) (hi2 : 0 ≤ i ∧ i < 65536) (hm : m = b.length) (hr : Rp w none A b) (hb : Bs b) (hl : b.length < 1000000) :
    Calls Tryd.prog 59 #[.agg (u8s id).toArray, .int .i64 q, .int .i64 i, .slice A m c] w fun e w' => e = .returned (.agg (u8s (under id q i b)).toArray) ∧ Below w.heap.size w w' := by
  obtain ⟨Z, HZ, hZ0, hZs⟩ := zero_Hash
  obtain ⟨hk1, hk2, hb0⟩ := blks2 w (u8s id).toArray Z 23 26
  have K1 := hid hk1; have K2 := hid hk2; have B0 := hid hb0
  have RI := hid (blk_rp hk1)
  have O0 := hid (own_none ((w.alloc (.cells (u8s id).toArray 23)).alloc (.cells Z 26)) (w.heap.size + 1 + 1))
  have S0 : Hid (w.heap.size + 1 + 1 ≤ ((w.alloc (.cells (u8s id).toArray 23)).alloc (.cells Z 26)).heap.size) := by show _ ≤ _; simp
  have HR := hid (fun (w1 : World) (hb : Below w.heap.size w w1) => hr.belowN hb)
  have HSL := hid (fun (w1 : World) (A1 : Option Addr) (c1 : Nat) (hr : Rp w1 none A1 (id ++ be q 4 ++ be i 2 ++ b)) => RSum_any A1 c1 (id ++ be q 4 ++ be i 2 ++ b) w1 hr (under_text_bs hi hb q i) (by rw [under_text_len hi]; omega))
  have HL := hid (under_text_len (b := b) hi q i)
  have NQ : Hid (∀ w, Calls Tryd.prog 89 #[.int .u64 q, .int .i64 4] w fun e w' => ∃ A c, e = .returned (.slice A 4 c) ∧ 4 ≤ c ∧ Fresh w w' A (be q 4) ∧ Below w.heap.size w w') := fun w => Number_any q 4 w ⟨hq.1, by omega⟩ (by decide)
  have NI : Hid (∀ w, Calls Tryd.prog 89 #[.int .u64 i, .int .i64 2] w fun e w' => ∃ A c, e = .returned (.slice A 2 c) ∧ 2 ≤ c ∧ Fresh w w' A (be i 2) ∧ Below w.heap.size w w') := fun w => Number_any i 2 w ⟨hi2.1, by omega⟩ (by decide)
  have L16 := hid hi.len
  have LB := hid hl
  have HM := hid hm
  have L4 : Hid (([] ++ id ++ be q 4 ++ be i 2).length + b.length < 1000000000000) := by show _ < _; simp only [List.length_append, be_length, hi.len, List.length_nil]; omega
  have hS : sum (id ++ be q 4 ++ be i 2 ++ b) = under id q i b := rfl
  unfold hashV at HSL
  rw [hS] at HSL
  have hky := under_ky id q i b
  generalize under id q i b = S at HSL hky ⊢
  have HI := hid (info_hash S hky.len)
  have HZ32 : Hid (Z.size = (u8s S).toArray.size) := by
    show _ = _
    rw [HZ.out, List.size_toArray, List.size_toArray, u8s_length, u8s_length, hky.len]; simp
  obtain ⟨q0, q1⟩ := hq
  obtain ⟨j0, j1⟩ := hi2
  have s1 : IntKind.u64.wrap i = i := by simp [IntKind.wrap, IntKind.bits, IntKind.signed]; omega
  have s2 : IntKind.u64.wrap q = q := by simp [IntKind.wrap, IntKind.bits, IntKind.signed]; omega
  clear hk1 hk2 hb0 hr hb hl hm hS hky
  go_enter Tryd.func59, Tryd.ntmps59
  go_wp2_with (first
    | (at_builtin; refine append_rpm rfl (.tmp 10) (.tmp 11) rfl (w.heap.size + 1 + 1) (w.heap.size + 1 + 1) _ [] rfl O0.out (some ⟨w.heap.size, 0, none⟩) 16 16 id L16.out.symm rfl RI.out (by rw [L16.out]; decide) S0.out (Nat.le_refl _) ?_; intro v1 w1 O1 B1; have Z1 := hid (Nat.le_trans S0.out B1.out.size))
    | (go_at_call 89; (with_reducible refine (NQ.out _).mono ?_); rintro e w2 ⟨A2, c2, rfl, hc2, hf2, hb2⟩; have F2 := hid hf2.rp0; have O2 := hid (own_below O1.out hb2); have B2 := hid (B1.out.trans (hb2.mono Z1.out)); have Z2 := hid (Nat.le_trans Z1.out hb2.size); clear hc2 hf2 hb2)
    | (at_builtin; refine append_rpm rfl (.tmp 13) (.tmp 16) rfl (w.heap.size + 1 + 1) (w.heap.size + 1 + 1) _ ([] ++ id) rfl O2.out A2 4 c2 (be q 4) (by rw [be_length]) rfl F2.out (by rw [be_length, List.nil_append, L16.out]; decide) Z2.out (Nat.le_refl _) ?_; intro v3 w3 O3 B3; have Z3 := hid (Nat.le_trans Z2.out B3.out.size))
    | (go_at_call 89; (with_reducible refine (NI.out _).mono ?_); rintro e w4 ⟨A4, c4, rfl, hc4, hf4, hb4⟩; have F4 := hid hf4.rp0; have O4 := hid (own_below O3.out hb4); have B4 := hid ((B2.out.trans B3.out).trans (hb4.mono Z3.out)); have Z4 := hid (Nat.le_trans Z3.out hb4.size); clear hc4 hf4 hb4)
    | (at_builtin; refine append_rpm rfl (.tmp 18) (.tmp 21) rfl (w.heap.size + 1 + 1) (w.heap.size + 1 + 1) _ ([] ++ id ++ be q 4) rfl O4.out A4 2 c4 (be i 2) (by rw [be_length]) rfl F4.out (by rw [List.length_append, be_length, be_length, List.nil_append, L16.out]; decide) Z4.out (Nat.le_refl _) ?_; intro v5 w5 O5 B5; have Z5 := hid (Nat.le_trans Z4.out B5.out.size); have HRB := hid (HR.out w5 (B0.out.trans ((B4.out.trans B5.out).mono (by omega)))))
    | (at_builtin; refine append_rpm rfl (.tmp 23) (.tmp 24) rfl (w.heap.size + 1 + 1) (w.heap.size + 1 + 1) _ ([] ++ id ++ be q 4 ++ be i 2) rfl O5.out A m c b HM.out rfl HRB.out L4.out Z5.out (Nat.le_refl _) ?_; intro v7 w7 O7 B7; have Z7 := hid (Nat.le_trans Z5.out B7.out.size); have BA := hid ((B4.out.trans B5.out).trans B7.out)))
  obtain ⟨A7, c7, rfl, _, hc7, hf7⟩ := fresh_of_own (w := w) O7.out (by omega)
  have F7 := hid hf7.rp0
  clear hc7 hf7 O7
  go_wp2_with (first
    | (go_at_call 90; refine (HSL.out _ A7 c7 F7.out).mono ?_; rintro e w8 ⟨rfl, hb8⟩; have B8 := hid (BA.out.trans (hb8.mono Z7.out)); have K8 := hid (K2.out.same (B8.out.block _ (by omega))); clear hb8)
    | (refine wpList_store_row rfl 26 (.tmp 8) (.tmp 27) rfl (w.heap.size + 1) (u8s S).toArray rfl rfl 26 Z K8.out HI.out HZ32.out (u8s_all S) ?_))
  try go_frame
  refine bodyPost_ret (results_cell_row Tryd.results59 _ _ (w.heap.size + 1) 26 (u8s S).toArray (0, 0) _ rfl (K8.out.row _) Tryd.underlying26 rfl HI.out) rfl ?_
  exact ⟨rfl, below_setRow (B0.out.trans (B8.out.mono (by omega))) (by omega) _⟩

set_option maxHeartbeats 1000000 in
theorem two_any (a b : List Int) (w : World) (ha : Ky a) (hb : Ky b) :
    Calls Tryd.prog 60 #[.agg (u8s a).toArray, .agg (u8s b).toArray] w fun e w' => ∃ A c, e = .returned (.slice A 64 c) ∧ Rp w' none A (a ++ b) ∧ Below w.heap.size w w' := by
  obtain ⟨hk1, hk2, hb0⟩ := blks2 w (u8s a).toArray (u8s b).toArray 26 26
  have B0 := hid hb0
  have R1 := hid (blk_rp hk1); have K2 := hid hk2
  have O0 := hid (own_none ((w.alloc (.cells (u8s a).toArray 26)).alloc (.cells (u8s b).toArray 26)) (w.heap.size + 1 + 1))
  have S0 : Hid (w.heap.size + 1 + 1 ≤ ((w.alloc (.cells (u8s a).toArray 26)).alloc (.cells (u8s b).toArray 26)).heap.size) := by show _ ≤ _; simp
  have LA := hid ha.len; have LB := hid hb.len
  clear hk1 hk2 hb0 ha hb
  go_enter Tryd.func60, Tryd.ntmps60
  go_wp2_with (first
    | (at_builtin; refine append_rpm rfl (.tmp 6) (.tmp 7) rfl (w.heap.size + 1 + 1) (w.heap.size + 1 + 1) _ [] rfl O0.out (some ⟨w.heap.size, 0, none⟩) 32 32 a LA.out.symm rfl R1.out (by rw [LA.out]; decide) S0.out (Nat.le_refl _) ?_; intro v1 w1 O1 B1; have Z1 := hid (Nat.le_trans S0.out B1.out.size); have R2 := hid (blk_rp (K2.out.same (B1.out.block _ (by omega)))))
    | (at_builtin; refine append_rpm rfl (.tmp 9) (.tmp 10) rfl (w.heap.size + 1 + 1) (w.heap.size + 1 + 1) _ ([] ++ a) rfl O1.out (some ⟨w.heap.size + 1, 0, none⟩) 32 32 b LB.out.symm rfl R2.out (by rw [LB.out, List.nil_append, LA.out]; decide) Z1.out (Nat.le_refl _) ?_; intro v2 w2 O2 B2))
  obtain ⟨A7, c7, rfl, hl7, hc7, hf7⟩ := fresh_of_own (w := w) O2.out (by omega)
  have F7 := hid hf7.rp0
  have e : ([] ++ a ++ b).length = 64 := by rw [List.nil_append, List.length_append, LA.out, LB.out]
  rw [e]
  go_wp2
  go_ret
  exact ⟨A7, ⟨c7, rfl⟩, by have := F7.out; rwa [List.nil_append] at this, B0.out.trans ((B1.out.trans B2.out).mono (by omega))⟩
end Go.Proofs.YtobceieadjpaaaaDoor
/-
  What is proved here: the document's own node r of a tree.
-/
namespace Go.Proofs.YtobceieadjpaaaaDoor
open Go.ChangeShapes Go.WideShapes Go.ChangeAt Go.RowKit
set_option linter.unusedVariables false
set_option maxRecDepth 20000

/-- an id and a seed lie where they lay -/
structure Tn2 (id sd : List Int) (w w' : World) : Prop where
  b0 : Blk w' (w.heap.size) 23 (u8s id).toArray
  b1 : Blk w' (w.heap.size + 1) 26 (u8s sd).toArray
  bl : Below w.heap.size w w'
section
variable {id sd : List Int} {w w' w2 : World}
theorem Tn2.below (h : Tn2 id sd w w') (hb : Below w'.heap.size w' w2) : Tn2 id sd w w2 := ⟨h.b0.below hb, h.b1.below hb, h.bl.trans (hb.mono h.bl.size)⟩
theorem Tn2.drew (h : Tn2 id sd w w') : Tn2 id sd w w'.drew := h.below ((Below.refl _ _).drew)
theorem Tn2.alloc (h : Tn2 id sd w w') (o : Obj) : Tn2 id sd w (w'.alloc o) := h.below ((Below.refl _ _).alloc (Nat.le_refl _) _)
theorem Tn2.row (h : Tn2 id sd w w') {g : Nat} (n0 : w.heap.size ≠ g) (n1 : w.heap.size + 1 ≠ g) (hg : w.heap.size ≤ g) (cs : Array Value) : Tn2 id sd w (w'.setRow g cs) := ⟨h.b0.rowFar n0 cs, h.b1.rowFar n1 cs, below_setRow h.bl hg cs⟩
end

set_option maxRecDepth 5000 in
set_option maxHeartbeats 8000000 in
theorem At_step (k : Int) (id sd : List Int) (K r : Nat) (w : World) (hk : Kd k) (hi : Idn id) (hs : Ky sd) (hK : K ≤ 16) (h1 : 1 ≤ r) (h2 : r < 2 * K)
    (ih : ∀ r', r < r' → r' < 2 * K → ∀ w, Calls Tryd.prog 94 #[.int .i64 r', .int .i64 K, .int .i64 k, .agg (u8s id).toArray, .agg (u8s sd).toArray] w fun e w' => e = .returned (.agg (u8s (nd k id sd K r')).toArray) ∧ Below w.heap.size w w') :
    Calls Tryd.prog 94 #[.int .i64 r, .int .i64 K, .int .i64 k, .agg (u8s id).toArray, .agg (u8s sd).toArray] w fun e w' => e = .returned (.agg (u8s (nd k id sd K r)).toArray) ∧ Below w.heap.size w w' := by
  obtain ⟨Z, HZ, hZ0, hZs⟩ := zero_Hash
  have hz32 : Z.size = 32 := by rw [HZ.out, List.size_toArray, u8s_length]; simp
  obtain ⟨hk1, hk2, hk3, hb0⟩ := blks3 w (u8s id).toArray (u8s sd).toArray Z 23 26 26
  have K1 := hid hk1; have K2 := hid hk2; have K3 := hid hk3; have B0 := hid hb0
  have S0 : Hid ((((w.alloc (.cells (u8s id).toArray 23)).alloc (.cells (u8s sd).toArray 26)).alloc (.cells Z 26)).heap.size = w.heap.size + 1 + 1 + 1) := by show _ = _; simp
  have IDI := hid (id_info hi); have SDI := hid (hash_info hs.len)
  have hky := nd_ky k id sd K r
  by_cases hl : K ≤ r
  · have hnd := nd_leaf k id sd hl
    obtain ⟨PK, hPK⟩ : ∃ PK, PK = pubK k id ((r : Int) - (K : Int)) sd := ⟨_, rfl⟩
    have hpk : Ky PK := by rw [hPK]; exact under_ky _ _ _ _
    have CP : Hid (∀ w, Calls Tryd.prog 110 #[.int .i64 k, .agg (u8s id).toArray, .int .u32 ((r : Int) - (K : Int)), .agg (u8s sd).toArray] w fun e w' => e = .returned (.tuple #[.agg (u8s PK).toArray, .int .i64 0]) ∧ Below w.heap.size w w') := fun w => by rw [hPK]; exact kPublic_kd k id _ sd w hk hi (by omega) hs
    rw [← hPK] at hnd
    have CN := hid (fun (g c : Nat) (w1 : World) (hr : Rp w1 none (some ⟨g, 0, none⟩) PK) => tNode_any id r 33410 (some ⟨g, 0, none⟩) 32 c PK w1 hi (by omega) (by decide) hpk.len.symm hr hpk.bs (by rw [hpk.len]; decide))
    rw [← hnd] at CN
    generalize nd k id sd K r = ND at CN hky ⊢
    have PI := hid (info_hash PK hpk.len)
    have PZ : Hid (Z.size = (u8s PK).toArray.size) := hz32.trans (hash_size hpk.len).symm
    have NI := hid (info_hash ND hky.len)
    have NZ : Hid (Z.size = (u8s ND).toArray.size) := hz32.trans (hash_size hky.len).symm
    have hrk : (K : Int) ≤ (r : Int) := by omega
    have hw1 : IntKind.i64.wrap ((r : Int) - (K : Int)) = (r : Int) - (K : Int) := IntWalk.i64_in _ (by omega)
    have hw2 : IntKind.u32.wrap ((r : Int) - (K : Int)) = (r : Int) - (K : Int) := by simp [IntKind.wrap, IntKind.bits, IntKind.signed]; omega
    clear hk hi hs hK h1 h2 ih hk1 hk2 hk3 hb0 hl hnd hPK hpk hky hz32
    go_enter Tryd.func94, Tryd.ntmps94
    go_wp2_with (first
      | (refine load_at rfl 23 (.tmp 8) rfl w.heap.size 0 rfl (u8s id) _ (blk_row K1.out) Tryd.underlying23 rfl IDI.out (u8s id).toArray rfl ?_)
      | (refine load_at rfl 26 (.tmp 9) rfl (w.heap.size + 1) 0 rfl (u8s sd) _ (blk_row K2.out) Tryd.underlying26 rfl SDI.out (u8s sd).toArray rfl ?_)
      | (go_at_call 110; refine (CP.out _).mono ?_; rintro e w1 ⟨rfl, hb1⟩; have L1 := hid (K1.out.below hb1); have L2 := hid (K2.out.below hb1); have L3 := hid (K3.out.below hb1); have B1 := hid (B0.out.trans (hb1.mono B0.out.size)); clear hb1)
      | (refine wpList_store_row rfl 26 (.tmp 11) (.tmp 25) rfl w1.heap.size (u8s PK).toArray rfl rfl 26 Z (Blk.new w1 26 Z) PI.out PZ.out (u8s_all PK) ?_; have hbb : Below w1.heap.size w1 ((w1.alloc (.cells Z 26)).setRow w1.heap.size (u8s PK).toArray) := below_setRow ((Below.refl _ _).alloc (Nat.le_refl _) _) (Nat.le_refl _) _; have P3 : Hid (Blk ((w1.alloc (.cells Z 26)).setRow w1.heap.size (u8s PK).toArray) w1.heap.size 26 (u8s PK).toArray) := (Blk.new w1 26 Z).row _; have M1 := hid (L1.out.below hbb); have M2 := hid (L2.out.below hbb); have M3 := hid (L3.out.below hbb); have B3 := hid (B1.out.trans (hbb.mono B1.out.size)); have LT := hid B1.out.size; clear hbb; generalize (w1.alloc (.cells Z 26)).setRow w1.heap.size (u8s PK).toArray = w2 at P3 M1 M2 M3 B3 ⊢; generalize w1.heap.size = gp at P3 LT ⊢))
    have GT : Hid (Tn2 id sd w w2) := ⟨M1.out, M2.out, B3.out⟩
    clear K1 K2 K3 L1 L2 L3 B0 B1
    refine wp_region_held (S := fun w' => Hid (Tn2 id sd w w')) (by kernel_rfl) ?_
    change wpAnyH _ _ _ _ _ _ _ _ w2.drew
    have Gx0 : Hid (Tn2 id sd w w2.drew) := GT.out.drew
    have HBx0 : Below w2.heap.size w2 w2.drew := (Below.refl _ _).drew
    have P3 := hid (P3.out.below HBx0)
    have M3 := hid (M3.out.below HBx0)
    clear HBx0
    generalize w2.drew = x0 at Gx0 P3 M3 ⊢
    refine wpAnyH_take (i := 0) (oi := { dst := some 27, op := _, type := _, pos := _, after := _, guard := _ }) (v := .agg ((u8s id).toArray)) rfl (by kernel_rfl) (by kernel_rfl) (by kernel_rfl) (fun _ _ _ h => h) (yieldsIf_load_mid (cs := u8s id) (by rfl) _ _ rfl _ _ rfl _ (fun w' hSw => (blk_row (Hid.out hSw).b0)) Tryd.underlying23 rfl IDI.out) (by assumption) ?_
    try simp only [Act.put, List.setIfInBounds_toArray, List.set_cons_zero, List.set_cons_succ]
    refine wpAnyH_take (i := 1) (oi := { dst := some 28, op := _, type := _, pos := _, after := _, guard := _ }) (v := ?_) rfl (by kernel_rfl) (by kernel_rfl) (by kernel_rfl) (fun _ _ _ h => h) (Or.inl ⟨by kernel_rfl, ?_⟩) (by assumption) ?_
    rotate_left
    · (intro w hSw; go_simp; try with_reducible rfl)
    try simp only [Act.put, List.setIfInBounds_toArray, List.set_cons_zero, List.set_cons_succ]
    refine wpAnyH_take (i := 2) (oi := { dst := some 29, op := _, type := _, pos := _, after := _, guard := _ }) (v := ?_) rfl (by kernel_rfl) (by kernel_rfl) (by kernel_rfl) (fun _ _ _ h => h) (Or.inl ⟨by kernel_rfl, ?_⟩) (by assumption) ?_
    rotate_left
    · (intro w hSw; go_simp; try with_reducible rfl)
    try simp only [Act.put, List.setIfInBounds_toArray, List.set_cons_zero, List.set_cons_succ]
    refine wpAnyH_ready (rs := [3]) (by kernel_rfl) (by simp) ?_
    refine (AllReadyH.cons (o := { dst := some 30, op := _, type := _, pos := _, after := _, guard := _ }) rfl (fun Qc hQc => ?_) AllReadyH.nil)
    go_simp
    go_at_call 59; refine (CN.out gp _ _ (blk_rp P3.out)).mono ?_; rintro e x1 ⟨rfl, hbx1⟩
    have Gx1 := hid (Gx0.out.below hbx1)
    have P3 := hid (P3.out.below hbx1)
    have M3 := hid (M3.out.below hbx1)
    clear hbx1
    go_wp2_with fail
    refine hQc.out _ _ Gx1 (fun hHeld => ?_)
    clear hQc Qc Gx0
    try simp only [Act.put, List.setIfInBounds_toArray, List.set_cons_zero, List.set_cons_succ]
    refine wpAnyH_ready (rs := [4]) (by kernel_rfl) (by simp) ?_
    refine (AllReadyH.cons (o := { dst := none, op := _, type := _, pos := _, after := _, guard := _ }) rfl (fun Qc hQc => ?_) AllReadyH.nil)
    rw [if_pos (by rfl)]
    refine wp_store_row 26 (.tmp 10) (.tmp 30) rfl (w.heap.size + 1 + 1) (u8s ND).toArray rfl rfl 26 Z M3.out NI.out NZ.out (u8s_all ND) ?_
    have Gx2 := hid (Gx1.out.row (g := w.heap.size + 1 + 1) (by omega) (by omega) (by omega) (u8s ND).toArray)
    have KWx2 := hid ((M3.out).row (u8s ND).toArray)
    refine hQc.out _ _ Gx2 (fun hHeld => ?_)
    clear hQc Qc Gx1
    generalize x1.setRow (w.heap.size + 1 + 1) (u8s ND).toArray = x2 at Gx2 KWx2 hHeld ⊢
    try simp only [Act.put, List.setIfInBounds_toArray, List.set_cons_zero, List.set_cons_succ]
    refine wpAnyH_done (by kernel_rfl) ?_ _
    try simp only [Act.put, List.setIfInBounds_toArray, List.set_cons_zero, List.set_cons_succ]
    go_wp2_with fail
    try go_frame
    refine bodyPost_ret (results_cell_row Tryd.results94 _ _ (w.heap.size + 1 + 1) 26 (u8s ND).toArray (0, 0) _ rfl KWx2.out Tryd.underlying26 rfl NI.out) rfl ?_
    exact ⟨rfl, Gx2.out.bl⟩
  · have hl2 : r < K := by omega
    have hnd := nd_branch k id sd hl2 (by omega)
    have C1 := hid (ih (2 * r) (by omega) (by omega))
    have C2 := hid (ih (2 * r + 1) (by omega) (by omega))
    have k1 := nd_ky k id sd K (2 * r)
    have k2 := nd_ky k id sd K (2 * r + 1)
    generalize nd k id sd K (2 * r) = N1 at hnd C1 k1
    generalize nd k id sd K (2 * r + 1) = N2 at hnd C2 k2
    have e1 : ((2 * r : Nat) : Int) = 2 * (r : Int) := by omega
    have e2 : ((2 * r + 1 : Nat) : Int) = 2 * (r : Int) + 1 := by omega
    rw [e1] at C1
    rw [e2] at C2
    have CT := hid (fun w1 => two_any N1 N2 w1 k1 k2)
    have hbs := bs_append k1.bs k2.bs
    have hln : (N1 ++ N2).length = 64 := by rw [List.length_append, k1.len, k2.len]
    have CN := hid (fun (A : Option Addr) (c : Nat) (w1 : World) (hr : Rp w1 none A (N1 ++ N2)) => tNode_any id r 33667 A 64 c (N1 ++ N2) w1 hi (by omega) (by decide) hln.symm hr hbs (by rw [hln]; decide))
    rw [← hnd] at CN
    generalize nd k id sd K r = ND at CN hky ⊢
    have NI := hid (info_hash ND hky.len)
    have NZ : Hid (Z.size = (u8s ND).toArray.size) := hz32.trans (hash_size hky.len).symm
    have hrk : (r : Int) < (K : Int) := by omega
    have hw1 : IntKind.i64.wrap (2 * (r : Int)) = 2 * (r : Int) := IntWalk.i64_in _ (by omega)
    have hw2 : IntKind.i64.wrap (2 * (r : Int) + 1) = 2 * (r : Int) + 1 := IntWalk.i64_in _ (by omega)
    clear hk hi hs hK h1 h2 ih hk1 hk2 hk3 hb0 hl hl2 hnd k1 k2 e1 e2 hbs hln hky hz32
    go_enter Tryd.func94, Tryd.ntmps94
    go_wp2_with fail
    generalize ((w.alloc (.cells (u8s id).toArray 23)).alloc (.cells (u8s sd).toArray 26)).alloc (.cells Z 26) = w0 at K1 K2 K3 B0 S0 ⊢
    go_wp2_with fail
    have GT : Hid (Tn2 id sd w w0) := ⟨K1.out, K2.out, B0.out⟩
    clear K1 K2 B0
    refine wp_region_held (S := fun w' => Hid (Tn2 id sd w w')) (by kernel_rfl) ?_
    change wpAnyH _ _ _ _ _ _ _ _ w0.drew
    have Gx0 : Hid (Tn2 id sd w w0.drew) := GT.out.drew
    have HBx0 : Below w0.heap.size w0 w0.drew := (Below.refl _ _).drew
    have K3 := hid (K3.out.below HBx0)
    clear HBx0
    generalize w0.drew = x0 at Gx0 K3 ⊢
    refine wpAnyH_take (i := 0) (oi := { dst := some 31, op := _, type := _, pos := _, after := _, guard := _ }) (v := .agg ((u8s id).toArray)) rfl (by kernel_rfl) (by kernel_rfl) (by kernel_rfl) (fun _ _ _ h => h) (yieldsIf_load_mid (cs := u8s id) (by rfl) _ _ rfl _ _ rfl _ (fun w' hSw => (blk_row (Hid.out hSw).b0)) Tryd.underlying23 rfl IDI.out) (by assumption) ?_
    try simp only [Act.put, List.setIfInBounds_toArray, List.set_cons_zero, List.set_cons_succ]
    refine wpAnyH_take (i := 1) (oi := { dst := some 32, op := _, type := _, pos := _, after := _, guard := _ }) (v := ?_) rfl (by kernel_rfl) (by kernel_rfl) (by kernel_rfl) (fun _ _ _ h => h) (Or.inl ⟨by kernel_rfl, ?_⟩) (by assumption) ?_
    rotate_left
    · (intro w hSw; go_simp; try with_reducible rfl)
    try simp only [Act.put, List.setIfInBounds_toArray, List.set_cons_zero, List.set_cons_succ]
    refine wpAnyH_take (i := 2) (oi := { dst := some 33, op := _, type := _, pos := _, after := _, guard := _ }) (v := ?_) rfl (by kernel_rfl) (by kernel_rfl) (by kernel_rfl) (fun _ _ _ h => h) (Or.inl ⟨by kernel_rfl, ?_⟩) (by assumption) ?_
    rotate_left
    · (intro w hSw; go_simp; try with_reducible rfl)
    try simp only [Act.put, List.setIfInBounds_toArray, List.set_cons_zero, List.set_cons_succ]
    refine wpAnyH_take (i := 3) (oi := { dst := some 34, op := _, type := _, pos := _, after := _, guard := _ }) (v := ?_) rfl (by kernel_rfl) (by kernel_rfl) (by kernel_rfl) (fun _ _ _ h => h) (Or.inl ⟨by kernel_rfl, ?_⟩) (by assumption) ?_
    rotate_left
    · (intro w hSw; go_simp; try with_reducible rfl)
    try simp only [Act.put, List.setIfInBounds_toArray, List.set_cons_zero, List.set_cons_succ]
    refine wpAnyH_take (i := 4) (oi := { dst := some 35, op := _, type := _, pos := _, after := _, guard := _ }) (v := ?_) rfl (by kernel_rfl) (by kernel_rfl) (by kernel_rfl) (fun _ _ _ h => h) (Or.inl ⟨by kernel_rfl, ?_⟩) (by assumption) ?_
    rotate_left
    · (intro w hSw; go_simp; try with_reducible rfl)
    try simp only [Act.put, List.setIfInBounds_toArray, List.set_cons_zero, List.set_cons_succ]
    refine wpAnyH_take (i := 5) (oi := { dst := some 36, op := _, type := _, pos := _, after := _, guard := _ }) (v := ?_) rfl (by kernel_rfl) (by kernel_rfl) (by kernel_rfl) (fun _ _ _ h => h) (Or.inl ⟨by kernel_rfl, ?_⟩) (by assumption) ?_
    rotate_left
    · (intro w hSw; go_simp; try with_reducible rfl)
    try simp only [Act.put, List.setIfInBounds_toArray, List.set_cons_zero, List.set_cons_succ]
    refine wpAnyH_take (i := 6) (oi := { dst := some 37, op := _, type := _, pos := _, after := _, guard := _ }) (v := .agg ((u8s id).toArray)) rfl (by kernel_rfl) (by kernel_rfl) (by kernel_rfl) (fun _ _ _ h => h) (yieldsIf_load_mid (cs := u8s id) (by rfl) _ _ rfl _ _ rfl _ (fun w' hSw => (blk_row (Hid.out hSw).b0)) Tryd.underlying23 rfl IDI.out) (by assumption) ?_
    try simp only [Act.put, List.setIfInBounds_toArray, List.set_cons_zero, List.set_cons_succ]
    refine wpAnyH_take (i := 7) (oi := { dst := some 38, op := _, type := _, pos := _, after := _, guard := _ }) (v := .agg ((u8s sd).toArray)) rfl (by kernel_rfl) (by kernel_rfl) (by kernel_rfl) (fun _ _ _ h => h) (yieldsIf_load_mid (cs := u8s sd) (by rfl) _ _ rfl _ _ rfl _ (fun w' hSw => (blk_row (Hid.out hSw).b1)) Tryd.underlying26 rfl SDI.out) (by assumption) ?_
    try simp only [Act.put, List.setIfInBounds_toArray, List.set_cons_zero, List.set_cons_succ]
    refine wpAnyH_take (i := 9) (oi := { dst := some 40, op := _, type := _, pos := _, after := _, guard := _ }) (v := ?_) rfl (by kernel_rfl) (by kernel_rfl) (by kernel_rfl) (fun _ _ _ h => h) (Or.inl ⟨by kernel_rfl, ?_⟩) (by assumption) ?_
    rotate_left
    · (intro w hSw; go_simp; try with_reducible rfl)
    try simp only [Act.put, List.setIfInBounds_toArray, List.set_cons_zero, List.set_cons_succ]
    refine wpAnyH_take (i := 10) (oi := { dst := some 41, op := _, type := _, pos := _, after := _, guard := _ }) (v := ?_) rfl (by kernel_rfl) (by kernel_rfl) (by kernel_rfl) (fun _ _ _ h => h) (Or.inl ⟨by kernel_rfl, ?_⟩) (by assumption) ?_
    rotate_left
    · (intro w hSw; go_simp; try with_reducible rfl)
    try simp only [Act.put, List.setIfInBounds_toArray, List.set_cons_zero, List.set_cons_succ]
    refine wpAnyH_take (i := 11) (oi := { dst := some 42, op := _, type := _, pos := _, after := _, guard := _ }) (v := ?_) rfl (by kernel_rfl) (by kernel_rfl) (by kernel_rfl) (fun _ _ _ h => h) (Or.inl ⟨by kernel_rfl, ?_⟩) (by assumption) ?_
    rotate_left
    · (intro w hSw; go_simp; try with_reducible rfl)
    try simp only [Act.put, List.setIfInBounds_toArray, List.set_cons_zero, List.set_cons_succ]
    refine wpAnyH_take (i := 12) (oi := { dst := some 43, op := _, type := _, pos := _, after := _, guard := _ }) (v := ?_) rfl (by kernel_rfl) (by kernel_rfl) (by kernel_rfl) (fun _ _ _ h => h) (Or.inl ⟨by kernel_rfl, ?_⟩) (by assumption) ?_
    rotate_left
    · (intro w hSw; go_simp; try with_reducible rfl)
    try simp only [Act.put, List.setIfInBounds_toArray, List.set_cons_zero, List.set_cons_succ]
    refine wpAnyH_take (i := 13) (oi := { dst := some 44, op := _, type := _, pos := _, after := _, guard := _ }) (v := ?_) rfl (by kernel_rfl) (by kernel_rfl) (by kernel_rfl) (fun _ _ _ h => h) (Or.inl ⟨by kernel_rfl, ?_⟩) (by assumption) ?_
    rotate_left
    · (intro w hSw; go_simp; try with_reducible rfl)
    try simp only [Act.put, List.setIfInBounds_toArray, List.set_cons_zero, List.set_cons_succ]
    refine wpAnyH_take (i := 14) (oi := { dst := some 45, op := _, type := _, pos := _, after := _, guard := _ }) (v := .agg ((u8s id).toArray)) rfl (by kernel_rfl) (by kernel_rfl) (by kernel_rfl) (fun _ _ _ h => h) (yieldsIf_load_mid (cs := u8s id) (by rfl) _ _ rfl _ _ rfl _ (fun w' hSw => (blk_row (Hid.out hSw).b0)) Tryd.underlying23 rfl IDI.out) (by assumption) ?_
    try simp only [Act.put, List.setIfInBounds_toArray, List.set_cons_zero, List.set_cons_succ]
    refine wpAnyH_take (i := 15) (oi := { dst := some 46, op := _, type := _, pos := _, after := _, guard := _ }) (v := .agg ((u8s sd).toArray)) rfl (by kernel_rfl) (by kernel_rfl) (by kernel_rfl) (fun _ _ _ h => h) (yieldsIf_load_mid (cs := u8s sd) (by rfl) _ _ rfl _ _ rfl _ (fun w' hSw => (blk_row (Hid.out hSw).b1)) Tryd.underlying26 rfl SDI.out) (by assumption) ?_
    try simp only [Act.put, List.setIfInBounds_toArray, List.set_cons_zero, List.set_cons_succ]
    refine wpAnyH_ready (rs := [8]) (by kernel_rfl) (by simp) ?_
    refine (AllReadyH.cons (o := { dst := some 39, op := _, type := _, pos := _, after := _, guard := _ }) rfl (fun Qc hQc => ?_) AllReadyH.nil)
    go_simp
    go_at_call 94; refine (C1.out _).mono ?_; rintro e x1 ⟨rfl, hbx1⟩
    have Gx1 := hid (Gx0.out.below hbx1)
    have K3 := hid (K3.out.below hbx1)
    clear hbx1
    go_wp2_with fail
    refine hQc.out _ _ Gx1 (fun hHeld => ?_)
    clear hQc Qc Gx0
    try simp only [Act.put, List.setIfInBounds_toArray, List.set_cons_zero, List.set_cons_succ]
    refine wpAnyH_ready (rs := [16]) (by kernel_rfl) (by simp) ?_
    refine (AllReadyH.cons (o := { dst := some 47, op := _, type := _, pos := _, after := _, guard := _ }) rfl (fun Qc hQc => ?_) AllReadyH.nil)
    go_simp
    go_at_call 94; refine (C2.out _).mono ?_; rintro e x2 ⟨rfl, hbx2⟩
    have Gx2 := hid (Gx1.out.below hbx2)
    have K3 := hid (K3.out.below hbx2)
    clear hbx2
    go_wp2_with fail
    refine hQc.out _ _ Gx2 (fun hHeld => ?_)
    clear hQc Qc Gx1
    try simp only [Act.put, List.setIfInBounds_toArray, List.set_cons_zero, List.set_cons_succ]
    refine wpAnyH_ready (rs := [17]) (by kernel_rfl) (by simp) ?_
    refine (AllReadyH.cons (o := { dst := some 48, op := _, type := _, pos := _, after := _, guard := _ }) rfl (fun Qc hQc => ?_) AllReadyH.nil)
    go_simp
    go_at_call 60; refine (CT.out _).mono ?_; rintro e x3 ⟨A5, c5, rfl, hr5, hbx3⟩; have R5 := hid hr5; clear hr5
    have Gx3 := hid (Gx2.out.below hbx3)
    have K3 := hid (K3.out.below hbx3)
    clear hbx3
    go_wp2_with fail
    refine hQc.out _ _ Gx3 (fun hHeld => ?_)
    clear hQc Qc Gx2
    try simp only [Act.put, List.setIfInBounds_toArray, List.set_cons_zero, List.set_cons_succ]
    refine wpAnyH_ready (rs := [18]) (by kernel_rfl) (by simp) ?_
    refine (AllReadyH.cons (o := { dst := some 49, op := _, type := _, pos := _, after := _, guard := _ }) rfl (fun Qc hQc => ?_) AllReadyH.nil)
    go_simp
    go_at_call 59; refine (CN.out _ _ _ R5.out).mono ?_; rintro e x4 ⟨rfl, hbx4⟩
    have Gx4 := hid (Gx3.out.below hbx4)
    have K3 := hid (K3.out.below hbx4)
    clear hbx4
    go_wp2_with fail
    refine hQc.out _ _ Gx4 (fun hHeld => ?_)
    clear hQc Qc Gx3
    try simp only [Act.put, List.setIfInBounds_toArray, List.set_cons_zero, List.set_cons_succ]
    refine wpAnyH_ready (rs := [19]) (by kernel_rfl) (by simp) ?_
    refine (AllReadyH.cons (o := { dst := none, op := _, type := _, pos := _, after := _, guard := _ }) rfl (fun Qc hQc => ?_) AllReadyH.nil)
    rw [if_pos (by rfl)]
    refine wp_store_row 26 (.tmp 10) (.tmp 49) rfl (w.heap.size + 1 + 1) (u8s ND).toArray rfl rfl 26 Z K3.out NI.out NZ.out (u8s_all ND) ?_
    have Gx5 := hid (Gx4.out.row (g := w.heap.size + 1 + 1) (by omega) (by omega) (by omega) (u8s ND).toArray)
    have KWx5 := hid ((K3.out).row (u8s ND).toArray)
    refine hQc.out _ _ Gx5 (fun hHeld => ?_)
    clear hQc Qc Gx4
    generalize x4.setRow (w.heap.size + 1 + 1) (u8s ND).toArray = x5 at Gx5 KWx5 hHeld ⊢
    try simp only [Act.put, List.setIfInBounds_toArray, List.set_cons_zero, List.set_cons_succ]
    refine wpAnyH_done (by kernel_rfl) ?_ _
    try simp only [Act.put, List.setIfInBounds_toArray, List.set_cons_zero, List.set_cons_succ]
    go_wp2_with fail
    try go_frame
    refine bodyPost_ret (results_cell_row Tryd.results94 _ _ (w.heap.size + 1 + 1) 26 (u8s ND).toArray (0, 0) _ rfl KWx5.out Tryd.underlying26 rfl NI.out) rfl ?_
    exact ⟨rfl, Gx5.out.bl⟩
theorem At_any (k : Int) (id sd : List Int) (K : Nat) (hk : Kd k) (hi : Idn id) (hs : Ky sd) (hK : K ≤ 16) (n : Nat) : ∀ r, 2 * K - r ≤ n → 1 ≤ r → r < 2 * K → ∀ w,
    Calls Tryd.prog 94 #[.int .i64 r, .int .i64 K, .int .i64 k, .agg (u8s id).toArray, .agg (u8s sd).toArray] w fun e w' => e = .returned (.agg (u8s (nd k id sd K r)).toArray) ∧ Below w.heap.size w w' := by
  induction n with
  | zero => intro r h0 h1 h2; omega
  | succ n ih => exact fun r h0 h1 h2 w => At_step k id sd K r w hk hi hs hK h1 h2 (fun r' h3 h4 => ih r' (by omega) (by omega) h4)
end Go.Proofs.YtobceieadjpaaaaDoor
/-
  What this file is for: when a tree's signature is right, in plain mathematics: what was signed is right; nothing of another size is. Nothing of the program is walked here.
-/
namespace Go.Proofs.YtobceieadjpaaaaDoor
open Go.ChangeShapes Go.WideShapes Go.ChangeAt Go.RowKit
set_option linter.unusedVariables false
set_option maxRecDepth 20000

def vh (p : List Int) : Int := val (p.take 4)
def vk (p : List Int) : Int := val ((p.drop 4).take 4)
def vid (p : List Int) : List Int := (p.drop 8).take 16
def vtop (p : List Int) : List Int := p.drop 24
def vK (p : List Int) : Nat := tkeys (vh p) (vk p)
def vq (s : List Int) : Int := val (s.take 4)
def vonce (k : Int) (s : List Int) : List Int := (s.drop 4).take (ksize k)
def vx (k : Int) (s : List Int) : Int := val ((s.drop (4 + ksize k)).take 4)
def vpath (k : Int) (s : List Int) : List Int := s.drop (8 + ksize k)
/-- the leaf's hash of a public key -/
def vleaf (id : List Int) (r : Nat) (key : List Int) : List Int := under id r 33410 key
/-- where the signature leads -/
def vroot (p m s : List Int) : List Int :=
  clm (vid p) (vh p).toNat (vK p + (vq s).toNat) (vleaf (vid p) (vK p + (vq s).toNat) (recK (vid p) (vq s) m (vonce (vk p) s))) (vpath (vk p) s)
def verP (p m s : List Int) : Prop := p.length = 56 ∧ vK p ≠ 0 ∧ s.length = tsize (vh p) (vk p) ∧ vq s < vK p ∧ vx (vk p) s = vh p ∧ sigB (vonce (vk p) s) = true ∧ vroot p m s = vtop p
instance (p m s : List Int) : Decidable (verP p m s) := by unfold verP; exact inferInstance
def ver (p m s : List Int) : Bool := decide (verP p m s)

theorem val_be4 (x : Int) (h : 0 ≤ x ∧ x < 4294967296) : val (be x 4) = x := by
  simp only [be, val, List.foldl_cons, List.foldl_nil]
  omega
theorem ver_no {p m s : List Int} (h : ¬ verP p m s) : ver p m s = false := decide_eq_false h
theorem ver_size {p m s : List Int} (h : s.length ≠ tsize (vh p) (vk p)) : ver p m s = false := ver_no fun hv => h hv.2.2.1
theorem ver_wide {p m s : List Int} (h : p.length ≠ 56) : ver p m s = false := ver_no fun hv => h hv.1

section
variable {h k : Int} {id sd : List Int}
theorem pbt_h (h1 : 1 ≤ h ∧ h ≤ 4) (hi : id.length = 16) : vh (pbt h k id sd) = h := by
  unfold vh pbt
  rw [List.append_assoc, List.append_assoc, List.take_append_of_le_length (by rw [be_length]; omega), List.take_of_length_le (by rw [be_length]; omega)]
  exact val_be4 h (by omega)
theorem pbt_k (hk : Kd k) (hi : id.length = 16) : vk (pbt h k id sd) = k := by
  unfold vk pbt
  rw [List.append_assoc, List.append_assoc, List.drop_append_of_le_length (by rw [be_length]; omega), List.drop_of_length_le (by rw [be_length]; omega), List.nil_append,
    List.take_append_of_le_length (by rw [be_length]; omega), List.take_of_length_le (by rw [be_length]; omega)]
  exact val_be4 k (by rcases hk with rfl | rfl | rfl | rfl <;> decide)
theorem pbt_id (hi : id.length = 16) : vid (pbt h k id sd) = id := by
  unfold vid pbt
  have hl : (be h 4 ++ be k 4).length = 8 := by simp [be_length]
  rw [List.append_assoc, List.drop_append_of_le_length (by omega), List.drop_of_length_le (by omega), List.nil_append,
    List.take_append_of_le_length (by omega), List.take_of_length_le (by omega)]
theorem pbt_top (hi : id.length = 16) : vtop (pbt h k id sd) = nd k id sd (tkeys h k) 1 := by
  unfold vtop pbt
  have hl : (be h 4 ++ be k 4 ++ id).length = 24 := by simp [be_length, hi]
  rw [List.drop_append_of_le_length (by omega), List.drop_of_length_le (by omega), List.nil_append]
theorem sgt_length (h1 : 1 ≤ h ∧ h ≤ 4) (hk : Kd k) (q : Nat) (msg : List Int) : (sgt h k id sd q msg).length = tsize h k := by
  unfold sgt
  rw [List.length_append, List.length_append, List.length_append, be_length, be_length, sign_length hk, pth_length _ (fun r => (nd_ky k id sd _ r).len), tsize_ok h1 hk]
  omega
theorem sgt_q {q : Nat} (hq : q < 16) (msg : List Int) : vq (sgt h k id sd q msg) = q := by
  unfold vq sgt
  rw [List.append_assoc, List.append_assoc, List.take_append_of_le_length (by rw [be_length]; omega), List.take_of_length_le (by rw [be_length]; omega)]
  exact val_be4 _ (by omega)
theorem sgt_once (hk : Kd k) (q : Nat) (msg : List Int) : vonce k (sgt h k id sd q msg) = signK k id q sd msg := by
  unfold vonce sgt
  have hl : (be (q : Int) 4).length = 4 := be_length _ _
  have hs := sign_length hk id q sd msg
  rw [List.append_assoc, List.append_assoc, List.drop_append_of_le_length (by omega), List.drop_of_length_le (by omega), List.nil_append,
    List.take_append_of_le_length (by omega), List.take_of_length_le (by omega)]
theorem sgt_x (h1 : 1 ≤ h ∧ h ≤ 4) (hk : Kd k) (q : Nat) (msg : List Int) : vx k (sgt h k id sd q msg) = h := by
  unfold vx sgt
  have hl : (be (q : Int) 4 ++ signK k id q sd msg).length = 4 + ksize k := by rw [List.length_append, be_length, sign_length hk]
  rw [List.append_assoc, List.drop_append_of_le_length (by omega), List.drop_of_length_le (by omega), List.nil_append,
    List.take_append_of_le_length (by rw [be_length]; omega), List.take_of_length_le (by rw [be_length]; omega)]
  exact val_be4 h (by omega)
theorem sgt_path (hk : Kd k) (q : Nat) (msg : List Int) : vpath k (sgt h k id sd q msg) = pth (nd k id sd (tkeys h k)) h.toNat (tkeys h k + q) := by
  unfold vpath sgt
  have hl : (be (q : Int) 4 ++ signK k id q sd msg ++ be h 4).length = 8 + ksize k := by rw [List.length_append, List.length_append, be_length, be_length, sign_length hk]; omega
  rw [List.drop_append_of_le_length (by omega), List.drop_of_length_le (by omega), List.nil_append]
/-- what was signed is right -/
theorem ver_right (h1 : 1 ≤ h ∧ h ≤ 4) (hk : Kd k) (hi : id.length = 16) {q : Nat} (hq : q < tkeys h k) (msg : List Int) : ver (pbt h k id sd) msg (sgt h k id sd q msg) = true := by
  have hK : tkeys h k = 2 ^ h.toNat := tkeys_ok h1 hk
  have hK16 : tkeys h k ≤ 16 := by rw [hK]; rcases ht4 h1 with rfl | rfl | rfl | rfl <;> decide
  refine decide_eq_true ?_
  unfold verP vroot vK
  rw [pbt_h h1 hi, pbt_k hk hi, pbt_id hi, pbt_top hi, sgt_q (by omega), sgt_once hk, sgt_x h1 hk, sgt_path hk]
  refine ⟨pbt_length h k hi sd, tkeys_pos h1 hk, sgt_length h1 hk q msg, by omega, rfl, sig_sign hk _ _ _ _, ?_⟩
  rw [Int.toNat_natCast, rec_sign hk]
  have hp : 2 ^ (h.toNat + 1) = 2 * 2 ^ h.toNat := by rw [Nat.pow_succ]; omega
  have hl : vleaf id (tkeys h k + q) (pubK k id q sd) = nd k id sd (tkeys h k) (tkeys h k + q) := by
    rw [nd_leaf k id sd (show tkeys h k ≤ tkeys h k + q by omega)]
    unfold vleaf
    rw [show ((tkeys h k + q : Nat) : Int) - (tkeys h k : Int) = (q : Int) by omega]
  rw [hl]
  exact climb_path k id sd (tkeys h k) h.toNat (tkeys h k + q) ⟨by omega, by omega⟩ (by omega)
end
/-- a one-time signature of the kind's size that leads to a key is of that kind -/
theorem once_kind {y : Int} (hk : Kd y) {o : List Int} (hl : o.length = ksize y) (hs : sigB o = true) : val (o.take 4) = y := by
  have h' : 36 ≤ o.length ∧ 1 ≤ val (o.take 4) ∧ val (o.take 4) ≤ 4 ∧ o.length = ksize (val (o.take 4)) := of_decide_eq_true hs
  refine size_inj (by unfold Kd; omega) hk ?_
  rw [← h'.2.2.2, hl]
theorem once_no {y : Int} (hk : Kd y) {o : List Int} (hl : o.length = ksize y) (hne : val (o.take 4) ≠ y) : sigB o = false := by
  rcases hs : sigB o with _ | _
  · rfl
  · exact absurd (once_kind hk hl hs) hne
theorem once_yes {y : Int} (hk : Kd y) {o : List Int} (hl : o.length = ksize y) (he : val (o.take 4) = y) : sigB o = true := by
  refine decide_eq_true ⟨?_, ?_, ?_, ?_⟩
  · rw [hl]; rcases hk with rfl | rfl | rfl | rfl <;> decide
  · rw [he]; rcases hk with rfl | rfl | rfl | rfl <;> decide
  · rw [he]; rcases hk with rfl | rfl | rfl | rfl <;> decide
  · rw [he, hl]
/-- so many steps of the path, and one more -/
theorem pth_snoc (f : Nat → List Int) (n r : Nat) : pth f (n + 1) r = pth f n r ++ f (bsd (r / 2 ^ n)) := by
  induction n generalizing r with
  | zero => simp [pth]
  | succ n ih =>
    show f (bsd r) ++ pth f (n + 1) (r / 2) = _
    rw [ih]
    show _ = f (bsd r) ++ pth f n (r / 2) ++ _
    rw [← List.append_assoc, Nat.div_div_eq_div_mul, show 2 * 2 ^ n = 2 ^ (n + 1) by rw [Nat.pow_succ]; omega]
/-- so many steps up, and one more -/
theorem clm_snoc (id : List Int) (n r : Nat) (h p : List Int) : clm id (n + 1) r h p = upn id (r / 2 ^ n) (clm id n r h p) ((p.drop (32 * n)).take 32) := by
  induction n generalizing r h p with
  | zero => simp [clm]
  | succ n ih =>
    show clm id (n + 1) (r / 2) (upn id r h (p.take 32)) (p.drop 32) = _
    rw [ih]
    show _ = upn id (r / 2 ^ (n + 1)) (clm id n (r / 2) (upn id r h (p.take 32)) (p.drop 32)) _
    rw [Nat.div_div_eq_div_mul, show 2 * 2 ^ n = 2 ^ (n + 1) by rw [Nat.pow_succ]; omega, List.drop_drop, show 32 + 32 * n = 32 * (n + 1) by omega]
/-- the number at the j-th step: more than 1 just below the top -/
theorem up_range {h : Nat} {K q : Nat} (hK : K = 2 ^ h) (hq : q < K) (j : Nat) (hj : j ≤ h) : (1 < (K + q) / 2 ^ j ↔ j < h) ∧ 1 ≤ (K + q) / 2 ^ j ∧ (K + q) / 2 ^ j ≤ K + q := by
  have hp : 0 < 2 ^ j := Nat.two_pow_pos j
  have hsplit : 2 ^ h = 2 ^ (h - j) * 2 ^ j := by rw [← Nat.pow_add]; congr 1; omega
  have h1 : 2 ^ (h - j) ≤ (K + q) / 2 ^ j := by
    rw [Nat.le_div_iff_mul_le hp, ← hsplit]; omega
  refine ⟨⟨fun hlt => ?_, fun hlt => ?_⟩, ?_, Nat.div_le_self _ _⟩
  · rcases Nat.lt_or_ge j h with h2 | h2
    · exact h2
    · have : j = h := by omega
      subst this
      have : (K + q) / 2 ^ j < 2 := by rw [Nat.div_lt_iff_lt_mul hp]; omega
      omega
  · have : 2 ^ 1 ≤ 2 ^ (h - j) := Nat.pow_le_pow_right (by omega) (by omega)
    omega
  · have := Nat.two_pow_pos (h - j)
    omega
end Go.Proofs.YtobceieadjpaaaaDoor
/-
  What is proved here: the document's own public key of a tree, and signature by one of its keys.
-/
namespace Go.Proofs.YtobceieadjpaaaaDoor
open Go.ChangeShapes Go.WideShapes Go.ChangeAt Go.RowKit
set_option linter.unusedVariables false
set_option maxRecDepth 20000

set_option maxHeartbeats 8000000 in
theorem tPublic_any (h k : Int) (id sd : List Int) (w : World) (h1 : 1 ≤ h ∧ h ≤ 4) (hk : Kd k) (hi : Idn id) (hs : Ky sd) :
    Calls Tryd.prog 67 #[.int .i64 h, .int .i64 k, .agg (u8s id).toArray, .agg (u8s sd).toArray] w fun e w' => ∃ A c, e = .returned (.slice A 56 c) ∧ Rp w' none A (pbt h k id sd) ∧ Below w.heap.size w w' := by
  obtain ⟨Z, HZ, hZ0, hZs⟩ := zero_Hash
  have hz32 : Z.size = 32 := by rw [HZ.out, List.size_toArray, u8s_length]; simp
  obtain ⟨hk1, hk2, hb0⟩ := blks2 w (u8s id).toArray (u8s sd).toArray 23 26
  have GT : Hid (Tn2 id sd w ((w.alloc (.cells (u8s id).toArray 23)).alloc (.cells (u8s sd).toArray 26))) := ⟨hk1, hk2, hb0⟩
  have CK := hid (tKeys_any h k)
  have hKl : 2 ≤ tkeys h k ∧ tkeys h k ≤ 16 := by rw [tkeys_ok h1 hk]; rcases ht4 h1 with rfl | rfl | rfl | rfl <;> decide
  obtain ⟨N1, hN1⟩ : ∃ N1, N1 = nd k id sd (tkeys h k) 1 := ⟨_, rfl⟩
  have NK : Ky N1 := by rw [hN1]; exact nd_ky _ _ _ _ _
  have CAT : Hid (∀ w1, Calls Tryd.prog 94 #[.int .i64 1, .int .i64 (tkeys h k : Nat), .int .i64 k, .agg (u8s id).toArray, .agg (u8s sd).toArray] w1 fun e w' => e = .returned (.agg (u8s N1).toArray) ∧ Below w1.heap.size w1 w') := fun w1 => by
    rw [hN1]
    exact At_any k id sd (tkeys h k) hk hi hs hKl.2 (2 * tkeys h k) 1 (by omega) (by omega) (by omega) w1
  have HP : Hid (pbt h k id sd = be h 4 ++ be k 4 ++ id ++ N1) := by show _ = _; rw [hN1]; rfl
  have HPL : Hid ((be h 4 ++ be k 4 ++ id ++ N1).length = 56) := by show _ = _; simp only [List.length_append, be_length, hi.len, NK.len]
  have hkr : 1 ≤ k ∧ k ≤ 4 := by rcases hk with rfl | rfl | rfl | rfl <;> decide
  have hwh : IntKind.u64.wrap h = h := by simp [IntKind.wrap, IntKind.bits, IntKind.signed]; omega
  have hwk : IntKind.u64.wrap k = k := by simp [IntKind.wrap, IntKind.bits, IntKind.signed]; omega
  have CNH : Hid (∀ w, Calls Tryd.prog 89 #[.int .u64 h, .int .i64 4] w fun e w' => ∃ v, e = .returned v ∧ w'.ownsRow w.heap.size 5 1 v 4 (u8s (be h 4)) ∧ Below w.heap.size w w') := fun w => Number_own h 4 w ⟨by omega, by omega⟩ (by decide)
  have CNK : Hid (∀ w, Calls Tryd.prog 89 #[.int .u64 k, .int .i64 4] w fun e w' => ∃ A c, e = .returned (.slice A 4 c) ∧ 4 ≤ c ∧ Fresh w w' A (be k 4) ∧ Below w.heap.size w w') := fun w => Number_any k 4 w ⟨by omega, by omega⟩ (by decide)
  have IDI := hid (id_info hi); have SDI := hid (hash_info hs.len)
  have HIN := hid (info_hash N1 NK.len); have HZN : Hid (Z.size = (u8s N1).toArray.size) := hz32.trans (hash_size NK.len).symm
  have L16 := hid hi.len; have L32 := hid NK.len
  have LH4 : Hid ((be h 4).length = 4) := be_length _ _
  have LK4 : Hid ((be k 4).length = 4) := be_length _ _
  generalize pbt h k id sd = PB at HP ⊢
  generalize tkeys h k = K at CK CAT
  clear hk1 hk2 hb0 h1 hk hi hs hKl hN1 NK hkr hz32
  go_enter Tryd.func67, Tryd.ntmps67
  go_wp2_with fail
  generalize (w.alloc (.cells (u8s id).toArray 23)).alloc (.cells (u8s sd).toArray 26) = w0 at GT ⊢
  refine wp_region_held (S := fun w' => Hid (Tn2 id sd w w')) (by kernel_rfl) ?_
  change wpAnyH _ _ _ _ _ _ _ _ w0.drew
  have Gx0 : Hid (Tn2 id sd w w0.drew) := GT.out.drew
  have HBx0 : Below w0.heap.size w0 w0.drew := (Below.refl _ _).drew
  clear HBx0
  generalize w0.drew = x0 at Gx0  ⊢
  refine wpAnyH_take (i := 0) (oi := { dst := some 11, op := _, type := _, pos := _, after := _, guard := _ }) (v := ?_) rfl (by kernel_rfl) (by kernel_rfl) (by kernel_rfl) (fun _ _ _ h => h) (Or.inl ⟨by kernel_rfl, ?_⟩) (by assumption) ?_
  rotate_left
  · (intro w hSw; go_simp; try with_reducible rfl)
  try simp only [Act.put, List.setIfInBounds_toArray, List.set_cons_zero, List.set_cons_succ]
  refine wpAnyH_take (i := 1) (oi := { dst := some 12, op := _, type := _, pos := _, after := _, guard := _ }) (v := ?_) rfl (by kernel_rfl) (by kernel_rfl) (by kernel_rfl) (fun _ _ _ h => h) (Or.inl ⟨by kernel_rfl, ?_⟩) (by assumption) ?_
  rotate_left
  · (intro w hSw; go_simp; try with_reducible rfl)
  try simp only [Act.put, List.setIfInBounds_toArray, List.set_cons_zero, List.set_cons_succ]
  refine wpAnyH_take (i := 3) (oi := { dst := some 14, op := _, type := _, pos := _, after := _, guard := _ }) (v := ?_) rfl (by kernel_rfl) (by kernel_rfl) (by kernel_rfl) (fun _ _ _ h => h) (Or.inl ⟨by kernel_rfl, ?_⟩) (by assumption) ?_
  rotate_left
  · (intro w hSw; go_simp; try with_reducible rfl)
  try simp only [Act.put, List.setIfInBounds_toArray, List.set_cons_zero, List.set_cons_succ]
  refine wpAnyH_take (i := 4) (oi := { dst := some 15, op := _, type := _, pos := _, after := _, guard := _ }) (v := .agg ((u8s id).toArray)) rfl (by kernel_rfl) (by kernel_rfl) (by kernel_rfl) (fun _ _ _ h => h) (yieldsIf_load_mid (cs := u8s id) (by rfl) _ _ rfl _ _ rfl _ (fun w' hSw => (blk_row (Hid.out hSw).b0)) Tryd.underlying23 rfl IDI.out) (by assumption) ?_
  try simp only [Act.put, List.setIfInBounds_toArray, List.set_cons_zero, List.set_cons_succ]
  refine wpAnyH_take (i := 5) (oi := { dst := some 16, op := _, type := _, pos := _, after := _, guard := _ }) (v := .agg ((u8s sd).toArray)) rfl (by kernel_rfl) (by kernel_rfl) (by kernel_rfl) (fun _ _ _ h => h) (yieldsIf_load_mid (cs := u8s sd) (by rfl) _ _ rfl _ _ rfl _ (fun w' hSw => (blk_row (Hid.out hSw).b1)) Tryd.underlying26 rfl SDI.out) (by assumption) ?_
  try simp only [Act.put, List.setIfInBounds_toArray, List.set_cons_zero, List.set_cons_succ]
  refine wpAnyH_ready (rs := [2, 7]) (by kernel_rfl) (by simp) ?_
  refine (AllReadyH.cons (o := { dst := some 13, op := _, type := _, pos := _, after := _, guard := _ }) rfl (fun Qc hQc => ?_) (AllReadyH.cons (o := { dst := some 9, op := _, type := _, pos := _, after := _, guard := _ }) rfl (fun Qc hQc => ?_) AllReadyH.nil))
  ·
    go_simp
    go_at_call 55; refine (CK.out _).mono ?_; rintro e wq ⟨rfl, rfl⟩
    go_wp2_with fail
    refine hQc.out _ _ Gx0 (fun hHeld => ?_)
    clear hQc Qc
    try simp only [Act.put, List.setIfInBounds_toArray, List.set_cons_zero, List.set_cons_succ]
    refine wpAnyH_ready (rs := [6, 7]) (by kernel_rfl) (by simp) ?_
    refine (AllReadyH.cons (o := { dst := some 17, op := _, type := _, pos := _, after := _, guard := _ }) rfl (fun Qc hQc => ?_) (AllReadyH.cons (o := { dst := some 9, op := _, type := _, pos := _, after := _, guard := _ }) rfl (fun Qc hQc => ?_) AllReadyH.nil))
    ·
      go_simp
      go_at_call 94; refine (CAT.out _).mono ?_; rintro e x2 ⟨rfl, hbx2⟩
      have Gx2 := hid (Gx0.out.below hbx2)
      clear hbx2
      go_wp2_with fail
      refine hQc.out _ _ Gx2 (fun hHeld => ?_)
      clear hQc Qc Gx0
      try simp only [Act.put, List.setIfInBounds_toArray, List.set_cons_zero, List.set_cons_succ]
      refine wpAnyH_ready (rs := [7]) (by kernel_rfl) (by simp) ?_
      refine (AllReadyH.cons (o := { dst := some 9, op := _, type := _, pos := _, after := _, guard := _ }) rfl (fun Qc hQc => ?_) AllReadyH.nil)
      go_simp
      have Gx3 := hid (Gx2.out.alloc (.cells Z 26))
      have HBx3 : Below x2.heap.size x2 (x2.alloc (.cells Z 26)) := (Below.refl _ _).alloc (Nat.le_refl _) _
      have A := hid (Blk.new x2 26 Z)
      have LE : Hid (w.heap.size + 1 < x2.heap.size) := Gx2.out.b1.lt
      clear HBx3
      refine hQc.out _ _ Gx3 (fun hHeld => ?_)
      clear hQc Qc Gx2
      generalize hgx3 : x2.heap.size = g at A LE  ⊢
      generalize x2.alloc (.cells Z 26) = x3 at Gx3 A  hHeld ⊢
      clear hgx3
      try simp only [Act.put, List.setIfInBounds_toArray, List.set_cons_zero, List.set_cons_succ]
      refine wpAnyH_ready (rs := [8]) (by kernel_rfl) (by simp) ?_
      refine (AllReadyH.cons (o := { dst := none, op := _, type := _, pos := _, after := _, guard := _ }) rfl (fun Qc hQc => ?_) AllReadyH.nil)
      rw [if_pos (by rfl)]
      refine wp_store_row 26 (.tmp 9) (.tmp 17) rfl (g) (u8s N1).toArray rfl rfl 26 Z A.out HIN.out HZN.out (u8s_all N1) ?_
      have Gx4 := hid (Gx3.out.row (g := g) (by have := LE.out; omega) (by have := LE.out; omega) (by have := LE.out; omega) (u8s N1).toArray)
      have KWx4 := hid ((A.out).row (u8s N1).toArray)
      refine hQc.out _ _ Gx4 (fun hHeld => ?_)
      clear hQc Qc Gx3
      generalize x3.setRow (g) (u8s N1).toArray = x4 at Gx4 KWx4 hHeld ⊢
      try simp only [Act.put, List.setIfInBounds_toArray, List.set_cons_zero, List.set_cons_succ]
      refine wpAnyH_done (by kernel_rfl) ?_ _
      try simp only [Act.put, List.setIfInBounds_toArray, List.set_cons_zero, List.set_cons_succ]
      have W2 : Hid (Below w.heap.size w x4) := Gx4.out.bl
      have KI := hid Gx4.out.b0
      generalize x4 = w2 at W2 KI KWx4 ⊢
      clear Gx4
      go_wp2_with (first
        | (go_at_call 89; (with_reducible refine (CNH.out _).mono ?_); rintro e w3 ⟨v3, rfl, ho3, hb3⟩; have O3 : Hid (w3.ownsRow w2.heap.size 5 1 v3 (be h 4).length (u8s (be h 4))) := (by show World.ownsRow _ _ _ _ _ _ _; rw [LH4.out]; exact ho3); have G3 := hid hb3; clear ho3 hb3)
        | (go_at_call 89; (with_reducible refine (CNK.out _).mono ?_); rintro e w4 ⟨A4, c4, rfl, hc4, hf4, hb4⟩; have R4 := hid hf4.rp0; have O4 := hid (own_below O3.out hb4); have G4 := hid (G3.out.trans (hb4.mono G3.out.size)); clear hc4 hf4 hb4)
        | (at_builtin; refine append_rpm rfl (.tmp 21) (.tmp 24) rfl w2.heap.size w2.heap.size _ (be h 4) rfl O4.out A4 4 c4 (be k 4) LK4.out.symm rfl R4.out (by rw [LH4.out, LK4.out]; decide) G4.out.size (Nat.le_refl _) ?_; intro v5 w5 O5 B5; have G5 := hid (G4.out.trans B5.out); have R5 := hid (blk_rp (KI.out.below G5.out)))
        | (at_builtin; refine append_rpm rfl (.tmp 26) (.tmp 27) rfl w2.heap.size w2.heap.size _ (be h 4 ++ be k 4) rfl O5.out (some ⟨w.heap.size, 0, none⟩) 16 16 id L16.out.symm rfl R5.out (by rw [List.length_append, LH4.out, LK4.out, L16.out]; decide) G5.out.size (Nat.le_refl _) ?_; intro v6 w6 O6 B6; have G6 := hid (G5.out.trans B6.out); have R6 := hid (blk_rp (KWx4.out.below G6.out)))
        | (at_builtin; refine append_rpm rfl (.tmp 29) (.tmp 30) rfl w2.heap.size w2.heap.size _ (be h 4 ++ be k 4 ++ id) rfl O6.out (some ⟨g, 0, none⟩) 32 32 N1 L32.out.symm rfl R6.out (by rw [List.length_append, List.length_append, LH4.out, LK4.out, L16.out, L32.out]; decide) G6.out.size (Nat.le_refl _) ?_; intro v7 w7 O7 B7; have G7 := hid (G6.out.trans B7.out)))
      obtain ⟨A7, c7, rfl, -, hc7, hf7⟩ := fresh_of_own (w := w2) O7.out (Nat.le_refl _)
      have F7 := hid hf7.rp0
      rw [HPL.out]
      clear hc7 hf7 O7
      go_wp2
      go_ret
      exact ⟨A7, c7, rfl, by rw [HP.out]; exact F7.out, W2.out.trans (G7.out.mono W2.out.size)⟩
    ·
      go_simp
      have Gx5 := hid (Gx0.out.alloc (.cells Z 26))
      have HBx5 : Below x0.heap.size x0 (x0.alloc (.cells Z 26)) := (Below.refl _ _).alloc (Nat.le_refl _) _
      have A := hid (Blk.new x0 26 Z)
      have LE : Hid (w.heap.size + 1 < x0.heap.size) := Gx0.out.b1.lt
      clear HBx5
      refine hQc.out _ _ Gx5 (fun hHeld => ?_)
      clear hQc Qc Gx0
      generalize hgx5 : x0.heap.size = g at A LE  ⊢
      generalize x0.alloc (.cells Z 26) = x5 at Gx5 A  hHeld ⊢
      clear hgx5
      try simp only [Act.put, List.setIfInBounds_toArray, List.set_cons_zero, List.set_cons_succ]
      refine wpAnyH_ready (rs := [6]) (by kernel_rfl) (by simp) ?_
      refine (AllReadyH.cons (o := { dst := some 17, op := _, type := _, pos := _, after := _, guard := _ }) rfl (fun Qc hQc => ?_) AllReadyH.nil)
      go_simp
      go_at_call 94; refine (CAT.out _).mono ?_; rintro e x6 ⟨rfl, hbx6⟩
      have Gx6 := hid (Gx5.out.below hbx6)
      have A := hid (A.out.below hbx6)
      clear hbx6
      go_wp2_with fail
      refine hQc.out _ _ Gx6 (fun hHeld => ?_)
      clear hQc Qc Gx5
      try simp only [Act.put, List.setIfInBounds_toArray, List.set_cons_zero, List.set_cons_succ]
      refine wpAnyH_ready (rs := [8]) (by kernel_rfl) (by simp) ?_
      refine (AllReadyH.cons (o := { dst := none, op := _, type := _, pos := _, after := _, guard := _ }) rfl (fun Qc hQc => ?_) AllReadyH.nil)
      rw [if_pos (by rfl)]
      refine wp_store_row 26 (.tmp 9) (.tmp 17) rfl (g) (u8s N1).toArray rfl rfl 26 Z A.out HIN.out HZN.out (u8s_all N1) ?_
      have Gx7 := hid (Gx6.out.row (g := g) (by have := LE.out; omega) (by have := LE.out; omega) (by have := LE.out; omega) (u8s N1).toArray)
      have KWx7 := hid ((A.out).row (u8s N1).toArray)
      refine hQc.out _ _ Gx7 (fun hHeld => ?_)
      clear hQc Qc Gx6
      generalize x6.setRow (g) (u8s N1).toArray = x7 at Gx7 KWx7 hHeld ⊢
      try simp only [Act.put, List.setIfInBounds_toArray, List.set_cons_zero, List.set_cons_succ]
      refine wpAnyH_done (by kernel_rfl) ?_ _
      try simp only [Act.put, List.setIfInBounds_toArray, List.set_cons_zero, List.set_cons_succ]
      have W2 : Hid (Below w.heap.size w x7) := Gx7.out.bl
      have KI := hid Gx7.out.b0
      generalize x7 = w2 at W2 KI KWx7 ⊢
      clear Gx7
      go_wp2_with (first
        | (go_at_call 89; (with_reducible refine (CNH.out _).mono ?_); rintro e w3 ⟨v3, rfl, ho3, hb3⟩; have O3 : Hid (w3.ownsRow w2.heap.size 5 1 v3 (be h 4).length (u8s (be h 4))) := (by show World.ownsRow _ _ _ _ _ _ _; rw [LH4.out]; exact ho3); have G3 := hid hb3; clear ho3 hb3)
        | (go_at_call 89; (with_reducible refine (CNK.out _).mono ?_); rintro e w4 ⟨A4, c4, rfl, hc4, hf4, hb4⟩; have R4 := hid hf4.rp0; have O4 := hid (own_below O3.out hb4); have G4 := hid (G3.out.trans (hb4.mono G3.out.size)); clear hc4 hf4 hb4)
        | (at_builtin; refine append_rpm rfl (.tmp 21) (.tmp 24) rfl w2.heap.size w2.heap.size _ (be h 4) rfl O4.out A4 4 c4 (be k 4) LK4.out.symm rfl R4.out (by rw [LH4.out, LK4.out]; decide) G4.out.size (Nat.le_refl _) ?_; intro v5 w5 O5 B5; have G5 := hid (G4.out.trans B5.out); have R5 := hid (blk_rp (KI.out.below G5.out)))
        | (at_builtin; refine append_rpm rfl (.tmp 26) (.tmp 27) rfl w2.heap.size w2.heap.size _ (be h 4 ++ be k 4) rfl O5.out (some ⟨w.heap.size, 0, none⟩) 16 16 id L16.out.symm rfl R5.out (by rw [List.length_append, LH4.out, LK4.out, L16.out]; decide) G5.out.size (Nat.le_refl _) ?_; intro v6 w6 O6 B6; have G6 := hid (G5.out.trans B6.out); have R6 := hid (blk_rp (KWx7.out.below G6.out)))
        | (at_builtin; refine append_rpm rfl (.tmp 29) (.tmp 30) rfl w2.heap.size w2.heap.size _ (be h 4 ++ be k 4 ++ id) rfl O6.out (some ⟨g, 0, none⟩) 32 32 N1 L32.out.symm rfl R6.out (by rw [List.length_append, List.length_append, LH4.out, LK4.out, L16.out, L32.out]; decide) G6.out.size (Nat.le_refl _) ?_; intro v7 w7 O7 B7; have G7 := hid (G6.out.trans B7.out)))
      obtain ⟨A7, c7, rfl, -, hc7, hf7⟩ := fresh_of_own (w := w2) O7.out (Nat.le_refl _)
      have F7 := hid hf7.rp0
      rw [HPL.out]
      clear hc7 hf7 O7
      go_wp2
      go_ret
      exact ⟨A7, c7, rfl, by rw [HP.out]; exact F7.out, W2.out.trans (G7.out.mono W2.out.size)⟩
  ·
    go_simp
    have Gx8 := hid (Gx0.out.alloc (.cells Z 26))
    have HBx8 : Below x0.heap.size x0 (x0.alloc (.cells Z 26)) := (Below.refl _ _).alloc (Nat.le_refl _) _
    have A := hid (Blk.new x0 26 Z)
    have LE : Hid (w.heap.size + 1 < x0.heap.size) := Gx0.out.b1.lt
    clear HBx8
    refine hQc.out _ _ Gx8 (fun hHeld => ?_)
    clear hQc Qc Gx0
    generalize hgx8 : x0.heap.size = g at A LE  ⊢
    generalize x0.alloc (.cells Z 26) = x8 at Gx8 A  hHeld ⊢
    clear hgx8
    try simp only [Act.put, List.setIfInBounds_toArray, List.set_cons_zero, List.set_cons_succ]
    refine wpAnyH_ready (rs := [2]) (by kernel_rfl) (by simp) ?_
    refine (AllReadyH.cons (o := { dst := some 13, op := _, type := _, pos := _, after := _, guard := _ }) rfl (fun Qc hQc => ?_) AllReadyH.nil)
    go_simp
    go_at_call 55; refine (CK.out _).mono ?_; rintro e wq ⟨rfl, rfl⟩
    go_wp2_with fail
    refine hQc.out _ _ Gx8 (fun hHeld => ?_)
    clear hQc Qc
    try simp only [Act.put, List.setIfInBounds_toArray, List.set_cons_zero, List.set_cons_succ]
    refine wpAnyH_ready (rs := [6]) (by kernel_rfl) (by simp) ?_
    refine (AllReadyH.cons (o := { dst := some 17, op := _, type := _, pos := _, after := _, guard := _ }) rfl (fun Qc hQc => ?_) AllReadyH.nil)
    go_simp
    go_at_call 94; refine (CAT.out _).mono ?_; rintro e x10 ⟨rfl, hbx10⟩
    have Gx10 := hid (Gx8.out.below hbx10)
    have A := hid (A.out.below hbx10)
    clear hbx10
    go_wp2_with fail
    refine hQc.out _ _ Gx10 (fun hHeld => ?_)
    clear hQc Qc Gx8
    try simp only [Act.put, List.setIfInBounds_toArray, List.set_cons_zero, List.set_cons_succ]
    refine wpAnyH_ready (rs := [8]) (by kernel_rfl) (by simp) ?_
    refine (AllReadyH.cons (o := { dst := none, op := _, type := _, pos := _, after := _, guard := _ }) rfl (fun Qc hQc => ?_) AllReadyH.nil)
    rw [if_pos (by rfl)]
    refine wp_store_row 26 (.tmp 9) (.tmp 17) rfl (g) (u8s N1).toArray rfl rfl 26 Z A.out HIN.out HZN.out (u8s_all N1) ?_
    have Gx11 := hid (Gx10.out.row (g := g) (by have := LE.out; omega) (by have := LE.out; omega) (by have := LE.out; omega) (u8s N1).toArray)
    have KWx11 := hid ((A.out).row (u8s N1).toArray)
    refine hQc.out _ _ Gx11 (fun hHeld => ?_)
    clear hQc Qc Gx10
    generalize x10.setRow (g) (u8s N1).toArray = x11 at Gx11 KWx11 hHeld ⊢
    try simp only [Act.put, List.setIfInBounds_toArray, List.set_cons_zero, List.set_cons_succ]
    refine wpAnyH_done (by kernel_rfl) ?_ _
    try simp only [Act.put, List.setIfInBounds_toArray, List.set_cons_zero, List.set_cons_succ]
    have W2 : Hid (Below w.heap.size w x11) := Gx11.out.bl
    have KI := hid Gx11.out.b0
    generalize x11 = w2 at W2 KI KWx11 ⊢
    clear Gx11
    go_wp2_with (first
      | (go_at_call 89; (with_reducible refine (CNH.out _).mono ?_); rintro e w3 ⟨v3, rfl, ho3, hb3⟩; have O3 : Hid (w3.ownsRow w2.heap.size 5 1 v3 (be h 4).length (u8s (be h 4))) := (by show World.ownsRow _ _ _ _ _ _ _; rw [LH4.out]; exact ho3); have G3 := hid hb3; clear ho3 hb3)
      | (go_at_call 89; (with_reducible refine (CNK.out _).mono ?_); rintro e w4 ⟨A4, c4, rfl, hc4, hf4, hb4⟩; have R4 := hid hf4.rp0; have O4 := hid (own_below O3.out hb4); have G4 := hid (G3.out.trans (hb4.mono G3.out.size)); clear hc4 hf4 hb4)
      | (at_builtin; refine append_rpm rfl (.tmp 21) (.tmp 24) rfl w2.heap.size w2.heap.size _ (be h 4) rfl O4.out A4 4 c4 (be k 4) LK4.out.symm rfl R4.out (by rw [LH4.out, LK4.out]; decide) G4.out.size (Nat.le_refl _) ?_; intro v5 w5 O5 B5; have G5 := hid (G4.out.trans B5.out); have R5 := hid (blk_rp (KI.out.below G5.out)))
      | (at_builtin; refine append_rpm rfl (.tmp 26) (.tmp 27) rfl w2.heap.size w2.heap.size _ (be h 4 ++ be k 4) rfl O5.out (some ⟨w.heap.size, 0, none⟩) 16 16 id L16.out.symm rfl R5.out (by rw [List.length_append, LH4.out, LK4.out, L16.out]; decide) G5.out.size (Nat.le_refl _) ?_; intro v6 w6 O6 B6; have G6 := hid (G5.out.trans B6.out); have R6 := hid (blk_rp (KWx11.out.below G6.out)))
      | (at_builtin; refine append_rpm rfl (.tmp 29) (.tmp 30) rfl w2.heap.size w2.heap.size _ (be h 4 ++ be k 4 ++ id) rfl O6.out (some ⟨g, 0, none⟩) 32 32 N1 L32.out.symm rfl R6.out (by rw [List.length_append, List.length_append, LH4.out, LK4.out, L16.out, L32.out]; decide) G6.out.size (Nat.le_refl _) ?_; intro v7 w7 O7 B7; have G7 := hid (G6.out.trans B7.out)))
    obtain ⟨A7, c7, rfl, -, hc7, hf7⟩ := fresh_of_own (w := w2) O7.out (Nat.le_refl _)
    have F7 := hid hf7.rp0
    rw [HPL.out]
    clear hc7 hf7 O7
    go_wp2
    go_ret
    exact ⟨A7, c7, rfl, by rw [HP.out]; exact F7.out, W2.out.trans (G7.out.mono W2.out.size)⟩

theorem tSign_spent (h k : Int) (id sd : List Int) (q : Int) (A : Option Addr) (n c : Nat) (w : World) (hq : q < 0 ∨ (tkeys h k : Int) ≤ q) :
    Calls Tryd.prog 69 #[.int .i64 h, .int .i64 k, .agg (u8s id).toArray, .agg (u8s sd).toArray, .int .i64 q, .slice A n c] w fun e w' => e = .returned (.tuple #[.slice none 0 0, .int .i64 7]) ∧ Below w.heap.size w w' := by
  obtain ⟨hk1, hk2, hb0⟩ := blks2 w (u8s id).toArray (u8s sd).toArray 23 26
  have B0 := hid hb0
  have CK := hid (tKeys_any h k)
  generalize tkeys h k = K at CK hq
  by_cases hq0 : q < 0
  · have hd : decide (q < 0) = true := decide_eq_true hq0
    clear hq hk1 hk2 hb0
    go_enter Tryd.func69, Tryd.ntmps69
    go_wp2_with (go_at_call 55; refine (CK.out _).mono ?_; rintro e w1 ⟨rfl, rfl⟩)
    go_ret2
    exact ⟨rfl, B0.out⟩
  · have hq1 : (K : Int) ≤ q := by omega
    have hd : decide (q < 0) = false := decide_eq_false hq0
    have hd2 : decide ((K : Int) ≤ q) = true := decide_eq_true hq1
    clear hq hk1 hk2 hb0
    go_enter Tryd.func69, Tryd.ntmps69
    go_wp2_with (go_at_call 55; refine (CK.out _).mono ?_; rintro e w1 ⟨rfl, rfl⟩)
    go_ret2
    exact ⟨rfl, B0.out⟩

set_option maxHeartbeats 8000000 in
theorem tSign_any (h k : Int) (id sd : List Int) (q : Nat) (A : Option Addr) (n c : Nat) (msg : List Int) (w : World) (h1 : 1 ≤ h ∧ h ≤ 4) (hk : Kd k) (hi : Idn id) (hs : Ky sd) (hq : q < tkeys h k)
    (hm : n = msg.length) (hr : Rp w none A msg) (hb : Bs msg) (hl : msg.length < 100000) :
    Calls Tryd.prog 69 #[.int .i64 h, .int .i64 k, .agg (u8s id).toArray, .agg (u8s sd).toArray, .int .i64 (q : Nat), .slice A n c] w fun e w' => ∃ A' c', e = .returned (.tuple #[.slice A' (tsize h k) c', .int .i64 0]) ∧ Rp w' none A' (sgt h k id sd q msg) ∧ Below w.heap.size w w' := by
  obtain ⟨Z, HZ, hZ0, hZs⟩ := zero_Hash
  have hz32 : Z.size = 32 := by rw [HZ.out, List.size_toArray, u8s_length]; simp
  obtain ⟨hk1, hk2, hb0⟩ := blks2 w (u8s id).toArray (u8s sd).toArray 23 26
  have K1 := hid hk1; have K2 := hid hk2; have B0 := hid hb0
  have S0 : Hid (((w.alloc (.cells (u8s id).toArray 23)).alloc (.cells (u8s sd).toArray 26)).heap.size = w.heap.size + 1 + 1) := by show _ = _; simp
  have CK := hid (tKeys_any h k)
  obtain ⟨hh, hhe⟩ : ∃ hh : Nat, h = hh := ⟨h.toNat, by omega⟩
  have hKe : tkeys h k = 2 ^ hh := by rw [tkeys_ok h1 hk, hhe]; rfl
  have hKl : 2 ≤ tkeys h k ∧ tkeys h k ≤ 16 := by rw [tkeys_ok h1 hk]; rcases ht4 h1 with rfl | rfl | rfl | rfl <;> decide
  obtain ⟨nf, hnf⟩ : ∃ nf, nf = nd k id sd (tkeys h k) := ⟨_, rfl⟩
  have NK : Hid (∀ r, Ky (nf r)) := fun r => by rw [hnf]; exact nd_ky _ _ _ _ _
  have CAT : Hid (∀ (r : Nat) w1, 1 < r → r < 2 * tkeys h k → Calls Tryd.prog 94 #[.int .i64 ((r : Int) + 1 - 2 * ((r : Int) % 2)), .int .i64 (tkeys h k : Nat), .int .i64 k, .agg (u8s id).toArray, .agg (u8s sd).toArray] w1 fun e w' => e = .returned (.agg (u8s (nf (bsd r))).toArray) ∧ Below w1.heap.size w1 w') := fun r w1 h2 h3 => by
    have hbs : bsd r < 2 * tkeys h k ∧ 1 ≤ bsd r := by unfold bsd; have := tkeys_ok h1 hk; omega
    rw [hnf, show (r : Int) + 1 - 2 * ((r : Int) % 2) = ((bsd r : Nat) : Int) by unfold bsd; omega]
    exact At_any k id sd (tkeys h k) hk hi hs hKl.2 (2 * tkeys h k) (bsd r) (by omega) (by omega) (by omega) w1
  have HP : Hid (sgt h k id sd q msg = be (q : Int) 4 ++ signK k id q sd msg ++ be h 4 ++ pth nf hh (tkeys h k + q)) := by show _ = _; rw [hnf]; unfold sgt; rw [hhe]; rfl
  have HPL : Hid ((sgt h k id sd q msg).length = tsize h k) := sgt_length h1 hk q msg
  have HSL : Hid ((signK k id q sd msg).length = ksize k) := sign_length hk id q sd msg
  have hks := ksize_le k
  have CSG : Hid (∀ w1, Below w.heap.size w w1 → Calls Tryd.prog 96 #[.int .i64 k, .agg (u8s id).toArray, .int .u32 (q : Nat), .agg (u8s sd).toArray, .slice A n c] w1 fun e w' => ∃ A' c', e = .returned (.tuple #[.slice A' (signK k id q sd msg).length c', .int .i64 0]) ∧ Fresh w1 w' A' (signK k id q sd msg) ∧ Below w1.heap.size w1 w') := fun w1 hb1 => kSign_kd k id q sd A n c msg w1 hk hi (by omega) hs hm (hr.belowN hb1) hb hl
  obtain ⟨SK, hSK⟩ : ∃ SK, SK = signK k id q sd msg := ⟨_, rfl⟩
  rw [← hSK] at CSG HSL HP
  rw [HSL.out] at CSG
  have hwh : IntKind.u64.wrap h = h := by simp [IntKind.wrap, IntKind.bits, IntKind.signed]; omega
  have hwq : IntKind.u64.wrap (q : Int) = q := by simp [IntKind.wrap, IntKind.bits, IntKind.signed]; omega
  have hwq2 : IntKind.u32.wrap (q : Int) = q := by simp [IntKind.wrap, IntKind.bits, IntKind.signed]; omega
  have CNQ : Hid (∀ w, Calls Tryd.prog 89 #[.int .u64 (q : Int), .int .i64 4] w fun e w' => ∃ v, e = .returned v ∧ w'.ownsRow w.heap.size 5 1 v 4 (u8s (be q 4)) ∧ Below w.heap.size w w') := fun w => Number_own q 4 w ⟨by omega, by omega⟩ (by decide)
  have CNH : Hid (∀ w, Calls Tryd.prog 89 #[.int .u64 h, .int .i64 4] w fun e w' => ∃ A c, e = .returned (.slice A 4 c) ∧ 4 ≤ c ∧ Fresh w w' A (be h 4) ∧ Below w.heap.size w w') := fun w => Number_any h 4 w ⟨by omega, by omega⟩ (by decide)
  have IDI := hid (id_info hi); have SDI := hid (hash_info hs.len)
  have HUP := hid (fun j hj => up_range (h := hh) hKe hq j hj)
  have HPT : Hid (∀ j r, (pth nf j r).length = 32 * j) := fun j r => pth_length nf (fun r => (NK.out r).len) j r
  have LQ4 : Hid ((be q 4).length = 4) := be_length _ _
  have LH4 : Hid ((be h 4).length = 4) := be_length _ _
  have HZ32' := hid hz32
  generalize sgt h k id sd q msg = SG at HP HPL ⊢
  generalize tsize h k = ts at HPL ⊢
  generalize ksize k = ks at CSG HSL hks
  obtain ⟨K, hK⟩ : ∃ K, K = tkeys h k := ⟨_, rfl⟩
  rw [← hK] at CK CAT HUP HP hKl hq
  obtain ⟨k2, k16⟩ := hKl
  have hq0 : ¬ ((q : Int) < 0) := by omega
  have hqd : decide ((q : Int) < 0) = false := decide_eq_false hq0
  have hqK : (q : Int) < (K : Int) := by omega
  have hqK2 : decide ((K : Int) ≤ (q : Int)) = false := decide_eq_false (by omega)
  have hh4 : hh ≤ 4 := by omega
  clear hk1 hk2 hb0 h1 hk hi hs hm hr hb hl hnf hSK hKe hK hhe hz32
  go_enter Tryd.func69, Tryd.ntmps69
  go_wp2_with (first
    | (go_at_call 55; refine (CK.out _).mono ?_; rintro e w1 ⟨rfl, rfl⟩)
    | (refine load_at rfl 23 (.tmp 8) rfl w.heap.size 0 rfl (u8s id) _ (blk_row K1.out) Tryd.underlying23 rfl IDI.out (u8s id).toArray rfl ?_)
    | (refine load_at rfl 26 (.tmp 9) rfl (w.heap.size + 1) 0 rfl (u8s sd) _ (blk_row K2.out) Tryd.underlying26 rfl SDI.out (u8s sd).toArray rfl ?_)
    | (go_at_call 96; refine (CSG.out _ B0.out).mono ?_; rintro e w1 ⟨A1, c1, rfl, hf1, hb1⟩; have R1 := hid hf1.rp0; have B1 := hid (B0.out.trans (hb1.mono (by rw [S0.out]; omega))); have L1 := hid (K1.out.below hb1); have L2 := hid (K2.out.below hb1); clear hf1 hb1)
    | (go_at_call 89; (with_reducible refine (CNQ.out _).mono ?_); rintro e w3 ⟨v3, rfl, ho3, hb3⟩; have O3 : Hid (w3.ownsRow w1.heap.size 5 1 v3 (be q 4).length (u8s (be q 4))) := (by show World.ownsRow _ _ _ _ _ _ _; rw [LQ4.out]; exact ho3); have G3 := hid hb3; have R3 := hid (R1.out.belowN hb3); clear ho3 hb3)
    | (at_builtin; refine append_rpm rfl (.tmp 44) (.tmp 45) rfl w1.heap.size w1.heap.size _ (be q 4) rfl O3.out A1 ks c1 SK HSL.out.symm rfl R3.out (by rw [LQ4.out, HSL.out]; omega) G3.out.size (Nat.le_refl _) ?_; intro v4 w4 O4 B4; have G4 := hid (G3.out.trans B4.out))
    | (go_at_call 89; (with_reducible refine (CNH.out _).mono ?_); rintro e w5 ⟨A5, c5, rfl, hc5, hf5, hb5⟩; have R5 := hid hf5.rp0; have O5 := hid (own_below O4.out hb5); have G5 := hid (G4.out.trans (hb5.mono G4.out.size)); clear hc5 hf5 hb5)
    | (at_builtin; refine append_rpm rfl (.tmp 47) (.tmp 50) rfl w1.heap.size w1.heap.size _ (be q 4 ++ SK) rfl O5.out A5 4 c5 (be h 4) LH4.out.symm rfl R5.out (by rw [List.length_append, LQ4.out, HSL.out, LH4.out]; omega) G5.out.size (Nat.le_refl _) ?_; intro v6 w6 O6 B6; have G6 := hid (G5.out.trans B6.out)))
  clear O3 O4 O5 R1 R3 R5 G3 G4 G5 B4 B6 CNQ CNH CSG CK K1 K2 B0
  have LB := hid (Nat.lt_of_lt_of_le L2.out.lt (Nat.le_refl _))
  have HAS : Hid (be q 4 ++ SK ++ be h 4 = (be q 4 ++ SK ++ be h 4) ++ pth nf 0 (K + q)) := (List.append_nil _).symm
  obtain ⟨PRE, hPRE⟩ : ∃ PRE, PRE = be q 4 ++ SK ++ be h 4 := ⟨_, rfl⟩
  have LPR : Hid (PRE.length = 8 + ks) := by show _ = _; rw [hPRE]; simp only [List.length_append, LQ4.out, HSL.out, LH4.out]; omega
  rw [← hPRE] at O6 HAS HP
  rw [HAS.out] at O6
  clear hPRE
  go_loopw [17, 18] (fun a i wr => ∃ j : Nat, j ≤ hh ∧ i = .int .i64 (((K + q) / 2 ^ j : Nat) : Int) ∧ Hid (wr.ownsRow w1.heap.size 5 1 a (PRE ++ pth nf j (K + q)).length (u8s (PRE ++ pth nf j (K + q)))) ∧ Hid (Below w1.heap.size w1 wr)) (fun _ i _ => (intOf i).toNat)
  case atStart => exact ⟨0, Nat.zero_le _, by simp, O6.out, G6.out⟩
  case round =>
    obtain ⟨j, hj, rfl, HO, HB⟩ := hrel
    clear O6 G6
    have hu := HUP.out j hj
    have HSN := hid (pth_snoc nf j (K + q))
    have HDV : Hid ((K + q) / 2 ^ (j + 1) = (K + q) / 2 ^ j / 2) := by show _ = _; rw [Nat.div_div_eq_div_mul]; congr 1
    have HPL2 := HPT.out j (K + q)
    obtain ⟨r, hr⟩ : ∃ r, r = (K + q) / 2 ^ j := ⟨_, rfl⟩
    rw [← hr] at hu HSN HDV
    rw [← hr]
    clear hr
    by_cases hlt : j < hh
    · have hr1 : 1 < r := hu.1.2 hlt
      have hr2 : r < 2 * K := by have := hu.2.2; omega
      have hri : (1 : Int) < (r : Int) := by omega
      have hb0 : 0 ≤ (r : Int) % 2 ∧ (r : Int) % 2 < 2 := by omega
      have hw1 : IntKind.i64.wrap ((r : Int) + 1) = (r : Int) + 1 := IntWalk.i64_in _ (by omega)
      have hw2 : IntKind.i64.wrap (2 * ((r : Int) % 2)) = 2 * ((r : Int) % 2) := IntWalk.i64_in _ (by omega)
      have hw3 : IntKind.i64.wrap ((r : Int) + 1 - 2 * ((r : Int) % 2)) = (r : Int) + 1 - 2 * ((r : Int) % 2) := IntWalk.i64_in _ (by omega)
      have CA := hid (fun w => CAT.out r w hr1 hr2)
      obtain ⟨N, hN⟩ : ∃ N, N = nf (bsd r) := ⟨_, rfl⟩
      have NN : Ky N := by rw [hN]; exact NK.out _
      rw [← hN] at CA HSN
      have HIN := hid (info_hash N NN.len); have HZN : Hid (Z.size = (u8s N).toArray.size) := HZ32'.out.trans (hash_size NN.len).symm
      have N32 := hid NN.len
      have L3 := hid (L1.out.below HB.out); have L4 := hid (L2.out.below HB.out)
      have HLT : Hid ((PRE ++ pth nf j (K + q)).length + 32 < 1000000000000) := by show _ < _; rw [List.length_append, LPR.out, HPL2]; omega
      clear hu hN NN
      go_wp2_with (first
        | (refine load_at rfl 23 (.tmp 8) rfl w.heap.size 0 rfl (u8s id) _ (blk_row L3.out) Tryd.underlying23 rfl IDI.out (u8s id).toArray rfl ?_)
        | (refine load_at rfl 26 (.tmp 9) rfl (w.heap.size + 1) 0 rfl (u8s sd) _ (blk_row L4.out) Tryd.underlying26 rfl SDI.out (u8s sd).toArray rfl ?_)
        | (go_at_call 94; refine (CA.out _).mono ?_; rintro e w2 ⟨rfl, hb2⟩; have HO2 := hid (own_below HO.out hb2); have HB2 := hid (HB.out.trans (hb2.mono HB.out.size)); clear hb2)
        | (refine wpList_store_row rfl 26 (.tmp 20) (.tmp 70) rfl w2.heap.size (u8s N).toArray rfl rfl 26 Z (Blk.new w2 26 Z) HIN.out HZN.out (u8s_all N) ?_; have hbb : Below w2.heap.size w2 ((w2.alloc (.cells Z 26)).setRow w2.heap.size (u8s N).toArray) := below_setRow ((Below.refl _ _).alloc (Nat.le_refl _) _) (Nat.le_refl _) _; have P3 : Hid (Blk ((w2.alloc (.cells Z 26)).setRow w2.heap.size (u8s N).toArray) w2.heap.size 26 (u8s N).toArray) := (Blk.new w2 26 Z).row _; have HO3 := hid (own_below HO2.out hbb); have HB3 := hid (HB2.out.trans (hbb.mono HB2.out.size)); clear hbb; generalize (w2.alloc (.cells Z 26)).setRow w2.heap.size (u8s N).toArray = w3 at P3 HO3 HB3 ⊢; generalize w2.heap.size = gp at P3 ⊢; have R3 := hid (blk_rp P3.out))
        | (at_builtin; refine append_rpm rfl (.tmp 71) (.tmp 72) rfl w1.heap.size w1.heap.size _ (PRE ++ pth nf j (K + q)) rfl HO3.out (some ⟨gp, 0, none⟩) 32 32 N N32.out.symm rfl R3.out (by rw [N32.out]; exact HLT.out) HB3.out.size (Nat.le_refl _) ?_; intro v4 w4 O4 B4; have HB4 := hid (HB3.out.trans B4.out)))
      exact ⟨⟨j + 1, by omega, by rw [HDV.out]; go_num, by (show World.ownsRow _ _ _ _ _ _ _); rw [HSN.out, ← List.append_assoc]; exact O4.out, HB4.out⟩, by simp [intOf]; omega⟩
    · have hjh : j = hh := by omega
      have hr1 : ¬ 1 < r := fun h => hlt (hu.1.1 h)
      have hri : ¬ (1 : Int) < (r : Int) := by omega
      have HE : Hid (PRE ++ pth nf j (K + q) = SG) := by show _ = _; rw [HP.out, hjh]
      rw [HE.out, HPL.out] at HO
      obtain ⟨A7, c7, rfl, -, hc7, hf7⟩ := fresh_of_own (w := w1) HO.out (Nat.le_refl _)
      have F7 := hid hf7.rp0
      clear hu hc7 hf7 HO hlt hr1
      go_wp2_with fail
      go_ret2
      exact ⟨A7, ⟨c7, rfl⟩, F7.out, B1.out.trans (HB.out.mono B1.out.size)⟩
end Go.Proofs.YtobceieadjpaaaaDoor
