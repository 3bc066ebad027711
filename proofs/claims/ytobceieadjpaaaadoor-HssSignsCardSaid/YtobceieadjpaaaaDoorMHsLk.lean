/-
  What is proved here: all signers have the public key and the number of signatures that the chapter says, or there are none: the walk of the statement.
-/
import Derived.Test.YtobceieadjpaaaaDoorMHq1
import Derived.Test.YtobceieadjpaaaaDoorMHq2
import Derived.Test.YtobceieadjpaaaaDoorMHsOpen
import Derived.Test.YtobceieadjpaaaaDoorMHa2
import Derived.Deep.DeepCutAuto
set_option linter.unusedSimpArgs false
set_option linter.unusedVariables false
namespace Go.Proofs.YtobceieadjpaaaaDoor
open Go.ChangeShapes Go.WideShapes Go.ChangeAt Go.RowKit
set_option linter.unusedVariables false
set_option maxRecDepth 20000

/-- a form lies where it lay -/
structure Fk (t b k : Int) (sd : List Int) (w w' : World) : Prop where
  b0 : Blk w' (w.heap.size) 44 (formC t b k sd)
  bl : Below w.heap.size w w'
section
variable {t b k : Int} {sd : List Int} {w w' w2 : World}
theorem Fk.below (h : Fk t b k sd w w') (hb : Below w'.heap.size w' w2) : Fk t b k sd w w2 := ⟨h.b0.below hb, h.bl.trans (hb.mono h.bl.size)⟩
theorem Fk.drew (h : Fk t b k sd w w') : Fk t b k sd w w'.drew := h.below ((Below.refl _ _).drew)
theorem Fk.alloc (h : Fk t b k sd w w') (o : Obj) : Fk t b k sd w (w'.alloc o) := h.below ((Below.refl _ _).alloc (Nat.le_refl _) _)
theorem Fk.row (h : Fk t b k sd w w') {g : Nat} (n0 : w.heap.size ≠ g) (hg : w.heap.size ≤ g) (cs : Array Value) : Fk t b k sd w (w'.setRow g cs) := ⟨h.b0.rowFar n0 cs, below_setRow h.bl hg cs⟩
end
theorem form_info {t b k : Int} {sd : List Int} (hs : Ky sd) : (Tryd.prog.info? 44).map (·.size) = some (Value.int .i64 t :: .int .i64 b :: .int .i64 k :: u8s sd).length := by
  rw [List.length_cons, List.length_cons, List.length_cons, u8s_length, hs.len]; kernel_rfl
/-- which signers are looked at -/
def zsml (t b k : Int) : Bool := decide (t ≤ 2) && (decide (b ≤ 2) && decide (k ≤ 3))
theorem zsmall_any (t b k : Int) (sd : List Int) (w : World) : Calls Tryd.prog 25 #[.agg (formC t b k sd)] w fun e w' => e = .returned (.bool (zsml t b k)) ∧ Below w.heap.size w w' := by
  have L0 : Blk (w.alloc (.cells (formC t b k sd) 44)) w.heap.size 44 (formC t b k sd) := Blk.new _ _ _
  have B0 : Hid (Below w.heap.size w (w.alloc (.cells (formC t b k sd) 44))) := (Below.refl _ _).alloc (Nat.le_refl _) _
  have c0 := form_t L0; have c1 := form_b L0; have c2 := form_k L0
  unfold zsml
  clear L0
  by_cases ht : t ≤ 2
  · have d1 : decide (t ≤ 2) = true := decide_eq_true ht
    by_cases hb : b ≤ 2
    · have d2 : decide (b ≤ 2) = true := decide_eq_true hb
      obtain ⟨v, hv⟩ : ∃ v, v = decide (k ≤ 3) := ⟨_, rfl⟩
      rw [d1, d2, ← hv]
      have hv2 := hv.symm
      clear hv
      go_enter Tryd.func25, Tryd.ntmps25
      go_wp2
      go_ret
      exact ⟨by simp_all, B0.out⟩
    · have d2 : decide (b ≤ 2) = false := decide_eq_false hb
      rw [d1, d2]
      go_enter Tryd.func25, Tryd.ntmps25
      go_wp2
      go_ret
      exact ⟨rfl, B0.out⟩
  · have d1 : decide (t ≤ 2) = false := decide_eq_false ht
    rw [d1]
    go_enter Tryd.func25, Tryd.ntmps25
    go_wp2
    go_ret
    exact ⟨rfl, B0.out⟩
set_option maxHeartbeats 8000000 in
theorem hkeys_walk (t b k : Int) (sd : List Int) (hs : Ky sd) (w : World) (ht : Tab w) :
    Calls Tryd.prog 6 #[.agg (formC t b k sd)] w fun e w' => e = .returned (.bool true) ∧ Below w.heap.size w w' := by
  have GT : Hid (Fk t b k sd w (w.alloc (.cells (formC t b k sd) 44))) := ⟨Blk.new w 44 _, (Below.refl _ _).alloc (Nat.le_refl _) _⟩
  have CA := hid (fun w1 (hb : Below w.heap.size w w1) => zawake_any w1 (ht.below hb))
  have CZ := hid (hSize_any t b k); have CZR := hid (uSize_any t b k)
  have CK := hid (uKeys_any t b k)
  have CSL := hid (zsmall_any t b k sd)
  have SDI := hid (hash_info hs.len)
  have FI := hid (form_info (t := t) (b := b) (k := k) hs)
  have HNO : Hid (hkeys t b k = 0 → ∀ w1, Calls Tryd.prog 26 #[.int .i64 t, .int .i64 b, .int .i64 k, .agg (u8s sd).toArray] w1 fun e w' => e = .returned (.tuple #[.pointer none, .int .i64 1]) ∧ Below w1.heap.size w1 w') := fun hn w1 => hNew_no t b k sd w1 hn
  have HYES : Hid (hkeys t b k ≠ 0 → ∀ w1, Below w.heap.size w w1 → Calls Tryd.prog 26 #[.int .i64 t, .int .i64 b, .int .i64 k, .agg (u8s sd).toArray] w1 fun e w' => ∃ s, e = .returned (.tuple #[.pointer (some ⟨s, 0, none⟩), .int .i64 0]) ∧ w1.heap.size ≤ s ∧ SignAt w' s t b k sd ∧ Below w1.heap.size w1 w') := fun hn w1 hb => hNew_kd t b k sd w1 (hkeys_kd hn).1 (hkeys_kd hn).2.1 (hkeys_kd hn).2.2 hs (ht.below hb)
  have HKEY : Hid (hkeys t b k ≠ 0 → ∀ s w1, SignAt w1 s t b k sd → Calls Tryd.prog 27 #[.pointer (some ⟨s, 0, none⟩)] w1 fun e w' => e = .returned (.int .i64 (hkeys t b k : Nat)) ∧ w1 = w') := fun hn s w1 h => hKeys_at s t b k sd w1 (hkeys_kd hn).2.1 (hkeys_kd hn).2.2 hs h
  have HPUB : Hid (hkeys t b k ≠ 0 → ∀ s w1, SignAt w1 s t b k sd → Calls Tryd.prog 29 #[.pointer (some ⟨s, 0, none⟩)] w1 fun e w' => ∃ g, e = .returned (.slice (some ⟨g, 0, none⟩) 60 60) ∧ w1.heap.size ≤ g ∧ Blk w' g 5 (u8s (hpb t k sd)).toArray ∧ Below w1.heap.size w1 w') := fun hn s w1 h => hPublic_at s t b k sd w1 (hkeys_kd hn).1 (hkeys_kd hn).2.1 (hkeys_kd hn).2.2 hs h
  have HPBR : Hid (hkeys t b k ≠ 0 → ∀ w1, Calls Tryd.prog 30 #[.int .i64 t, .int .i64 k, .agg (u8s sd).toArray] w1 fun e w' => ∃ A c, e = .returned (.slice A 60 c) ∧ Rp w' none A (hpb t k sd) ∧ Below w1.heap.size w1 w') := fun hn w1 => uPublic_any t k sd w1 (hkeys_kd hn).1 (hkeys_kd hn).2.2 hs
  have HPL : Hid ((hpb t k sd).length = 60) := hpb_length ..
  generalize hpb t k sd = PB at HPUB HPBR HPL
  obtain ⟨K, hK⟩ : ∃ K, K = hkeys t b k := ⟨_, rfl⟩
  rw [← hK] at CK HNO HYES HKEY HPUB HPBR
  generalize hsize t b k = ts at CZ CZR
  clear hs ht hK
  go_enter Tryd.func6, Tryd.ntmps6
  go_wp2_with fail
  generalize w.alloc (.cells (formC t b k sd) 44) = w0 at GT ⊢
  refine wp_region_held (S := fun w' => Hid (Fk t b k sd w w')) (by kernel_rfl) ?_
  change wpAnyH _ _ _ _ _ _ _ _ w0.drew
  have Gx0 : Hid (Fk t b k sd w w0.drew) := GT.out.drew
  have HBx0 : Below w0.heap.size w0 w0.drew := (Below.refl _ _).drew
  clear HBx0
  generalize w0.drew = x0 at Gx0  ⊢
  refine wpAnyH_ready (rs := [0]) (by kernel_rfl) (by simp) ?_
  refine (AllReadyH.cons (o := { dst := some 6, op := _, type := _, pos := _, after := _, guard := _ }) rfl (fun Qc hQc => ?_) AllReadyH.nil)
  go_simp
  go_at_call 21; refine (CA.out _ Gx0.out.bl).mono ?_; rintro e x1 ⟨rfl, hbx1⟩
  have Gx1 := hid (Gx0.out.below hbx1)
  clear hbx1
  go_wp2_with fail
  refine hQc.out _ _ Gx1 (fun hHeld => ?_)
  clear hQc Qc Gx0
  try simp only [Act.put, List.setIfInBounds_toArray, List.set_cons_zero, List.set_cons_succ]
  refine wpAnyH_take (i := 1) (oi := { dst := some 7, op := _, type := _, pos := _, after := _, guard := _ }) (v := ?_) rfl (by kernel_rfl) (by kernel_rfl) (by kernel_rfl) (fun _ _ _ h => h) (Or.inl ⟨by kernel_rfl, ?_⟩) (by assumption) ?_
  rotate_left
  · (intro w hSw; go_simp; try with_reducible rfl)
  try simp only [Act.put, List.setIfInBounds_toArray, List.set_cons_zero, List.set_cons_succ]
  refine wpAnyH_take (i := 2) (oi := { dst := some 8, op := _, type := _, pos := _, after := _, guard := _ }) (v := ?_) rfl (by kernel_rfl) (by kernel_rfl) (by kernel_rfl) (fun _ _ _ h => h) (Or.inl ⟨by kernel_rfl, ?_⟩) (by assumption) ?_
  rotate_left
  · (intro w hSw; go_simp; try with_reducible rfl)
  try simp only [Act.put, List.setIfInBounds_toArray, List.set_cons_zero, List.set_cons_succ]
  refine wpAnyH_take (i := 3) (oi := { dst := some 9, op := _, type := _, pos := _, after := _, guard := _ }) (v := ?_) rfl (by kernel_rfl) (by kernel_rfl) (by kernel_rfl) (fun _ _ _ h => h) (Or.inl ⟨by kernel_rfl, ?_⟩) (by assumption) ?_
  rotate_left
  · (intro w hSw; go_simp; try with_reducible rfl)
  try simp only [Act.put, List.setIfInBounds_toArray, List.set_cons_zero, List.set_cons_succ]
  refine wpAnyH_take (i := 4) (oi := { dst := some 10, op := _, type := _, pos := _, after := _, guard := _ }) (v := ?_) rfl (by kernel_rfl) (by kernel_rfl) (by kernel_rfl) (fun _ _ _ h => h) (Or.inl ⟨by kernel_rfl, ?_⟩) (by assumption) ?_
  rotate_left
  · (intro w hSw; have c0 := form_t (Hid.out hSw).b0; go_simp; try with_reducible rfl)
  try simp only [Act.put, List.setIfInBounds_toArray, List.set_cons_zero, List.set_cons_succ]
  refine wpAnyH_take (i := 5) (oi := { dst := some 11, op := _, type := _, pos := _, after := _, guard := _ }) (v := ?_) rfl (by kernel_rfl) (by kernel_rfl) (by kernel_rfl) (fun _ _ _ h => h) (Or.inl ⟨by kernel_rfl, ?_⟩) (by assumption) ?_
  rotate_left
  · (intro w hSw; go_simp; try with_reducible rfl)
  try simp only [Act.put, List.setIfInBounds_toArray, List.set_cons_zero, List.set_cons_succ]
  refine wpAnyH_take (i := 6) (oi := { dst := some 12, op := _, type := _, pos := _, after := _, guard := _ }) (v := ?_) rfl (by kernel_rfl) (by kernel_rfl) (by kernel_rfl) (fun _ _ _ h => h) (Or.inl ⟨by kernel_rfl, ?_⟩) (by assumption) ?_
  rotate_left
  · (intro w hSw; have c1 := form_b (Hid.out hSw).b0; go_simp; try with_reducible rfl)
  try simp only [Act.put, List.setIfInBounds_toArray, List.set_cons_zero, List.set_cons_succ]
  refine wpAnyH_take (i := 7) (oi := { dst := some 13, op := _, type := _, pos := _, after := _, guard := _ }) (v := ?_) rfl (by kernel_rfl) (by kernel_rfl) (by kernel_rfl) (fun _ _ _ h => h) (Or.inl ⟨by kernel_rfl, ?_⟩) (by assumption) ?_
  rotate_left
  · (intro w hSw; go_simp; try with_reducible rfl)
  try simp only [Act.put, List.setIfInBounds_toArray, List.set_cons_zero, List.set_cons_succ]
  refine wpAnyH_take (i := 8) (oi := { dst := some 14, op := _, type := _, pos := _, after := _, guard := _ }) (v := ?_) rfl (by kernel_rfl) (by kernel_rfl) (by kernel_rfl) (fun _ _ _ h => h) (Or.inl ⟨by kernel_rfl, ?_⟩) (by assumption) ?_
  rotate_left
  · (intro w hSw; have c2 := form_k (Hid.out hSw).b0; go_simp; try with_reducible rfl)
  try simp only [Act.put, List.setIfInBounds_toArray, List.set_cons_zero, List.set_cons_succ]
  refine wpAnyH_take (i := 10) (oi := { dst := some 16, op := _, type := _, pos := _, after := _, guard := _ }) (v := ?_) rfl (by kernel_rfl) (by kernel_rfl) (by kernel_rfl) (fun _ _ _ h => h) (Or.inl ⟨by kernel_rfl, ?_⟩) (by assumption) ?_
  rotate_left
  · (intro w hSw; go_simp; try with_reducible rfl)
  try simp only [Act.put, List.setIfInBounds_toArray, List.set_cons_zero, List.set_cons_succ]
  refine wpAnyH_take (i := 11) (oi := { dst := some 17, op := _, type := _, pos := _, after := _, guard := _ }) (v := ?_) rfl (by kernel_rfl) (by kernel_rfl) (by kernel_rfl) (fun _ _ _ h => h) (Or.inl ⟨by kernel_rfl, ?_⟩) (by assumption) ?_
  rotate_left
  · (intro w hSw; have c0 := form_t (Hid.out hSw).b0; go_simp; try with_reducible rfl)
  try simp only [Act.put, List.setIfInBounds_toArray, List.set_cons_zero, List.set_cons_succ]
  refine wpAnyH_take (i := 12) (oi := { dst := some 18, op := _, type := _, pos := _, after := _, guard := _ }) (v := ?_) rfl (by kernel_rfl) (by kernel_rfl) (by kernel_rfl) (fun _ _ _ h => h) (Or.inl ⟨by kernel_rfl, ?_⟩) (by assumption) ?_
  rotate_left
  · (intro w hSw; go_simp; try with_reducible rfl)
  try simp only [Act.put, List.setIfInBounds_toArray, List.set_cons_zero, List.set_cons_succ]
  refine wpAnyH_take (i := 13) (oi := { dst := some 19, op := _, type := _, pos := _, after := _, guard := _ }) (v := ?_) rfl (by kernel_rfl) (by kernel_rfl) (by kernel_rfl) (fun _ _ _ h => h) (Or.inl ⟨by kernel_rfl, ?_⟩) (by assumption) ?_
  rotate_left
  · (intro w hSw; have c1 := form_b (Hid.out hSw).b0; go_simp; try with_reducible rfl)
  try simp only [Act.put, List.setIfInBounds_toArray, List.set_cons_zero, List.set_cons_succ]
  refine wpAnyH_take (i := 14) (oi := { dst := some 20, op := _, type := _, pos := _, after := _, guard := _ }) (v := ?_) rfl (by kernel_rfl) (by kernel_rfl) (by kernel_rfl) (fun _ _ _ h => h) (Or.inl ⟨by kernel_rfl, ?_⟩) (by assumption) ?_
  rotate_left
  · (intro w hSw; go_simp; try with_reducible rfl)
  try simp only [Act.put, List.setIfInBounds_toArray, List.set_cons_zero, List.set_cons_succ]
  refine wpAnyH_take (i := 15) (oi := { dst := some 21, op := _, type := _, pos := _, after := _, guard := _ }) (v := ?_) rfl (by kernel_rfl) (by kernel_rfl) (by kernel_rfl) (fun _ _ _ h => h) (Or.inl ⟨by kernel_rfl, ?_⟩) (by assumption) ?_
  rotate_left
  · (intro w hSw; have c2 := form_k (Hid.out hSw).b0; go_simp; try with_reducible rfl)
  try simp only [Act.put, List.setIfInBounds_toArray, List.set_cons_zero, List.set_cons_succ]
  refine wpAnyH_ready (rs := [9]) (by kernel_rfl) (by simp) ?_
  refine (AllReadyH.cons (o := { dst := some 15, op := _, type := _, pos := _, after := _, guard := _ }) rfl (fun Qc hQc => ?_) AllReadyH.nil)
  go_simp
  go_at_call 22; refine (CZ.out _).mono ?_; rintro e x2 ⟨rfl, hbx2⟩
  have Gx2 := hid (Gx1.out.below hbx2)
  clear hbx2
  go_wp2_with fail
  refine hQc.out _ _ Gx2 (fun hHeld => ?_)
  clear hQc Qc Gx1
  try simp only [Act.put, List.setIfInBounds_toArray, List.set_cons_zero, List.set_cons_succ]
  refine wpAnyH_ready (rs := [16]) (by kernel_rfl) (by simp) ?_
  refine (AllReadyH.cons (o := { dst := some 22, op := _, type := _, pos := _, after := _, guard := _ }) rfl (fun Qc hQc => ?_) AllReadyH.nil)
  go_simp
  go_at_call 23; refine (CZR.out _).mono ?_; rintro e wq ⟨rfl, rfl⟩
  go_wp2_with fail
  refine hQc.out _ _ Gx2 (fun hHeld => ?_)
  clear hQc Qc
  try simp only [Act.put, List.setIfInBounds_toArray, List.set_cons_zero, List.set_cons_succ]
  refine wpAnyH_take (i := 17) (oi := { dst := some 23, op := _, type := _, pos := _, after := _, guard := _ }) (v := ?_) rfl (by kernel_rfl) (by kernel_rfl) (by kernel_rfl) (fun _ _ _ h => h) (Or.inl ⟨by kernel_rfl, ?_⟩) (by assumption) ?_
  rotate_left
  · (intro w hSw; go_simp; try with_reducible rfl)
  try simp only [Act.put, List.setIfInBounds_toArray, List.set_cons_zero, List.set_cons_succ]
  refine wpAnyH_take (i := 18) (oi := { dst := some 24, op := _, type := _, pos := _, after := _, guard := _ }) (v := ?_) rfl (by kernel_rfl) (by kernel_rfl) (by kernel_rfl) (fun _ _ _ h => h) (Or.inl ⟨by kernel_rfl, ?_⟩) (by assumption) ?_
  rotate_left
  · (intro w hSw; go_simp; try with_reducible rfl)
  try simp only [Act.put, List.setIfInBounds_toArray, List.set_cons_zero, List.set_cons_succ]
  refine wpAnyH_done (by kernel_rfl) ?_ _
  try simp only [Act.put, List.setIfInBounds_toArray, List.set_cons_zero, List.set_cons_succ]
  have G1 := hid Gx2.out
  generalize x2 = w1 at G1 ⊢
  clear Gx2 GT CA CZ CZR
  have c0 := form_t G1.out.b0; have c1 := form_b G1.out.b0; have c2 := form_k G1.out.b0
  go_upto_region 4 with (go_at_call 24; refine (CK.out _).mono ?_; rintro e wq ⟨rfl, rfl⟩)
  by_cases hK0 : K = 0
  · have CN := hid (HNO.out hK0)
    subst hK0
    clear HNO HYES HKEY HPUB HPBR
    go_wp2_with (first
      | (refine load_at rfl 26 (.tmp 46) rfl w.heap.size 3 rfl (u8s sd) _ (form_sd G1.out.b0) Tryd.underlying26 rfl SDI.out (u8s sd).toArray rfl ?_)
      | (go_at_call 26; refine (CN.out _).mono ?_; rintro e w2 ⟨rfl, hb2⟩; have B2 := hid (G1.out.bl.trans (hb2.mono G1.out.bl.size)); clear hb2))
    go_ret
    exact ⟨rfl, B2.out⟩
  have hKi : (0 : Int) < (K : Int) := by omega
  have hKz : ((K : Int) == 0) = false := by simp; omega
  have hKd : decide ((0 : Int) < (K : Int)) = true := decide_eq_true hKi
  have hKe : ¬ (K : Int) = 0 := by omega
  have hKn : 0 < K := by omega
  have hKd2 : decide (0 < K) = true := decide_eq_true hKn
  rcases hsm : zsml t b k with _ | _
  · rw [hsm] at CSL
    clear HNO HYES HKEY HPUB HPBR hsm
    go_wp2_with (first
      | (refine load_at (by first | rfl | simp [Region.wanted, yielded, *]) 44 (.tmp 1) rfl w.heap.size 0 rfl (Value.int .i64 t :: .int .i64 b :: .int .i64 k :: u8s sd) _ (form_row G1.out.b0) Tryd.underlying44 rfl FI.out (formC t b k sd) rfl ?_)
      | (go_at_call 25; refine (CSL.out _).mono ?_; rintro e w3 ⟨rfl, hb3⟩; have G3 := hid (G1.out.below hb3); have d0 := form_t G3.out.b0; have d1 := form_b G3.out.b0; have d2 := form_k G3.out.b0; clear hb3))
    go_ret
    exact ⟨rfl, G3.out.bl⟩
  rw [hsm] at CSL
  have CN := hid (HYES.out hK0)
  have CKY := hid (HKEY.out hK0)
  have CP := hid (HPUB.out hK0)
  have CR := hid (HPBR.out hK0)
  have CSM : Hid (∀ (A1 B1 : Option Addr) (c1 d1 : Nat) (w1 : World), Rp w1 none A1 PB → Rp w1 none B1 PB → Calls Tryd.prog 28 #[.slice A1 60 c1, .slice B1 60 d1] w1 fun e w' => e = .returned (.bool true) ∧ ∃ q, w' = w1.drewN q) := fun A1 B1 c1 d1 w1 ha hb => by
    have := Same_quiet A1 B1 c1 d1 PB PB w1 ha hb (by rw [HPL.out]; decide) (by rw [HPL.out]; decide)
    rw [decide_eq_true rfl, HPL.out] at this
    exact this
  clear HNO HYES HPUB HPBR hsm HKEY
  go_wp2_with (first
    | (refine load_at (by first | rfl | simp [Region.wanted, yielded, *]) 44 (.tmp 1) rfl w.heap.size 0 rfl (Value.int .i64 t :: .int .i64 b :: .int .i64 k :: u8s sd) _ (form_row G1.out.b0) Tryd.underlying44 rfl FI.out (formC t b k sd) rfl ?_)
    | (go_at_call 25; refine (CSL.out _).mono ?_; rintro e w3 ⟨rfl, hb3⟩; have G3 := hid (G1.out.below hb3); have d0 := form_t G3.out.b0; have d1 := form_b G3.out.b0; have d2 := form_k G3.out.b0; clear hb3)
    | (refine load_at rfl 26 (.tmp 46) rfl w.heap.size 3 rfl (u8s sd) _ (form_sd G3.out.b0) Tryd.underlying26 rfl SDI.out (u8s sd).toArray rfl ?_)
    | (go_at_call 26; refine (CN.out _ G3.out.bl).mono ?_; rintro e w2 ⟨s, rfl, _, ht2, hb2⟩; have G2 := hid (G3.out.below hb2); have T2 := hid ht2; clear ht2 hb2))
  refine wp_region_held (S := fun w' => Hid (Fk t b k sd w w')) (by kernel_rfl) ?_
  change wpAnyH _ _ _ _ _ _ _ _ w2.drew
  have Gx0 : Hid (Fk t b k sd w w2.drew) := G2.out.drew
  have HBx0 : Below w2.heap.size w2 w2.drew := (Below.refl _ _).drew
  have T2 := hid (T2.out.below HBx0)
  clear HBx0
  generalize w2.drew = x0 at Gx0 T2 ⊢
  refine wpAnyH_take (i := 0) (oi := { dst := some 59, op := _, type := _, pos := _, after := _, guard := _ }) (v := ?_) rfl (by kernel_rfl) (by kernel_rfl) (by kernel_rfl) (fun _ _ _ h => h) (Or.inl ⟨by kernel_rfl, ?_⟩) (by assumption) ?_
  rotate_left
  · (intro w hSw; go_simp; try with_reducible rfl)
  try simp only [Act.put, List.setIfInBounds_toArray, List.set_cons_zero, List.set_cons_succ]
  refine wpAnyH_take (i := 1) (oi := { dst := some 60, op := _, type := _, pos := _, after := _, guard := _ }) (v := ?_) rfl (by kernel_rfl) (by kernel_rfl) (by kernel_rfl) (fun _ _ _ h => h) (Or.inl ⟨by kernel_rfl, ?_⟩) (by assumption) ?_
  rotate_left
  · (intro w hSw; go_simp; try with_reducible rfl)
  try simp only [Act.put, List.setIfInBounds_toArray, List.set_cons_zero, List.set_cons_succ]
  refine wpAnyH_take (i := 2) (oi := { dst := some 61, op := _, type := _, pos := _, after := _, guard := _ }) (v := ?_) rfl (by kernel_rfl) (by kernel_rfl) (by kernel_rfl) (fun _ _ _ h => h) (Or.inl ⟨by kernel_rfl, ?_⟩) (by assumption) ?_
  rotate_left
  · (intro w hSw; go_simp; try with_reducible rfl)
  try simp only [Act.put, List.setIfInBounds_toArray, List.set_cons_zero, List.set_cons_succ]
  refine wpAnyH_take (i := 3) (oi := { dst := some 62, op := _, type := _, pos := _, after := _, guard := _ }) (v := ?_) rfl (by kernel_rfl) (by kernel_rfl) (by kernel_rfl) (fun _ _ _ h => h) (Or.inl ⟨by kernel_rfl, ?_⟩) (by assumption) ?_
  rotate_left
  · (intro w hSw; go_simp; try with_reducible rfl)
  try simp only [Act.put, List.setIfInBounds_toArray, List.set_cons_zero, List.set_cons_succ]
  refine wpAnyH_take (i := 5) (oi := { dst := some 64, op := _, type := _, pos := _, after := _, guard := _ }) (v := ?_) rfl (by kernel_rfl) (by kernel_rfl) (by kernel_rfl) (fun _ _ _ h => h) (Or.inl ⟨by kernel_rfl, ?_⟩) (by assumption) ?_
  rotate_left
  · (intro w hSw; go_simp; try with_reducible rfl)
  try simp only [Act.put, List.setIfInBounds_toArray, List.set_cons_zero, List.set_cons_succ]
  refine wpAnyH_ready (rs := [4]) (by kernel_rfl) (by simp) ?_
  refine (AllReadyH.cons (o := { dst := some 63, op := _, type := _, pos := _, after := _, guard := _ }) rfl (fun Qc hQc => ?_) AllReadyH.nil)
  go_simp
  go_at_call 27; refine (CKY.out _ _ T2.out).mono ?_; rintro e wq ⟨rfl, rfl⟩
  go_wp2_with fail
  refine hQc.out _ _ Gx0 (fun hHeld => ?_)
  clear hQc Qc
  try simp only [Act.put, List.setIfInBounds_toArray, List.set_cons_zero, List.set_cons_succ]
  refine wpAnyH_take (i := 6) (oi := { dst := some 65, op := _, type := _, pos := _, after := _, guard := _ }) (v := ?_) rfl (by kernel_rfl) (by kernel_rfl) (by kernel_rfl) (fun _ _ _ h => h) (Or.inl ⟨by kernel_rfl, ?_⟩) (by assumption) ?_
  rotate_left
  · (intro w hSw; go_simp; try with_reducible rfl)
  try simp only [Act.put, List.setIfInBounds_toArray, List.set_cons_zero, List.set_cons_succ]
  refine wpAnyH_take (i := 7) (oi := { dst := some 66, op := _, type := _, pos := _, after := _, guard := _ }) (v := ?_) rfl (by kernel_rfl) (by kernel_rfl) (by kernel_rfl) (fun _ _ _ h => h) (Or.inl ⟨by kernel_rfl, ?_⟩) (by assumption) ?_
  rotate_left
  · (intro w hSw; go_simp; try with_reducible rfl)
  try simp only [Act.put, List.setIfInBounds_toArray, List.set_cons_zero, List.set_cons_succ]
  refine wpAnyH_take (i := 8) (oi := { dst := some 67, op := _, type := _, pos := _, after := _, guard := _ }) (v := ?_) rfl (by kernel_rfl) (by kernel_rfl) (by kernel_rfl) (fun _ _ _ h => h) (Or.inl ⟨by kernel_rfl, ?_⟩) (by assumption) ?_
  rotate_left
  · (intro w hSw; go_simp; try with_reducible rfl)
  try simp only [Act.put, List.setIfInBounds_toArray, List.set_cons_zero, List.set_cons_succ]
  refine wpAnyH_take (i := 9) (oi := { dst := some 68, op := _, type := _, pos := _, after := _, guard := _ }) (v := ?_) rfl (by kernel_rfl) (by kernel_rfl) (by kernel_rfl) (fun _ _ _ h => h) (Or.inl ⟨by kernel_rfl, ?_⟩) (by assumption) ?_
  rotate_left
  · (intro w hSw; go_simp; try with_reducible rfl)
  try simp only [Act.put, List.setIfInBounds_toArray, List.set_cons_zero, List.set_cons_succ]
  refine wpAnyH_take (i := 11) (oi := { dst := some 70, op := _, type := _, pos := _, after := _, guard := _ }) (v := ?_) rfl (by kernel_rfl) (by kernel_rfl) (by kernel_rfl) (fun _ _ _ h => h) (Or.inl ⟨by kernel_rfl, ?_⟩) (by assumption) ?_
  rotate_left
  · (intro w hSw; go_simp; try with_reducible rfl)
  try simp only [Act.put, List.setIfInBounds_toArray, List.set_cons_zero, List.set_cons_succ]
  refine wpAnyH_take (i := 12) (oi := { dst := some 71, op := _, type := _, pos := _, after := _, guard := _ }) (v := ?_) rfl (by kernel_rfl) (by kernel_rfl) (by kernel_rfl) (fun _ _ _ h => h) (Or.inl ⟨by kernel_rfl, ?_⟩) (by assumption) ?_
  rotate_left
  · (intro w hSw; have c0 := form_t (Hid.out hSw).b0; go_simp; try with_reducible rfl)
  try simp only [Act.put, List.setIfInBounds_toArray, List.set_cons_zero, List.set_cons_succ]
  refine wpAnyH_take (i := 13) (oi := { dst := some 72, op := _, type := _, pos := _, after := _, guard := _ }) (v := ?_) rfl (by kernel_rfl) (by kernel_rfl) (by kernel_rfl) (fun _ _ _ h => h) (Or.inl ⟨by kernel_rfl, ?_⟩) (by assumption) ?_
  rotate_left
  · (intro w hSw; go_simp; try with_reducible rfl)
  try simp only [Act.put, List.setIfInBounds_toArray, List.set_cons_zero, List.set_cons_succ]
  refine wpAnyH_take (i := 14) (oi := { dst := some 73, op := _, type := _, pos := _, after := _, guard := _ }) (v := ?_) rfl (by kernel_rfl) (by kernel_rfl) (by kernel_rfl) (fun _ _ _ h => h) (Or.inl ⟨by kernel_rfl, ?_⟩) (by assumption) ?_
  rotate_left
  · (intro w hSw; have c2 := form_k (Hid.out hSw).b0; go_simp; try with_reducible rfl)
  try simp only [Act.put, List.setIfInBounds_toArray, List.set_cons_zero, List.set_cons_succ]
  refine wpAnyH_take (i := 15) (oi := { dst := some 74, op := _, type := _, pos := _, after := _, guard := _ }) (v := ?_) rfl (by kernel_rfl) (by kernel_rfl) (by kernel_rfl) (fun _ _ _ h => h) (Or.inl ⟨by kernel_rfl, ?_⟩) (by assumption) ?_
  rotate_left
  · (intro w hSw; go_simp; try with_reducible rfl)
  try simp only [Act.put, List.setIfInBounds_toArray, List.set_cons_zero, List.set_cons_succ]
  refine wpAnyH_take (i := 16) (oi := { dst := some 75, op := _, type := _, pos := _, after := _, guard := _ }) (v := .agg ((u8s sd).toArray)) rfl (by kernel_rfl) (by kernel_rfl) (by kernel_rfl) (fun _ _ _ h => h) (yieldsIf_load_mid (cs := u8s sd) (by rfl) _ _ rfl _ _ rfl _ (fun w' hSw => (form_sd (Hid.out hSw).b0)) Tryd.underlying26 rfl SDI.out) (by assumption) ?_
  try simp only [Act.put, List.setIfInBounds_toArray, List.set_cons_zero, List.set_cons_succ]
  refine wpAnyH_ready (rs := [10]) (by kernel_rfl) (by simp) ?_
  refine (AllReadyH.cons (o := { dst := some 69, op := _, type := _, pos := _, after := _, guard := _ }) rfl (fun Qc hQc => ?_) AllReadyH.nil)
  go_simp
  go_at_call 29; refine (CP.out _ _ T2.out).mono ?_; rintro e x2 ⟨gp, rfl, _, hkp, hbx2⟩; have RB := hid hkp; clear hkp
  have Gx2 := hid (Gx0.out.below hbx2)
  have T2 := hid (T2.out.below hbx2)
  clear hbx2
  go_wp2_with fail
  refine hQc.out _ _ Gx2 (fun hHeld => ?_)
  clear hQc Qc Gx0
  try simp only [Act.put, List.setIfInBounds_toArray, List.set_cons_zero, List.set_cons_succ]
  refine wpAnyH_ready (rs := [17]) (by kernel_rfl) (by simp) ?_
  refine (AllReadyH.cons (o := { dst := some 76, op := _, type := _, pos := _, after := _, guard := _ }) rfl (fun Qc hQc => ?_) AllReadyH.nil)
  go_simp
  go_at_call 30; refine (CR.out _).mono ?_; rintro e x3 ⟨A5, c5, rfl, hr5, hbx3⟩; have R5 := hid hr5; clear hr5
  have Gx3 := hid (Gx2.out.below hbx3)
  have T2 := hid (T2.out.below hbx3)
  have RB := hid (RB.out.below hbx3)
  clear hbx3
  go_wp2_with fail
  refine hQc.out _ _ Gx3 (fun hHeld => ?_)
  clear hQc Qc Gx2
  try simp only [Act.put, List.setIfInBounds_toArray, List.set_cons_zero, List.set_cons_succ]
  refine wpAnyH_ready (rs := [18]) (by kernel_rfl) (by simp) ?_
  refine (AllReadyH.cons (o := { dst := some 77, op := _, type := _, pos := _, after := _, guard := _ }) rfl (fun Qc hQc => ?_) AllReadyH.nil)
  go_simp
  go_at_call 28; refine (CSM.out _ _ _ _ _ (blk_rp RB.out) R5.out).mono ?_; rintro e x4 ⟨rfl, qd, rfl⟩; have hbx4 : Below x3.heap.size x3 (x3.drewN qd) := below_drewN (Below.refl _ _) qd
  have Gx4 := hid (Gx3.out.below hbx4)
  have T2 := hid (T2.out.below hbx4)
  have RB := hid (RB.out.below hbx4)
  have R5 := hid (R5.out.belowN hbx4)
  clear hbx4
  go_wp2_with fail
  refine hQc.out _ _ Gx4 (fun hHeld => ?_)
  clear hQc Qc Gx3
  try simp only [Act.put, List.setIfInBounds_toArray, List.set_cons_zero, List.set_cons_succ]
  refine wpAnyH_take (i := 19) (oi := { dst := some 78, op := _, type := _, pos := _, after := _, guard := _ }) (v := ?_) rfl (by kernel_rfl) (by kernel_rfl) (by kernel_rfl) (fun _ _ _ h => h) (Or.inl ⟨by kernel_rfl, ?_⟩) (by assumption) ?_
  rotate_left
  · (intro w hSw; go_simp; try with_reducible rfl)
  try simp only [Act.put, List.setIfInBounds_toArray, List.set_cons_zero, List.set_cons_succ]
  refine wpAnyH_take (i := 20) (oi := { dst := some 2, op := _, type := _, pos := _, after := _, guard := _ }) (v := ?_) rfl (by kernel_rfl) (by kernel_rfl) (by kernel_rfl) (fun _ _ _ h => h) (Or.inl ⟨by kernel_rfl, ?_⟩) (by assumption) ?_
  rotate_left
  · (intro w hSw; go_simp; try with_reducible rfl)
  try simp only [Act.put, List.setIfInBounds_toArray, List.set_cons_zero, List.set_cons_succ]
  refine wpAnyH_done (by kernel_rfl) ?_ _
  try simp only [Act.put, List.setIfInBounds_toArray, List.set_cons_zero, List.set_cons_succ]
  have GL : Hid (Below w.heap.size w _) := Gx4.out.bl
  go_wp2_with fail
  go_ret
  exact ⟨rfl, GL.out⟩
end Go.Proofs.YtobceieadjpaaaaDoor
