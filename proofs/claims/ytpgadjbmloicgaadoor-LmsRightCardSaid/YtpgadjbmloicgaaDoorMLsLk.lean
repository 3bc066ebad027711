/-
  What is proved here: all trees have the public key and the number of keys that the chapter says, or there are none: the walk of the statement.
-/
import Derived.Test.YtpgadjbmloicgaaDoorMLsp
import Derived.Test.YtpgadjbmloicgaaDoorMLsr
import Derived.Test.YtpgadjbmloicgaaDoorMHa2
import Derived.Deep.DeepCutAuto
set_option linter.unusedSimpArgs false
set_option linter.unusedVariables false
namespace Go.Proofs.YtpgadjbmloicgaaDoor
open Go.ChangeShapes Go.WideShapes Go.ChangeAt Go.RowKit
set_option linter.unusedVariables false
set_option maxRecDepth 20000

/-- a key that came in lies where it lay -/
structure Lk (k : Int) (id : List Int) (q : Int) (sd : List Int) (w w' : World) : Prop where
  b0 : Blk w' (w.heap.size) 28 (lkeyC k id q sd)
  bl : Below w.heap.size w w'
section
variable {k : Int} {id : List Int} {q : Int} {sd : List Int} {w w' w2 : World}
theorem Lk.below (h : Lk k id q sd w w') (hb : Below w'.heap.size w' w2) : Lk k id q sd w w2 := ⟨h.b0.below hb, h.bl.trans (hb.mono h.bl.size)⟩
theorem Lk.drew (h : Lk k id q sd w w') : Lk k id q sd w w'.drew := h.below ((Below.refl _ _).drew)
theorem Lk.alloc (h : Lk k id q sd w w') (o : Obj) : Lk k id q sd w (w'.alloc o) := h.below ((Below.refl _ _).alloc (Nat.le_refl _) _)
theorem Lk.row (h : Lk k id q sd w w') {g : Nat} (n0 : w.heap.size ≠ g) (hg : w.heap.size ≤ g) (cs : Array Value) : Lk k id q sd w (w'.setRow g cs) := ⟨h.b0.rowFar n0 cs, below_setRow h.bl hg cs⟩
end
set_option maxHeartbeats 8000000 in
theorem keys_walk (h k : Int) (id : List Int) (q : Int) (sd : List Int) (hid0 : id.length = 16 ∧ Bs id) (hq : 0 ≤ q ∧ q < 4294967296) (hs : Ky sd) (w : World) (ht : Tab w) :
    Calls Tryd.prog 5 #[.int .i64 h, .agg (lkeyC k id q sd)] w fun e w' => e = .returned (.bool true) ∧ Below w.heap.size w w' := by
  have hi : Idn id := ⟨hid0.1, hid0.2⟩
  have GT : Hid (Lk k id q sd w (w.alloc (.cells (lkeyC k id q sd) 28))) := ⟨Blk.new w 28 _, (Below.refl _ _).alloc (Nat.le_refl _) _⟩
  have CA := hid (fun w1 (hb : Below w.heap.size w w1) => sawake_any w1 (ht.below hb))
  have CZ := hid (sSize_any h k); have CZR := hid (tSize_any h k)
  have CK := hid (tKeys_any h k)
  have CSL := hid (ssmall_any h k)
  have IDI := hid (id_info hi); have SDI := hid (hash_info hs.len)
  have HII := hid hi
  have HNO : Hid (tkeys h k = 0 → ∀ w1, Calls Tryd.prog 20 #[.int .i64 h, .int .i64 k, .agg (u8s id).toArray, .agg (u8s sd).toArray] w1 fun e w' => e = .returned (.tuple #[.pointer none, .int .i64 1]) ∧ Below w1.heap.size w1 w') := fun hn w1 => sNew_no h k id sd w1 hn
  have HYES : Hid (tkeys h k ≠ 0 → ∀ w1, Below w.heap.size w w1 → Calls Tryd.prog 20 #[.int .i64 h, .int .i64 k, .agg (u8s id).toArray, .agg (u8s sd).toArray] w1 fun e w' => ∃ t, e = .returned (.tuple #[.pointer (some ⟨t, 0, none⟩), .int .i64 0]) ∧ w1.heap.size ≤ t ∧ TreeAt w' t h k id sd ∧ Below w1.heap.size w1 w') := fun hn w1 hb => sNew_kd h k id sd w1 (tkeys_kd hn).1 (tkeys_kd hn).2 hi hs (ht.below hb)
  have HKEY : Hid (∀ t w1, TreeAt w1 t h k id sd → Calls Tryd.prog 21 #[.pointer (some ⟨t, 0, none⟩)] w1 fun e w' => e = .returned (.int .i64 (tkeys h k : Nat)) ∧ w1 = w') := fun t w1 ht => sKeys_at t h k id sd w1 hi hs ht
  have HPUB : Hid (tkeys h k ≠ 0 → ∀ t w1, TreeAt w1 t h k id sd → Calls Tryd.prog 23 #[.pointer (some ⟨t, 0, none⟩)] w1 fun e w' => ∃ g, e = .returned (.slice (some ⟨g, 0, none⟩) 56 56) ∧ w1.heap.size ≤ g ∧ Blk w' g 5 (u8s (pbt h k id sd)).toArray ∧ Below w1.heap.size w1 w') := fun hn t w1 ht => sPublic_at t h k id sd w1 (tkeys_kd hn).1 (tkeys_kd hn).2 hi hs ht
  have HPBR : Hid (tkeys h k ≠ 0 → ∀ w1, Calls Tryd.prog 24 #[.int .i64 h, .int .i64 k, .agg (u8s id).toArray, .agg (u8s sd).toArray] w1 fun e w' => ∃ A c, e = .returned (.slice A 56 c) ∧ Rp w' none A (pbt h k id sd) ∧ Below w1.heap.size w1 w') := fun hn w1 => tPublic_any h k id sd w1 (tkeys_kd hn).1 (tkeys_kd hn).2 hi hs
  have HPL : Hid ((pbt h k id sd).length = 56) := pbt_length h k hi.len sd
  have hKle := tkeys_le h k
  generalize pbt h k id sd = PB at HPUB HPBR HPL
  obtain ⟨K, hK⟩ : ∃ K, K = tkeys h k := ⟨_, rfl⟩
  rw [← hK] at CK HNO HYES HKEY HPUB HPBR hKle
  generalize tsize h k = ts at CZ CZR
  clear hi hid0 hq hs ht hK
  go_enter Tryd.func5, Tryd.ntmps5
  go_wp2_with fail
  generalize w.alloc (.cells (lkeyC k id q sd) 28) = w0 at GT ⊢
  refine wp_region_held (S := fun w' => Hid (Lk k id q sd w w')) (by kernel_rfl) ?_
  change wpAnyH _ _ _ _ _ _ _ _ w0.drew
  have Gx0 : Hid (Lk k id q sd w w0.drew) := GT.out.drew
  have HBx0 : Below w0.heap.size w0 w0.drew := (Below.refl _ _).drew
  clear HBx0
  generalize w0.drew = x0 at Gx0  ⊢
  refine wpAnyH_ready (rs := [0]) (by kernel_rfl) (by simp) ?_
  refine (AllReadyH.cons (o := { dst := some 8, op := _, type := _, pos := _, after := _, guard := _ }) rfl (fun Qc hQc => ?_) AllReadyH.nil)
  go_simp
  go_at_call 15; refine (CA.out _ Gx0.out.bl).mono ?_; rintro e x1 ⟨rfl, hbx1⟩
  have Gx1 := hid (Gx0.out.below hbx1)
  clear hbx1
  go_wp2_with fail
  refine hQc.out _ _ Gx1 (fun hHeld => ?_)
  clear hQc Qc Gx0
  try simp only [Act.put, List.setIfInBounds_toArray, List.set_cons_zero, List.set_cons_succ]
  refine wpAnyH_take (i := 1) (oi := { dst := some 9, op := _, type := _, pos := _, after := _, guard := _ }) (v := ?_) rfl (by kernel_rfl) (by kernel_rfl) (by kernel_rfl) (fun _ _ _ h => h) (Or.inl ⟨by kernel_rfl, ?_⟩) (by assumption) ?_
  rotate_left
  · (intro w hSw; go_simp; try with_reducible rfl)
  try simp only [Act.put, List.setIfInBounds_toArray, List.set_cons_zero, List.set_cons_succ]
  refine wpAnyH_take (i := 2) (oi := { dst := some 10, op := _, type := _, pos := _, after := _, guard := _ }) (v := ?_) rfl (by kernel_rfl) (by kernel_rfl) (by kernel_rfl) (fun _ _ _ h => h) (Or.inl ⟨by kernel_rfl, ?_⟩) (by assumption) ?_
  rotate_left
  · (intro w hSw; go_simp; try with_reducible rfl)
  try simp only [Act.put, List.setIfInBounds_toArray, List.set_cons_zero, List.set_cons_succ]
  refine wpAnyH_take (i := 3) (oi := { dst := some 11, op := _, type := _, pos := _, after := _, guard := _ }) (v := ?_) rfl (by kernel_rfl) (by kernel_rfl) (by kernel_rfl) (fun _ _ _ h => h) (Or.inl ⟨by kernel_rfl, ?_⟩) (by assumption) ?_
  rotate_left
  · (intro w hSw; go_simp; try with_reducible rfl)
  try simp only [Act.put, List.setIfInBounds_toArray, List.set_cons_zero, List.set_cons_succ]
  refine wpAnyH_take (i := 4) (oi := { dst := some 12, op := _, type := _, pos := _, after := _, guard := _ }) (v := ?_) rfl (by kernel_rfl) (by kernel_rfl) (by kernel_rfl) (fun _ _ _ h => h) (Or.inl ⟨by kernel_rfl, ?_⟩) (by assumption) ?_
  rotate_left
  · (intro w hSw; go_simp; try with_reducible rfl)
  try simp only [Act.put, List.setIfInBounds_toArray, List.set_cons_zero, List.set_cons_succ]
  refine wpAnyH_take (i := 5) (oi := { dst := some 13, op := _, type := _, pos := _, after := _, guard := _ }) (v := ?_) rfl (by kernel_rfl) (by kernel_rfl) (by kernel_rfl) (fun _ _ _ h => h) (Or.inl ⟨by kernel_rfl, ?_⟩) (by assumption) ?_
  rotate_left
  · (intro w hSw; have c0 := lkey_0 (Hid.out hSw).b0; go_simp; try with_reducible rfl)
  try simp only [Act.put, List.setIfInBounds_toArray, List.set_cons_zero, List.set_cons_succ]
  refine wpAnyH_take (i := 7) (oi := { dst := some 15, op := _, type := _, pos := _, after := _, guard := _ }) (v := ?_) rfl (by kernel_rfl) (by kernel_rfl) (by kernel_rfl) (fun _ _ _ h => h) (Or.inl ⟨by kernel_rfl, ?_⟩) (by assumption) ?_
  rotate_left
  · (intro w hSw; go_simp; try with_reducible rfl)
  try simp only [Act.put, List.setIfInBounds_toArray, List.set_cons_zero, List.set_cons_succ]
  refine wpAnyH_take (i := 8) (oi := { dst := some 16, op := _, type := _, pos := _, after := _, guard := _ }) (v := ?_) rfl (by kernel_rfl) (by kernel_rfl) (by kernel_rfl) (fun _ _ _ h => h) (Or.inl ⟨by kernel_rfl, ?_⟩) (by assumption) ?_
  rotate_left
  · (intro w hSw; go_simp; try with_reducible rfl)
  try simp only [Act.put, List.setIfInBounds_toArray, List.set_cons_zero, List.set_cons_succ]
  refine wpAnyH_take (i := 9) (oi := { dst := some 17, op := _, type := _, pos := _, after := _, guard := _ }) (v := ?_) rfl (by kernel_rfl) (by kernel_rfl) (by kernel_rfl) (fun _ _ _ h => h) (Or.inl ⟨by kernel_rfl, ?_⟩) (by assumption) ?_
  rotate_left
  · (intro w hSw; have c0 := lkey_0 (Hid.out hSw).b0; go_simp; try with_reducible rfl)
  try simp only [Act.put, List.setIfInBounds_toArray, List.set_cons_zero, List.set_cons_succ]
  refine wpAnyH_ready (rs := [6]) (by kernel_rfl) (by simp) ?_
  refine (AllReadyH.cons (o := { dst := some 14, op := _, type := _, pos := _, after := _, guard := _ }) rfl (fun Qc hQc => ?_) AllReadyH.nil)
  go_simp
  go_at_call 16; refine (CZ.out _).mono ?_; rintro e x2 ⟨rfl, hbx2⟩
  have Gx2 := hid (Gx1.out.below hbx2)
  clear hbx2
  go_wp2_with fail
  refine hQc.out _ _ Gx2 (fun hHeld => ?_)
  clear hQc Qc Gx1
  try simp only [Act.put, List.setIfInBounds_toArray, List.set_cons_zero, List.set_cons_succ]
  refine wpAnyH_ready (rs := [10]) (by kernel_rfl) (by simp) ?_
  refine (AllReadyH.cons (o := { dst := some 18, op := _, type := _, pos := _, after := _, guard := _ }) rfl (fun Qc hQc => ?_) AllReadyH.nil)
  go_simp
  go_at_call 17; refine (CZR.out _).mono ?_; rintro e wq ⟨rfl, rfl⟩
  go_wp2_with fail
  refine hQc.out _ _ Gx2 (fun hHeld => ?_)
  clear hQc Qc
  try simp only [Act.put, List.setIfInBounds_toArray, List.set_cons_zero, List.set_cons_succ]
  refine wpAnyH_take (i := 11) (oi := { dst := some 19, op := _, type := _, pos := _, after := _, guard := _ }) (v := ?_) rfl (by kernel_rfl) (by kernel_rfl) (by kernel_rfl) (fun _ _ _ h => h) (Or.inl ⟨by kernel_rfl, ?_⟩) (by assumption) ?_
  rotate_left
  · (intro w hSw; go_simp; try with_reducible rfl)
  try simp only [Act.put, List.setIfInBounds_toArray, List.set_cons_zero, List.set_cons_succ]
  refine wpAnyH_take (i := 12) (oi := { dst := some 20, op := _, type := _, pos := _, after := _, guard := _ }) (v := ?_) rfl (by kernel_rfl) (by kernel_rfl) (by kernel_rfl) (fun _ _ _ h => h) (Or.inl ⟨by kernel_rfl, ?_⟩) (by assumption) ?_
  rotate_left
  · (intro w hSw; go_simp; try with_reducible rfl)
  try simp only [Act.put, List.setIfInBounds_toArray, List.set_cons_zero, List.set_cons_succ]
  refine wpAnyH_done (by kernel_rfl) ?_ _
  try simp only [Act.put, List.setIfInBounds_toArray, List.set_cons_zero, List.set_cons_succ]
  have G1 := hid Gx2.out
  generalize x2 = w1 at G1 ⊢
  clear Gx2 GT CA CZ CZR
  have c0 := lkey_0 G1.out.b0
  go_upto_region 4 with (go_at_call 18; refine (CK.out _).mono ?_; rintro e wq ⟨rfl, rfl⟩)
  by_cases hK0 : K = 0
  · have CN := hid (HNO.out hK0)
    subst hK0
    clear HNO HYES HKEY HPUB HPBR
    go_wp2_with (first
      | (refine load_at rfl 23 (.tmp 38) rfl w.heap.size 1 rfl (u8s id) _ (lkey_id G1.out.b0 HII.out) Tryd.underlying23 rfl IDI.out (u8s id).toArray rfl ?_)
      | (refine load_at rfl 26 (.tmp 40) rfl w.heap.size 18 rfl (u8s sd) _ (lkey_sd G1.out.b0 HII.out) Tryd.underlying26 rfl SDI.out (u8s sd).toArray rfl ?_)
      | (go_at_call 20; refine (CN.out _).mono ?_; rintro e w2 ⟨rfl, hb2⟩; have B2 := hid (G1.out.bl.trans (hb2.mono G1.out.bl.size)); clear hb2))
    go_ret
    exact ⟨rfl, B2.out⟩
  have hKi : (0 : Int) < (K : Int) := by omega
  have hKz : ((K : Int) == 0) = false := by simp; omega
  have hKd : decide ((0 : Int) < (K : Int)) = true := decide_eq_true hKi
  have hKe : ¬ (K : Int) = 0 := by omega
  rcases hsm : sml h k with _ | _
  · rw [hsm] at CSL
    clear HNO HYES HKEY HPUB HPBR hsm
    go_wp2_with (go_at_call 19; refine (CSL.out _).mono ?_; rintro e wq ⟨rfl, rfl⟩)
    go_ret
    exact ⟨rfl, G1.out.bl⟩
  rw [hsm] at CSL
  have CN := hid (HYES.out hK0)
  have CP := hid (HPUB.out hK0)
  have CR := hid (HPBR.out hK0)
  have CSM : Hid (∀ (A1 B1 : Option Addr) (c1 d1 : Nat) (w1 : World), Rp w1 none A1 PB → Rp w1 none B1 PB → Calls Tryd.prog 22 #[.slice A1 56 c1, .slice B1 56 d1] w1 fun e w' => e = .returned (.bool true) ∧ ∃ q, w' = w1.drewN q) := fun A1 B1 c1 d1 w1 ha hb => by
    have := Same_quiet A1 B1 c1 d1 PB PB w1 ha hb (by rw [HPL.out]; decide) (by rw [HPL.out]; decide)
    rw [decide_eq_true rfl, HPL.out] at this
    exact this
  clear HNO HYES HPUB HPBR hsm
  go_wp2_with (first
    | (go_at_call 19; refine (CSL.out _).mono ?_; rintro e wq ⟨rfl, rfl⟩)
    | (refine load_at rfl 23 (.tmp 38) rfl w.heap.size 1 rfl (u8s id) _ (lkey_id G1.out.b0 HII.out) Tryd.underlying23 rfl IDI.out (u8s id).toArray rfl ?_)
    | (refine load_at rfl 26 (.tmp 40) rfl w.heap.size 18 rfl (u8s sd) _ (lkey_sd G1.out.b0 HII.out) Tryd.underlying26 rfl SDI.out (u8s sd).toArray rfl ?_)
    | (go_at_call 20; refine (CN.out _ G1.out.bl).mono ?_; rintro e w2 ⟨t, rfl, _, ht2, hb2⟩; have G2 := hid (G1.out.below hb2); have T2 := hid ht2; clear ht2 hb2))
  refine wp_region_held (S := fun w' => Hid (Lk k id q sd w w')) (by kernel_rfl) ?_
  change wpAnyH _ _ _ _ _ _ _ _ w2.drew
  have Gx0 : Hid (Lk k id q sd w w2.drew) := G2.out.drew
  have HBx0 : Below w2.heap.size w2 w2.drew := (Below.refl _ _).drew
  have T2 := hid (T2.out.below HBx0)
  clear HBx0
  generalize w2.drew = x0 at Gx0 T2 ⊢
  refine wpAnyH_take (i := 0) (oi := { dst := some 53, op := _, type := _, pos := _, after := _, guard := _ }) (v := ?_) rfl (by kernel_rfl) (by kernel_rfl) (by kernel_rfl) (fun _ _ _ h => h) (Or.inl ⟨by kernel_rfl, ?_⟩) (by assumption) ?_
  rotate_left
  · (intro w hSw; go_simp; try with_reducible rfl)
  try simp only [Act.put, List.setIfInBounds_toArray, List.set_cons_zero, List.set_cons_succ]
  refine wpAnyH_take (i := 1) (oi := { dst := some 54, op := _, type := _, pos := _, after := _, guard := _ }) (v := ?_) rfl (by kernel_rfl) (by kernel_rfl) (by kernel_rfl) (fun _ _ _ h => h) (Or.inl ⟨by kernel_rfl, ?_⟩) (by assumption) ?_
  rotate_left
  · (intro w hSw; go_simp; try with_reducible rfl)
  try simp only [Act.put, List.setIfInBounds_toArray, List.set_cons_zero, List.set_cons_succ]
  refine wpAnyH_take (i := 2) (oi := { dst := some 55, op := _, type := _, pos := _, after := _, guard := _ }) (v := ?_) rfl (by kernel_rfl) (by kernel_rfl) (by kernel_rfl) (fun _ _ _ h => h) (Or.inl ⟨by kernel_rfl, ?_⟩) (by assumption) ?_
  rotate_left
  · (intro w hSw; go_simp; try with_reducible rfl)
  try simp only [Act.put, List.setIfInBounds_toArray, List.set_cons_zero, List.set_cons_succ]
  refine wpAnyH_take (i := 3) (oi := { dst := some 56, op := _, type := _, pos := _, after := _, guard := _ }) (v := ?_) rfl (by kernel_rfl) (by kernel_rfl) (by kernel_rfl) (fun _ _ _ h => h) (Or.inl ⟨by kernel_rfl, ?_⟩) (by assumption) ?_
  rotate_left
  · (intro w hSw; go_simp; try with_reducible rfl)
  try simp only [Act.put, List.setIfInBounds_toArray, List.set_cons_zero, List.set_cons_succ]
  refine wpAnyH_take (i := 5) (oi := { dst := some 58, op := _, type := _, pos := _, after := _, guard := _ }) (v := ?_) rfl (by kernel_rfl) (by kernel_rfl) (by kernel_rfl) (fun _ _ _ h => h) (Or.inl ⟨by kernel_rfl, ?_⟩) (by assumption) ?_
  rotate_left
  · (intro w hSw; go_simp; try with_reducible rfl)
  try simp only [Act.put, List.setIfInBounds_toArray, List.set_cons_zero, List.set_cons_succ]
  refine wpAnyH_ready (rs := [4]) (by kernel_rfl) (by simp) ?_
  refine (AllReadyH.cons (o := { dst := some 57, op := _, type := _, pos := _, after := _, guard := _ }) rfl (fun Qc hQc => ?_) AllReadyH.nil)
  go_simp
  go_at_call 21; refine (HKEY.out _ _ T2.out).mono ?_; rintro e wq ⟨rfl, rfl⟩
  go_wp2_with fail
  refine hQc.out _ _ Gx0 (fun hHeld => ?_)
  clear hQc Qc
  try simp only [Act.put, List.setIfInBounds_toArray, List.set_cons_zero, List.set_cons_succ]
  refine wpAnyH_take (i := 6) (oi := { dst := some 59, op := _, type := _, pos := _, after := _, guard := _ }) (v := ?_) rfl (by kernel_rfl) (by kernel_rfl) (by kernel_rfl) (fun _ _ _ h => h) (Or.inl ⟨by kernel_rfl, ?_⟩) (by assumption) ?_
  rotate_left
  · (intro w hSw; go_simp; try with_reducible rfl)
  try simp only [Act.put, List.setIfInBounds_toArray, List.set_cons_zero, List.set_cons_succ]
  refine wpAnyH_take (i := 7) (oi := { dst := some 60, op := _, type := _, pos := _, after := _, guard := _ }) (v := ?_) rfl (by kernel_rfl) (by kernel_rfl) (by kernel_rfl) (fun _ _ _ h => h) (Or.inl ⟨by kernel_rfl, ?_⟩) (by assumption) ?_
  rotate_left
  · (intro w hSw; go_simp; try with_reducible rfl)
  try simp only [Act.put, List.setIfInBounds_toArray, List.set_cons_zero, List.set_cons_succ]
  refine wpAnyH_take (i := 8) (oi := { dst := some 61, op := _, type := _, pos := _, after := _, guard := _ }) (v := ?_) rfl (by kernel_rfl) (by kernel_rfl) (by kernel_rfl) (fun _ _ _ h => h) (Or.inl ⟨by kernel_rfl, ?_⟩) (by assumption) ?_
  rotate_left
  · (intro w hSw; go_simp; try with_reducible rfl)
  try simp only [Act.put, List.setIfInBounds_toArray, List.set_cons_zero, List.set_cons_succ]
  refine wpAnyH_take (i := 9) (oi := { dst := some 62, op := _, type := _, pos := _, after := _, guard := _ }) (v := ?_) rfl (by kernel_rfl) (by kernel_rfl) (by kernel_rfl) (fun _ _ _ h => h) (Or.inl ⟨by kernel_rfl, ?_⟩) (by assumption) ?_
  rotate_left
  · (intro w hSw; go_simp; try with_reducible rfl)
  try simp only [Act.put, List.setIfInBounds_toArray, List.set_cons_zero, List.set_cons_succ]
  refine wpAnyH_take (i := 11) (oi := { dst := some 64, op := _, type := _, pos := _, after := _, guard := _ }) (v := ?_) rfl (by kernel_rfl) (by kernel_rfl) (by kernel_rfl) (fun _ _ _ h => h) (Or.inl ⟨by kernel_rfl, ?_⟩) (by assumption) ?_
  rotate_left
  · (intro w hSw; go_simp; try with_reducible rfl)
  try simp only [Act.put, List.setIfInBounds_toArray, List.set_cons_zero, List.set_cons_succ]
  refine wpAnyH_take (i := 12) (oi := { dst := some 65, op := _, type := _, pos := _, after := _, guard := _ }) (v := ?_) rfl (by kernel_rfl) (by kernel_rfl) (by kernel_rfl) (fun _ _ _ h => h) (Or.inl ⟨by kernel_rfl, ?_⟩) (by assumption) ?_
  rotate_left
  · (intro w hSw; go_simp; try with_reducible rfl)
  try simp only [Act.put, List.setIfInBounds_toArray, List.set_cons_zero, List.set_cons_succ]
  refine wpAnyH_take (i := 13) (oi := { dst := some 66, op := _, type := _, pos := _, after := _, guard := _ }) (v := ?_) rfl (by kernel_rfl) (by kernel_rfl) (by kernel_rfl) (fun _ _ _ h => h) (Or.inl ⟨by kernel_rfl, ?_⟩) (by assumption) ?_
  rotate_left
  · (intro w hSw; have c0 := lkey_0 (Hid.out hSw).b0; go_simp; try with_reducible rfl)
  try simp only [Act.put, List.setIfInBounds_toArray, List.set_cons_zero, List.set_cons_succ]
  refine wpAnyH_take (i := 14) (oi := { dst := some 67, op := _, type := _, pos := _, after := _, guard := _ }) (v := ?_) rfl (by kernel_rfl) (by kernel_rfl) (by kernel_rfl) (fun _ _ _ h => h) (Or.inl ⟨by kernel_rfl, ?_⟩) (by assumption) ?_
  rotate_left
  · (intro w hSw; go_simp; try with_reducible rfl)
  try simp only [Act.put, List.setIfInBounds_toArray, List.set_cons_zero, List.set_cons_succ]
  refine wpAnyH_take (i := 15) (oi := { dst := some 68, op := _, type := _, pos := _, after := _, guard := _ }) (v := .agg ((u8s id).toArray)) rfl (by kernel_rfl) (by kernel_rfl) (by kernel_rfl) (fun _ _ _ h => h) (yieldsIf_load_mid (cs := u8s id) (by rfl) _ _ rfl _ _ rfl _ (fun w' hSw => (lkey_id (Hid.out hSw).b0 HII.out)) Tryd.underlying23 rfl IDI.out) (by assumption) ?_
  try simp only [Act.put, List.setIfInBounds_toArray, List.set_cons_zero, List.set_cons_succ]
  refine wpAnyH_take (i := 16) (oi := { dst := some 69, op := _, type := _, pos := _, after := _, guard := _ }) (v := ?_) rfl (by kernel_rfl) (by kernel_rfl) (by kernel_rfl) (fun _ _ _ h => h) (Or.inl ⟨by kernel_rfl, ?_⟩) (by assumption) ?_
  rotate_left
  · (intro w hSw; go_simp; try with_reducible rfl)
  try simp only [Act.put, List.setIfInBounds_toArray, List.set_cons_zero, List.set_cons_succ]
  refine wpAnyH_take (i := 17) (oi := { dst := some 70, op := _, type := _, pos := _, after := _, guard := _ }) (v := .agg ((u8s sd).toArray)) rfl (by kernel_rfl) (by kernel_rfl) (by kernel_rfl) (fun _ _ _ h => h) (yieldsIf_load_mid (cs := u8s sd) (by rfl) _ _ rfl _ _ rfl _ (fun w' hSw => (lkey_sd (Hid.out hSw).b0 HII.out)) Tryd.underlying26 rfl SDI.out) (by assumption) ?_
  try simp only [Act.put, List.setIfInBounds_toArray, List.set_cons_zero, List.set_cons_succ]
  refine wpAnyH_ready (rs := [10]) (by kernel_rfl) (by simp) ?_
  refine (AllReadyH.cons (o := { dst := some 63, op := _, type := _, pos := _, after := _, guard := _ }) rfl (fun Qc hQc => ?_) AllReadyH.nil)
  go_simp
  go_at_call 23; refine (CP.out _ _ T2.out).mono ?_; rintro e x2 ⟨gp, rfl, _, hkp, hbx2⟩; have RB := hid hkp; clear hkp
  have Gx2 := hid (Gx0.out.below hbx2)
  have T2 := hid (T2.out.below hbx2)
  clear hbx2
  go_wp2_with fail
  refine hQc.out _ _ Gx2 (fun hHeld => ?_)
  clear hQc Qc Gx0
  try simp only [Act.put, List.setIfInBounds_toArray, List.set_cons_zero, List.set_cons_succ]
  refine wpAnyH_ready (rs := [18]) (by kernel_rfl) (by simp) ?_
  refine (AllReadyH.cons (o := { dst := some 71, op := _, type := _, pos := _, after := _, guard := _ }) rfl (fun Qc hQc => ?_) AllReadyH.nil)
  go_simp
  go_at_call 24; refine (CR.out _).mono ?_; rintro e x3 ⟨A5, c5, rfl, hr5, hbx3⟩; have R5 := hid hr5; clear hr5
  have Gx3 := hid (Gx2.out.below hbx3)
  have T2 := hid (T2.out.below hbx3)
  have RB := hid (RB.out.below hbx3)
  clear hbx3
  go_wp2_with fail
  refine hQc.out _ _ Gx3 (fun hHeld => ?_)
  clear hQc Qc Gx2
  try simp only [Act.put, List.setIfInBounds_toArray, List.set_cons_zero, List.set_cons_succ]
  refine wpAnyH_ready (rs := [19]) (by kernel_rfl) (by simp) ?_
  refine (AllReadyH.cons (o := { dst := some 72, op := _, type := _, pos := _, after := _, guard := _ }) rfl (fun Qc hQc => ?_) AllReadyH.nil)
  go_simp
  go_at_call 22; refine (CSM.out _ _ _ _ _ (blk_rp RB.out) R5.out).mono ?_; rintro e x4 ⟨rfl, qd, rfl⟩; have hbx4 : Below x3.heap.size x3 (x3.drewN qd) := below_drewN (Below.refl _ _) qd
  have Gx4 := hid (Gx3.out.below hbx4)
  have T2 := hid (T2.out.below hbx4)
  have RB := hid (RB.out.below hbx4)
  have R5 := hid (R5.out.below hbx4)
  clear hbx4
  go_wp2_with fail
  refine hQc.out _ _ Gx4 (fun hHeld => ?_)
  clear hQc Qc Gx3
  try simp only [Act.put, List.setIfInBounds_toArray, List.set_cons_zero, List.set_cons_succ]
  refine wpAnyH_take (i := 20) (oi := { dst := some 73, op := _, type := _, pos := _, after := _, guard := _ }) (v := ?_) rfl (by kernel_rfl) (by kernel_rfl) (by kernel_rfl) (fun _ _ _ h => h) (Or.inl ⟨by kernel_rfl, ?_⟩) (by assumption) ?_
  rotate_left
  · (intro w hSw; go_simp; try with_reducible rfl)
  try simp only [Act.put, List.setIfInBounds_toArray, List.set_cons_zero, List.set_cons_succ]
  refine wpAnyH_take (i := 21) (oi := { dst := some 4, op := _, type := _, pos := _, after := _, guard := _ }) (v := ?_) rfl (by kernel_rfl) (by kernel_rfl) (by kernel_rfl) (fun _ _ _ h => h) (Or.inl ⟨by kernel_rfl, ?_⟩) (by assumption) ?_
  rotate_left
  · (intro w hSw; go_simp; try with_reducible rfl)
  try simp only [Act.put, List.setIfInBounds_toArray, List.set_cons_zero, List.set_cons_succ]
  refine wpAnyH_done (by kernel_rfl) ?_ _
  try simp only [Act.put, List.setIfInBounds_toArray, List.set_cons_zero, List.set_cons_succ]
  have GL : Hid (Below w.heap.size w _) := Gx4.out.bl
  go_wp2_with fail
  go_ret
  exact ⟨rfl, GL.out⟩
end Go.Proofs.YtpgadjbmloicgaaDoor
