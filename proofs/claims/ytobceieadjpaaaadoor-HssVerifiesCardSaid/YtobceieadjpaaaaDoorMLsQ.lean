/-
  What is proved here: whether the document says that a tree's signature is right.
-/
import Derived.Test.YtobceieadjpaaaaDoorMLsU
import Derived.Test.YtobceieadjpaaaaDoorMLmRk
import Derived.Test.YtobceieadjpaaaaDoorMHa2
import Derived.Deep.DeepCutAuto
import Derived.Deep.RegionLaw
set_option linter.unusedSimpArgs false
set_option linter.unusedVariables false
namespace Go.Proofs.YtobceieadjpaaaaDoor
open Go.ChangeShapes Go.WideShapes Go.ChangeAt Go.RowKit
set_option linter.unusedVariables false
set_option maxRecDepth 20000

/-- an id lies where it lay -/
structure Vi (id : List Int) (gi : Nat) (w w' : World) : Prop where
  bi : Blk w' gi 23 (u8s id).toArray
  bl : Below w.heap.size w w'
/-- an id and a hash lie where they lay -/
structure Vs (id : List Int) (gi : Nat) (O : List Int) (go : Nat) (w w' : World) : Prop where
  bi : Blk w' gi 23 (u8s id).toArray
  bo : Blk w' go 26 (u8s O).toArray
  bl : Below w.heap.size w w'
section
variable {id : List Int} {gi go : Nat} {O : List Int} {w w' w2 : World}
theorem Vi.below (h : Vi id gi w w') (hb : Below w'.heap.size w' w2) : Vi id gi w w2 := ⟨h.bi.below hb, h.bl.trans (hb.mono h.bl.size)⟩
theorem Vi.drew (h : Vi id gi w w') : Vi id gi w w'.drew := h.below ((Below.refl _ _).drew)
theorem Vi.alloc (h : Vi id gi w w') (o : Obj) : Vi id gi w (w'.alloc o) := h.below ((Below.refl _ _).alloc (Nat.le_refl _) _)
theorem Vi.row (h : Vi id gi w w') {g : Nat} (n0 : gi ≠ g) (hg : w.heap.size ≤ g) (cs : Array Value) : Vi id gi w (w'.setRow g cs) := ⟨h.bi.rowFar n0 cs, below_setRow h.bl hg cs⟩
theorem Vs.below (h : Vs id gi O go w w') (hb : Below w'.heap.size w' w2) : Vs id gi O go w w2 := ⟨h.bi.below hb, h.bo.below hb, h.bl.trans (hb.mono h.bl.size)⟩
theorem Vs.drew (h : Vs id gi O go w w') : Vs id gi O go w w'.drew := h.below ((Below.refl _ _).drew)
theorem Vs.alloc (h : Vs id gi O go w w') (o : Obj) : Vs id gi O go w (w'.alloc o) := h.below ((Below.refl _ _).alloc (Nat.le_refl _) _)
theorem Vs.row (h : Vs id gi O go w w') {g : Nat} (n0 : gi ≠ g) (n1 : go ≠ g) (hg : w.heap.size ≤ g) (cs : Array Value) : Vs id gi O go w (w'.setRow g cs) := ⟨h.bi.rowFar n0 cs, h.bo.rowFar n1 cs, below_setRow h.bl hg cs⟩
end

theorem same_32 (g pb off c9 : Nat) (F T : List Int) (w1 : World) (h1 : F.length = 32) (h2 : T.length = 32) (ha : Rp w1 none (some ⟨g, 0, none⟩) F) (hb : Rp w1 none (some ⟨pb, off, none⟩) T) :
    Calls Tryd.prog 28 #[.slice (some ⟨g, 0, none⟩) 32 32, .slice (some ⟨pb, off, none⟩) 32 c9] w1 fun e w' => e = .returned (.bool (decide (F = T))) ∧ ∃ q, w' = w1.drewN q := by
  have := Same_quiet (some ⟨g, 0, none⟩) (some ⟨pb, off, none⟩) 32 c9 F T w1 ha hb (by omega) (by omega)
  rw [h1, h2] at this
  exact this
theorem capw {c b : Nat} (h : b < c) : ¬ c < b ∧ b ≤ c ∧ ((b : Int) ≤ (c : Int)) ∧ ¬ c = b := by omega
attribute [local go_sem] Oper.semAt_some
set_option maxRecDepth 20000 in
set_option maxHeartbeats 16000000 in
theorem tVerify_any (A0 A1 A2 : Option Addr) (n0 c0 n1 c1 n2 c2 : Nat) (P M S : List Int) (w : World) (hp : n0 = P.length) (hpr : Rp w none A0 P) (hpb : Bs P) (hpl : P.length < 100000) (hpc : n0 ≤ c0)
    (hm : n1 = M.length) (hmr : Rp w none A1 M) (hmb : Bs M) (hml : M.length < 100000) (hs : n2 = S.length) (hsr : Rp w none A2 S) (hsb : Bs S) (hsl : S.length < 100000) (hsc : n2 ≤ c2) :
    Calls Tryd.prog 17 #[.slice A0 n0 c0, .slice A1 n1 c1, .slice A2 n2 c2] w fun e w' => e = .returned (.bool (ver P M S)) ∧ Below w.heap.size w w' := by
  by_cases h56 : n0 = 56
  · subst h56
    have hP56 : P.length = 56 := hp.symm
    obtain ⟨pb, po, rfl, hpb2, hprng⟩ := rp_plain hpr (by omega)
    obtain ⟨x, hx⟩ : ∃ x, x = vh P := ⟨_, rfl⟩
    obtain ⟨y, hy⟩ : ∃ y, y = vk P := ⟨_, rfl⟩
    have hxr : 0 ≤ x ∧ x < 4294967296 := by
      have := val_bound (P.take 4) (hpb.take 4)
      rw [List.length_take, Nat.min_eq_left (by omega)] at this
      rw [hx]; exact ⟨this.1, this.2⟩
    have hyr : 0 ≤ y ∧ y < 4294967296 := by
      have := val_bound ((P.drop 4).take 4) ((hpb.drop 4).take 4)
      rw [List.length_take, List.length_drop, Nat.min_eq_left (by omega)] at this
      rw [hy]; exact ⟨this.1, this.2⟩
    have CVx : Hid (∀ c9 w1, Below w.heap.size w w1 → Calls Tryd.prog 54 #[.slice (some ⟨pb, po, none⟩) 4 c9] w1 fun e w' => e = .returned (.int .u64 x) ∧ w1 = w') := fun c9 w1 hb => by
      have := Value_any (some ⟨pb, po, none⟩) c9 (P.take 4) w1 ((hpr.belowN hb).take 4) (hpb.take 4) (by rw [List.length_take]; omega)
      rw [List.length_take, Nat.min_eq_left (by omega)] at this
      rw [hx]; exact this
    have CVy : Hid (∀ c9 w1, Below w.heap.size w w1 → Calls Tryd.prog 54 #[.slice (some ⟨pb, po + 4, none⟩) 4 c9] w1 fun e w' => e = .returned (.int .u64 y) ∧ w1 = w') := fun c9 w1 hb => by
      have := Value_any (some ⟨pb, po + 4, none⟩) c9 ((P.drop 4).take 4) w1 (rp_rng (rng_part (rng_below hprng hpb2 hb) 4 4)) ((hpb.drop 4).take 4) (by rw [List.length_take]; omega)
      rw [List.length_take, List.length_drop, Nat.min_eq_left (by omega)] at this
      rw [hy]; exact this
    have k04a : ¬ c0 < 4 := by omega
    have k04b : 4 ≤ c0 := by omega
    have k04c : (4 : Int) ≤ (c0 : Int) := by omega
    have k04d : ¬ c0 = 4 := by omega
    have k08a : ¬ c0 < 8 := by omega
    have k08b : 8 ≤ c0 := by omega
    have k08c : (8 : Int) ≤ (c0 : Int) := by omega
    have k08d : ¬ c0 = 8 := by omega
    have k0z : ¬ c0 = 0 := by omega
    have HC56 : Hid (56 ≤ c0) := hpc
    obtain ⟨hxa, hxb⟩ := hxr
    obtain ⟨hya, hyb⟩ := hyr
    have GT : Hid (Bw w w) := ⟨Below.refl _ _⟩
    have HVK : Hid (vK P = tkeys x y) := by show _ = _; unfold vK; rw [hx, hy]
    have HTS : Hid (tsize (vh P) (vk P) = tsize x y) := by show _ = _; rw [hx, hy]
    have CK := hid (tKeys_any x y)
    have CZ := hid (tSize_any x y)
    have HSR := hid hsr; have HMR := hid hmr; have HPR := hid hprng; have HPB := hid hpb; have HMB := hid hmb; have HSB := hid hsb
    have HS := hid hs; have HM := hid hm; have HP := hid hP56; have HX := hid hx; have HY := hid hy
    clear hp hpr hsr hmr hprng hpb hmb hsb hs hm hP56 hx hy
    go_enter Tryd.func17, Tryd.ntmps17
    go_wp2_with fail
    refine wp_region_held (S := fun w' => Hid (Bw w w')) (by kernel_rfl) ?_
    change wpAnyH _ _ _ _ _ _ _ _ w.drew
    have Gx0 : Hid (Bw w w.drew) := GT.out.drew
    have HBx0 : Below w.heap.size w w.drew := (Below.refl _ _).drew
    clear HBx0
    generalize w.drew = x0 at Gx0  ⊢
    refine wpAnyH_take (i := 0) (oi := { dst := some 23, op := _, type := _, pos := _, after := _, guard := _ }) (v := ?_) rfl (by kernel_rfl) (by kernel_rfl) (by kernel_rfl) (fun _ _ _ h => h) (Or.inl ⟨by kernel_rfl, ?_⟩) (by assumption) ?_
    rotate_left
    · (intro w hSw; go_simp; try with_reducible rfl)
    try simp only [Act.put, List.setIfInBounds_toArray, List.set_cons_zero, List.set_cons_succ]
    refine wpAnyH_take (i := 1) (oi := { dst := some 24, op := _, type := _, pos := _, after := _, guard := _ }) (v := ?_) rfl (by kernel_rfl) (by kernel_rfl) (by kernel_rfl) (fun _ _ _ h => h) (Or.inl ⟨by kernel_rfl, ?_⟩) (by assumption) ?_
    rotate_left
    · (intro w hSw; go_simp; try with_reducible rfl)
    try simp only [Act.put, List.setIfInBounds_toArray, List.set_cons_zero, List.set_cons_succ]
    refine wpAnyH_take (i := 3) (oi := { dst := some 26, op := _, type := _, pos := _, after := _, guard := _ }) (v := ?_) rfl (by kernel_rfl) (by kernel_rfl) (by kernel_rfl) (fun _ _ _ h => h) (Or.inl ⟨by kernel_rfl, ?_⟩) (by assumption) ?_
    rotate_left
    · (intro w hSw; go_simp; try with_reducible rfl)
    try simp only [Act.put, List.setIfInBounds_toArray, List.set_cons_zero, List.set_cons_succ]
    refine wpAnyH_take (i := 4) (oi := { dst := some 27, op := _, type := _, pos := _, after := _, guard := _ }) (v := .slice (some ⟨pb, po + 4, none⟩) 4 (c0 - 4)) rfl (by kernel_rfl) (by kernel_rfl) (by kernel_rfl) (fun _ _ _ h => h) (Or.inl ⟨by kernel_rfl, ?_⟩) (by assumption) ?_
    · (intro w hSw; go_simp; try with_reducible rfl)
    try simp only [Act.put, List.setIfInBounds_toArray, List.set_cons_zero, List.set_cons_succ]
    refine wpAnyH_ready (rs := [2]) (by kernel_rfl) (by simp) ?_
    refine (AllReadyH.cons (o := { dst := some 25, op := _, type := _, pos := _, after := _, guard := _ }) rfl (fun Qc hQc => ?_) AllReadyH.nil)
    go_simp
    go_at_call 54; refine (CVx.out _ _ Gx0.out.bl).mono ?_; rintro e wq ⟨rfl, rfl⟩
    go_wp2_with fail
    refine hQc.out _ _ Gx0 (fun hHeld => ?_)
    clear hQc Qc
    try simp only [Act.put, List.setIfInBounds_toArray, List.set_cons_zero, List.set_cons_succ]
    refine wpAnyH_ready (rs := [5]) (by kernel_rfl) (by simp) ?_
    refine (AllReadyH.cons (o := { dst := some 28, op := _, type := _, pos := _, after := _, guard := _ }) rfl (fun Qc hQc => ?_) AllReadyH.nil)
    go_simp
    go_at_call 54; refine (CVy.out _ _ Gx0.out.bl).mono ?_; rintro e wq ⟨rfl, rfl⟩
    go_wp2_with fail
    refine hQc.out _ _ Gx0 (fun hHeld => ?_)
    clear hQc Qc
    try simp only [Act.put, List.setIfInBounds_toArray, List.set_cons_zero, List.set_cons_succ]
    refine wpAnyH_take (i := 6) (oi := { dst := some 7, op := _, type := _, pos := _, after := _, guard := _ }) (v := ?_) rfl (by kernel_rfl) (by kernel_rfl) (by kernel_rfl) (fun _ _ _ h => h) (Or.inl ⟨by kernel_rfl, ?_⟩) (by assumption) ?_
    rotate_left
    · (intro w hSw; go_simp; try with_reducible rfl)
    try simp only [Act.put, List.setIfInBounds_toArray, List.set_cons_zero, List.set_cons_succ]
    refine wpAnyH_take (i := 7) (oi := { dst := some 8, op := _, type := _, pos := _, after := _, guard := _ }) (v := ?_) rfl (by kernel_rfl) (by kernel_rfl) (by kernel_rfl) (fun _ _ _ h => h) (Or.inl ⟨by kernel_rfl, ?_⟩) (by assumption) ?_
    rotate_left
    · (intro w hSw; go_simp; try with_reducible rfl)
    try simp only [Act.put, List.setIfInBounds_toArray, List.set_cons_zero, List.set_cons_succ]
    refine wpAnyH_done (by kernel_rfl) ?_ _
    try simp only [Act.put, List.setIfInBounds_toArray, List.set_cons_zero, List.set_cons_succ]
    have GB : Hid (Below w.heap.size w x0) := Gx0.out.bl
    generalize x0 = w1 at GB ⊢
    clear Gx0 CVx CVy
    by_cases hx4 : 4 < x
    · have hd1 : decide (4 < x) = true := decide_eq_true hx4
      have HNO : Hid (ver P M S = false) := ver_no fun hv => (by have h1 := hv.2.1; rw [HVK.out] at h1; have h2 := (tkeys_kd h1).1; omega)
      go_wp2_with fail
      go_ret
      exact ⟨congrArg (fun b => Ending.returned (Value.bool b)) HNO.out.symm, GB.out⟩
    have hd1 : decide (4 < x) = false := decide_eq_false hx4
    by_cases hy4 : 4 < y
    · have hd2 : decide (4 < y) = true := decide_eq_true hy4
      have HNO : Hid (ver P M S = false) := ver_no fun hv => (by have h1 := hv.2.1; rw [HVK.out] at h1; have h2 := (tkeys_kd h1).2; unfold Kd at h2; omega)
      go_wp2_with fail
      go_ret
      exact ⟨congrArg (fun b => Ending.returned (Value.bool b)) HNO.out.symm, GB.out⟩
    have hd2 : decide (4 < y) = false := decide_eq_false hy4
    have hwx : IntKind.i64.wrap x = x := IntWalk.i64_in _ (by omega)
    have hwy : IntKind.i64.wrap y = y := IntWalk.i64_in _ (by omega)
    by_cases hK0 : tkeys x y = 0
    · rw [hK0] at CK
      have HNO : Hid (ver P M S = false) := ver_no fun hv => (by have h1 := hv.2.1; rw [HVK.out] at h1; exact h1 hK0)
      go_wp2_with (go_at_call 55; refine (CK.out _).mono ?_; rintro e wq ⟨rfl, rfl⟩)
      go_ret
      exact ⟨congrArg (fun b => Ending.returned (Value.bool b)) HNO.out.symm, GB.out⟩
    have hkb : (((tkeys x y : Nat) : Int) == 0) = false := by simp; exact hK0
    have hkz : ((tkeys x y : Nat) : Int) ≠ 0 := by omega
    obtain ⟨hx14, hkd⟩ := tkeys_kd hK0
    have hKe : tkeys x y = 2 ^ x.toNat := tkeys_ok hx14 hkd
    have hTe : tsize x y = 8 + ksize y + 32 * x.toNat := tsize_ok hx14 hkd
    have hKl : 2 ≤ tkeys x y ∧ tkeys x y ≤ 16 := by rw [hKe]; rcases ht4 hx14 with rfl | rfl | rfl | rfl <;> decide
    by_cases hszn : ¬ n2 = tsize x y
    · have hsb : (((n2 : Nat) : Int) != ((tsize x y : Nat) : Int)) = true := by rw [bne_iff_ne]; omega
      have hsn : ¬ ((n2 : Nat) : Int) = ((tsize x y : Nat) : Int) := by omega
      have HNO : Hid (ver P M S = false) := ver_no fun hv => (by have h1 := hv.2.2.1; rw [HTS.out, ← HS.out] at h1; exact hszn h1)
      generalize tsize x y = ts at CZ hsb hsn
      generalize tkeys x y = K at CK hkb hkz
      clear hKe hKl hTe hszn
      go_wp2_with (first
        | (go_at_call 55; refine (CK.out _).mono ?_; rintro e wq ⟨rfl, rfl⟩)
        | (go_at_call 56; refine (CZ.out _).mono ?_; rintro e wq ⟨rfl, rfl⟩))
      go_ret
      exact ⟨congrArg (fun b => Ending.returned (Value.bool b)) HNO.out.symm, GB.out⟩
    have hsz : n2 = tsize x y := Decidable.not_not.1 hszn
    clear hszn
    rw [← hsz] at CZ
    obtain ⟨K, hK⟩ : ∃ K, K = tkeys x y := ⟨_, rfl⟩
    obtain ⟨ks, hks⟩ : ∃ ks, ks = ksize y := ⟨_, rfl⟩
    have hks36 : 36 ≤ ks ∧ ks ≤ 10000 := by rw [hks]; exact ⟨ksize_ge2 hkd, ksize_le y⟩
    obtain ⟨sb, so, rfl, hsl2, hsrng⟩ := rp_plain HSR.out (by rw [← HS.out]; omega)
    obtain ⟨q, hq⟩ : ∃ q, q = vq S := ⟨_, rfl⟩
    have hqr : 0 ≤ q ∧ q < 4294967296 := by
      have := val_bound (S.take 4) (HSB.out.take 4)
      rw [List.length_take, Nat.min_eq_left (by rw [← HS.out]; omega)] at this
      rw [hq]; exact ⟨this.1, this.2⟩
    have CVq : Hid (∀ c9 w1, Below w.heap.size w w1 → Calls Tryd.prog 54 #[.slice (some ⟨sb, so, none⟩) 4 c9] w1 fun e w' => e = .returned (.int .u64 q) ∧ w1 = w') := fun c9 w1 hb => by
      have := Value_any (some ⟨sb, so, none⟩) c9 (S.take 4) w1 ((HSR.out.belowN hb).take 4) (HSB.out.take 4) (by rw [List.length_take]; omega)
      rw [List.length_take, Nat.min_eq_left (by rw [← HS.out]; omega)] at this
      rw [hq]; exact this
    obtain ⟨yy, hyy⟩ : ∃ yy, yy = val ((S.drop 4).take 4) := ⟨_, rfl⟩
    obtain ⟨xx, hxx⟩ : ∃ xx, xx = vx y S := ⟨_, rfl⟩
    have CVyy : Hid (∀ c9 w1, Below w.heap.size w w1 → Calls Tryd.prog 54 #[.slice (some ⟨sb, so + 4, none⟩) 4 c9] w1 fun e w' => e = .returned (.int .u64 yy) ∧ w1 = w') := fun c9 w1 hb => by
      have := Value_any (some ⟨sb, so + 4, none⟩) c9 ((S.drop 4).take 4) w1 (rp_rng (rng_part (rng_below hsrng hsl2 hb) 4 4)) ((HSB.out.drop 4).take 4) (by rw [List.length_take]; omega)
      rw [List.length_take, List.length_drop, Nat.min_eq_left (by rw [← HS.out]; omega)] at this
      rw [hyy]; exact this
    have CVxx : Hid (∀ c9 w1, Below w.heap.size w w1 → Calls Tryd.prog 54 #[.slice (some ⟨sb, so + (4 + ks), none⟩) 4 c9] w1 fun e w' => e = .returned (.int .u64 xx) ∧ w1 = w') := fun c9 w1 hb => by
      have := Value_any (some ⟨sb, so + (4 + ks), none⟩) c9 ((S.drop (4 + ks)).take 4) w1 (rp_rng (rng_part (rng_below hsrng hsl2 hb) (4 + ks) 4)) ((HSB.out.drop _).take 4) (by rw [List.length_take]; omega)
      rw [List.length_take, List.length_drop, Nat.min_eq_left (by rw [← HS.out]; omega)] at this
      rw [hxx]; unfold vx; rw [← hks]; exact this
    obtain ⟨Z16, HZ16, hZ160, hZ16s⟩ := zero_ID
    obtain ⟨ID, hID⟩ : ∃ ID, ID = vid P := ⟨_, rfl⟩
    have HID : Idn ID := by rw [hID]; exact ⟨by unfold vid; rw [List.length_take, List.length_drop, HP.out]; rfl, (HPB.out.drop 8).take 16⟩
    have HRID : Hid (∀ w1, Below w.heap.size w w1 → w1.rangeAt pb (po + 8) (u8s ID)) := fun w1 hb => by rw [hID]; exact rng_part (rng_below HPR.out hpb2 hb) 8 16
    have IDI := hid (id_info HID)
    have IDC : Hid ((Tryd.prog.info? 23).map (·.size) = some (u8s ID).toArray.size) := by show _ = _; rw [List.size_toArray]; exact IDI.out
    have IDZ : Hid (Z16.size = (u8s ID).toArray.size) := by show _ = _; rw [HZ16, List.size_toArray, u8s_length, HID.len]
    have CKS := hid (kSize_any y)
    rw [← hks] at CKS
    have haid := arrayAt_id
    have hahs := arrayAt_hash
    have C2 : Hid (n2 ≤ c2) := hsc
    have KS4 : Hid (8 + ks + 32 * x.toNat = n2) := by show _ = _; omega
    have c2big : 44 ≤ c2 := by omega
    have k24a : ¬ c2 < 4 := by omega
    have k24b : 4 ≤ c2 := by omega
    have k24c : (4 : Int) ≤ (c2 : Int) := by omega
    have k24d : ¬ c2 = 4 := by omega
    have k28a : ¬ c2 < 8 := by omega
    have k28b : 8 ≤ c2 := by omega
    have k28c : (8 : Int) ≤ (c2 : Int) := by omega
    have k28d : ¬ c2 = 8 := by omega
    have k2z : ¬ c2 = 0 := by omega
    have k224b : 24 ≤ c0 := by omega
    obtain ⟨q0, q1⟩ := hqr
    obtain ⟨ks0, ks1⟩ := hks36
    have hwK : IntKind.u64.wrap (K : Int) = K := by simp [IntKind.wrap, IntKind.bits, IntKind.signed]; omega
    have hwq : IntKind.i64.wrap q = q := IntWalk.i64_in _ (by omega)
    have hwq2 : IntKind.u32.wrap q = q := by simp [IntKind.wrap, IntKind.bits, IntKind.signed]; omega
    have hw4 : IntKind.i64.wrap (4 + (ks : Int)) = 4 + (ks : Int) := IntWalk.i64_in _ (by omega)
    have hw8 : IntKind.i64.wrap (8 + (ks : Int)) = 8 + (ks : Int) := IntWalk.i64_in _ (by omega)
    rw [← hK] at CK hkb hkz hKe hKl
    have KX : Hid (K = 2 ^ x.toNat) := hKe
    have HKD := hid hkd
    have HKS := hid hks; have HSZ := hid hsz; have HQ := hid hq; have HYY := hid hyy; have HXX := hid hxx; have HIDE := hid hID; have HIDN := hid HID; have HK := hid hK; have HSRN := hid hsrng; have HTE := hid hTe
    obtain ⟨K2, K16⟩ := hKl
    clear hkd hks hsz hq hyy hxx hID HID hK hsrng hTe hKe hK0 HZ16
    have hneq : ((n2 : Nat) : Int) = (n2 : Nat) := rfl
    go_wp2_with (first
      | (go_at_call 55; refine (CK.out _).mono ?_; rintro e wq ⟨rfl, rfl⟩)
      | (go_at_call 56; refine (CZ.out _).mono ?_; rintro e wq ⟨rfl, rfl⟩)
      | (refine cut_at rfl (.tmp 57) (.const (.int .i64 8)) (.const (.int .i64 24)) rfl pb po 56 c0 8 24 16 8 24 rfl rfl rfl rfl rfl rfl k224b (by omega) ?_)
      | (refine load_at rfl 23 (.tmp 59) rfl pb (po + 8) rfl (u8s ID) _ (HRID.out _ GB.out) Tryd.underlying23 rfl IDI.out (u8s ID).toArray rfl ?_)
      | (refine wpList_store_row rfl 23 (.tmp 11) (.tmp 60) rfl w1.heap.size (u8s ID).toArray rfl rfl 23 Z16 (Blk.new w1 23 Z16) IDC.out IDZ.out (u8s_all ID) ?_; have hbb : Below w1.heap.size w1 ((w1.alloc (.cells Z16 23)).setRow w1.heap.size (u8s ID).toArray) := below_setRow ((Below.refl _ _).alloc (Nat.le_refl _) _) (Nat.le_refl _) _; have PI : Hid (Blk ((w1.alloc (.cells Z16 23)).setRow w1.heap.size (u8s ID).toArray) w1.heap.size 23 (u8s ID).toArray) := (Blk.new w1 23 Z16).row _; have GB2 := hid (GB.out.trans (hbb.mono GB.out.size)); have LGI := hid GB.out.size; clear hbb; generalize (w1.alloc (.cells Z16 23)).setRow w1.heap.size (u8s ID).toArray = w2 at PI GB2 ⊢; generalize w1.heap.size = gi at PI LGI ⊢)
      | (go_at_call 57; refine (CKS.out _).mono ?_; rintro e wq ⟨rfl, rfl⟩))
    go_at_call 54; refine (CVq.out _ _ GB2.out).mono ?_; rintro e wq ⟨rfl, rfl⟩
    by_cases hqn : (K : Int) ≤ q
    · have hd3 : decide ((K : Int) ≤ q) = true := decide_eq_true hqn
      have HNO : Hid (ver P M S = false) := ver_no fun hv => (by have h1 := hv.2.2.2.1; rw [HVK.out, ← HK.out, ← HQ.out] at h1; omega)
      go_wp2_with (go_at_call 55; refine (CK.out _).mono ?_; rintro e wq ⟨rfl, rfl⟩)
      go_ret
      exact ⟨congrArg (fun b => Ending.returned (Value.bool b)) HNO.out.symm, GB2.out⟩
    have hd3 : decide ((K : Int) ≤ q) = false := decide_eq_false hqn
    have honcel : (vonce y S).length = ksize y := by unfold vonce; rw [List.length_take, List.length_drop, ← HS.out, ← HKS.out]; have := KS4.out; omega
    have honce4 : (vonce y S).take 4 = (S.drop 4).take 4 := by unfold vonce; rw [List.take_take, Nat.min_eq_left (by rw [← HKS.out]; omega)]
    by_cases hyn : ¬ yy = y
    · have hd4 : (yy != y) = true := by rw [bne_iff_ne]; exact hyn
      have HNO : Hid (ver P M S = false) := ver_no fun hv => (by have h1 := hv.2.2.2.2.2.1; rw [← HY.out, once_no HKD.out honcel (by rw [honce4, ← HYY.out]; exact hyn)] at h1; cases h1)
      go_wp2_with (first
        | (go_at_call 55; refine (CK.out _).mono ?_; rintro e wq ⟨rfl, rfl⟩)
        | (go_at_call 54; (with_reducible refine (CVyy.out _ _ GB2.out).mono ?_); rintro e wq ⟨rfl, rfl⟩))
      go_ret
      exact ⟨congrArg (fun b => Ending.returned (Value.bool b)) HNO.out.symm, GB2.out⟩
    have hye : yy = y := Decidable.not_not.1 hyn
    have honce : sigB (vonce y S) = true := once_yes HKD.out honcel (by rw [honce4, ← HYY.out]; exact hye)
    clear hyn honce4 HYY
    subst hye
    have hd4 : (yy != yy) = false := by simp
    by_cases hxn : ¬ xx = x
    · have hd5 : (xx != x) = true := by rw [bne_iff_ne]; exact hxn
      have HNO : Hid (ver P M S = false) := ver_no fun hv => (by have h1 := hv.2.2.2.2.1; rw [← HY.out, ← HXX.out, ← HX.out] at h1; exact hxn h1)
      go_wp2_with (first
        | (go_at_call 55; refine (CK.out _).mono ?_; rintro e wq ⟨rfl, rfl⟩)
        | (go_at_call 54; (with_reducible refine (CVyy.out _ _ GB2.out).mono ?_); rintro e wq ⟨rfl, rfl⟩)
        | (refine cut_at rfl (.tmp 80) (.tmp 82) (.tmp 84) rfl sb so n2 c2 (4 + ks) (8 + ks) 4 (4 + (ks : Int)) (8 + (ks : Int)) rfl rfl rfl (by omega) (by omega) (by omega) (by have := C2.out; have := KS4.out; omega) (by have := C2.out; have := KS4.out; omega) ?_)
        | (go_at_call 54; refine (CVxx.out _ _ GB2.out).mono ?_; rintro e wq ⟨rfl, rfl⟩))
      go_ret
      exact ⟨congrArg (fun b => Ending.returned (Value.bool b)) HNO.out.symm, GB2.out⟩
    have hxe : xx = x := Decidable.not_not.1 hxn
    clear hxn
    subst hxe
    have hd5 : (xx != xx) = false := by simp

    go_wp2_with (first
      | (go_at_call 55; refine (CK.out _).mono ?_; rintro e wq ⟨rfl, rfl⟩)
      | (go_at_call 54; (with_reducible refine (CVyy.out _ _ GB2.out).mono ?_); rintro e wq ⟨rfl, rfl⟩)
      | (refine cut_at rfl (.tmp 80) (.tmp 82) (.tmp 84) rfl sb so n2 c2 (4 + ks) (8 + ks) 4 (4 + (ks : Int)) (8 + (ks : Int)) rfl rfl rfl (by omega) (by omega) (by omega) (by have := C2.out; have := KS4.out; omega) (by have := C2.out; have := KS4.out; omega) ?_)
      | (go_at_call 54; refine (CVxx.out _ _ GB2.out).mono ?_; rintro e wq ⟨rfl, rfl⟩))
    obtain ⟨qn, hqn2⟩ : ∃ qn : Nat, q = qn := ⟨q.toNat, by omega⟩
    have hqi : q < 4294967296 := q1
    subst hqn2
    have hqK : qn < K := by omega
    have HUP := hid (fun j hj => up_range (h := xx.toNat) KX.out hqK j hj)
    obtain ⟨PK, hPK⟩ : ∃ PK, PK = recK ID qn M (vonce yy S) := ⟨_, rfl⟩
    have hpk : Ky PK := by rw [hPK]; exact rec_ky _ _ _ _
    have CRC : Hid (∀ c9 w1, ks ≤ c9 → Below w.heap.size w w1 → Calls Tryd.prog 58 #[.agg (u8s ID).toArray, .int .u32 (qn : Nat), .slice A1 n1 c1, .slice (some ⟨sb, so + 4, none⟩) ks c9] w1 fun e w' => e = .returned (.tuple #[.agg (u8s PK).toArray, .bool true]) ∧ Below w1.heap.size w1 w') := fun c9 w1 hc9 hb => by
      have := kRecover_any ID qn A1 n1 c1 M (some ⟨sb, so + 4, none⟩) ks c9 (vonce yy S) w1 HIDN.out ⟨by omega, by omega⟩ HM.out (HMR.out.belowN hb) HMB.out hml (by rw [honcel]; exact HKS.out) (rp_rng (by unfold vonce; exact rng_part (rng_below HSRN.out hsl2 hb) 4 (ksize yy))) ((HSB.out.drop 4).take _) (by rw [honcel, ← HKS.out]; omega) hc9
      rw [honce, ← hPK] at this
      exact this
    obtain ⟨LF, hLF⟩ : ∃ LF, LF = vleaf ID (K + qn) PK := ⟨_, rfl⟩
    have hlf : Ky LF := by rw [hLF]; exact under_ky _ _ _ _
    have CNL : Hid (∀ g w1, Blk w1 g 26 (u8s PK).toArray → Calls Tryd.prog 59 #[.agg (u8s ID).toArray, .int .i64 ((K : Int) + (qn : Int)), .int .i64 33410, .slice (some ⟨g, 0, none⟩) 32 32] w1 fun e w' => e = .returned (.agg (u8s LF).toArray) ∧ Below w1.heap.size w1 w') := fun g w1 hg => by
      have := tNode_any ID ((K : Int) + (qn : Int)) 33410 (some ⟨g, 0, none⟩) 32 32 PK w1 HIDN.out (by omega) (by decide) hpk.len.symm (blk_rp hg) hpk.bs (by rw [hpk.len]; decide)
      rw [hLF]
      exact this
    obtain ⟨PA, hPA⟩ : ∃ PA, PA = vpath yy S := ⟨_, rfl⟩
    have HEND : Hid (ver P M S = decide (clm ID xx.toNat (K + qn) LF PA = vtop P)) := by
      show _ = _
      unfold ver
      rw [decide_eq_decide]
      have hroot : vroot P M S = clm ID xx.toNat (K + qn) LF PA := by
        unfold vroot
        rw [HVK.out, ← HK.out, ← HX.out, ← HY.out, ← HIDE.out, ← HQ.out, Int.toNat_natCast, ← hPK, ← hLF, ← hPA]
      refine ⟨fun hv => by rw [← hroot]; exact hv.2.2.2.2.2.2, fun h => ⟨HP.out, by rw [HVK.out, ← HK.out]; omega, by rw [HTS.out, ← HS.out]; exact HSZ.out, by rw [HVK.out, ← HK.out, ← HQ.out]; omega, by rw [← HY.out, ← HX.out]; exact HXX.out.symm, by rw [← HY.out]; exact honce, by rw [hroot]; exact h⟩⟩
    have HPAR : Hid (∀ j w1, j < xx.toNat → Below w.heap.size w w1 → w1.rangeAt sb (so + (8 + ks + 32 * j)) (u8s ((PA.drop (32 * j)).take 32))) := fun j w1 hj hb => by
      have := rng_part (rng_below HSRN.out hsl2 hb) (8 + ks + 32 * j) 32
      rw [hPA]; unfold vpath
      rw [List.drop_drop, ← HKS.out]
      exact this
    have HPAK : Hid (∀ j, j < xx.toNat → Ky ((PA.drop (32 * j)).take 32)) := fun j hj => ⟨by rw [hPA]; unfold vpath; rw [List.length_take, List.length_drop, List.length_drop, ← HS.out, ← HKS.out]; have := KS4.out; omega, by rw [hPA]; exact (((HSB.out.drop _).drop _).take _)⟩
    have HTOPL : Hid ((vtop P).length = 32) := by show _ = _; unfold vtop; rw [List.length_drop, HP.out]
    have HTOPR : Hid (∀ w1, Below w.heap.size w w1 → Rp w1 none (some ⟨pb, po + 24, none⟩) (vtop P)) := fun w1 hb => rp_rng (by have := rng_part (rng_below HPR.out hpb2 hb) 24 32; rw [List.take_of_length_le (by rw [List.length_drop, HP.out]; omega)] at this; exact this)
    obtain ⟨Z, HZ, hZ0, hZs⟩ := zero_Hash
    have HZ32 : Hid (Z.size = 32) := by show _ = _; rw [HZ.out, List.size_toArray, u8s_length]; simp
    have PKI := hid (info_hash PK hpk.len); have PKZ : Hid (Z.size = (u8s PK).toArray.size) := HZ32.out.trans (hash_size hpk.len).symm
    have LFI := hid (info_hash LF hlf.len); have LFZ : Hid (Z.size = (u8s LF).toArray.size) := HZ32.out.trans (hash_size hlf.len).symm
    have HLF := hid hlf
    have hwr : IntKind.i64.wrap ((K : Int) + (qn : Int)) = (K : Int) + (qn : Int) := IntWalk.i64_in _ (by omega)
    generalize hVV : ver P M S = VV at HEND
    have HVV := hid hVV
    clear hVV
    clear honcel honce hPK hpk hLF hlf hPA hqn hqi q0 q1 hd3 hd4 hd5
    have GV : Hid (Vi ID gi w w2) := ⟨PI.out, GB2.out⟩
    have WLG : Hid (w.heap.size ≤ gi) := LGI.out
    clear PI GB2 CVq CVyy CVxx LGI GB GT HMR HPB HMB HSB HM HP HX HY HVK HTS CZ HSR hZ160 hZ16s HRID IDC IDZ haid CKS HKD HKS HSZ HQ HIDE HK HTE HXX hd1 hd2 k04a k04b k04c k04d k08a k08b k08c k08d k24a k24b k24c k24d k28a k28b k28c k28d k224b hkb hkz hneq hwK hwx hwy HSRN HPR
    go_upto_region 12 with (fail)
    go_cut [14, 15] (fun s14 s15 wx => ∃ gp, s14 = .pointer (some ⟨gp, 0, none⟩) ∧ s15 = .bool true ∧ Hid (Vs ID gi PK gp w wx) ∧ Hid (gi < gp))
    case first =>
      refine wp_region_held (S := fun w' => Hid (Vi ID gi w w')) (by kernel_rfl) ?_
      change wpAnyH _ _ _ _ _ _ _ _ w2.drew
      have Gx0 : Hid (Vi ID gi w w2.drew) := GV.out.drew
      have HBx0 : Below w2.heap.size w2 w2.drew := (Below.refl _ _).drew
      clear HBx0
      generalize w2.drew = x0 at Gx0  ⊢
      refine wpAnyH_take (i := 0) (oi := { dst := some 91, op := _, type := _, pos := _, after := _, guard := _ }) (v := .agg ((u8s ID).toArray)) rfl (by kernel_rfl) (by kernel_rfl) (by kernel_rfl) (fun _ _ _ h => h) (yieldsIf_load_mid (cs := u8s ID) (by rfl) _ _ rfl _ _ rfl _ (fun w' hSw => (blk_row (Hid.out hSw).bi)) Tryd.underlying23 rfl IDI.out) (by assumption) ?_
      try simp only [Act.put, List.setIfInBounds_toArray, List.set_cons_zero, List.set_cons_succ]
      refine wpAnyH_take (i := 1) (oi := { dst := some 92, op := _, type := _, pos := _, after := _, guard := _ }) (v := ?_) rfl (by kernel_rfl) (by kernel_rfl) (by kernel_rfl) (fun _ _ _ h => h) (Or.inl ⟨by kernel_rfl, ?_⟩) (by assumption) ?_
      rotate_left
      · (intro w hSw; go_simp; try with_reducible rfl)
      try simp only [Act.put, List.setIfInBounds_toArray, List.set_cons_zero, List.set_cons_succ]
      refine wpAnyH_take (i := 2) (oi := { dst := some 93, op := _, type := _, pos := _, after := _, guard := _ }) (v := ?_) rfl (by kernel_rfl) (by kernel_rfl) (by kernel_rfl) (fun _ _ _ h => h) (Or.inl ⟨by kernel_rfl, ?_⟩) (by assumption) ?_
      rotate_left
      · (intro w hSw; go_simp; try with_reducible rfl)
      try simp only [Act.put, List.setIfInBounds_toArray, List.set_cons_zero, List.set_cons_succ]
      refine wpAnyH_take (i := 3) (oi := { dst := some 94, op := _, type := _, pos := _, after := _, guard := _ }) (v := ?_) rfl (by kernel_rfl) (by kernel_rfl) (by kernel_rfl) (fun _ _ _ h => h) (Or.inl ⟨by kernel_rfl, ?_⟩) (by assumption) ?_
      rotate_left
      · (intro w hSw; go_simp; try with_reducible rfl)
      try simp only [Act.put, List.setIfInBounds_toArray, List.set_cons_zero, List.set_cons_succ]
      refine wpAnyH_take (i := 4) (oi := { dst := some 95, op := _, type := _, pos := _, after := _, guard := _ }) (v := ?_) rfl (by kernel_rfl) (by kernel_rfl) (by kernel_rfl) (fun _ _ _ h => h) (Or.inl ⟨by kernel_rfl, ?_⟩) (by assumption) ?_
      rotate_left
      · (intro w hSw; go_simp; try with_reducible rfl)
      try simp only [Act.put, List.setIfInBounds_toArray, List.set_cons_zero, List.set_cons_succ]
      refine wpAnyH_take (i := 5) (oi := { dst := some 96, op := _, type := _, pos := _, after := _, guard := _ }) (v := ?_) rfl (by kernel_rfl) (by kernel_rfl) (by kernel_rfl) (fun _ _ _ h => h) (Or.inl ⟨by kernel_rfl, ?_⟩) (by assumption) ?_
      rotate_left
      · (intro w hSw; go_simp; try with_reducible rfl)
      try simp only [Act.put, List.setIfInBounds_toArray, List.set_cons_zero, List.set_cons_succ]
      refine wpAnyH_take (i := 6) (oi := { dst := some 97, op := _, type := _, pos := _, after := _, guard := _ }) (v := ?_) rfl (by kernel_rfl) (by kernel_rfl) (by kernel_rfl) (fun _ _ _ h => h) (Or.inl ⟨by kernel_rfl, ?_⟩) (by assumption) ?_
      rotate_left
      · (intro w hSw; go_simp; try with_reducible rfl)
      try simp only [Act.put, List.setIfInBounds_toArray, List.set_cons_zero, List.set_cons_succ]
      refine wpAnyH_take (i := 7) (oi := { dst := some 98, op := _, type := _, pos := _, after := _, guard := _ }) (v := .slice (some ⟨sb, so + 4, none⟩) ks (c2 - 4)) rfl (by kernel_rfl) (by kernel_rfl) (by kernel_rfl) (fun _ _ _ h => h) (Or.inl ⟨by kernel_rfl, ?_⟩) (by assumption) ?_
      · (intro w hSw; have hcks : 4 + ks ≤ c2 := (by have := C2.out; have := KS4.out; omega); have hc24 : ¬ c2 = 4 := (by have := C2.out; have := KS4.out; omega); go_simp; rw [if_pos ⟨by omega, by omega⟩, if_pos (by omega), show (4 + (ks : Int)).toNat - 4 = ks by omega])
      try simp only [Act.put, List.setIfInBounds_toArray, List.set_cons_zero, List.set_cons_succ]
      refine wpAnyH_ready (rs := [8, 12]) (by kernel_rfl) (by simp) ?_
      refine (AllReadyH.cons (o := { dst := some 99, op := _, type := _, pos := _, after := _, guard := _ }) rfl (fun Qc hQc => ?_) (AllReadyH.cons (o := { dst := some 14, op := _, type := _, pos := _, after := _, guard := _ }) rfl (fun Qc hQc => ?_) AllReadyH.nil))
      ·
        go_simp
        go_at_call 58; refine (CRC.out _ _ (by have := C2.out; have := KS4.out; omega) Gx0.out.bl).mono ?_; rintro e x1 ⟨rfl, hbx1⟩
        have Gx1 := hid (Gx0.out.below hbx1)
        clear hbx1
        go_wp2_with fail
        refine hQc.out _ _ Gx1 (fun hHeld => ?_)
        clear hQc Qc Gx0
        try simp only [Act.put, List.setIfInBounds_toArray, List.set_cons_zero, List.set_cons_succ]
        refine wpAnyH_take (i := 9) (oi := { dst := some 90, op := _, type := _, pos := _, after := _, guard := _ }) (v := ?_) rfl (by kernel_rfl) (by kernel_rfl) (by kernel_rfl) (fun _ _ _ h => h) (Or.inl ⟨by kernel_rfl, ?_⟩) (by assumption) ?_
        rotate_left
        · (intro w hSw; go_simp; try with_reducible rfl)
        try simp only [Act.put, List.setIfInBounds_toArray, List.set_cons_zero, List.set_cons_succ]
        refine wpAnyH_take (i := 10) (oi := { dst := some 100, op := _, type := _, pos := _, after := _, guard := _ }) (v := ?_) rfl (by kernel_rfl) (by kernel_rfl) (by kernel_rfl) (fun _ _ _ h => h) (Or.inl ⟨by kernel_rfl, ?_⟩) (by assumption) ?_
        rotate_left
        · (intro w hSw; go_simp; try with_reducible rfl)
        try simp only [Act.put, List.setIfInBounds_toArray, List.set_cons_zero, List.set_cons_succ]
        refine wpAnyH_take (i := 11) (oi := { dst := some 101, op := _, type := _, pos := _, after := _, guard := _ }) (v := ?_) rfl (by kernel_rfl) (by kernel_rfl) (by kernel_rfl) (fun _ _ _ h => h) (Or.inl ⟨by kernel_rfl, ?_⟩) (by assumption) ?_
        rotate_left
        · (intro w hSw; go_simp; try with_reducible rfl)
        try simp only [Act.put, List.setIfInBounds_toArray, List.set_cons_zero, List.set_cons_succ]
        refine wpAnyH_ready (rs := [12]) (by kernel_rfl) (by simp) ?_
        refine (AllReadyH.cons (o := { dst := some 14, op := _, type := _, pos := _, after := _, guard := _ }) rfl (fun Qc hQc => ?_) AllReadyH.nil)
        go_simp
        have Gx2 := hid (Gx1.out.alloc (.cells Z 26))
        have HBx2 : Below x1.heap.size x1 (x1.alloc (.cells Z 26)) := (Below.refl _ _).alloc (Nat.le_refl _) _
        have A := hid (Blk.new x1 26 Z)
        have LE : Hid (gi < x1.heap.size) := Gx1.out.bi.lt
        clear HBx2
        refine hQc.out _ _ Gx2 (fun hHeld => ?_)
        clear hQc Qc Gx1
        generalize hgx2 : x1.heap.size = gp at A LE  ⊢
        generalize x1.alloc (.cells Z 26) = x2 at Gx2 A  hHeld ⊢
        clear hgx2
        try simp only [Act.put, List.setIfInBounds_toArray, List.set_cons_zero, List.set_cons_succ]
        refine wpAnyH_ready (rs := [13]) (by kernel_rfl) (by simp) ?_
        refine (AllReadyH.cons (o := { dst := none, op := _, type := _, pos := _, after := _, guard := _ }) rfl (fun Qc hQc => ?_) AllReadyH.nil)
        rw [if_pos (by rfl)]
        refine wp_store_row 26 (.tmp 14) (.tmp 100) rfl (gp) (u8s PK).toArray rfl rfl 26 Z A.out PKI.out PKZ.out (u8s_all PK) ?_
        have Gx3 := hid (Gx2.out.row (g := gp) (by have := LE.out; omega) (by have := LE.out; have := WLG.out; omega) (u8s PK).toArray)
        have KWx3 := hid ((A.out).row (u8s PK).toArray)
        refine hQc.out _ _ Gx3 (fun hHeld => ?_)
        clear hQc Qc Gx2
        generalize x2.setRow (gp) (u8s PK).toArray = x3 at Gx3 KWx3 hHeld ⊢
        try simp only [Act.put, List.setIfInBounds_toArray, List.set_cons_zero, List.set_cons_succ]
        refine wpAnyH_take (i := 14) (oi := { dst := some 15, op := _, type := _, pos := _, after := _, guard := _ }) (v := ?_) rfl (by kernel_rfl) (by kernel_rfl) (by kernel_rfl) (fun _ _ _ h => h) (Or.inl ⟨by kernel_rfl, ?_⟩) (by assumption) ?_
        rotate_left
        · (intro w hSw; go_simp; try with_reducible rfl)
        try simp only [Act.put, List.setIfInBounds_toArray, List.set_cons_zero, List.set_cons_succ]
        refine wpAnyH_done (by kernel_rfl) ?_ _
        try simp only [Act.put, List.setIfInBounds_toArray, List.set_cons_zero, List.set_cons_succ]
        go_wp2
        go_meet
        exact ⟨gp, rfl, rfl, ⟨Gx3.out.bi, KWx3.out, Gx3.out.bl⟩, LE⟩
      ·
        go_simp
        have Gx4 := hid (Gx0.out.alloc (.cells Z 26))
        have HBx4 : Below x0.heap.size x0 (x0.alloc (.cells Z 26)) := (Below.refl _ _).alloc (Nat.le_refl _) _
        have A := hid (Blk.new x0 26 Z)
        have LE : Hid (gi < x0.heap.size) := Gx0.out.bi.lt
        clear HBx4
        refine hQc.out _ _ Gx4 (fun hHeld => ?_)
        clear hQc Qc Gx0
        generalize hgx4 : x0.heap.size = gp at A LE  ⊢
        generalize x0.alloc (.cells Z 26) = x4 at Gx4 A  hHeld ⊢
        clear hgx4
        try simp only [Act.put, List.setIfInBounds_toArray, List.set_cons_zero, List.set_cons_succ]
        refine wpAnyH_ready (rs := [8]) (by kernel_rfl) (by simp) ?_
        refine (AllReadyH.cons (o := { dst := some 99, op := _, type := _, pos := _, after := _, guard := _ }) rfl (fun Qc hQc => ?_) AllReadyH.nil)
        go_simp
        go_at_call 58; refine (CRC.out _ _ (by have := C2.out; have := KS4.out; omega) Gx4.out.bl).mono ?_; rintro e x5 ⟨rfl, hbx5⟩
        have Gx5 := hid (Gx4.out.below hbx5)
        have A := hid (A.out.below hbx5)
        clear hbx5
        go_wp2_with fail
        refine hQc.out _ _ Gx5 (fun hHeld => ?_)
        clear hQc Qc Gx4
        try simp only [Act.put, List.setIfInBounds_toArray, List.set_cons_zero, List.set_cons_succ]
        refine wpAnyH_take (i := 9) (oi := { dst := some 90, op := _, type := _, pos := _, after := _, guard := _ }) (v := ?_) rfl (by kernel_rfl) (by kernel_rfl) (by kernel_rfl) (fun _ _ _ h => h) (Or.inl ⟨by kernel_rfl, ?_⟩) (by assumption) ?_
        rotate_left
        · (intro w hSw; go_simp; try with_reducible rfl)
        try simp only [Act.put, List.setIfInBounds_toArray, List.set_cons_zero, List.set_cons_succ]
        refine wpAnyH_take (i := 10) (oi := { dst := some 100, op := _, type := _, pos := _, after := _, guard := _ }) (v := ?_) rfl (by kernel_rfl) (by kernel_rfl) (by kernel_rfl) (fun _ _ _ h => h) (Or.inl ⟨by kernel_rfl, ?_⟩) (by assumption) ?_
        rotate_left
        · (intro w hSw; go_simp; try with_reducible rfl)
        try simp only [Act.put, List.setIfInBounds_toArray, List.set_cons_zero, List.set_cons_succ]
        refine wpAnyH_take (i := 11) (oi := { dst := some 101, op := _, type := _, pos := _, after := _, guard := _ }) (v := ?_) rfl (by kernel_rfl) (by kernel_rfl) (by kernel_rfl) (fun _ _ _ h => h) (Or.inl ⟨by kernel_rfl, ?_⟩) (by assumption) ?_
        rotate_left
        · (intro w hSw; go_simp; try with_reducible rfl)
        try simp only [Act.put, List.setIfInBounds_toArray, List.set_cons_zero, List.set_cons_succ]
        refine wpAnyH_ready (rs := [13]) (by kernel_rfl) (by simp) ?_
        refine (AllReadyH.cons (o := { dst := none, op := _, type := _, pos := _, after := _, guard := _ }) rfl (fun Qc hQc => ?_) AllReadyH.nil)
        rw [if_pos (by rfl)]
        refine wp_store_row 26 (.tmp 14) (.tmp 100) rfl (gp) (u8s PK).toArray rfl rfl 26 Z A.out PKI.out PKZ.out (u8s_all PK) ?_
        have Gx6 := hid (Gx5.out.row (g := gp) (by have := LE.out; omega) (by have := LE.out; have := WLG.out; omega) (u8s PK).toArray)
        have KWx6 := hid ((A.out).row (u8s PK).toArray)
        refine hQc.out _ _ Gx6 (fun hHeld => ?_)
        clear hQc Qc Gx5
        generalize x5.setRow (gp) (u8s PK).toArray = x6 at Gx6 KWx6 hHeld ⊢
        try simp only [Act.put, List.setIfInBounds_toArray, List.set_cons_zero, List.set_cons_succ]
        refine wpAnyH_take (i := 14) (oi := { dst := some 15, op := _, type := _, pos := _, after := _, guard := _ }) (v := ?_) rfl (by kernel_rfl) (by kernel_rfl) (by kernel_rfl) (fun _ _ _ h => h) (Or.inl ⟨by kernel_rfl, ?_⟩) (by assumption) ?_
        rotate_left
        · (intro w hSw; go_simp; try with_reducible rfl)
        try simp only [Act.put, List.setIfInBounds_toArray, List.set_cons_zero, List.set_cons_succ]
        refine wpAnyH_done (by kernel_rfl) ?_ _
        try simp only [Act.put, List.setIfInBounds_toArray, List.set_cons_zero, List.set_cons_succ]
        go_wp2
        go_meet
        exact ⟨gp, rfl, rfl, ⟨Gx6.out.bi, KWx6.out, Gx6.out.bl⟩, LE⟩
    case rest =>
    obtain ⟨gp, rfl, rfl, GS, LEP⟩ := hcut
    generalize wc = w3 at GS ⊢
    clear GV CRC PKI PKZ
    go_upto_region 14 with (go_at_call 55; refine (CK.out _).mono ?_; rintro e wq ⟨rfl, rfl⟩)
    go_cut [17] (fun s17 wx => ∃ gh, s17 = .pointer (some ⟨gh, 0, none⟩) ∧ Hid (Blk wx gi 23 (u8s ID).toArray) ∧ Hid (Blk wx gh 26 (u8s (clm ID 0 (K + qn) LF PA)).toArray) ∧ Hid (Below w.heap.size w wx) ∧ Hid (gi < gh))
    case first =>
      refine wp_region_held (S := fun w' => Hid (Vs ID gi PK gp w w')) (by kernel_rfl) ?_
      change wpAnyH _ _ _ _ _ _ _ _ w3.drew
      have Gx0 : Hid (Vs ID gi PK gp w w3.drew) := GS.out.drew
      have HBx0 : Below w3.heap.size w3 w3.drew := (Below.refl _ _).drew
      clear HBx0
      generalize w3.drew = x0 at Gx0  ⊢
      refine wpAnyH_take (i := 0) (oi := { dst := some 108, op := _, type := _, pos := _, after := _, guard := _ }) (v := .agg ((u8s ID).toArray)) rfl (by kernel_rfl) (by kernel_rfl) (by kernel_rfl) (fun _ _ _ h => h) (yieldsIf_load_mid (cs := u8s ID) (by rfl) _ _ rfl _ _ rfl _ (fun w' hSw => (blk_row (Hid.out hSw).bi)) Tryd.underlying23 rfl IDI.out) (by assumption) ?_
      try simp only [Act.put, List.setIfInBounds_toArray, List.set_cons_zero, List.set_cons_succ]
      refine wpAnyH_take (i := 1) (oi := { dst := some 109, op := _, type := _, pos := _, after := _, guard := _ }) (v := ?_) rfl (by kernel_rfl) (by kernel_rfl) (by kernel_rfl) (fun _ _ _ h => h) (Or.inl ⟨by kernel_rfl, ?_⟩) (by assumption) ?_
      rotate_left
      · (intro w hSw; go_simp; try with_reducible rfl)
      try simp only [Act.put, List.setIfInBounds_toArray, List.set_cons_zero, List.set_cons_succ]
      refine wpAnyH_take (i := 2) (oi := { dst := some 110, op := _, type := _, pos := _, after := _, guard := _ }) (v := ?_) rfl (by kernel_rfl) (by kernel_rfl) (by kernel_rfl) (fun _ _ _ h => h) (Or.inl ⟨by kernel_rfl, ?_⟩) (by assumption) ?_
      rotate_left
      · (intro w hSw; go_simp; try with_reducible rfl)
      try simp only [Act.put, List.setIfInBounds_toArray, List.set_cons_zero, List.set_cons_succ]
      refine wpAnyH_ready (rs := [3, 4]) (by kernel_rfl) (by simp) ?_
      refine (AllReadyH.cons (o := { dst := some 111, op := _, type := _, pos := _, after := _, guard := _ }) rfl (fun Qc hQc => ?_) (AllReadyH.cons (o := { dst := some 17, op := _, type := _, pos := _, after := _, guard := _ }) rfl (fun Qc hQc => ?_) AllReadyH.nil))
      ·
        go_simp
        go_at_call 59; refine (CNL.out gp _ Gx0.out.bo).mono ?_; rintro e x1 ⟨rfl, hbx1⟩
        have Gx1 := hid (Gx0.out.below hbx1)
        clear hbx1
        go_wp2_with fail
        refine hQc.out _ _ Gx1 (fun hHeld => ?_)
        clear hQc Qc Gx0
        try simp only [Act.put, List.setIfInBounds_toArray, List.set_cons_zero, List.set_cons_succ]
        refine wpAnyH_ready (rs := [4]) (by kernel_rfl) (by simp) ?_
        refine (AllReadyH.cons (o := { dst := some 17, op := _, type := _, pos := _, after := _, guard := _ }) rfl (fun Qc hQc => ?_) AllReadyH.nil)
        go_simp
        have Gx2 := hid (Gx1.out.alloc (.cells Z 26))
        have HBx2 : Below x1.heap.size x1 (x1.alloc (.cells Z 26)) := (Below.refl _ _).alloc (Nat.le_refl _) _
        have A := hid (Blk.new x1 26 Z)
        have LE : Hid (gp < x1.heap.size) := Gx1.out.bo.lt
        clear HBx2
        refine hQc.out _ _ Gx2 (fun hHeld => ?_)
        clear hQc Qc Gx1
        generalize hgx2 : x1.heap.size = gh at A LE  ⊢
        generalize x1.alloc (.cells Z 26) = x2 at Gx2 A  hHeld ⊢
        clear hgx2
        try simp only [Act.put, List.setIfInBounds_toArray, List.set_cons_zero, List.set_cons_succ]
        refine wpAnyH_ready (rs := [5]) (by kernel_rfl) (by simp) ?_
        refine (AllReadyH.cons (o := { dst := none, op := _, type := _, pos := _, after := _, guard := _ }) rfl (fun Qc hQc => ?_) AllReadyH.nil)
        rw [if_pos (by rfl)]
        refine wp_store_row 26 (.tmp 17) (.tmp 111) rfl (gh) (u8s LF).toArray rfl rfl 26 Z A.out LFI.out LFZ.out (u8s_all LF) ?_
        have Gx3 := hid (Gx2.out.row (g := gh) (by have := LE.out; have := LEP.out; omega) (by have := LE.out; omega) (by have := LE.out; have := LEP.out; have := WLG.out; omega) (u8s LF).toArray)
        have KWx3 := hid ((A.out).row (u8s LF).toArray)
        refine hQc.out _ _ Gx3 (fun hHeld => ?_)
        clear hQc Qc Gx2
        generalize x2.setRow (gh) (u8s LF).toArray = x3 at Gx3 KWx3 hHeld ⊢
        try simp only [Act.put, List.setIfInBounds_toArray, List.set_cons_zero, List.set_cons_succ]
        refine wpAnyH_done (by kernel_rfl) ?_ _
        try simp only [Act.put, List.setIfInBounds_toArray, List.set_cons_zero, List.set_cons_succ]
        go_wp2
        go_meet
        exact ⟨gh, rfl, Gx3.out.bi, KWx3.out, Gx3.out.bl, Nat.lt_trans LEP.out LE.out⟩
      ·
        go_simp
        have Gx4 := hid (Gx0.out.alloc (.cells Z 26))
        have HBx4 : Below x0.heap.size x0 (x0.alloc (.cells Z 26)) := (Below.refl _ _).alloc (Nat.le_refl _) _
        have A := hid (Blk.new x0 26 Z)
        have LE : Hid (gp < x0.heap.size) := Gx0.out.bo.lt
        clear HBx4
        refine hQc.out _ _ Gx4 (fun hHeld => ?_)
        clear hQc Qc Gx0
        generalize hgx4 : x0.heap.size = gh at A LE  ⊢
        generalize x0.alloc (.cells Z 26) = x4 at Gx4 A  hHeld ⊢
        clear hgx4
        try simp only [Act.put, List.setIfInBounds_toArray, List.set_cons_zero, List.set_cons_succ]
        refine wpAnyH_ready (rs := [3]) (by kernel_rfl) (by simp) ?_
        refine (AllReadyH.cons (o := { dst := some 111, op := _, type := _, pos := _, after := _, guard := _ }) rfl (fun Qc hQc => ?_) AllReadyH.nil)
        go_simp
        go_at_call 59; refine (CNL.out gp _ Gx4.out.bo).mono ?_; rintro e x5 ⟨rfl, hbx5⟩
        have Gx5 := hid (Gx4.out.below hbx5)
        have A := hid (A.out.below hbx5)
        clear hbx5
        go_wp2_with fail
        refine hQc.out _ _ Gx5 (fun hHeld => ?_)
        clear hQc Qc Gx4
        try simp only [Act.put, List.setIfInBounds_toArray, List.set_cons_zero, List.set_cons_succ]
        refine wpAnyH_ready (rs := [5]) (by kernel_rfl) (by simp) ?_
        refine (AllReadyH.cons (o := { dst := none, op := _, type := _, pos := _, after := _, guard := _ }) rfl (fun Qc hQc => ?_) AllReadyH.nil)
        rw [if_pos (by rfl)]
        refine wp_store_row 26 (.tmp 17) (.tmp 111) rfl (gh) (u8s LF).toArray rfl rfl 26 Z A.out LFI.out LFZ.out (u8s_all LF) ?_
        have Gx6 := hid (Gx5.out.row (g := gh) (by have := LE.out; have := LEP.out; omega) (by have := LE.out; omega) (by have := LE.out; have := LEP.out; have := WLG.out; omega) (u8s LF).toArray)
        have KWx6 := hid ((A.out).row (u8s LF).toArray)
        refine hQc.out _ _ Gx6 (fun hHeld => ?_)
        clear hQc Qc Gx5
        generalize x5.setRow (gh) (u8s LF).toArray = x6 at Gx6 KWx6 hHeld ⊢
        try simp only [Act.put, List.setIfInBounds_toArray, List.set_cons_zero, List.set_cons_succ]
        refine wpAnyH_done (by kernel_rfl) ?_ _
        try simp only [Act.put, List.setIfInBounds_toArray, List.set_cons_zero, List.set_cons_succ]
        go_wp2
        go_meet
        exact ⟨gh, rfl, Gx6.out.bi, KWx6.out, Gx6.out.bl, Nat.lt_trans LEP.out LE.out⟩
    case rest =>
    obtain ⟨gh, rfl, B1, B2, B3, LGH⟩ := hcut
    generalize wc = w4 at B1 B2 B3 ⊢
    clear GS LEP CNL LFI LFZ
    go_wp2_with fail
    go_loopw [16, 18] (fun rv i wr => ∃ j : Nat, j ≤ xx.toNat ∧ i = .int .i64 j ∧ rv = .int .i64 (((K + qn) / 2 ^ j : Nat) : Int) ∧ Hid (Blk wr gi 23 (u8s ID).toArray) ∧ Hid (Blk wr gh 26 (u8s (clm ID j (K + qn) LF PA)).toArray) ∧ Hid (Below w.heap.size w wr)) (fun _ i _ => xx.toNat - (intOf i).toNat)
    case atStart => exact ⟨0, Nat.zero_le _, rfl, by simp, B1.out, B2.out, B3.out⟩
    case round =>
      obtain ⟨j, hj, rfl, rfl, D1, D2, D3⟩ := hrel
      clear B1 B2 B3
      by_cases hlt : j < xx.toNat
      · have hji : (j : Int) < xx := by omega
        have hu := HUP.out j hj
        have HSN := hid (clm_snoc ID j (K + qn) LF PA)
        have HDV : Hid ((K + qn) / 2 ^ (j + 1) = (K + qn) / 2 ^ j / 2) := by show _ = _; rw [Nat.div_div_eq_div_mul]; congr 1
        obtain ⟨r, hr⟩ : ∃ r, r = (K + qn) / 2 ^ j := ⟨_, rfl⟩
        rw [← hr] at hu HSN HDV
        rw [← hr]
        have hrb : 1 ≤ r ∧ r < 40 := by have := hu.2; omega
        clear hr
        have hck := clm_ky ID j (K + qn) LF PA HLF.out
        obtain ⟨H, hH⟩ : ∃ H, H = clm ID j (K + qn) LF PA := ⟨_, rfl⟩
        rw [← hH] at D2 HSN hck
        obtain ⟨O, hO⟩ : ∃ O, O = (PA.drop (32 * j)).take 32 := ⟨_, rfl⟩
        have hok : Ky O := by rw [hO]; exact HPAK.out j hlt
        have HOR : Hid (∀ w1, Below w.heap.size w w1 → w1.rangeAt sb (so + (8 + ks + 32 * j)) (u8s O)) := fun w1 hb => by rw [hO]; exact HPAR.out j w1 hlt hb
        rw [← hO] at HSN
        have HNK := under_ky ID ((r / 2 : Nat) : Int) 33667 (if r % 2 = 0 then H ++ O else O ++ H)
        have HUE : Hid (upn ID r H O = under ID ((r / 2 : Nat) : Int) 33667 (if r % 2 = 0 then H ++ O else O ++ H)) := rfl
        rw [HUE.out] at HSN
        have hw1 : IntKind.i64.wrap (32 * (j : Int)) = 32 * (j : Int) := IntWalk.i64_in _ (by omega)
        have hw2 : IntKind.i64.wrap (8 + (ks : Int) + 32 * (j : Int)) = 8 + (ks : Int) + 32 * (j : Int) := IntWalk.i64_in _ (by omega)
        have hw3 : IntKind.i64.wrap (40 + (ks : Int)) = 40 + (ks : Int) := IntWalk.i64_in _ (by omega)
        have hw4' : IntKind.i64.wrap (40 + (ks : Int) + 32 * (j : Int)) = 40 + (ks : Int) + 32 * (j : Int) := IntWalk.i64_in _ (by omega)
        have OI := hid (info_hash O hok.len); have OZ : Hid (Z.size = (u8s O).toArray.size) := HZ32.out.trans (hash_size hok.len).symm
        have OL := hid (hash_info hok.len); have HLI := hid (hash_info hck.len)
        have hjks : 8 + ks + 32 * j + 32 ≤ n2 := by have := KS4.out; omega
        by_cases hm : r % 2 = 0
        · have hmi : (((r : Int) % 2) == 0) = true := by rw [beq_iff_eq]; omega
          rw [if_pos hm] at HSN HNK HUE
          have CT := hid (fun w1 => two_any H O w1 hck hok)
          have hbs := bs_append hck.bs hok.bs
          have hln : (H ++ O).length = 64 := by rw [List.length_append, hck.len, hok.len]
          have CN : Hid (∀ A c w1, Rp w1 none A (H ++ O) → Calls Tryd.prog 59 #[.agg (u8s ID).toArray, .int .i64 ((r : Int) / 2), .int .i64 33667, .slice A 64 c] w1 fun e w' => e = .returned (.agg (u8s (under ID ((r / 2 : Nat) : Int) 33667 (H ++ O))).toArray) ∧ Below w1.heap.size w1 w') := fun A c w1 hr => by
            rw [show (r : Int) / 2 = ((r / 2 : Nat) : Int) by omega]
            exact tNode_any ID _ 33667 A 64 c (H ++ O) w1 HIDN.out (by omega) (by decide) hln.symm hr hbs (by rw [hln]; decide)
          generalize under ID ((r / 2 : Nat) : Int) 33667 (H ++ O) = NN at CN HSN HNK
          have NI := hid (info_hash NN HNK.len); have NZ : Hid ((u8s H).toArray.size = (u8s NN).toArray.size) := (hash_size hck.len).trans (hash_size HNK.len).symm
          clear hbs hln HNK hck hok hO hH HUE
          have htd2 : (r : Int).tdiv 2 = (r : Int) / 2 := Int.tdiv_eq_ediv_of_nonneg (by omega)
          have hwq2 : IntKind.i64.wrap ((r : Int) / 2) = (r : Int) / 2 := IntWalk.i64_in _ (by omega)
          go_wp2_with (first
            | (refine cut_at rfl (.tmp 117) (.tmp 122) (.tmp 127) rfl sb so n2 c2 (8 + ks + 32 * j) (40 + ks + 32 * j) 32 (8 + (ks : Int) + 32 * (j : Int)) (40 + (ks : Int) + 32 * (j : Int)) rfl rfl rfl (by omega) (by omega) (by omega) (by have := C2.out; omega) (by have := C2.out; omega) ?_)
            | (refine load_at rfl 26 (.tmp 129) rfl sb (so + (8 + ks + 32 * j)) rfl (u8s O) _ (HOR.out _ D3.out) Tryd.underlying26 rfl OL.out (u8s O).toArray rfl ?_)
            | (refine wpList_store_row rfl 26 (.tmp 19) (.tmp 130) rfl wr.heap.size (u8s O).toArray rfl rfl 26 Z (Blk.new wr 26 Z) OI.out OZ.out (u8s_all O) ?_; have hbb : Below wr.heap.size wr ((wr.alloc (.cells Z 26)).setRow wr.heap.size (u8s O).toArray) := below_setRow ((Below.refl _ _).alloc (Nat.le_refl _) _) (Nat.le_refl _) _; have E2 := hid (D2.out.below hbb); have GS : Hid (Vs ID gi O wr.heap.size w ((wr.alloc (.cells Z 26)).setRow wr.heap.size (u8s O).toArray)) := ⟨D1.out.below hbb, (Blk.new wr 26 Z).row _, D3.out.trans (hbb.mono D3.out.size)⟩; have LGO : Hid (gh < wr.heap.size) := D2.out.lt; clear hbb; generalize (wr.alloc (.cells Z 26)).setRow wr.heap.size (u8s O).toArray = w5 at E2 GS ⊢; generalize wr.heap.size = go at GS LGO ⊢))
          refine wp_region_held (S := fun w' => Hid (Vs ID gi O go w w')) (by kernel_rfl) ?_
          change wpAnyH _ _ _ _ _ _ _ _ w5.drew
          have Gx0 : Hid (Vs ID gi O go w w5.drew) := GS.out.drew
          have HBx0 : Below w5.heap.size w5 w5.drew := (Below.refl _ _).drew
          have E2 := hid (E2.out.below HBx0)
          clear HBx0
          generalize w5.drew = x0 at Gx0 E2 ⊢
          refine wpAnyH_take (i := 0) (oi := { dst := some 134, op := _, type := _, pos := _, after := _, guard := _ }) (v := .agg ((u8s ID).toArray)) rfl (by kernel_rfl) (by kernel_rfl) (by kernel_rfl) (fun _ _ _ h => h) (yieldsIf_load_mid (cs := u8s ID) (by rfl) _ _ rfl _ _ rfl _ (fun w' hSw => (blk_row (Hid.out hSw).bi)) Tryd.underlying23 rfl IDI.out) (by assumption) ?_
          try simp only [Act.put, List.setIfInBounds_toArray, List.set_cons_zero, List.set_cons_succ]
          refine wpAnyH_take (i := 1) (oi := { dst := some 135, op := _, type := _, pos := _, after := _, guard := _ }) (v := ?_) rfl (by kernel_rfl) (by kernel_rfl) (by kernel_rfl) (fun _ _ _ h => h) (Or.inl ⟨by kernel_rfl, ?_⟩) (by assumption) ?_
          rotate_left
          · (intro w hSw; go_simp; try with_reducible rfl)
          try simp only [Act.put, List.setIfInBounds_toArray, List.set_cons_zero, List.set_cons_succ]
          refine wpAnyH_take (i := 2) (oi := { dst := some 136, op := _, type := _, pos := _, after := _, guard := _ }) (v := ?_) rfl (by kernel_rfl) (by kernel_rfl) (by kernel_rfl) (fun _ _ _ h => h) (Or.inl ⟨by kernel_rfl, ?_⟩) (by assumption) ?_
          rotate_left
          · (intro w hSw; go_simp; try with_reducible rfl)
          try simp only [Act.put, List.setIfInBounds_toArray, List.set_cons_zero, List.set_cons_succ]
          refine wpAnyH_take (i := 4) (oi := { dst := some 138, op := _, type := _, pos := _, after := _, guard := _ }) (v := .agg ((u8s O).toArray)) rfl (by kernel_rfl) (by kernel_rfl) (by kernel_rfl) (fun _ _ _ h => h) (yieldsIf_load_mid (cs := u8s O) (by rfl) _ _ rfl _ _ rfl _ (fun w' hSw => (blk_row (Hid.out hSw).bo)) Tryd.underlying26 rfl OL.out) (by assumption) ?_
          try simp only [Act.put, List.setIfInBounds_toArray, List.set_cons_zero, List.set_cons_succ]
          refine wpAnyH_ready (rs := [3]) (by kernel_rfl) (by simp) ?_
          refine (AllReadyH.cons (o := { dst := some 137, op := _, type := _, pos := _, after := _, guard := _ }) rfl (fun Qc hQc => ?_) AllReadyH.nil)
          rw [if_pos (by rfl)]
          refine wp_load_mid 26 (.tmp 17) rfl gh 0 rfl (u8s H) _ (blk_row E2.out) Tryd.underlying26 rfl HLI.out ?_
          refine hQc.out _ _ Gx0 (fun hHeld => ?_)
          clear hQc Qc
          try simp only [Act.put, List.setIfInBounds_toArray, List.set_cons_zero, List.set_cons_succ]
          refine wpAnyH_ready (rs := [5]) (by kernel_rfl) (by simp) ?_
          refine (AllReadyH.cons (o := { dst := some 139, op := _, type := _, pos := _, after := _, guard := _ }) rfl (fun Qc hQc => ?_) AllReadyH.nil)
          go_simp
          go_at_call 60; refine (CT.out _).mono ?_; rintro e x2 ⟨A5, c5, rfl, hr5, hbx2⟩; have R5 := hid hr5; clear hr5
          have Gx2 := hid (Gx0.out.below hbx2)
          have E2 := hid (E2.out.below hbx2)
          clear hbx2
          go_wp2_with fail
          refine hQc.out _ _ Gx2 (fun hHeld => ?_)
          clear hQc Qc Gx0
          try simp only [Act.put, List.setIfInBounds_toArray, List.set_cons_zero, List.set_cons_succ]
          refine wpAnyH_ready (rs := [6]) (by kernel_rfl) (by simp) ?_
          refine (AllReadyH.cons (o := { dst := some 140, op := _, type := _, pos := _, after := _, guard := _ }) rfl (fun Qc hQc => ?_) AllReadyH.nil)
          go_simp
          go_at_call 59; refine (CN.out _ _ _ R5.out).mono ?_; rintro e x3 ⟨rfl, hbx3⟩
          have Gx3 := hid (Gx2.out.below hbx3)
          have E2 := hid (E2.out.below hbx3)
          clear hbx3
          go_wp2_with fail
          refine hQc.out _ _ Gx3 (fun hHeld => ?_)
          clear hQc Qc Gx2
          try simp only [Act.put, List.setIfInBounds_toArray, List.set_cons_zero, List.set_cons_succ]
          refine wpAnyH_ready (rs := [7]) (by kernel_rfl) (by simp) ?_
          refine (AllReadyH.cons (o := { dst := none, op := _, type := _, pos := _, after := _, guard := _ }) rfl (fun Qc hQc => ?_) AllReadyH.nil)
          rw [if_pos (by rfl)]
          refine wp_store_row 26 (.tmp 17) (.tmp 140) rfl (gh) (u8s NN).toArray rfl rfl 26 (u8s H).toArray E2.out NI.out NZ.out (u8s_all NN) ?_
          have Gx4 := hid (Gx3.out.row (g := gh) (by have := LGH.out; omega) (by have := LGO.out; omega) (by have := LGH.out; have := WLG.out; omega) (u8s NN).toArray)
          have KWx4 := hid ((E2.out).row (u8s NN).toArray)
          refine hQc.out _ _ Gx4 (fun hHeld => ?_)
          clear hQc Qc Gx3
          generalize x3.setRow (gh) (u8s NN).toArray = x4 at Gx4 KWx4 hHeld ⊢
          try simp only [Act.put, List.setIfInBounds_toArray, List.set_cons_zero, List.set_cons_succ]
          refine wpAnyH_done (by kernel_rfl) ?_ _
          try simp only [Act.put, List.setIfInBounds_toArray, List.set_cons_zero, List.set_cons_succ]
          go_wp2_with fail
          exact ⟨⟨j + 1, by omega, by go_num, by rw [HDV.out]; go_num, Gx4.out.bi, by (show Blk _ _ _ _); rw [HSN.out]; exact KWx4.out, Gx4.out.bl⟩, by simp [intOf]; omega⟩
        · have hmi : (((r : Int) % 2) == 0) = false := by rw [beq_eq_false_iff_ne]; omega
          rw [if_neg hm] at HSN HNK HUE
          have CT := hid (fun w1 => two_any O H w1 hok hck)
          have hbs := bs_append hok.bs hck.bs
          have hln : (O ++ H).length = 64 := by rw [List.length_append, hck.len, hok.len]
          have CN : Hid (∀ A c w1, Rp w1 none A (O ++ H) → Calls Tryd.prog 59 #[.agg (u8s ID).toArray, .int .i64 ((r : Int) / 2), .int .i64 33667, .slice A 64 c] w1 fun e w' => e = .returned (.agg (u8s (under ID ((r / 2 : Nat) : Int) 33667 (O ++ H))).toArray) ∧ Below w1.heap.size w1 w') := fun A c w1 hr => by
            rw [show (r : Int) / 2 = ((r / 2 : Nat) : Int) by omega]
            exact tNode_any ID _ 33667 A 64 c (O ++ H) w1 HIDN.out (by omega) (by decide) hln.symm hr hbs (by rw [hln]; decide)
          generalize under ID ((r / 2 : Nat) : Int) 33667 (O ++ H) = NN at CN HSN HNK
          have NI := hid (info_hash NN HNK.len); have NZ : Hid ((u8s H).toArray.size = (u8s NN).toArray.size) := (hash_size hck.len).trans (hash_size HNK.len).symm
          clear hbs hln HNK hck hok hO hH HUE
          have htd2 : (r : Int).tdiv 2 = (r : Int) / 2 := Int.tdiv_eq_ediv_of_nonneg (by omega)
          have hwq2 : IntKind.i64.wrap ((r : Int) / 2) = (r : Int) / 2 := IntWalk.i64_in _ (by omega)
          go_wp2_with (first
            | (refine cut_at rfl (.tmp 117) (.tmp 122) (.tmp 127) rfl sb so n2 c2 (8 + ks + 32 * j) (40 + ks + 32 * j) 32 (8 + (ks : Int) + 32 * (j : Int)) (40 + (ks : Int) + 32 * (j : Int)) rfl rfl rfl (by omega) (by omega) (by omega) (by have := C2.out; omega) (by have := C2.out; omega) ?_)
            | (refine load_at rfl 26 (.tmp 129) rfl sb (so + (8 + ks + 32 * j)) rfl (u8s O) _ (HOR.out _ D3.out) Tryd.underlying26 rfl OL.out (u8s O).toArray rfl ?_)
            | (refine wpList_store_row rfl 26 (.tmp 19) (.tmp 130) rfl wr.heap.size (u8s O).toArray rfl rfl 26 Z (Blk.new wr 26 Z) OI.out OZ.out (u8s_all O) ?_; have hbb : Below wr.heap.size wr ((wr.alloc (.cells Z 26)).setRow wr.heap.size (u8s O).toArray) := below_setRow ((Below.refl _ _).alloc (Nat.le_refl _) _) (Nat.le_refl _) _; have E2 := hid (D2.out.below hbb); have GS : Hid (Vs ID gi O wr.heap.size w ((wr.alloc (.cells Z 26)).setRow wr.heap.size (u8s O).toArray)) := ⟨D1.out.below hbb, (Blk.new wr 26 Z).row _, D3.out.trans (hbb.mono D3.out.size)⟩; have LGO : Hid (gh < wr.heap.size) := D2.out.lt; clear hbb; generalize (wr.alloc (.cells Z 26)).setRow wr.heap.size (u8s O).toArray = w5 at E2 GS ⊢; generalize wr.heap.size = go at GS LGO ⊢))
          refine wp_region_held (S := fun w' => Hid (Vs ID gi O go w w')) (by kernel_rfl) ?_
          change wpAnyH _ _ _ _ _ _ _ _ w5.drew
          have Gx0 : Hid (Vs ID gi O go w w5.drew) := GS.out.drew
          have HBx0 : Below w5.heap.size w5 w5.drew := (Below.refl _ _).drew
          have E2 := hid (E2.out.below HBx0)
          clear HBx0
          generalize w5.drew = x0 at Gx0 E2 ⊢
          refine wpAnyH_take (i := 0) (oi := { dst := some 141, op := _, type := _, pos := _, after := _, guard := _ }) (v := .agg ((u8s ID).toArray)) rfl (by kernel_rfl) (by kernel_rfl) (by kernel_rfl) (fun _ _ _ h => h) (yieldsIf_load_mid (cs := u8s ID) (by rfl) _ _ rfl _ _ rfl _ (fun w' hSw => (blk_row (Hid.out hSw).bi)) Tryd.underlying23 rfl IDI.out) (by assumption) ?_
          try simp only [Act.put, List.setIfInBounds_toArray, List.set_cons_zero, List.set_cons_succ]
          refine wpAnyH_take (i := 1) (oi := { dst := some 142, op := _, type := _, pos := _, after := _, guard := _ }) (v := ?_) rfl (by kernel_rfl) (by kernel_rfl) (by kernel_rfl) (fun _ _ _ h => h) (Or.inl ⟨by kernel_rfl, ?_⟩) (by assumption) ?_
          rotate_left
          · (intro w hSw; go_simp; try with_reducible rfl)
          try simp only [Act.put, List.setIfInBounds_toArray, List.set_cons_zero, List.set_cons_succ]
          refine wpAnyH_take (i := 2) (oi := { dst := some 143, op := _, type := _, pos := _, after := _, guard := _ }) (v := ?_) rfl (by kernel_rfl) (by kernel_rfl) (by kernel_rfl) (fun _ _ _ h => h) (Or.inl ⟨by kernel_rfl, ?_⟩) (by assumption) ?_
          rotate_left
          · (intro w hSw; go_simp; try with_reducible rfl)
          try simp only [Act.put, List.setIfInBounds_toArray, List.set_cons_zero, List.set_cons_succ]
          refine wpAnyH_take (i := 3) (oi := { dst := some 144, op := _, type := _, pos := _, after := _, guard := _ }) (v := .agg ((u8s O).toArray)) rfl (by kernel_rfl) (by kernel_rfl) (by kernel_rfl) (fun _ _ _ h => h) (yieldsIf_load_mid (cs := u8s O) (by rfl) _ _ rfl _ _ rfl _ (fun w' hSw => (blk_row (Hid.out hSw).bo)) Tryd.underlying26 rfl OL.out) (by assumption) ?_
          try simp only [Act.put, List.setIfInBounds_toArray, List.set_cons_zero, List.set_cons_succ]
          refine wpAnyH_ready (rs := [4]) (by kernel_rfl) (by simp) ?_
          refine (AllReadyH.cons (o := { dst := some 145, op := _, type := _, pos := _, after := _, guard := _ }) rfl (fun Qc hQc => ?_) AllReadyH.nil)
          rw [if_pos (by rfl)]
          refine wp_load_mid 26 (.tmp 17) rfl gh 0 rfl (u8s H) _ (blk_row E2.out) Tryd.underlying26 rfl HLI.out ?_
          refine hQc.out _ _ Gx0 (fun hHeld => ?_)
          clear hQc Qc
          try simp only [Act.put, List.setIfInBounds_toArray, List.set_cons_zero, List.set_cons_succ]
          refine wpAnyH_ready (rs := [5]) (by kernel_rfl) (by simp) ?_
          refine (AllReadyH.cons (o := { dst := some 146, op := _, type := _, pos := _, after := _, guard := _ }) rfl (fun Qc hQc => ?_) AllReadyH.nil)
          go_simp
          go_at_call 60; refine (CT.out _).mono ?_; rintro e x2 ⟨A5, c5, rfl, hr5, hbx2⟩; have R5 := hid hr5; clear hr5
          have Gx2 := hid (Gx0.out.below hbx2)
          have E2 := hid (E2.out.below hbx2)
          clear hbx2
          go_wp2_with fail
          refine hQc.out _ _ Gx2 (fun hHeld => ?_)
          clear hQc Qc Gx0
          try simp only [Act.put, List.setIfInBounds_toArray, List.set_cons_zero, List.set_cons_succ]
          refine wpAnyH_ready (rs := [6]) (by kernel_rfl) (by simp) ?_
          refine (AllReadyH.cons (o := { dst := some 147, op := _, type := _, pos := _, after := _, guard := _ }) rfl (fun Qc hQc => ?_) AllReadyH.nil)
          go_simp
          go_at_call 59; refine (CN.out _ _ _ R5.out).mono ?_; rintro e x3 ⟨rfl, hbx3⟩
          have Gx3 := hid (Gx2.out.below hbx3)
          have E2 := hid (E2.out.below hbx3)
          clear hbx3
          go_wp2_with fail
          refine hQc.out _ _ Gx3 (fun hHeld => ?_)
          clear hQc Qc Gx2
          try simp only [Act.put, List.setIfInBounds_toArray, List.set_cons_zero, List.set_cons_succ]
          refine wpAnyH_ready (rs := [7]) (by kernel_rfl) (by simp) ?_
          refine (AllReadyH.cons (o := { dst := none, op := _, type := _, pos := _, after := _, guard := _ }) rfl (fun Qc hQc => ?_) AllReadyH.nil)
          rw [if_pos (by rfl)]
          refine wp_store_row 26 (.tmp 17) (.tmp 147) rfl (gh) (u8s NN).toArray rfl rfl 26 (u8s H).toArray E2.out NI.out NZ.out (u8s_all NN) ?_
          have Gx4 := hid (Gx3.out.row (g := gh) (by have := LGH.out; omega) (by have := LGO.out; omega) (by have := LGH.out; have := WLG.out; omega) (u8s NN).toArray)
          have KWx4 := hid ((E2.out).row (u8s NN).toArray)
          refine hQc.out _ _ Gx4 (fun hHeld => ?_)
          clear hQc Qc Gx3
          generalize x3.setRow (gh) (u8s NN).toArray = x4 at Gx4 KWx4 hHeld ⊢
          try simp only [Act.put, List.setIfInBounds_toArray, List.set_cons_zero, List.set_cons_succ]
          refine wpAnyH_done (by kernel_rfl) ?_ _
          try simp only [Act.put, List.setIfInBounds_toArray, List.set_cons_zero, List.set_cons_succ]
          go_wp2_with fail
          exact ⟨⟨j + 1, by omega, by go_num, by rw [HDV.out]; go_num, Gx4.out.bi, by (show Blk _ _ _ _); rw [HSN.out]; exact KWx4.out, Gx4.out.bl⟩, by simp [intOf]; omega⟩
      · have hjh : j = xx.toNat := by omega
        have hji : ¬ (j : Int) < xx := by omega
        rw [hjh] at D2
        have hck := clm_ky ID xx.toNat (K + qn) LF PA HLF.out
        generalize clm ID xx.toNat (K + qn) LF PA = HF at D2 HEND hck
        have HF32 := hid hck.len
        have CSM := hid (fun c9 w1 (hg : Blk w1 gh 26 (u8s HF).toArray) (hb : Below w.heap.size w w1) => same_32 gh pb (po + 24) c9 HF (vtop P) w1 HF32.out HTOPL.out (blk_rp hg) (HTOPR.out w1 hb))
        have GF : Hid (Vs ID gi HF gh w wr) := ⟨D1.out, D2.out, D3.out⟩
        clear hck D1 D2 D3 hlt
        rw [← HEND.out] at CSM
        have hc56 := HC56.out
        obtain ⟨k024a, k024b, k024c, k024d⟩ := capw (c := c0) (b := 24) (Nat.lt_of_lt_of_le (by decide) hc56)
        have k056a : ¬ c0 < 56 := Nat.not_lt.2 hc56
        have k056c : (56 : Int) ≤ (c0 : Int) := Int.ofNat_le.2 hc56
        go_wp2_with fail
        refine wp_region_held (S := fun w' => Hid (Vs ID gi HF gh w w')) (by kernel_rfl) ?_
        change wpAnyH _ _ _ _ _ _ _ _ wr.drew
        have Gx0 : Hid (Vs ID gi HF gh w wr.drew) := GF.out.drew
        have HBx0 : Below wr.heap.size wr wr.drew := (Below.refl _ _).drew
        clear HBx0
        generalize wr.drew = x0 at Gx0  ⊢
        refine wpAnyH_take (i := 0) (oi := { dst := some 150, op := _, type := _, pos := _, after := _, guard := _ }) (v := ?_) rfl (by kernel_rfl) (by kernel_rfl) (by kernel_rfl) (fun _ _ _ h => h) (Or.inl ⟨by kernel_rfl, ?_⟩) (by assumption) ?_
        rotate_left
        · (intro w hSw; go_simp; try with_reducible rfl)
        try simp only [Act.put, List.setIfInBounds_toArray, List.set_cons_zero, List.set_cons_succ]
        refine wpAnyH_take (i := 1) (oi := { dst := some 151, op := _, type := _, pos := _, after := _, guard := _ }) (v := ?_) rfl (by kernel_rfl) (by kernel_rfl) (by kernel_rfl) (fun _ _ _ h => h) (Or.inl ⟨by kernel_rfl, ?_⟩) (by assumption) ?_
        rotate_left
        · (intro w hSw; go_simp; try with_reducible rfl)
        try simp only [Act.put, List.setIfInBounds_toArray, List.set_cons_zero, List.set_cons_succ]
        refine wpAnyH_take (i := 2) (oi := { dst := some 152, op := _, type := _, pos := _, after := _, guard := _ }) (v := ?_) rfl (by kernel_rfl) (by kernel_rfl) (by kernel_rfl) (fun _ _ _ h => h) (Or.inl ⟨by kernel_rfl, ?_⟩) (by assumption) ?_
        rotate_left
        · (intro w hSw; go_simp; try with_reducible rfl)
        try simp only [Act.put, List.setIfInBounds_toArray, List.set_cons_zero, List.set_cons_succ]
        refine wpAnyH_take (i := 3) (oi := { dst := some 153, op := _, type := _, pos := _, after := _, guard := _ }) (v := ?_) rfl (by kernel_rfl) (by kernel_rfl) (by kernel_rfl) (fun _ _ _ h => h) (Or.inl ⟨by kernel_rfl, ?_⟩) (by assumption) ?_
        rotate_left
        · (intro w hSw; go_simp; try with_reducible rfl)
        try simp only [Act.put, List.setIfInBounds_toArray, List.set_cons_zero, List.set_cons_succ]
        refine wpAnyH_take (i := 4) (oi := { dst := some 154, op := _, type := _, pos := _, after := _, guard := _ }) (v := .slice (some ⟨pb, po + 24, none⟩) 32 (c0 - 24)) rfl (by kernel_rfl) (by kernel_rfl) (by kernel_rfl) (fun _ _ _ h => h) (Or.inl ⟨by kernel_rfl, ?_⟩) (by assumption) ?_
        · (intro w hSw; go_simp; try with_reducible rfl)
        try simp only [Act.put, List.setIfInBounds_toArray, List.set_cons_zero, List.set_cons_succ]
        refine wpAnyH_ready (rs := [5]) (by kernel_rfl) (by simp) ?_
        refine (AllReadyH.cons (o := { dst := some 155, op := _, type := _, pos := _, after := _, guard := _ }) rfl (fun Qc hQc => ?_) AllReadyH.nil)
        go_simp
        go_at_call 28; refine (CSM.out _ _ Gx0.out.bo Gx0.out.bl).mono ?_; rintro e x1 ⟨rfl, qd, rfl⟩; have hbx1 : Below x0.heap.size x0 (x0.drewN qd) := below_drewN (Below.refl _ _) qd
        have Gx1 := hid (Gx0.out.below hbx1)
        clear hbx1
        go_wp2_with fail
        refine hQc.out _ _ Gx1 (fun hHeld => ?_)
        clear hQc Qc Gx0
        try simp only [Act.put, List.setIfInBounds_toArray, List.set_cons_zero, List.set_cons_succ]
        refine wpAnyH_take (i := 6) (oi := { dst := some 156, op := _, type := _, pos := _, after := _, guard := _ }) (v := ?_) rfl (by kernel_rfl) (by kernel_rfl) (by kernel_rfl) (fun _ _ _ h => h) (Or.inl ⟨by kernel_rfl, ?_⟩) (by assumption) ?_
        rotate_left
        · (intro w hSw; go_simp; try with_reducible rfl)
        try simp only [Act.put, List.setIfInBounds_toArray, List.set_cons_zero, List.set_cons_succ]
        refine wpAnyH_take (i := 7) (oi := { dst := some 6, op := _, type := _, pos := _, after := _, guard := _ }) (v := ?_) rfl (by kernel_rfl) (by kernel_rfl) (by kernel_rfl) (fun _ _ _ h => h) (Or.inl ⟨by kernel_rfl, ?_⟩) (by assumption) ?_
        rotate_left
        · (intro w hSw; go_simp; try with_reducible rfl)
        try simp only [Act.put, List.setIfInBounds_toArray, List.set_cons_zero, List.set_cons_succ]
        refine wpAnyH_done (by kernel_rfl) ?_ _
        try simp only [Act.put, List.setIfInBounds_toArray, List.set_cons_zero, List.set_cons_succ]
        have GL : Hid (Below w.heap.size w _) := Gx1.out.bl
        go_wp2_with fail
        go_ret
        exact ⟨congrArg (fun b => Ending.returned (Value.bool b)) HVV.out.symm, GL.out⟩
  · have hn : ¬ ((n0 : Nat) : Int) = 56 := by omega
    have hb : (((n0 : Nat) : Int) != 56) = true := by rw [bne_iff_ne]; omega
    have HNO : Hid (ver P M S = false) := ver_wide (by omega)
    rw [HNO.out]
    clear HNO hp hpr hpb hpl hpc hm hmr hmb hml hs hsr hsb hsl hsc h56
    go_enter Tryd.func17, Tryd.ntmps17
    go_wp2_with fail
    go_ret
    exact ⟨rfl, Below.refl _ _⟩
end Go.Proofs.YtobceieadjpaaaaDoor
