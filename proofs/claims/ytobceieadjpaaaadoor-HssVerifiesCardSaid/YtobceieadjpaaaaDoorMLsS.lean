/-
  What is proved here: the code's own signature by a tree's key; and that there is none by a key that isn't there.
-/
import Derived.Test.YtobceieadjpaaaaDoorMLsp
import Derived.Test.YtobceieadjpaaaaDoorMLsr
import Derived.Test.YtobceieadjpaaaaDoorMSg1
import Derived.Deep.DeepCutAuto
set_option linter.unusedSimpArgs false
set_option linter.unusedVariables false
namespace Go.Proofs.YtobceieadjpaaaaDoor
open Go.ChangeShapes Go.WideShapes Go.ChangeAt Go.RowKit
set_option linter.unusedVariables false
set_option maxRecDepth 20000

theorem sSign_spent (t : Nat) (h k : Int) (id sd : List Int) (q : Int) (A : Option Addr) (n c : Nat) (w : World) (hi : Idn id) (hs : Ky sd) (ht : TreeAt w t h k id sd) (hq : q < 0 ∨ (tkeys h k : Int) ≤ q) :
    Calls Tryd.prog 19 #[.pointer (some ⟨t, 0, none⟩), .int .i64 q, .slice A n c] w fun e w' => e = .returned (.tuple #[.slice none 0 0, .int .i64 7]) ∧ w = w' := by
  have CK := hid (sKeys_at t h k id sd w hi hs ht)
  generalize tkeys h k = K at CK hq
  by_cases hq0 : q < 0
  · have hd : decide (q < 0) = true := decide_eq_true hq0
    clear hi hs ht hq
    go_enter Tryd.func19, Tryd.ntmps19
    go_wp2_with fail
    go_ret2
    exact ⟨rfl, rfl⟩
  · have hq1 : (K : Int) ≤ q := by omega
    have hd : decide (q < 0) = false := decide_eq_false hq0
    have hd2 : decide ((K : Int) ≤ q) = true := decide_eq_true hq1
    clear hi hs ht hq
    go_enter Tryd.func19, Tryd.ntmps19
    go_wp2_with (go_at_call 50; refine CK.out.mono ?_; rintro e w1 ⟨rfl, rfl⟩)
    go_ret2
    exact ⟨rfl, rfl⟩

set_option maxHeartbeats 8000000 in
theorem sSign_at (t : Nat) (h k : Int) (id sd : List Int) (q : Nat) (A : Option Addr) (n c : Nat) (msg : List Int) (w : World) (h1 : 1 ≤ h ∧ h ≤ 4) (hk : Kd k) (hi : Idn id) (hs : Ky sd) (ht : TreeAt w t h k id sd) (hq : q < tkeys h k)
    (hm : n = msg.length) (hr : Rp w none A msg) (hb : Bs msg) (hl : msg.length < 2000000) (hc : n ≤ c) (htab : Tab w) :
    Calls Tryd.prog 19 #[.pointer (some ⟨t, 0, none⟩), .int .i64 (q : Nat), .slice A n c] w fun e w' => ∃ g, e = .returned (.tuple #[.slice (some ⟨g, 0, none⟩) (tsize h k) (tsize h k), .int .i64 0]) ∧ w.heap.size ≤ g ∧ Blk w' g 5 (u8s (sgt h k id sd q msg)).toArray ∧ Below w.heap.size w w' := by
  obtain ⟨Z, hz, hz0, z0, z1, z2, z3, z4, hZs⟩ := zero_writer
  have CK := hid (fun w1 (hb : Below w.heap.size w w1) => sKeys_at t h k id sd w1 hi hs (ht.below hb))
  obtain ⟨g, hgl, HT⟩ := ht.parts hi hs
  have htl := ht.lt
  obtain ⟨hh, hhe⟩ : ∃ hh : Nat, h = hh := ⟨h.toNat, by omega⟩
  have hKe : tkeys h k = 2 ^ hh := by rw [tkeys_ok h1 hk, hhe]; rfl
  have hKl : 2 ≤ tkeys h k ∧ tkeys h k ≤ 16 := by rw [tkeys_ok h1 hk]; rcases ht4 h1 with rfl | rfl | rfl | rfl <;> decide
  obtain ⟨nf, hnf⟩ : ∃ nf, nf = nd k id sd (tkeys h k) := ⟨_, rfl⟩
  have NK : Hid (∀ r, Ky (nf r)) := fun r => by rw [hnf]; exact nd_ky _ _ _ _ _
  have HP : Hid (sgt h k id sd q msg = be (q : Int) 4 ++ signK k id q sd msg ++ be h 4 ++ pth nf hh (tkeys h k + q)) := by show _ = _; rw [hnf]; unfold sgt; rw [hhe]; rfl
  have HPL : Hid ((sgt h k id sd q msg).length = tsize h k) := sgt_length h1 hk q msg
  have HSL : Hid ((signK k id q sd msg).length = ksize k) := sign_length hk id q sd msg
  have hts : tsize h k < 100000 := by rw [tsize_ok h1 hk]; have := ksize_le k; omega
  have hks := ksize_le k
  have CSG : Hid (∀ w1, Below w.heap.size w w1 → Calls Tryd.prog 12 #[.int .i64 k, .agg (u8s id).toArray, .int .u32 (q : Nat), .agg (u8s sd).toArray, .slice A n c] w1 (SgPost k id q sd msg w1)) := fun w1 hb1 => lSign_kd k id q sd A n c msg w1 hk hi (by omega) hs hm (hr.belowN hb1) hb hl hc (htab.below hb1)
  obtain ⟨SK, hSK⟩ : ∃ SK, SK = signK k id q sd msg := ⟨_, rfl⟩
  unfold SgPost at CSG
  rw [← hSK] at CSG HSL HP
  have HRI : Hid (∀ w', Below w.heap.size w w' → w'.rangeAt t 2 (u8s id)) := fun w' hb => (HT w' hb).rid
  have HRS : Hid (∀ w', Below w.heap.size w w' → w'.rangeAt t 18 (u8s sd)) := fun w' hb => (HT w' hb).rsd
  have HC0 : Hid (∀ w', Below w.heap.size w w' → w'.cell? ⟨t, 0, none⟩ = some (.int .i64 h)) := fun w' hb => (HT w' hb).c0
  have HC1 : Hid (∀ w', Below w.heap.size w w' → w'.cell? ⟨t, 1, none⟩ = some (.int .i64 k)) := fun w' hb => (HT w' hb).c1
  have HC50 : Hid (∀ w', Below w.heap.size w w' → w'.cell? ⟨t, 50, none⟩ = some (.slice (some ⟨g, 0, none⟩) (2 * tkeys h k) (2 * tkeys h k))) := fun w' hb => (HT w' hb).c50
  have HRN : Hid (∀ w' r, 1 ≤ r → r < 2 * tkeys h k → Below w.heap.size w w' → w'.rangeAt g (r * 32) (u8s (nf r))) := fun w' r h2 h3 hb => by rw [hnf]; exact (HT w' hb).row.rng (r := r) h2 h3
  have IDI := hid (id_info hi); have SDI := hid (hash_info hs.len)
  have HH : Hid (0 ≤ h ∧ h < 4294967296) := by show _ ∧ _; omega
  have HQ : Hid (0 ≤ (q : Int) ∧ (q : Int) < 4294967296) := by show _ ∧ _; omega
  have hwh : IntKind.u32.wrap h = h := by simp [IntKind.wrap, IntKind.bits, IntKind.signed]; omega
  have hwq : IntKind.u32.wrap (q : Int) = q := by simp [IntKind.wrap, IntKind.bits, IntKind.signed]; omega
  have hq0 : ¬ ((q : Int) < 0) := by omega
  have hqd : decide ((q : Int) < 0) = false := decide_eq_false hq0
  have HUP := hid (fun j hj => up_range (h := hh) hKe hq j hj)
  have HPT : Hid (∀ j r, (pth nf j r).length = 32 * j) := fun j r => pth_length nf (fun r => (NK.out r).len) j r
  generalize sgt h k id sd q msg = SG at HP HPL ⊢
  generalize tsize h k = ts at HPL hts ⊢
  generalize ksize k = ks at CSG HSL hks
  obtain ⟨K, hK⟩ : ∃ K, K = tkeys h k := ⟨_, rfl⟩
  rw [← hK] at CK HC50 HRN HUP HP hKl hq
  obtain ⟨k2, k16⟩ := hKl
  have hqK : (q : Int) < (K : Int) := by omega
  have hqK2 : decide ((K : Int) ≤ (q : Int)) = false := decide_eq_false (by omega)
  have hh4 : hh ≤ 4 := by omega
  have ZHid := hid (And.intro hz (And.intro z0 (And.intro z1 (And.intro z2 z3))))
  have GT : Hid (Bw w w) := ⟨Below.refl _ _⟩
  clear hz z0 z1 z2 z3 z4 h1 hk hi hs ht HT hm hr hb hl hc htab hnf hSK hKe hK hhe
  go_enter Tryd.func19, Tryd.ntmps19
  go_wp2_with (go_at_call 50; refine (CK.out _ (Below.refl _ _)).mono ?_; rintro e w1 ⟨rfl, rfl⟩)
  refine wp_region_held (S := fun w' => Hid (Bw w w')) (by kernel_rfl) ?_
  change wpAnyH _ _ _ _ _ _ _ _ w.drew
  have Gx0 : Hid (Bw w w.drew) := GT.out.drew
  have HBx0 : Below w.heap.size w w.drew := (Below.refl _ _).drew
  clear HBx0
  generalize w.drew = x0 at Gx0  ⊢
  refine wpAnyH_take (i := 0) (oi := { dst := some 23, op := _, type := _, pos := _, after := _, guard := _ }) (v := ?_) rfl (by kernel_rfl) (by kernel_rfl) (by kernel_rfl) (fun _ _ _ h => h) (Or.inl ⟨by kernel_rfl, ?_⟩) (by assumption) ?_
  rotate_left
  · (intro w hSw; go_simp; try with_reducible rfl)
  try simp only [Act.put, List.setIfInBounds_toArray, List.set_cons_zero, List.set_cons_succ]
  refine wpAnyH_take (i := 1) (oi := { dst := some 24, op := _, type := _, pos := _, after := _, guard := _ }) (v := ?_) rfl (by kernel_rfl) (by kernel_rfl) (by kernel_rfl) (fun _ _ _ h => h) (Or.inl ⟨by kernel_rfl, ?_⟩) (by assumption) ?_
  rotate_left
  · (intro w hSw; go_simp; try with_reducible rfl)
  try simp only [Act.put, List.setIfInBounds_toArray, List.set_cons_zero, List.set_cons_succ]
  refine wpAnyH_take (i := 2) (oi := { dst := some 25, op := _, type := _, pos := _, after := _, guard := _ }) (v := ?_) rfl (by kernel_rfl) (by kernel_rfl) (by kernel_rfl) (fun _ _ _ h => h) (Or.inl ⟨by kernel_rfl, ?_⟩) (by assumption) ?_
  rotate_left
  · (intro w hSw; go_simp; try with_reducible rfl)
  try simp only [Act.put, List.setIfInBounds_toArray, List.set_cons_zero, List.set_cons_succ]
  refine wpAnyH_take (i := 3) (oi := { dst := some 26, op := _, type := _, pos := _, after := _, guard := _ }) (v := ?_) rfl (by kernel_rfl) (by kernel_rfl) (by kernel_rfl) (fun _ _ _ h => h) (Or.inl ⟨by kernel_rfl, ?_⟩) (by assumption) ?_
  rotate_left
  · (intro w hSw; have c1 := HC1.out _ (Hid.out hSw).bl; go_simp; try with_reducible rfl)
  try simp only [Act.put, List.setIfInBounds_toArray, List.set_cons_zero, List.set_cons_succ]
  refine wpAnyH_take (i := 4) (oi := { dst := some 27, op := _, type := _, pos := _, after := _, guard := _ }) (v := ?_) rfl (by kernel_rfl) (by kernel_rfl) (by kernel_rfl) (fun _ _ _ h => h) (Or.inl ⟨by kernel_rfl, ?_⟩) (by assumption) ?_
  rotate_left
  · (intro w hSw; go_simp; try with_reducible rfl)
  try simp only [Act.put, List.setIfInBounds_toArray, List.set_cons_zero, List.set_cons_succ]
  refine wpAnyH_take (i := 5) (oi := { dst := some 28, op := _, type := _, pos := _, after := _, guard := _ }) (v := ?_) rfl (by kernel_rfl) (by kernel_rfl) (by kernel_rfl) (fun _ _ _ h => h) (Or.inl ⟨by kernel_rfl, ?_⟩) (by assumption) ?_
  rotate_left
  · (intro w hSw; go_simp; try with_reducible rfl)
  try simp only [Act.put, List.setIfInBounds_toArray, List.set_cons_zero, List.set_cons_succ]
  refine wpAnyH_take (i := 6) (oi := { dst := some 29, op := _, type := _, pos := _, after := _, guard := _ }) (v := ?_) rfl (by kernel_rfl) (by kernel_rfl) (by kernel_rfl) (fun _ _ _ h => h) (Or.inl ⟨by kernel_rfl, ?_⟩) (by assumption) ?_
  rotate_left
  · (intro w hSw; go_simp; try with_reducible rfl)
  try simp only [Act.put, List.setIfInBounds_toArray, List.set_cons_zero, List.set_cons_succ]
  refine wpAnyH_take (i := 7) (oi := { dst := some 30, op := _, type := _, pos := _, after := _, guard := _ }) (v := .agg ((u8s id).toArray)) rfl (by kernel_rfl) (by kernel_rfl) (by kernel_rfl) (fun _ _ _ h => h) (yieldsIf_load_mid (cs := u8s id) (by rfl) _ _ rfl _ _ rfl _ (fun w' hSw => (HRI.out _ (Hid.out hSw).bl)) Tryd.underlying23 rfl IDI.out) (by assumption) ?_
  try simp only [Act.put, List.setIfInBounds_toArray, List.set_cons_zero, List.set_cons_succ]
  refine wpAnyH_take (i := 8) (oi := { dst := some 31, op := _, type := _, pos := _, after := _, guard := _ }) (v := ?_) rfl (by kernel_rfl) (by kernel_rfl) (by kernel_rfl) (fun _ _ _ h => h) (Or.inl ⟨by kernel_rfl, ?_⟩) (by assumption) ?_
  rotate_left
  · (intro w hSw; go_simp; try with_reducible rfl)
  try simp only [Act.put, List.setIfInBounds_toArray, List.set_cons_zero, List.set_cons_succ]
  refine wpAnyH_take (i := 9) (oi := { dst := some 32, op := _, type := _, pos := _, after := _, guard := _ }) (v := ?_) rfl (by kernel_rfl) (by kernel_rfl) (by kernel_rfl) (fun _ _ _ h => h) (Or.inl ⟨by kernel_rfl, ?_⟩) (by assumption) ?_
  rotate_left
  · (intro w hSw; go_simp; try with_reducible rfl)
  try simp only [Act.put, List.setIfInBounds_toArray, List.set_cons_zero, List.set_cons_succ]
  refine wpAnyH_take (i := 10) (oi := { dst := some 33, op := _, type := _, pos := _, after := _, guard := _ }) (v := ?_) rfl (by kernel_rfl) (by kernel_rfl) (by kernel_rfl) (fun _ _ _ h => h) (Or.inl ⟨by kernel_rfl, ?_⟩) (by assumption) ?_
  rotate_left
  · (intro w hSw; go_simp; try with_reducible rfl)
  try simp only [Act.put, List.setIfInBounds_toArray, List.set_cons_zero, List.set_cons_succ]
  refine wpAnyH_take (i := 11) (oi := { dst := some 34, op := _, type := _, pos := _, after := _, guard := _ }) (v := ?_) rfl (by kernel_rfl) (by kernel_rfl) (by kernel_rfl) (fun _ _ _ h => h) (Or.inl ⟨by kernel_rfl, ?_⟩) (by assumption) ?_
  rotate_left
  · (intro w hSw; go_simp; try with_reducible rfl)
  try simp only [Act.put, List.setIfInBounds_toArray, List.set_cons_zero, List.set_cons_succ]
  refine wpAnyH_take (i := 12) (oi := { dst := some 35, op := _, type := _, pos := _, after := _, guard := _ }) (v := ?_) rfl (by kernel_rfl) (by kernel_rfl) (by kernel_rfl) (fun _ _ _ h => h) (Or.inl ⟨by kernel_rfl, ?_⟩) (by assumption) ?_
  rotate_left
  · (intro w hSw; go_simp; try with_reducible rfl)
  try simp only [Act.put, List.setIfInBounds_toArray, List.set_cons_zero, List.set_cons_succ]
  refine wpAnyH_take (i := 13) (oi := { dst := some 36, op := _, type := _, pos := _, after := _, guard := _ }) (v := .agg ((u8s sd).toArray)) rfl (by kernel_rfl) (by kernel_rfl) (by kernel_rfl) (fun _ _ _ h => h) (yieldsIf_load_mid (cs := u8s sd) (by rfl) _ _ rfl _ _ rfl _ (fun w' hSw => (HRS.out _ (Hid.out hSw).bl)) Tryd.underlying26 rfl SDI.out) (by assumption) ?_
  try simp only [Act.put, List.setIfInBounds_toArray, List.set_cons_zero, List.set_cons_succ]
  refine wpAnyH_take (i := 14) (oi := { dst := some 37, op := _, type := _, pos := _, after := _, guard := _ }) (v := ?_) rfl (by kernel_rfl) (by kernel_rfl) (by kernel_rfl) (fun _ _ _ h => h) (Or.inl ⟨by kernel_rfl, ?_⟩) (by assumption) ?_
  rotate_left
  · (intro w hSw; go_simp; try with_reducible rfl)
  try simp only [Act.put, List.setIfInBounds_toArray, List.set_cons_zero, List.set_cons_succ]
  refine wpAnyH_ready (rs := [15]) (by kernel_rfl) (by simp) ?_
  refine (AllReadyH.cons (o := { dst := some 38, op := _, type := _, pos := _, after := _, guard := _ }) rfl (fun Qc hQc => ?_) AllReadyH.nil)
  go_simp
  go_at_call 12; refine (CSG.out _ Gx0.out.bl).mono ?_; rintro e x1 ⟨gs, rfl, hgs, hks2, hbx1⟩; have RO := hid hks2; have HGS := hid hgs; clear hks2 hgs
  have Gx1 := hid (Gx0.out.below hbx1)
  clear hbx1
  go_wp2_with fail
  refine hQc.out _ _ Gx1 (fun hHeld => ?_)
  clear hQc Qc Gx0
  try simp only [Act.put, List.setIfInBounds_toArray, List.set_cons_zero, List.set_cons_succ]
  refine wpAnyH_take (i := 16) (oi := { dst := some 22, op := _, type := _, pos := _, after := _, guard := _ }) (v := ?_) rfl (by kernel_rfl) (by kernel_rfl) (by kernel_rfl) (fun _ _ _ h => h) (Or.inl ⟨by kernel_rfl, ?_⟩) (by assumption) ?_
  rotate_left
  · (intro w hSw; go_simp; try with_reducible rfl)
  try simp only [Act.put, List.setIfInBounds_toArray, List.set_cons_zero, List.set_cons_succ]
  refine wpAnyH_take (i := 17) (oi := { dst := some 39, op := _, type := _, pos := _, after := _, guard := _ }) (v := ?_) rfl (by kernel_rfl) (by kernel_rfl) (by kernel_rfl) (fun _ _ _ h => h) (Or.inl ⟨by kernel_rfl, ?_⟩) (by assumption) ?_
  rotate_left
  · (intro w hSw; go_simp; try with_reducible rfl)
  try simp only [Act.put, List.setIfInBounds_toArray, List.set_cons_zero, List.set_cons_succ]
  refine wpAnyH_take (i := 18) (oi := { dst := some 40, op := _, type := _, pos := _, after := _, guard := _ }) (v := ?_) rfl (by kernel_rfl) (by kernel_rfl) (by kernel_rfl) (fun _ _ _ h => h) (Or.inl ⟨by kernel_rfl, ?_⟩) (by assumption) ?_
  rotate_left
  · (intro w hSw; go_simp; try with_reducible rfl)
  try simp only [Act.put, List.setIfInBounds_toArray, List.set_cons_zero, List.set_cons_succ]
  refine wpAnyH_take (i := 19) (oi := { dst := some 8, op := _, type := _, pos := _, after := _, guard := _ }) (v := ?_) rfl (by kernel_rfl) (by kernel_rfl) (by kernel_rfl) (fun _ _ _ h => h) (Or.inl ⟨by kernel_rfl, ?_⟩) (by assumption) ?_
  rotate_left
  · (intro w hSw; go_simp; try with_reducible rfl)
  try simp only [Act.put, List.setIfInBounds_toArray, List.set_cons_zero, List.set_cons_succ]
  refine wpAnyH_take (i := 20) (oi := { dst := some 9, op := _, type := _, pos := _, after := _, guard := _ }) (v := ?_) rfl (by kernel_rfl) (by kernel_rfl) (by kernel_rfl) (fun _ _ _ h => h) (Or.inl ⟨by kernel_rfl, ?_⟩) (by assumption) ?_
  rotate_left
  · (intro w hSw; go_simp; try with_reducible rfl)
  try simp only [Act.put, List.setIfInBounds_toArray, List.set_cons_zero, List.set_cons_succ]
  refine wpAnyH_done (by kernel_rfl) ?_ _
  try simp only [Act.put, List.setIfInBounds_toArray, List.set_cons_zero, List.set_cons_succ]
  have HB1 : Hid (Below w.heap.size w x1) := Gx1.out.bl
  generalize x1 = w1 at HB1 RO ⊢
  clear Gx1
  have HW0 : Hid (WRep (w1.alloc (.cells Z 69)) (some ⟨w1.heap.size, 0, none⟩) (.good [])) := ⟨_, rfl, new_writer (Blk.new w1 69 Z) ZHid.out.1 ZHid.out.2.1.out ZHid.out.2.2.1.out ZHid.out.2.2.2.1.out ZHid.out.2.2.2.2.out⟩
  have HB2 : Hid (Below w.heap.size w (w1.alloc (.cells Z 69))) := HB1.out.alloc HB1.out.size _
  have RO2 := hid (RO.out.alloc (.cells Z 69))
  have LW : Hid (w1.heap.size < (w1.alloc (.cells Z 69)).heap.size) := by show _ < _; simp
  have LS : Hid (gs < w1.heap.size) := RO.out.lt
  have LB : Hid (w.heap.size ≤ w1.heap.size) := HB1.out.size
  clear RO HB1 ZHid HRI HRS HC1 CSG IDI SDI
  go_wp2_with fail
  generalize w1.alloc (.cells Z 69) = w2 at HW0 HB2 RO2 LW ⊢
  generalize w1.heap.size = wb at HW0 LW LS LB ⊢
  have HOF : Hid (∀ k, Of (some ⟨wb, 0, none⟩) k → w.heap.size ≤ k) := by rintro k ⟨a, ha, rfl⟩; injection ha with ha; subst ha; exact LB.out
  have H1 := hid (WU32_any (some ⟨wb, 0, none⟩) (.good []) q w2 HW0.out HQ.out (by simp [WS.len]))
  clear HW0
  go_wp2_with (first
    | (go_at_call 37; (with_reducible refine H1.out.mono ?_); rintro e w3 ⟨rfl, hw3, ho3⟩; have B3 := hid (HB2.out.trans (ho3.below HB2.out.size HOF.out)); have RO3 := hid (RO2.out.same (ho3.block _ RO2.out.lt (not_of (Nat.ne_of_lt LS.out)))); have H2 := WPlain_any (some ⟨wb, 0, none⟩) (.good (be q 4)) (some ⟨gs, 0, none⟩) ks SK w3 hw3 (rp_off RO3.out (Nat.ne_of_lt LS.out)) (by simp only [WS.len, be_length, HSL.out]; omega); rw [HSL.out] at H2; have H2 := hid H2; clear hw3 ho3)
    | (go_at_call 38; refine H2.out.mono ?_; rintro e w4 ⟨rfl, hw4, ho4⟩; have B4 := hid (B3.out.trans (ho4.below B3.out.size HOF.out)); have c0 := HC0.out _ B4.out; have H3 := hid (WU32_any (some ⟨wb, 0, none⟩) (.good (be q 4 ++ SK)) h w4 hw4 HH.out (by simp only [WS.len, List.length_append, be_length, HSL.out]; omega)); clear hw4 ho4)
    | (go_at_call 37; refine H3.out.mono ?_; rintro e w5 ⟨rfl, hw5, ho5⟩; have B5 := hid (B4.out.trans (ho5.below B4.out.size HOF.out)); have HW5 := hid hw5; clear hw5 ho5)
    | (go_at_call 50; refine (CK.out _ B5.out).mono ?_; rintro e w6 ⟨rfl, rfl⟩))
  have HAS : Hid (be (q : Int) 4 ++ SK ++ be h 4 = (be (q : Int) 4 ++ SK ++ be h 4) ++ pth nf 0 (K + q)) := (List.append_nil _).symm
  obtain ⟨PRE, hPRE⟩ : ∃ PRE, PRE = be (q : Int) 4 ++ SK ++ be h 4 := ⟨_, rfl⟩
  have LPR : Hid (PRE.length = 8 + ks) := by show _ = _; rw [hPRE]; simp only [List.length_append, be_length, HSL.out]; omega
  have HW6 : Hid (WRep w5 (some ⟨wb, 0, none⟩) (.good (PRE ++ pth nf 0 (K + q)))) := by show WRep _ _ _; rw [hPRE, ← HAS.out]; exact HW5.out
  rw [← hPRE] at HP
  clear hPRE HAS HW5 H1 H2 H3 HB2 B3 B4 RO2 RO3 LW LS hwq hwh
  go_wp2_with fail
  go_loopw [11] (fun i wr => ∃ j : Nat, j ≤ hh ∧ i = .int .i64 (((K + q) / 2 ^ j : Nat) : Int) ∧ Hid (WRep wr (some ⟨wb, 0, none⟩) (.good (PRE ++ pth nf j (K + q)))) ∧ Hid (Bw w wr)) (fun i _ => (intOf i).toNat)
  case atStart => exact ⟨0, Nat.zero_le _, by simp, HW6, ⟨B5.out⟩⟩
  case round =>
    obtain ⟨j, hj, rfl, HW, HB⟩ := hrel
    clear HW6 B5
    have hu := HUP.out j hj
    have HSN := hid (pth_snoc nf j (K + q))
    have HDV : Hid ((K + q) / 2 ^ (j + 1) = (K + q) / 2 ^ j / 2) := by show _ = _; rw [Nat.div_div_eq_div_mul]; congr 1
    have HPL2 := HPT.out j (K + q)
    obtain ⟨r, hr⟩ : ∃ r, r = (K + q) / 2 ^ j := ⟨_, rfl⟩
    rw [← hr] at hu HSN HDV
    rw [← hr]
    clear hr
    by_cases hlt : j < hh
    · have hr1 : 1 < r := hu.1.2 hlt
      have hr2 : r < 2 * K := by have := hu.2.2; omega
      have hri : (1 : Int) < (r : Int) := by omega
      have CBE := hid (fun w => beside_any r (by omega) w)
      have hb1 : 1 ≤ bsd r ∧ bsd r < 2 * K := by unfold bsd; omega
      obtain ⟨b, hbe⟩ : ∃ b, b = bsd r := ⟨_, rfl⟩
      rw [← hbe] at CBE HSN hb1
      have hbi : (b : Int) < 2 * (K : Int) := by omega
      have HLT : Hid ((PRE ++ pth nf j (K + q)).length + 32 < 1000000000000) := by show _ < _; rw [List.length_append, LPR.out, HPL2]; omega
      have CWP : Hid (∀ w1, WRep w1 (some ⟨wb, 0, none⟩) (.good (PRE ++ pth nf j (K + q))) → Below w.heap.size w w1 → g ≠ wb → Calls Tryd.prog 38 #[.pointer (some ⟨wb, 0, none⟩), .slice (some ⟨g, b * 32, none⟩) 32 32] w1 fun e w' => e = .returned (.tuple #[]) ∧ WRep w' (some ⟨wb, 0, none⟩) (.good (PRE ++ pth nf j (K + q) ++ nf b)) ∧ OnlyS (Of (some ⟨wb, 0, none⟩)) w1 w') := fun w1 hw hb hg => by
        have := WPlain_any (some ⟨wb, 0, none⟩) (.good (PRE ++ pth nf j (K + q))) (some ⟨g, b * 32, none⟩) 32 (nf b) w1 hw (rng_off (HRN.out w1 b hb1.1 hb1.2 hb) hg) (by rw [(NK.out b).len]; exact HLT.out)
        rw [(NK.out b).len] at this
        exact this
      have HGW : Hid (g ≠ wb) := Nat.ne_of_lt (Nat.lt_of_lt_of_le hgl LB.out)
      clear hu hb1 hbe
      go_wp2_with fail
      refine wp_region_held (S := fun w' => Hid (Bw w w')) (by kernel_rfl) ?_
      change wpAnyH _ _ _ _ _ _ _ _ wr.drew
      have Gx0 : Hid (Bw w wr.drew) := HB.out.drew
      have HBx0 : Below wr.heap.size wr wr.drew := (Below.refl _ _).drew
      have HW := hid (HW.out.below HBx0)
      clear HBx0
      generalize wr.drew = x0 at Gx0 HW ⊢
      refine wpAnyH_take (i := 0) (oi := { dst := some 63, op := _, type := _, pos := _, after := _, guard := _ }) (v := ?_) rfl (by kernel_rfl) (by kernel_rfl) (by kernel_rfl) (fun _ _ _ h => h) (Or.inl ⟨by kernel_rfl, ?_⟩) (by assumption) ?_
      rotate_left
      · (intro w hSw; go_simp; try with_reducible rfl)
      try simp only [Act.put, List.setIfInBounds_toArray, List.set_cons_zero, List.set_cons_succ]
      refine wpAnyH_take (i := 1) (oi := { dst := some 64, op := _, type := _, pos := _, after := _, guard := _ }) (v := ?_) rfl (by kernel_rfl) (by kernel_rfl) (by kernel_rfl) (fun _ _ _ h => h) (Or.inl ⟨by kernel_rfl, ?_⟩) (by assumption) ?_
      rotate_left
      · (intro w hSw; go_simp; try with_reducible rfl)
      try simp only [Act.put, List.setIfInBounds_toArray, List.set_cons_zero, List.set_cons_succ]
      refine wpAnyH_take (i := 2) (oi := { dst := some 65, op := _, type := _, pos := _, after := _, guard := _ }) (v := ?_) rfl (by kernel_rfl) (by kernel_rfl) (by kernel_rfl) (fun _ _ _ h => h) (Or.inl ⟨by kernel_rfl, ?_⟩) (by assumption) ?_
      rotate_left
      · (intro w hSw; go_simp; try with_reducible rfl)
      try simp only [Act.put, List.setIfInBounds_toArray, List.set_cons_zero, List.set_cons_succ]
      refine wpAnyH_take (i := 3) (oi := { dst := some 66, op := _, type := _, pos := _, after := _, guard := _ }) (v := ?_) rfl (by kernel_rfl) (by kernel_rfl) (by kernel_rfl) (fun _ _ _ h => h) (Or.inl ⟨by kernel_rfl, ?_⟩) (by assumption) ?_
      rotate_left
      · (intro w hSw; have c50 := HC50.out _ (Hid.out hSw).bl; go_simp; try with_reducible rfl)
      try simp only [Act.put, List.setIfInBounds_toArray, List.set_cons_zero, List.set_cons_succ]
      refine wpAnyH_take (i := 4) (oi := { dst := some 67, op := _, type := _, pos := _, after := _, guard := _ }) (v := ?_) rfl (by kernel_rfl) (by kernel_rfl) (by kernel_rfl) (fun _ _ _ h => h) (Or.inl ⟨by kernel_rfl, ?_⟩) (by assumption) ?_
      rotate_left
      · (intro w hSw; go_simp; try with_reducible rfl)
      try simp only [Act.put, List.setIfInBounds_toArray, List.set_cons_zero, List.set_cons_succ]
      refine wpAnyH_ready (rs := [5]) (by kernel_rfl) (by simp) ?_
      refine (AllReadyH.cons (o := { dst := some 68, op := _, type := _, pos := _, after := _, guard := _ }) rfl (fun Qc hQc => ?_) AllReadyH.nil)
      go_simp
      go_at_call 63; refine (CBE.out _).mono ?_; rintro e wq ⟨rfl, rfl⟩
      go_wp2_with fail
      refine hQc.out _ _ Gx0 (fun hHeld => ?_)
      clear hQc Qc
      try simp only [Act.put, List.setIfInBounds_toArray, List.set_cons_zero, List.set_cons_succ]
      refine wpAnyH_take (i := 6) (oi := { dst := some 69, op := _, type := _, pos := _, after := _, guard := _ }) (v := ?_) rfl (by kernel_rfl) (by kernel_rfl) (by kernel_rfl) (fun _ _ _ h => h) (Or.inl ⟨by kernel_rfl, ?_⟩) (by assumption) ?_
      rotate_left
      · (intro w hSw; go_simp; try with_reducible rfl)
      try simp only [Act.put, List.setIfInBounds_toArray, List.set_cons_zero, List.set_cons_succ]
      refine wpAnyH_take (i := 7) (oi := { dst := some 70, op := _, type := _, pos := _, after := _, guard := _ }) (v := ?_) rfl (by kernel_rfl) (by kernel_rfl) (by kernel_rfl) (fun _ _ _ h => h) (Or.inl ⟨by kernel_rfl, ?_⟩) (by assumption) ?_
      rotate_left
      · (intro w hSw; go_simp; try with_reducible rfl)
      try simp only [Act.put, List.setIfInBounds_toArray, List.set_cons_zero, List.set_cons_succ]
      refine wpAnyH_ready (rs := [8]) (by kernel_rfl) (by simp) ?_
      refine (AllReadyH.cons (o := { dst := some 71, op := _, type := _, pos := _, after := _, guard := _ }) rfl (fun Qc hQc => ?_) AllReadyH.nil)
      go_simp
      go_at_call 38; refine (CWP.out _ HW.out Gx0.out.bl HGW.out).mono ?_; rintro e x2 ⟨rfl, hw9, ho9⟩
      have HW9 := hid hw9
      have Gx2 : Hid (Bw w x2) := ⟨Gx0.out.bl.trans (ho9.below Gx0.out.bl.size HOF.out)⟩
      clear hw9 ho9
      go_wp2_with fail
      refine hQc.out _ _ Gx2 (fun hHeld => ?_)
      clear hQc Qc Gx0
      try simp only [Act.put, List.setIfInBounds_toArray, List.set_cons_zero, List.set_cons_succ]
      refine wpAnyH_done (by kernel_rfl) ?_ _
      try simp only [Act.put, List.setIfInBounds_toArray, List.set_cons_zero, List.set_cons_succ]
      go_wp2_with fail
      exact ⟨⟨j + 1, by omega, by rw [HDV.out]; go_num, by (show WRep _ _ _); rw [HSN.out, ← List.append_assoc]; exact HW9.out, Gx2⟩, by simp [intOf]; omega⟩
    · have hjh : j = hh := by omega
      have hr1 : ¬ 1 < r := fun h => hlt (hu.1.1 h)
      have hri : ¬ (1 : Int) < (r : Int) := by omega
      have hW : WRep wr (some ⟨wb, 0, none⟩) (.good SG) := by have := HW.out; rw [hjh, ← HP.out] at this; exact this
      have H9 := Out_good (some ⟨wb, 0, none⟩) SG wr hW (by rw [HPL.out]; omega)
      rw [HPL.out] at H9
      have H9 := hid H9
      clear hu hW HW hlt hr1
      go_wp2_with (go_at_call 42; refine H9.out.mono ?_; rintro e w9 ⟨rfl, hk9, hb9⟩; have K9 := hid hk9; have B9 := hid (HB.out.bl.trans (hb9.mono HB.out.bl.size)); clear hk9 hb9)
      go_ret2
      exact ⟨wr.heap.size, rfl, HB.out.bl.size, K9.out, B9.out⟩
end Go.Proofs.YtobceieadjpaaaaDoor
