/-
  What is proved here: to which public key the reference says that a signature leads.
-/
import Derived.Test.YtobceieadjpaaaaDoorMKf1
set_option linter.unusedSimpArgs false
set_option linter.unusedVariables false
namespace Go.Proofs.YtobceieadjpaaaaDoor
open Go.ChangeShapes Go.WideShapes Go.ChangeAt Go.RowKit
set_option linter.unusedVariables false
set_option maxRecDepth 20000

theorem arrayAt_32o (ga off c9 : Nat) (w : World) : (Instr.arrayAt 26 (.slice (some ⟨ga, off, none⟩) 32 c9)).run Tryd.prog w = .ok (.pointer (some ⟨ga, off, none⟩)) w := by
  unfold Instr.arrayAt
  simp [Sem.run_bind, Sem.run_pure, Result.andThen]
/-- bytes that are read lie at an address without a spot -/
theorem rp_plain {w : World} {A : Option Addr} {xs : List Int} (h : Rp w none A xs) (hx : 0 < xs.length) : ∃ b off, A = some ⟨b, off, none⟩ ∧ b < w.heap.size ∧ w.rangeAt b off (u8s xs) := by
  obtain ⟨⟨b, off, s⟩, rfl, _, hc⟩ := h hx
  have h0 := hc 0 hx
  have hs : s = none := by
    cases s with
    | none => rfl
    | some v =>
      unfold World.cell? Addr.add at h0
      simp at h0
      split at h0
      · cases h0
      · cases h0
  subst hs
  refine ⟨b, off, rfl, block_lt_of_cell h0, fun j v hv => ?_⟩
  have hj : j < xs.length := by
    rcases Nat.lt_or_ge j xs.length with h1 | h1
    · exact h1
    · rw [List.getElem?_eq_none (by rw [u8s_length]; exact h1)] at hv; cases hv
  rw [← Addr.add_mid, hc j hj, ← hv, u8s_get _ _ hj]
theorem rng_part {w : World} {b off : Nat} {xs : List Int} (h : w.rangeAt b off (u8s xs)) (a n : Nat) : w.rangeAt b (off + a) (u8s ((xs.drop a).take n)) := fun j v hv => by
  have e : u8s ((xs.drop a).take n) = ((u8s xs).drop a).take n := by unfold u8s; rw [List.map_take, List.map_drop]
  rw [e, List.getElem?_take] at hv
  split at hv
  · rw [List.getElem?_drop] at hv
    rw [Nat.add_assoc]
    exact h _ v hv
  · cases hv
theorem rp_rng {w : World} {b off : Nat} {xs : List Int} (h : w.rangeAt b off (u8s xs)) : Rp w none (some ⟨b, off, none⟩) xs := fun _ =>
  ⟨_, rfl, (fun ⟨a, e, _⟩ => by cases e), fun j hj => by rw [Addr.add_mid]; exact h j _ (u8s_get _ _ hj)⟩
theorem rng_below {w w' : World} {b off : Nat} {cs : List Value} (h : w.rangeAt b off cs) (hl : b < w.heap.size) (hb : Below w.heap.size w w') : w'.rangeAt b off cs := fun j v hv =>
  (World.cell?_of_block (w := w) (hb.block _ hl)).trans (h j v hv)

theorem rows_len (m : Nat) (f : Nat → List Int) (h : ∀ i, i < m → (f i).length = 32) : (rowsOf m f).length = 32 * m := by
  induction m with
  | zero => rfl
  | succ m ih => rw [rowsOf_succ, List.length_append, ih (fun i hi => h i (by omega)), h m (by omega)]; omega
theorem rows_bs (m : Nat) (f : Nat → List Int) (h : ∀ i, i < m → Bs (f i)) : Bs (rowsOf m f) := by
  intro v hv
  unfold rowsOf at hv
  obtain ⟨i, hi0, hi⟩ := List.mem_flatMap.1 hv
  exact h i (by simpa using hi0) v hi

set_option maxRecDepth 5000 in
set_option maxHeartbeats 16000000 in
theorem kRecover_any (id : List Int) (q : Int) (A : Option Addr) (m c : Nat) (msg : List Int) (A2 : Option Addr) (m2 c2 : Nat) (sig : List Int) (w : World) (hi : Idn id) (hq : 0 ≤ q ∧ q < 4294967296) (hm : m = msg.length) (hr : Rp w none A msg) (hbs : Bs msg) (hl : msg.length < 100000)
    (hm2 : m2 = sig.length) (hr2 : Rp w none A2 sig) (hb2 : Bs sig) (hl2 : sig.length < 1000000) (hc2 : m2 ≤ c2) :
    Calls Tryd.prog 58 #[.agg (u8s id).toArray, .int .u32 q, .slice A m c, .slice A2 m2 c2] w fun e w' => e = .returned (.tuple #[.agg (u8s (recK id q msg sig)).toArray, .bool (sigB sig)]) ∧ Below w.heap.size w w' := by
  obtain ⟨Z, HZ, hZ0, hZs⟩ := zero_Hash
  have hz32 : Z.size = 32 := by rw [HZ.out, List.size_toArray, u8s_length]; simp
  obtain ⟨hk1, hk2, hb0⟩ := blks2 w (u8s id).toArray Z 23 26
  have K1 := hid hk1; have K2 := hid hk2; have B0 := hid hb0
  have HHI := hid (info_hash zeroK (by unfold zeroK; simp))
  have HZZ : Hid (Z = (u8s zeroK).toArray) := HZ.out
  have HZA : Hid (Z.all (·.oneCell') = true) := by rw [HZZ.out]; exact hid (u8s_all zeroK)
  rw [← HZZ.out] at HHI
  have HR2 := hid (fun (w1 : World) (hb : Below w.heap.size w w1) => hr2.belowN hb)
  rcases Nat.lt_or_ge m2 36 with hs | hs
  · have hno : sigB sig = false := by unfold sigB; exact decide_eq_false (by omega)
    have HNO := hid hno
    have HRK : Hid (recK id q msg sig = zeroK) := by show _ = _; unfold recK; rw [if_neg (by rw [hno]; simp)]
    have h36 : (m2 : Int) < 36 := by omega
    clear hno hk1 hk2 hb0 hi hq hm hr hbs hl hm2 hr2 hb2 hl2 hc2 hs hz32
    go_enter Tryd.func58, Tryd.ntmps58
    go_wp2_with (refine wpList_store_row rfl 26 (.tmp 8) (.tmp 19) rfl (w.heap.size + 1) Z rfl rfl 26 Z K2.out HHI.out rfl HZA.out ?_)
    try go_frame
    refine bodyPost_ret (results_two Tryd.results58 _ _ (w.heap.size + 1) 26 Z (0, 0) _ rfl (K2.out.row _) Tryd.underlying26 rfl HHI.out) rfl ?_
    exact ⟨by rw [HNO.out, HRK.out, HZZ.out]; rfl, below_setRow B0.out (by omega) _⟩
  · obtain ⟨gb, off, rfl, hgb, hrng⟩ := rp_plain hr2 (by omega)
    have hx := val_bound (sig.take 4) (hb2.take 4)
    rw [List.length_take, Nat.min_eq_left (by omega)] at hx
    obtain ⟨x, hxv⟩ : ∃ x, x = val (sig.take 4) := ⟨_, rfl⟩
    rw [← hxv] at hx
    have hx1 : 0 ≤ x := hx.1
    have hx2 : x < 4294967296 := hx.2
    have hxw : IntKind.i64.wrap x = x := IntWalk.i64_in _ (by omega)
    have h36 : ¬ (m2 : Int) < 36 := by omega
    have h4 : ¬ c2 < 4 := by omega
    have h4' : 4 ≤ c2 := by omega
    have hc0 : ¬ c2 = 0 := by omega
    have CV : Hid (∀ c9 w1, Below w.heap.size w w1 → Calls Tryd.prog 54 #[.slice (some ⟨gb, off, none⟩) 4 c9] w1 fun e w' => e = .returned (.int .u64 x) ∧ w1 = w') := fun c9 w1 hb => by
      have := Value_any (some ⟨gb, off, none⟩) c9 (sig.take 4) w1 ((hr2.belowN hb).take 4) (hb2.take 4) (by rw [List.length_take]; omega)
      rw [List.length_take, Nat.min_eq_left (by omega), ← hxv] at this
      exact this
    have CSZ := hid (kSize_any x)
    by_cases hgood : (¬ x < 1 ∧ ¬ x > 4) ∧ m2 = ksize x
    · obtain ⟨⟨hA, hB⟩, hC⟩ := hgood
      have hC' : (((m2 : Nat) : Int) != ((ksize x : Nat) : Int)) = false := by rw [hC]; simp
      have hkd : Kd x := by unfold Kd; omega
      have hyes : sigB sig = true := by unfold sigB; rw [← hxv]; exact decide_eq_true (by omega)
      have HYES := hid hyes
      have hsz := kd_size hkd
      have HRK : Hid (recK id q msg sig = under id q 32896 (rowsOf (kchains x) fun i => steps id q i ((sig.drop (36 + 32 * i)).take 32) (dgt x (hashed id q ((sig.drop 4).take 32) msg) i) ((kmost x).toNat - dgt x (hashed id q ((sig.drop 4).take 32) msg) i))) := by show _ = _; unfold recK; rw [if_pos hyes, ← hxv]; rfl
      generalize recK id q msg sig = RK at HRK ⊢
      have hm0 : kmost x = (((kmost x).toNat : Nat) : Int) := by rcases hkd with rfl | rfl | rfl | rfl <;> decide
      have hm1 : (kmost x).toNat < 256 := kmost_lt hkd
      have CM := hid (kMost_any x)
      rw [hm0] at CM
      have hch : kchains x ≤ 265 := kchains_le x
      have hsl : Ky ((sig.drop 4).take 32) := ⟨by rw [List.length_take, List.length_drop]; omega, (hb2.drop 4).take 32⟩
      have hhk : Ky (hashed id q ((sig.drop 4).take 32) msg) := under_ky _ _ _ _
      have HRN : Hid (∀ w1, Below w.heap.size w w1 → w1.rangeAt gb off (u8s sig)) := fun w1 hb => rng_below hrng hgb hb
      have CH : Hid (∀ c9 w1, Below w.heap.size w w1 → Calls Tryd.prog 85 #[.agg (u8s id).toArray, .int .u32 q, .slice (some ⟨gb, off + 4, none⟩) 32 c9, .slice A m c] w1 fun e w' => e = .returned (.agg (u8s (hashed id q ((sig.drop 4).take 32) msg)).toArray) ∧ Below w1.heap.size w1 w') := fun c9 w1 hb =>
        kHashed_any id q (some ⟨gb, off + 4, none⟩) 32 c9 ((sig.drop 4).take 32) A m c msg w1 hi hq hsl.len.symm (rp_rng (rng_part (HRN.out w1 hb) 4 32)) hsl.bs (by rw [hsl.len]; decide) hm (hr.belowN hb) hbs hl
      have CD := hid (fun w => kDigits_any x (hashed id q ((sig.drop 4).take 32) msg) w hhk)
      have DL : Hid ((digits x (hashed id q ((sig.drop 4).take 32) msg)).length = kchains x) := digits_length _ _
      have DG : Hid (∀ i, (digits x (hashed id q ((sig.drop 4).take 32) msg))[i]?.getD 0 = ((dgt x (hashed id q ((sig.drop 4).take 32) msg) i : Nat) : Int)) := fun i => dgt_int _ _ i
      have DLT : Hid (∀ i, dgt x (hashed id q ((sig.drop 4).take 32) msg) i < 256) := fun i => Nat.lt_of_le_of_lt (dgt_le hkd _ i) (kmost_lt hkd)
      generalize dgt x (hashed id q ((sig.drop 4).take 32) msg) = dg at HRK DG DLT
      generalize digits x (hashed id q ((sig.drop 4).take 32) msg) = D at CD DL DG
      generalize hashed id q ((sig.drop 4).take 32) msg = hh at CH CD
      generalize (kmost x).toNat = mm at CM HRK hm1
      have HKY : Hid (∀ i, i < kchains x → Ky ((sig.drop (36 + 32 * i)).take 32)) := fun i h => ⟨by rw [List.length_take, List.length_drop]; omega, (hb2.drop _).take 32⟩
      have HLE : Hid (∀ i, i < kchains x → 36 + 32 * i + 32 ≤ m2) := fun i h => by omega
      have hC3 : ((ksize x : Nat) : Int) = (m2 : Int) := by omega
      rw [hC3] at CSZ
      generalize kchains x = ch at HRK hch CD DL HKY HLE
      have HP : Hid (∀ i, ((sig.drop (36 + 32 * i)).take 32).length ≤ 32) := fun i => by show _ ≤ _; rw [List.length_take]; omega
      obtain ⟨part, hpart⟩ : ∃ part : Nat → List Int, part = fun i => (sig.drop (36 + 32 * i)).take 32 := ⟨_, rfl⟩
      have HRK2 : Hid (RK = under id q 32896 (rowsOf ch fun i => steps id q i (part i) (dg i) (mm - dg i))) := by rw [hpart]; exact HRK
      have KY2 : Hid (∀ i, i < ch → Ky (part i)) := by rw [hpart]; exact HKY
      have HRN2 : Hid (∀ i w1, Below w.heap.size w w1 → w1.rangeAt gb (off + (36 + 32 * i)) (u8s (part i))) := by rw [hpart]; exact fun i w1 hb => rng_part (HRN.out w1 hb) (36 + 32 * i) 32
      have CS : Hid (∀ (i : Nat) (w : World), i < ch → Calls Tryd.prog 86 #[.agg (u8s id).toArray, .int .u32 q, .int .i64 i, .agg (u8s (part i)).toArray, .int .i64 (dg i : Nat), .int .i64 mm] w fun e w' => e = .returned (.agg (u8s (steps id q i (part i) (dg i) (mm - dg i))).toArray) ∧ Below w.heap.size w w') :=
        fun i w h => kSteps_any id q i (part i) (dg i) mm w hi hq (by omega) (KY2.out i h) (DLT.out i) hm1
      have FKY : Hid (∀ i, i < ch → Ky (steps id q i (part i) (dg i) (mm - dg i))) := fun i h => steps_ky (KY2.out i h) _ _
      have CU := hid (fun (A : Option Addr) (c n : Nat) (E : List Int) (w : World) (hn : n = E.length) (hr : Rp w none A E) (hb : Bs E) (hl : E.length < 1000000) => kUnder_any id q 32896 A n c E w hi hq (by decide) hn hr hb hl)
      have IDI := hid (id_info hi)
      have hwx : IntKind.i64.wrap x = x := IntWalk.i64_in _ (by omega)
      have h36c : ¬ c2 < 36 := by omega
      have h36d : 36 ≤ c2 := by omega
      have HM2C : Hid (m2 ≤ c2) := hc2
      have HZS : Hid (Z.size = 32) := hz32
      have hA1 : 1 ≤ x := by omega
      have hB1 : x ≤ 4 := by omega
      have h36e : (36 : Int) ≤ (c2 : Int) := by omega
      have hc4 : ¬ c2 = 4 := by omega
      clear hA hB hC hC3 hsz hkd hyes hm0 hsl hhk HKY HRK HP hpart hk1 hk2 hb0 hi hq hm hr hbs hl hm2 hr2 hb2 hl2 hc2 hs hz32 hx hxv hrng hgb HR2
      go_enter Tryd.func58, Tryd.ntmps58
      go_wp2_with (first
        | (go_at_call 54; refine (CV.out _ _ B0.out).mono ?_; rintro e w1 ⟨rfl, rfl⟩)
        | (go_at_call 57; refine (CSZ.out _).mono ?_; rintro e w1 ⟨rfl, rfl⟩))
      generalize (w.alloc (.cells (u8s id).toArray 23)).alloc (.cells Z 26) = w0 at K1 K2 B0 ⊢
      have GB0 : Hid (Bw w0 w0) := ⟨Below.refl _ _⟩
      refine wp_region_held (S := fun w' => Hid (Bw w0 w')) (by kernel_rfl) ?_
      change wpAnyH _ _ _ _ _ _ _ _ w0.drew
      have Gx0 : Hid (Bw w0 w0.drew) := GB0.out.drew
      have HBx0 : Below w0.heap.size w0 w0.drew := (Below.refl _ _).drew
      clear HBx0
      generalize w0.drew = x0 at Gx0  ⊢
      refine wpAnyH_take (i := 0) (oi := { dst := some 40, op := _, type := _, pos := _, after := _, guard := _ }) (v := ?_) rfl (by kernel_rfl) (by kernel_rfl) (by kernel_rfl) (fun _ _ _ h => h) (Or.inl ⟨by kernel_rfl, ?_⟩) (by assumption) ?_
      rotate_left
      · (intro w hSw; go_simp; try with_reducible rfl)
      try simp only [Act.put, List.setIfInBounds_toArray, List.set_cons_zero, List.set_cons_succ]
      refine wpAnyH_take (i := 1) (oi := { dst := some 41, op := _, type := _, pos := _, after := _, guard := _ }) (v := .agg ((u8s id).toArray)) rfl (by kernel_rfl) (by kernel_rfl) (by kernel_rfl) (fun _ _ _ h => h) (yieldsIf_load_mid (cs := u8s id) (by rfl) _ _ rfl _ _ rfl _ (fun w' hSw => blk_row (K1.out.below (Hid.out hSw).bl)) Tryd.underlying23 rfl IDI.out) (by assumption) ?_
      try simp only [Act.put, List.setIfInBounds_toArray, List.set_cons_zero, List.set_cons_succ]
      refine wpAnyH_take (i := 2) (oi := { dst := some 42, op := _, type := _, pos := _, after := _, guard := _ }) (v := ?_) rfl (by kernel_rfl) (by kernel_rfl) (by kernel_rfl) (fun _ _ _ h => h) (Or.inl ⟨by kernel_rfl, ?_⟩) (by assumption) ?_
      rotate_left
      · (intro w hSw; go_simp; try with_reducible rfl)
      try simp only [Act.put, List.setIfInBounds_toArray, List.set_cons_zero, List.set_cons_succ]
      refine wpAnyH_take (i := 3) (oi := { dst := some 43, op := _, type := _, pos := _, after := _, guard := _ }) (v := ?_) rfl (by kernel_rfl) (by kernel_rfl) (by kernel_rfl) (fun _ _ _ h => h) (Or.inl ⟨by kernel_rfl, ?_⟩) (by assumption) ?_
      rotate_left
      · (intro w hSw; go_simp; try with_reducible rfl)
      try simp only [Act.put, List.setIfInBounds_toArray, List.set_cons_zero, List.set_cons_succ]
      refine wpAnyH_take (i := 4) (oi := { dst := some 44, op := _, type := _, pos := _, after := _, guard := _ }) (v := .slice (some ⟨gb, off + 4, none⟩) 32 (c2 - 4)) rfl (by kernel_rfl) (by kernel_rfl) (by kernel_rfl) (fun _ _ _ h => h) (Or.inl ⟨by kernel_rfl, ?_⟩) (by assumption) ?_
      · (intro w hSw; go_simp; try with_reducible rfl)
      try simp only [Act.put, List.setIfInBounds_toArray, List.set_cons_zero, List.set_cons_succ]
      refine wpAnyH_take (i := 5) (oi := { dst := some 45, op := _, type := _, pos := _, after := _, guard := _ }) (v := ?_) rfl (by kernel_rfl) (by kernel_rfl) (by kernel_rfl) (fun _ _ _ h => h) (Or.inl ⟨by kernel_rfl, ?_⟩) (by assumption) ?_
      rotate_left
      · (intro w hSw; go_simp; try with_reducible rfl)
      try simp only [Act.put, List.setIfInBounds_toArray, List.set_cons_zero, List.set_cons_succ]
      refine wpAnyH_ready (rs := [6]) (by kernel_rfl) (by simp) ?_
      refine (AllReadyH.cons (o := { dst := some 46, op := _, type := _, pos := _, after := _, guard := _ }) rfl (fun Qc hQc => ?_) AllReadyH.nil)
      go_simp
      go_at_call 85; refine (CH.out _ _ (B0.out.trans (Gx0.out.bl.mono B0.out.size))).mono ?_; rintro e x1 ⟨rfl, hbx1⟩
      have Gx1 := hid (Gx0.out.below hbx1)
      clear hbx1
      go_wp2_with fail
      refine hQc.out _ _ Gx1 (fun hHeld => ?_)
      clear hQc Qc Gx0
      try simp only [Act.put, List.setIfInBounds_toArray, List.set_cons_zero, List.set_cons_succ]
      refine wpAnyH_ready (rs := [7]) (by kernel_rfl) (by simp) ?_
      refine (AllReadyH.cons (o := { dst := some 47, op := _, type := _, pos := _, after := _, guard := _ }) rfl (fun Qc hQc => ?_) AllReadyH.nil)
      go_simp
      go_at_call 84; refine (CD.out _).mono ?_; rintro e x2 ⟨A9, c9, rfl, hri, hbx2⟩; have HD0 := hid hri; clear hri
      have Gx2 := hid (Gx1.out.below hbx2)
      clear hbx2
      go_wp2_with fail
      refine hQc.out _ _ Gx2 (fun hHeld => ?_)
      clear hQc Qc Gx1
      try simp only [Act.put, List.setIfInBounds_toArray, List.set_cons_zero, List.set_cons_succ]
      refine wpAnyH_take (i := 8) (oi := { dst := some 12, op := _, type := _, pos := _, after := _, guard := _ }) (v := ?_) rfl (by kernel_rfl) (by kernel_rfl) (by kernel_rfl) (fun _ _ _ h => h) (Or.inl ⟨by kernel_rfl, ?_⟩) (by assumption) ?_
      rotate_left
      · (intro w hSw; go_simp; try with_reducible rfl)
      try simp only [Act.put, List.setIfInBounds_toArray, List.set_cons_zero, List.set_cons_succ]
      refine wpAnyH_done (by kernel_rfl) ?_ _
      try simp only [Act.put, List.setIfInBounds_toArray, List.set_cons_zero, List.set_cons_succ]
      have G7 : Hid (Below w0.heap.size w0 x2) := Gx2.out.bl
      generalize x2 = w7 at G7 HD0 ⊢
      clear CH CD CV CSZ
      have O7 := hid (own_none w7 w7.heap.size)
      have W7 := hid (B0.out.trans (G7.out.mono B0.out.size))
      have N1 := hid (K1.out.below G7.out)
      have N2 := hid (K2.out.below G7.out)
      have KB : Hid (w.heap.size + 1 < w7.heap.size) := N2.out.lt
      clear K1 K2 B0 G7
      go_wp2_with fail
      go_loopw [13, 14] (fun a i wr => ∃ j : Nat, j ≤ ch ∧ i = .int .i64 j ∧ Hid (wr.ownsRow w7.heap.size 5 1 a (rowsOf j fun i => steps id q i (part i) (dg i) (mm - dg i)).length (u8s (rowsOf j fun i => steps id q i (part i) (dg i) (mm - dg i)))) ∧ Hid (RpI wr A9 D) ∧ Hid (Below w7.heap.size w7 wr)) (fun _ i _ => ch - (intOf i).toNat)
      case atStart => exact ⟨0, Nat.zero_le _, rfl, O7.out, HD0.out, Below.refl _ _⟩
      case round =>
        obtain ⟨j, hj, rfl, HO, HD, HB⟩ := hrel
        clear O7 HD0
        have L1 := hid (N1.out.same (HB.out.block _ (by have := KB.out; omega)))
        have L2 := hid (N2.out.same (HB.out.block _ (by have := KB.out; omega)))
        have W8 := hid (W7.out.trans (HB.out.mono W7.out.size))
        by_cases hlt : j < ch
        · have hji : (j : Int) < ch := by omega
          have CS1 := hid (fun w => CS.out j w hlt)
          have FK := FKY.out j hlt
          have HL : Hid ((rowsOf j fun i => steps id q i (part i) (dg i) (mm - dg i)).length = 32 * j) := rows_len _ _ (fun i h => (FKY.out i (by omega)).len)
          have HR1 : Hid ((rowsOf (j + 1) fun i => steps id q i (part i) (dg i) (mm - dg i)) = (rowsOf j fun i => steps id q i (part i) (dg i) (mm - dg i)) ++ steps id q j (part j) (dg j) (mm - dg j)) := rowsOf_succ _ _
          obtain ⟨ad, rfl, hcl⟩ := HD.out.get (by rw [DL.out]; omega)
          have HCELL : Hid (∀ w', Below wr.heap.size wr w' → w'.cell? (ad.add j) = some (.int .i64 (dg j : Nat))) := fun w' hb => by
            have h1 := hcl j (by rw [DL.out]; omega)
            rw [DG.out] at h1
            exact (World.cell?_of_block (hb.block _ (block_lt_of_cell h1))).trans h1
          have HPR : Hid (∀ w1, Below wr.heap.size wr w1 → w1.rangeAt gb (off + (36 + 32 * j)) (u8s (part j))) := fun w1 hb => HRN2.out j w1 (W8.out.trans (hb.mono W8.out.size))
          have HPI := hid (hash_info (KY2.out j hlt).len)
          have hle := HLE.out j hlt
          have hle2 := HM2C.out
          have hw1 : IntKind.i64.wrap (36 + 32 * (j : Int)) = 36 + 32 * (j : Int) := IntWalk.i64_in _ (by omega)
          have hw2 : IntKind.i64.wrap (68 + 32 * (j : Int)) = 68 + 32 * (j : Int) := IntWalk.i64_in _ (by omega)
          have hw3 : IntKind.i64.wrap (32 * (j : Int)) = 32 * (j : Int) := IntWalk.i64_in _ (by omega)
          have ht1 : (36 + 32 * (j : Int)).toNat = 36 + 32 * j := by omega
          have ht2 : (68 + 32 * (j : Int)).toNat = 68 + 32 * j := by omega
          generalize steps id q j (part j) (dg j) (mm - dg j) = R at CS1 FK HR1
          generalize part j = pj at CS1 HPR HPI
          generalize dg j = dj at CS1 HCELL
          have HI := hid (info_hash R FK.len)
          have HZ32 : Hid (Z.size = (u8s R).toArray.size) := HZS.out.trans (hash_size FK.len).symm
          have H32 := hid FK.len
          have GB1 : Hid (Bw wr wr) := ⟨Below.refl _ _⟩
          clear FK hcl
          go_wp2_with fail
          refine wp_region_held (S := fun w' => Hid (Bw wr w')) (by kernel_rfl) ?_
          change wpAnyH _ _ _ _ _ _ _ _ wr.drew
          have Gx0 : Hid (Bw wr wr.drew) := GB1.out.drew
          have HBx0 : Below wr.heap.size wr wr.drew := (Below.refl _ _).drew
          clear HBx0
          generalize wr.drew = x0 at Gx0  ⊢
          refine wpAnyH_take (i := 0) (oi := { dst := some 54, op := _, type := _, pos := _, after := _, guard := _ }) (v := .agg ((u8s id).toArray)) rfl (by kernel_rfl) (by kernel_rfl) (by kernel_rfl) (fun _ _ _ h => h) (yieldsIf_load_mid (cs := u8s id) (by rfl) _ _ rfl _ _ rfl _ (fun w' hSw => blk_row (L1.out.below (Hid.out hSw).bl)) Tryd.underlying23 rfl IDI.out) (by assumption) ?_
          try simp only [Act.put, List.setIfInBounds_toArray, List.set_cons_zero, List.set_cons_succ]
          refine wpAnyH_take (i := 1) (oi := { dst := some 55, op := _, type := _, pos := _, after := _, guard := _ }) (v := ?_) rfl (by kernel_rfl) (by kernel_rfl) (by kernel_rfl) (fun _ _ _ h => h) (Or.inl ⟨by kernel_rfl, ?_⟩) (by assumption) ?_
          rotate_left
          · (intro w hSw; go_simp; try with_reducible rfl)
          try simp only [Act.put, List.setIfInBounds_toArray, List.set_cons_zero, List.set_cons_succ]
          refine wpAnyH_take (i := 2) (oi := { dst := some 56, op := _, type := _, pos := _, after := _, guard := _ }) (v := ?_) rfl (by kernel_rfl) (by kernel_rfl) (by kernel_rfl) (fun _ _ _ h => h) (Or.inl ⟨by kernel_rfl, ?_⟩) (by assumption) ?_
          rotate_left
          · (intro w hSw; go_simp; try with_reducible rfl)
          try simp only [Act.put, List.setIfInBounds_toArray, List.set_cons_zero, List.set_cons_succ]
          refine wpAnyH_take (i := 3) (oi := { dst := some 57, op := _, type := _, pos := _, after := _, guard := _ }) (v := ?_) rfl (by kernel_rfl) (by kernel_rfl) (by kernel_rfl) (fun _ _ _ h => h) (Or.inl ⟨by kernel_rfl, ?_⟩) (by assumption) ?_
          rotate_left
          · (intro w hSw; go_simp; try with_reducible rfl)
          try simp only [Act.put, List.setIfInBounds_toArray, List.set_cons_zero, List.set_cons_succ]
          refine wpAnyH_take (i := 4) (oi := { dst := some 58, op := _, type := _, pos := _, after := _, guard := _ }) (v := ?_) rfl (by kernel_rfl) (by kernel_rfl) (by kernel_rfl) (fun _ _ _ h => h) (Or.inl ⟨by kernel_rfl, ?_⟩) (by assumption) ?_
          rotate_left
          · (intro w hSw; go_simp; try with_reducible rfl)
          try simp only [Act.put, List.setIfInBounds_toArray, List.set_cons_zero, List.set_cons_succ]
          refine wpAnyH_take (i := 5) (oi := { dst := some 59, op := _, type := _, pos := _, after := _, guard := _ }) (v := ?_) rfl (by kernel_rfl) (by kernel_rfl) (by kernel_rfl) (fun _ _ _ h => h) (Or.inl ⟨by kernel_rfl, ?_⟩) (by assumption) ?_
          rotate_left
          · (intro w hSw; go_simp; try with_reducible rfl)
          try simp only [Act.put, List.setIfInBounds_toArray, List.set_cons_zero, List.set_cons_succ]
          refine wpAnyH_take (i := 6) (oi := { dst := some 60, op := _, type := _, pos := _, after := _, guard := _ }) (v := ?_) rfl (by kernel_rfl) (by kernel_rfl) (by kernel_rfl) (fun _ _ _ h => h) (Or.inl ⟨by kernel_rfl, ?_⟩) (by assumption) ?_
          rotate_left
          · (intro w hSw; go_simp; try with_reducible rfl)
          try simp only [Act.put, List.setIfInBounds_toArray, List.set_cons_zero, List.set_cons_succ]
          refine wpAnyH_take (i := 7) (oi := { dst := some 61, op := _, type := _, pos := _, after := _, guard := _ }) (v := ?_) rfl (by kernel_rfl) (by kernel_rfl) (by kernel_rfl) (fun _ _ _ h => h) (Or.inl ⟨by kernel_rfl, ?_⟩) (by assumption) ?_
          rotate_left
          · (intro w hSw; go_simp; try with_reducible rfl)
          try simp only [Act.put, List.setIfInBounds_toArray, List.set_cons_zero, List.set_cons_succ]
          refine wpAnyH_take (i := 8) (oi := { dst := some 62, op := _, type := _, pos := _, after := _, guard := _ }) (v := ?_) rfl (by kernel_rfl) (by kernel_rfl) (by kernel_rfl) (fun _ _ _ h => h) (Or.inl ⟨by kernel_rfl, ?_⟩) (by assumption) ?_
          rotate_left
          · (intro w hSw; go_simp; try with_reducible rfl)
          try simp only [Act.put, List.setIfInBounds_toArray, List.set_cons_zero, List.set_cons_succ]
          refine wpAnyH_take (i := 9) (oi := { dst := some 63, op := _, type := _, pos := _, after := _, guard := _ }) (v := ?_) rfl (by kernel_rfl) (by kernel_rfl) (by kernel_rfl) (fun _ _ _ h => h) (Or.inl ⟨by kernel_rfl, ?_⟩) (by assumption) ?_
          rotate_left
          · (intro w hSw; go_simp; try with_reducible rfl)
          try simp only [Act.put, List.setIfInBounds_toArray, List.set_cons_zero, List.set_cons_succ]
          refine wpAnyH_take (i := 10) (oi := { dst := some 64, op := _, type := _, pos := _, after := _, guard := _ }) (v := .slice (some ⟨gb, off + (36 + 32 * j), none⟩) 32 (c2 - (36 + 32 * j))) rfl (by kernel_rfl) (by kernel_rfl) (by kernel_rfl) (fun _ _ _ h => h) (Or.inl ⟨by kernel_rfl, ?_⟩) (by assumption) ?_
          · (intro w hSw; go_simp; rw [if_pos ⟨by omega, by omega⟩, if_pos (by omega), if_neg (by omega), show 68 + 32 * j - (36 + 32 * j) = 32 by omega])
          try simp only [Act.put, List.setIfInBounds_toArray, List.set_cons_zero, List.set_cons_succ]
          refine wpAnyH_take (i := 11) (oi := { dst := some 65, op := _, type := _, pos := _, after := _, guard := _ }) (v := .pointer (some ⟨gb, off + (36 + 32 * j), none⟩)) rfl (by kernel_rfl) (by kernel_rfl) (by kernel_rfl) (fun _ _ _ h => h) (Or.inl ⟨by kernel_rfl, ?_⟩) (by assumption) ?_
          · (intro w hSw; have haa := arrayAt_32o gb (off + (36 + 32 * j)) (c2 - (36 + 32 * j)) w; go_simp; try with_reducible rfl)
          try simp only [Act.put, List.setIfInBounds_toArray, List.set_cons_zero, List.set_cons_succ]
          refine wpAnyH_take (i := 12) (oi := { dst := some 66, op := _, type := _, pos := _, after := _, guard := _ }) (v := .agg ((u8s pj).toArray)) rfl (by kernel_rfl) (by kernel_rfl) (by kernel_rfl) (fun _ _ _ h => h) (yieldsIf_load_mid (cs := u8s pj) (by rfl) _ _ rfl _ _ rfl _ (fun w' hSw => HPR.out w' (Hid.out hSw).bl) Tryd.underlying26 rfl HPI.out) (by assumption) ?_
          try simp only [Act.put, List.setIfInBounds_toArray, List.set_cons_zero, List.set_cons_succ]
          refine wpAnyH_take (i := 13) (oi := { dst := some 67, op := _, type := _, pos := _, after := _, guard := _ }) (v := ?_) rfl (by kernel_rfl) (by kernel_rfl) (by kernel_rfl) (fun _ _ _ h => h) (Or.inl ⟨by kernel_rfl, ?_⟩) (by assumption) ?_
          rotate_left
          · (intro w hSw; go_simp; try with_reducible rfl)
          try simp only [Act.put, List.setIfInBounds_toArray, List.set_cons_zero, List.set_cons_succ]
          refine wpAnyH_take (i := 14) (oi := { dst := some 68, op := _, type := _, pos := _, after := _, guard := _ }) (v := ?_) rfl (by kernel_rfl) (by kernel_rfl) (by kernel_rfl) (fun _ _ _ h => h) (Or.inl ⟨by kernel_rfl, ?_⟩) (by assumption) ?_
          rotate_left
          · (intro w hSw; go_simp; try with_reducible rfl)
          try simp only [Act.put, List.setIfInBounds_toArray, List.set_cons_zero, List.set_cons_succ]
          refine wpAnyH_take (i := 15) (oi := { dst := some 69, op := _, type := _, pos := _, after := _, guard := _ }) (v := ?_) rfl (by kernel_rfl) (by kernel_rfl) (by kernel_rfl) (fun _ _ _ h => h) (Or.inl ⟨by kernel_rfl, ?_⟩) (by assumption) ?_
          rotate_left
          · (intro w hSw; go_simp; try with_reducible rfl)
          try simp only [Act.put, List.setIfInBounds_toArray, List.set_cons_zero, List.set_cons_succ]
          refine wpAnyH_take (i := 16) (oi := { dst := some 70, op := _, type := _, pos := _, after := _, guard := _ }) (v := ?_) rfl (by kernel_rfl) (by kernel_rfl) (by kernel_rfl) (fun _ _ _ h => h) (Or.inl ⟨by kernel_rfl, ?_⟩) (by assumption) ?_
          rotate_left
          · (intro w hSw; have hcw := HCELL.out w (Hid.out hSw).bl; go_simp; try with_reducible rfl)
          try simp only [Act.put, List.setIfInBounds_toArray, List.set_cons_zero, List.set_cons_succ]
          refine wpAnyH_take (i := 17) (oi := { dst := some 71, op := _, type := _, pos := _, after := _, guard := _ }) (v := ?_) rfl (by kernel_rfl) (by kernel_rfl) (by kernel_rfl) (fun _ _ _ h => h) (Or.inl ⟨by kernel_rfl, ?_⟩) (by assumption) ?_
          rotate_left
          · (intro w hSw; go_simp; try with_reducible rfl)
          try simp only [Act.put, List.setIfInBounds_toArray, List.set_cons_zero, List.set_cons_succ]
          refine wpAnyH_ready (rs := [18, 20]) (by kernel_rfl) (by simp) ?_
          refine (AllReadyH.cons (o := { dst := some 72, op := _, type := _, pos := _, after := _, guard := _ }) rfl (fun Qc hQc => ?_) (AllReadyH.cons (o := { dst := some 15, op := _, type := _, pos := _, after := _, guard := _ }) rfl (fun Qc hQc => ?_) AllReadyH.nil))
          ·
            go_simp
            go_at_call 87; refine (CM.out _).mono ?_; rintro e w1 ⟨rfl, rfl⟩
            go_wp2_with fail
            refine hQc.out _ _ Gx0 (fun hHeld => ?_)
            clear hQc Qc
            try simp only [Act.put, List.setIfInBounds_toArray, List.set_cons_zero, List.set_cons_succ]
            refine wpAnyH_ready (rs := [19, 20]) (by kernel_rfl) (by simp) ?_
            refine (AllReadyH.cons (o := { dst := some 73, op := _, type := _, pos := _, after := _, guard := _ }) rfl (fun Qc hQc => ?_) (AllReadyH.cons (o := { dst := some 15, op := _, type := _, pos := _, after := _, guard := _ }) rfl (fun Qc hQc => ?_) AllReadyH.nil))
            ·
              go_simp
              go_at_call 86; refine (CS1.out _).mono ?_; rintro e x2 ⟨rfl, hbx2⟩
              have Gx2 := hid (Gx0.out.below hbx2)
              clear hbx2
              go_wp2_with fail
              refine hQc.out _ _ Gx2 (fun hHeld => ?_)
              clear hQc Qc Gx0
              try simp only [Act.put, List.setIfInBounds_toArray, List.set_cons_zero, List.set_cons_succ]
              refine wpAnyH_ready (rs := [20]) (by kernel_rfl) (by simp) ?_
              refine (AllReadyH.cons (o := { dst := some 15, op := _, type := _, pos := _, after := _, guard := _ }) rfl (fun Qc hQc => ?_) AllReadyH.nil)
              go_simp
              have Gx3 := hid (Gx2.out.alloc (.cells Z 26))
              have HBx3 : Below x2.heap.size x2 (x2.alloc (.cells Z 26)) := (Below.refl _ _).alloc (Nat.le_refl _) _
              have A := hid (Blk.new x2 26 Z)
              have LE : Hid (wr.heap.size ≤ x2.heap.size) := Gx2.out.bl.size
              clear HBx3
              refine hQc.out _ _ Gx3 (fun hHeld => ?_)
              clear hQc Qc Gx2
              generalize hgx3 : x2.heap.size = g at A LE  ⊢
              generalize x2.alloc (.cells Z 26) = x3 at Gx3 A  hHeld ⊢
              clear hgx3
              try simp only [Act.put, List.setIfInBounds_toArray, List.set_cons_zero, List.set_cons_succ]
              refine wpAnyH_ready (rs := [21]) (by kernel_rfl) (by simp) ?_
              refine (AllReadyH.cons (o := { dst := none, op := _, type := _, pos := _, after := _, guard := _ }) rfl (fun Qc hQc => ?_) AllReadyH.nil)
              rw [if_pos (by rfl)]
              refine wp_store_row 26 (.tmp 15) (.tmp 73) rfl (g) (u8s R).toArray rfl rfl 26 Z A.out HI.out HZ32.out (u8s_all R) ?_
              have Gx4 := hid (Gx3.out.row (g := g) LE.out (u8s R).toArray)
              have KWx4 := hid ((A.out).row (u8s R).toArray)
              refine hQc.out _ _ Gx4 (fun hHeld => ?_)
              clear hQc Qc Gx3
              generalize x3.setRow (g) (u8s R).toArray = x4 at Gx4 KWx4 hHeld ⊢
              try simp only [Act.put, List.setIfInBounds_toArray, List.set_cons_zero, List.set_cons_succ]
              refine wpAnyH_done (by kernel_rfl) ?_ _
              try simp only [Act.put, List.setIfInBounds_toArray, List.set_cons_zero, List.set_cons_succ]
              have OX := hid (own_below HO.out Gx4.out.bl)
              have IX := hid (HD.out.below Gx4.out.bl)
              have RX := hid (blk_rp KWx4.out)
              have ZX := hid (Nat.le_trans HB.out.size Gx4.out.bl.size)
              have BX := hid (HB.out.trans (Gx4.out.bl.mono HB.out.size))
              clear LE HO HD
              go_wp2_with (at_builtin; refine append_rpi rfl (.tmp 74) (.tmp 75) rfl w7.heap.size _ (rowsOf j fun i => steps id q i (part i) (dg i) (mm - dg i)) rfl OX.out ⟨g, 0, none⟩ 32 32 R H32.out.symm rfl RX.out (by rw [HL.out, H32.out]; omega) ZX.out ?_; intro v9 w9 O9 B9 I9)
              exact ⟨⟨j + 1, by omega, by go_num, by (show World.ownsRow _ _ _ _ _ _ _); rw [HR1.out]; exact O9.out, I9.out _ _ IX.out, BX.out.trans B9.out⟩, by simp [intOf]; omega⟩
            ·
              go_simp
              have Gx5 := hid (Gx0.out.alloc (.cells Z 26))
              have HBx5 : Below x0.heap.size x0 (x0.alloc (.cells Z 26)) := (Below.refl _ _).alloc (Nat.le_refl _) _
              have A := hid (Blk.new x0 26 Z)
              have LE : Hid (wr.heap.size ≤ x0.heap.size) := Gx0.out.bl.size
              clear HBx5
              refine hQc.out _ _ Gx5 (fun hHeld => ?_)
              clear hQc Qc Gx0
              generalize hgx5 : x0.heap.size = g at A LE  ⊢
              generalize x0.alloc (.cells Z 26) = x5 at Gx5 A  hHeld ⊢
              clear hgx5
              try simp only [Act.put, List.setIfInBounds_toArray, List.set_cons_zero, List.set_cons_succ]
              refine wpAnyH_ready (rs := [19]) (by kernel_rfl) (by simp) ?_
              refine (AllReadyH.cons (o := { dst := some 73, op := _, type := _, pos := _, after := _, guard := _ }) rfl (fun Qc hQc => ?_) AllReadyH.nil)
              go_simp
              go_at_call 86; refine (CS1.out _).mono ?_; rintro e x6 ⟨rfl, hbx6⟩
              have Gx6 := hid (Gx5.out.below hbx6)
              have A := hid (A.out.below hbx6)
              clear hbx6
              go_wp2_with fail
              refine hQc.out _ _ Gx6 (fun hHeld => ?_)
              clear hQc Qc Gx5
              try simp only [Act.put, List.setIfInBounds_toArray, List.set_cons_zero, List.set_cons_succ]
              refine wpAnyH_ready (rs := [21]) (by kernel_rfl) (by simp) ?_
              refine (AllReadyH.cons (o := { dst := none, op := _, type := _, pos := _, after := _, guard := _ }) rfl (fun Qc hQc => ?_) AllReadyH.nil)
              rw [if_pos (by rfl)]
              refine wp_store_row 26 (.tmp 15) (.tmp 73) rfl (g) (u8s R).toArray rfl rfl 26 Z A.out HI.out HZ32.out (u8s_all R) ?_
              have Gx7 := hid (Gx6.out.row (g := g) LE.out (u8s R).toArray)
              have KWx7 := hid ((A.out).row (u8s R).toArray)
              refine hQc.out _ _ Gx7 (fun hHeld => ?_)
              clear hQc Qc Gx6
              generalize x6.setRow (g) (u8s R).toArray = x7 at Gx7 KWx7 hHeld ⊢
              try simp only [Act.put, List.setIfInBounds_toArray, List.set_cons_zero, List.set_cons_succ]
              refine wpAnyH_done (by kernel_rfl) ?_ _
              try simp only [Act.put, List.setIfInBounds_toArray, List.set_cons_zero, List.set_cons_succ]
              have OX := hid (own_below HO.out Gx7.out.bl)
              have IX := hid (HD.out.below Gx7.out.bl)
              have RX := hid (blk_rp KWx7.out)
              have ZX := hid (Nat.le_trans HB.out.size Gx7.out.bl.size)
              have BX := hid (HB.out.trans (Gx7.out.bl.mono HB.out.size))
              clear LE HO HD
              go_wp2_with (at_builtin; refine append_rpi rfl (.tmp 74) (.tmp 75) rfl w7.heap.size _ (rowsOf j fun i => steps id q i (part i) (dg i) (mm - dg i)) rfl OX.out ⟨g, 0, none⟩ 32 32 R H32.out.symm rfl RX.out (by rw [HL.out, H32.out]; omega) ZX.out ?_; intro v9 w9 O9 B9 I9)
              exact ⟨⟨j + 1, by omega, by go_num, by (show World.ownsRow _ _ _ _ _ _ _); rw [HR1.out]; exact O9.out, I9.out _ _ IX.out, BX.out.trans B9.out⟩, by simp [intOf]; omega⟩
          ·
            go_simp
            have Gx8 := hid (Gx0.out.alloc (.cells Z 26))
            have HBx8 : Below x0.heap.size x0 (x0.alloc (.cells Z 26)) := (Below.refl _ _).alloc (Nat.le_refl _) _
            have A := hid (Blk.new x0 26 Z)
            have LE : Hid (wr.heap.size ≤ x0.heap.size) := Gx0.out.bl.size
            clear HBx8
            refine hQc.out _ _ Gx8 (fun hHeld => ?_)
            clear hQc Qc Gx0
            generalize hgx8 : x0.heap.size = g at A LE  ⊢
            generalize x0.alloc (.cells Z 26) = x8 at Gx8 A  hHeld ⊢
            clear hgx8
            try simp only [Act.put, List.setIfInBounds_toArray, List.set_cons_zero, List.set_cons_succ]
            refine wpAnyH_ready (rs := [18]) (by kernel_rfl) (by simp) ?_
            refine (AllReadyH.cons (o := { dst := some 72, op := _, type := _, pos := _, after := _, guard := _ }) rfl (fun Qc hQc => ?_) AllReadyH.nil)
            go_simp
            go_at_call 87; refine (CM.out _).mono ?_; rintro e w1 ⟨rfl, rfl⟩
            go_wp2_with fail
            refine hQc.out _ _ Gx8 (fun hHeld => ?_)
            clear hQc Qc
            try simp only [Act.put, List.setIfInBounds_toArray, List.set_cons_zero, List.set_cons_succ]
            refine wpAnyH_ready (rs := [19]) (by kernel_rfl) (by simp) ?_
            refine (AllReadyH.cons (o := { dst := some 73, op := _, type := _, pos := _, after := _, guard := _ }) rfl (fun Qc hQc => ?_) AllReadyH.nil)
            go_simp
            go_at_call 86; refine (CS1.out _).mono ?_; rintro e x10 ⟨rfl, hbx10⟩
            have Gx10 := hid (Gx8.out.below hbx10)
            have A := hid (A.out.below hbx10)
            clear hbx10
            go_wp2_with fail
            refine hQc.out _ _ Gx10 (fun hHeld => ?_)
            clear hQc Qc Gx8
            try simp only [Act.put, List.setIfInBounds_toArray, List.set_cons_zero, List.set_cons_succ]
            refine wpAnyH_ready (rs := [21]) (by kernel_rfl) (by simp) ?_
            refine (AllReadyH.cons (o := { dst := none, op := _, type := _, pos := _, after := _, guard := _ }) rfl (fun Qc hQc => ?_) AllReadyH.nil)
            rw [if_pos (by rfl)]
            refine wp_store_row 26 (.tmp 15) (.tmp 73) rfl (g) (u8s R).toArray rfl rfl 26 Z A.out HI.out HZ32.out (u8s_all R) ?_
            have Gx11 := hid (Gx10.out.row (g := g) LE.out (u8s R).toArray)
            have KWx11 := hid ((A.out).row (u8s R).toArray)
            refine hQc.out _ _ Gx11 (fun hHeld => ?_)
            clear hQc Qc Gx10
            generalize x10.setRow (g) (u8s R).toArray = x11 at Gx11 KWx11 hHeld ⊢
            try simp only [Act.put, List.setIfInBounds_toArray, List.set_cons_zero, List.set_cons_succ]
            refine wpAnyH_done (by kernel_rfl) ?_ _
            try simp only [Act.put, List.setIfInBounds_toArray, List.set_cons_zero, List.set_cons_succ]
            have OX := hid (own_below HO.out Gx11.out.bl)
            have IX := hid (HD.out.below Gx11.out.bl)
            have RX := hid (blk_rp KWx11.out)
            have ZX := hid (Nat.le_trans HB.out.size Gx11.out.bl.size)
            have BX := hid (HB.out.trans (Gx11.out.bl.mono HB.out.size))
            clear LE HO HD
            go_wp2_with (at_builtin; refine append_rpi rfl (.tmp 74) (.tmp 75) rfl w7.heap.size _ (rowsOf j fun i => steps id q i (part i) (dg i) (mm - dg i)) rfl OX.out ⟨g, 0, none⟩ 32 32 R H32.out.symm rfl RX.out (by rw [HL.out, H32.out]; omega) ZX.out ?_; intro v9 w9 O9 B9 I9)
            exact ⟨⟨j + 1, by omega, by go_num, by (show World.ownsRow _ _ _ _ _ _ _); rw [HR1.out]; exact O9.out, I9.out _ _ IX.out, BX.out.trans B9.out⟩, by simp [intOf]; omega⟩
        · obtain rfl : j = ch := by omega
          have HRB : Hid (Bs (rowsOf j fun i => steps id q i (part i) (dg i) (mm - dg i))) := rows_bs _ _ (fun i h => (FKY.out i h).bs)
          have HL : Hid ((rowsOf j fun i => steps id q i (part i) (dg i) (mm - dg i)).length = 32 * j) := rows_len _ _ (fun i h => (FKY.out i h).len)
          have hky : Ky RK := by rw [HRK2.out]; exact under_ky _ _ _ _
          have HI := hid (info_hash RK hky.len)
          have HZ32 : Hid (Z.size = (u8s RK).toArray.size) := HZS.out.trans (hash_size hky.len).symm
          obtain ⟨A7, c7, rfl, _, hc7, hf7⟩ := fresh_of_own (w := w) HO.out (by have := KB.out; omega)
          have F7 := hid hf7.rp0
          have CU1 : Hid (∀ w1, Below w7.heap.size w7 w1 → Rp w1 none A7 (rowsOf j fun i => steps id q i (part i) (dg i) (mm - dg i)) → Calls Tryd.prog 88 #[.agg (u8s id).toArray, .int .u32 q, .int .i64 32896, .slice A7 (rowsOf j fun i => steps id q i (part i) (dg i) (mm - dg i)).length c7] w1 fun e w' => e = .returned (.agg (u8s RK).toArray) ∧ Below w1.heap.size w1 w') := fun w1 hb hr => by
            have := CU.out A7 c7 _ _ w1 rfl hr HRB.out (by rw [HL.out]; omega)
            rw [← HRK2.out] at this
            exact this
          clear hc7 hf7 HO hky CU
          go_wp2_with (first
            | (refine load_at rfl 23 (.tmp 4) rfl w.heap.size 0 rfl (u8s id) _ (blk_row L1.out) Tryd.underlying23 rfl IDI.out (u8s id).toArray rfl ?_)
            | (go_at_call 88; refine (CU1.out _ HB.out F7.out).mono ?_; rintro e w8 ⟨rfl, hb8⟩; have K8 := hid (L2.out.below hb8); have B8 := hid (W8.out.trans (hb8.mono W8.out.size)); clear hb8)
            | (refine wpList_store_row rfl 26 (.tmp 8) (.tmp 80) rfl (w.heap.size + 1) (u8s RK).toArray rfl rfl 26 Z K8.out HI.out HZ32.out (u8s_all RK) ?_))
          try go_frame
          refine bodyPost_ret (results_two Tryd.results58 _ _ (w.heap.size + 1) 26 (u8s RK).toArray (0, 0) _ rfl (K8.out.row _) Tryd.underlying26 rfl HI.out) rfl ?_
          exact ⟨by rw [HYES.out]; rfl, below_setRow B8.out (by omega) _⟩
    · have hno : sigB sig = false := by
        unfold sigB
        rw [← hxv]
        refine decide_eq_false ?_
        rintro ⟨_, h1, h2, h3⟩
        exact hgood ⟨⟨by omega, by omega⟩, by omega⟩
      have HNO := hid hno
      have HRK : Hid (recK id q msg sig = zeroK) := by show _ = _; unfold recK; rw [if_neg (by rw [hno]; simp)]
      by_cases hA : x < 1
      · clear hgood hno hk1 hk2 hb0 hi hq hm hr hbs hl hm2 hr2 hb2 hl2 hs hz32 hx hxv hrng
        go_enter Tryd.func58, Tryd.ntmps58
        go_wp2_with (first
          | (go_at_call 54; refine (CV.out _ _ B0.out).mono ?_; rintro e w1 ⟨rfl, rfl⟩)
          | (refine wpList_store_row rfl 26 (.tmp 8) (.tmp 37) rfl (w.heap.size + 1) Z rfl rfl 26 Z K2.out HHI.out rfl HZA.out ?_))
        try go_frame
        refine bodyPost_ret (results_two Tryd.results58 _ _ (w.heap.size + 1) 26 Z (0, 0) _ rfl (K2.out.row _) Tryd.underlying26 rfl HHI.out) rfl ?_
        exact ⟨by rw [HNO.out, HRK.out, HZZ.out]; rfl, below_setRow B0.out (by omega) _⟩
      · by_cases hB : x > 4
        · clear hgood hno hk1 hk2 hb0 hi hq hm hr hbs hl hm2 hr2 hb2 hl2 hs hz32 hx hxv hrng
          go_enter Tryd.func58, Tryd.ntmps58
          go_wp2_with (first
            | (go_at_call 54; refine (CV.out _ _ B0.out).mono ?_; rintro e w1 ⟨rfl, rfl⟩)
            | (refine wpList_store_row rfl 26 (.tmp 8) (.tmp 37) rfl (w.heap.size + 1) Z rfl rfl 26 Z K2.out HHI.out rfl HZA.out ?_))
          try go_frame
          refine bodyPost_ret (results_two Tryd.results58 _ _ (w.heap.size + 1) 26 Z (0, 0) _ rfl (K2.out.row _) Tryd.underlying26 rfl HHI.out) rfl ?_
          exact ⟨by rw [HNO.out, HRK.out, HZZ.out]; rfl, below_setRow B0.out (by omega) _⟩
        · have hC : ¬ ((m2 : Nat) : Int) = ((ksize x : Nat) : Int) := fun h => hgood ⟨⟨hA, hB⟩, by omega⟩
          clear hgood hno hk1 hk2 hb0 hi hq hm hr hbs hl hm2 hr2 hb2 hl2 hs hz32 hx hxv hrng
          generalize ((ksize x : Nat) : Int) = sz at CSZ hC
          have hA1 : 1 ≤ x := by omega
          have hB1 : x ≤ 4 := by omega
          have hC1 : (((m2 : Nat) : Int) == sz) = false := by simpa using hC
          have hC2 : (((m2 : Nat) : Int) != sz) = true := by simpa using hC
          clear hA hB
          go_enter Tryd.func58, Tryd.ntmps58
          go_wp2_with (first
            | (go_at_call 54; refine (CV.out _ _ B0.out).mono ?_; rintro e w1 ⟨rfl, rfl⟩)
            | (go_at_call 57; refine (CSZ.out _).mono ?_; rintro e w1 ⟨rfl, rfl⟩)
            | (refine wpList_store_row rfl 26 (.tmp 8) (.tmp 37) rfl (w.heap.size + 1) Z rfl rfl 26 Z K2.out HHI.out rfl HZA.out ?_))
          try go_frame
          refine bodyPost_ret (results_two Tryd.results58 _ _ (w.heap.size + 1) 26 Z (0, 0) _ rfl (K2.out.row _) Tryd.underlying26 rfl HHI.out) rfl ?_
          exact ⟨by rw [HNO.out, HRK.out, HZZ.out]; rfl, below_setRow B0.out (by omega) _⟩
end Go.Proofs.YtobceieadjpaaaaDoor
