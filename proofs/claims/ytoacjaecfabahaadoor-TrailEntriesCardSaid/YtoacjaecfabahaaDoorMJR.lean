/-
  What is proved here: a range's root, as the document reckons it.
-/
import Derived.Test.YtoacjaecfabahaaDoorMFRx
import Derived.Test.YtoacjaecfabahaaDoorMF5
import Derived.Test.YtoacjaecfabahaaDoorMFE1
set_option linter.unusedSimpArgs false
set_option linter.unusedVariables false
namespace Go.Proofs.YtoacjaecfabahaaDoor
open Go.ChangeShapes Go.WideShapes Go.ChangeAt Go.RowKit
set_option linter.unusedVariables false
set_option linter.unusedSimpArgs false
set_option maxRecDepth 20000

/-- what fold answers, of lists up to n hashes -/
def FdC (n : Nat) : Prop := ∀ {A : Option Addr} {m c : Nat} {L : List (List Int)} {w : World}, InH w A m L → 0 < m → m ≤ n → m ≤ c → Calls Tryd.prog 52 #[.slice A m c] w fun e w' => e = .returned (hV (foldR ndF emp L)) ∧ Below w.heap.size w w'
set_option maxHeartbeats 8000000 in
theorem gfold_step (N : Nat) (hN : N < 1000000) (ih : ∀ k, k < N → FdC k) : FdC N := by
  intro A n c L w hin h0 hn hnc
  obtain ⟨Z, HZ, hZ0, hZs⟩ := zero_Hash
  obtain ⟨S, hS⟩ : ∃ S, S = foldR ndF emp L := ⟨_, rfl⟩
  have HS : H32 S := by rw [hS]; exact foldH_ok hin.ok
  have HI := hid (info_hash S HS.len)
  have HZ32 := hid (hz_size HZ HS)
  have KR := hid (Blk.new w 33 Z)
  have B1 := hid ((Below.refl w.heap.size w).alloc (Nat.le_refl _) (.cells Z 33))
  have hl := hin.1
  obtain ⟨b, o, K, rfl, hK, h32, hblt, hr⟩ := hin.at (k := 0) h0
  rw [Nat.zero_mul, Nat.add_zero] at hr
  have HRR := hid (fun (w' : World) (hb : Below w.heap.size w w') => show w'.rangeAt b o (u8s K) from fun j v hv => (World.cell?_of_block (w := w) (hb.block b hblt)).trans (hr j v hv))
  have HR1 := hid (HRR.out _ B1.out)
  have HIK := hid (info_hash K h32.len)
  rw [← hS]
  have hn0 : (0 : Int) < (n : Int) := by omega
  by_cases h1 : n = 1
  · subst h1
    have e : S = K := by
      obtain ⟨q, rfl⟩ := List.length_eq_one_iff.1 hl
      rw [hS]
      simp at hK
      exact hK
    subst e
    clear hin ih hl hK h32 hblt hr hS HS hnc hn
    go_enter Tryd.func52, Tryd.ntmps52
    go_wp2_with (first
      | (refine load_at rfl 33 (.tmp 7) rfl b o rfl (u8s S) _ HR1.out Tryd.underlying33 rfl HIK.out (hc32 S) rfl ?_)
      | (refine wpList_store_row rfl 33 (.tmp 2) (.tmp 8) rfl w.heap.size (hc32 S) rfl rfl 33 Z KR.out HI.out HZ32.out (u8s_all S) ?_))
    have KF := hid (KR.out.row (hc32 S))
    try go_frame
    refine bodyPost_ret (results_cell_row Tryd.results52 _ _ w.heap.size 33 (hc32 S) (0, 0) _ rfl KF.out Tryd.underlying33 rfl HI.out) rfl ?_
    exact ⟨rfl, below_setRow B1.out (Nat.le_refl _) _⟩
  · have hn1 : ((n : Int) == 1) = false := by simp; omega
    have HN1 := hid (show 1 ≤ n by omega)
    have hcut := hin.cut (c := c) (l := 1) (m := n - 1) (by omega) hnc
    rw [List.take_of_length_le (by rw [List.length_drop]; omega)] at hcut
    obtain ⟨R, hR⟩ : ∃ R, R = foldR ndF emp (L.drop 1) := ⟨_, rfl⟩
    have hR32 : H32 R := by rw [hR]; exact foldH_ok hcut.ok
    have hSR : S = ndF K R := by
      obtain ⟨q, M, rfl⟩ : ∃ q M, L = q :: M := by
        cases L with
        | nil => simp at hl; omega
        | cons q M => exact ⟨q, M, rfl⟩
      have e : q = K := by simpa using hK
      subst e
      rw [hS, hR, List.drop_succ_cons, List.drop_zero, foldR_cons (by intro hc; rw [hc] at hl; simp at hl; omega)]
    have hcr := fun (w' : World) (hb : Below (w.alloc (.cells Z 33)).heap.size (w.alloc (.cells Z 33)) w') => ih (n - 1) (by omega) (w := w') (c := c - 1) ((hcut.below B1.out).below hb) (by omega) (Nat.le_refl _) (by omega)
    simp only [← hR] at hcr
    have CR := hid hcr
    have hcn := fun (w' : World) => gNode_any h32 hR32 (w := w')
    simp only [← hSR] at hcn
    have CN := hid hcn
    have HNC1 := hid (show n - 1 ≤ c by omega)
    clear hin ih hl hK h32 hblt hr hS HS hcut hR hR32 hSR hcr hcn hnc
    go_enter Tryd.func52, Tryd.ntmps52
    go_wp2
    have HBW : Hid (w.alloc (.cells Z 33) = w.alloc (.cells Z 33)) := rfl
    generalize w.alloc (.cells Z 33) = wb at B1 KR CR HR1 ⊢
    clear HBW
    refine wp_region_held (S := fun w' => Hid (Below w.heap.size w w')) (by kernel_rfl) ?_
    change wpAnyH _ _ _ _ _ _ _ _ wb.drew
    have Gx0 : Hid (Below w.heap.size w wb.drew) := B1.out.trans ((Below.refl _ _).drew.mono B1.out.size)
    have PX' : Hid (Below wb.heap.size wb wb.drew) := (Below.refl _ _).drew
    have PX := PX'
    clear PX'
    generalize wb.drew = x0 at Gx0 PX ⊢
    refine wpAnyH_take (i := 0) (oi := { dst := some 9, op := _, type := _, pos := _, after := _, guard := _ }) (v := ?_) rfl (by kernel_rfl) (by kernel_rfl) (by kernel_rfl) (fun _ _ _ h => h) (Or.inl ⟨by kernel_rfl, ?_⟩) Gx0 ?_
    rotate_left
    · (intro w hSw; go_simp; try with_reducible rfl)
    try simp only [Act.put, List.setIfInBounds_toArray, List.set_cons_zero, List.set_cons_succ]
    refine wpAnyH_take (i := 1) (oi := { dst := some 10, op := _, type := _, pos := _, after := _, guard := _ }) (v := ?_) rfl (by kernel_rfl) (by kernel_rfl) (by kernel_rfl) (fun _ _ _ h => h) (Or.inl ⟨by kernel_rfl, ?_⟩) Gx0 ?_
    rotate_left
    · (intro w hSw; go_simp; try with_reducible rfl)
    try simp only [Act.put, List.setIfInBounds_toArray, List.set_cons_zero, List.set_cons_succ]
    refine wpAnyH_take (i := 2) (oi := { dst := some 11, op := _, type := _, pos := _, after := _, guard := _ }) (v := .agg (hc32 K)) rfl (by kernel_rfl) (by kernel_rfl) (by kernel_rfl) (fun _ _ _ h => h) (yieldsIf_load_mid (cs := u8s K) (by rfl) _ _ rfl _ _ rfl _ (fun w' hSw => (HRR.out w' hSw.out)) Tryd.underlying33 rfl HIK.out) Gx0 ?_
    try simp only [Act.put, List.setIfInBounds_toArray, List.set_cons_zero, List.set_cons_succ]
    refine wpAnyH_take (i := 3) (oi := { dst := some 12, op := _, type := _, pos := _, after := _, guard := _ }) (v := ?_) rfl (by kernel_rfl) (by kernel_rfl) (by kernel_rfl) (fun _ _ _ h => h) (Or.inl ⟨by kernel_rfl, ?_⟩) Gx0 ?_
    rotate_left
    · (intro w hSw; go_simp; try with_reducible rfl)
    try simp only [Act.put, List.setIfInBounds_toArray, List.set_cons_zero, List.set_cons_succ]
    refine wpAnyH_take (i := 4) (oi := { dst := some 13, op := _, type := _, pos := _, after := _, guard := _ }) (v := .slice (slA (some ⟨b, o, none⟩) 1 c 32) (n - 1) (c - 1)) rfl (by kernel_rfl) (by kernel_rfl) (by kernel_rfl) (fun _ _ _ h => h) (Or.inl ⟨by kernel_rfl, ?_⟩) Gx0 ?_
    · (intro w hSw; exact exec_cutL rfl (some ⟨b, o, none⟩) n c 1 rfl rfl HN1.out w)
    try simp only [Act.put, List.setIfInBounds_toArray, List.set_cons_zero, List.set_cons_succ]
    refine wpAnyH_ready (rs := [5]) (by kernel_rfl) (by simp) ?_
    refine (AllReadyH.cons (o := { dst := some 14, op := _, type := _, pos := _, after := _, guard := _ }) rfl (fun Qc hQc => ?_) AllReadyH.nil)
    go_simp
    go_at_call 52
    refine (CR.out x0 PX.out).mono ?_
    rintro e x1 ⟨rfl, hb⟩
    have PY := hid (PX.out.trans (hb.mono PX.out.size))
    have Gx1 := hid (B1.out.trans (PY.out.mono B1.out.size))
    clear hb PX
    have PX := PY
    clear PY
    go_wp2_with fail
    refine hQc.out _ _ Gx1 (fun hHeld => ?_)
    clear hQc Qc hHeld
    try simp only [Act.put, List.setIfInBounds_toArray, List.set_cons_zero, List.set_cons_succ]
    refine wpAnyH_ready (rs := [6]) (by kernel_rfl) (by simp) ?_
    refine (AllReadyH.cons (o := { dst := some 15, op := _, type := _, pos := _, after := _, guard := _ }) rfl (fun Qc hQc => ?_) AllReadyH.nil)
    go_simp
    go_at_call 48
    refine (CN.out x1).mono ?_
    rintro e x2 ⟨rfl, hb⟩
    have PY := hid (PX.out.trans (hb.mono PX.out.size))
    have Gx2 := hid (B1.out.trans (PY.out.mono B1.out.size))
    clear hb PX
    have PX := PY
    clear PY
    go_wp2_with fail
    refine hQc.out _ _ Gx2 (fun hHeld => ?_)
    clear hQc Qc hHeld
    try simp only [Act.put, List.setIfInBounds_toArray, List.set_cons_zero, List.set_cons_succ]
    refine wpAnyH_ready (rs := [7]) (by kernel_rfl) (by simp) ?_
    refine (AllReadyH.cons (o := { dst := none, op := _, type := _, pos := _, after := _, guard := _ }) rfl (fun Qc hQc => ?_) AllReadyH.nil)
    rw [if_pos (by rfl)]
    have Kx3 := hid (KR.out.below PX.out)
    refine wp_store_row 33 (.tmp 2) (.tmp 15) rfl w.heap.size (hc32 S) rfl rfl 33 Z Kx3.out HI.out HZ32.out (u8s_all S) ?_
    have KF := hid (Kx3.out.row (hc32 S))
    have Gx3 : Hid (Below w.heap.size w (x2.setRow w.heap.size (hc32 S))) := below_setRow Gx2.out (Nat.le_refl _) _
    refine hQc.out _ _ Gx3 (fun hHeld => ?_)
    clear hQc Qc hHeld Kx3 PX
    generalize x2.setRow w.heap.size (hc32 S) = x3 at KF Gx3 ⊢
    try simp only [Act.put, List.setIfInBounds_toArray, List.set_cons_zero, List.set_cons_succ]
    refine wpAnyH_done (by kernel_rfl) ?_ _
    try simp only [Act.put, List.setIfInBounds_toArray, List.set_cons_zero, List.set_cons_succ]
    go_wp2
    try go_frame
    refine bodyPost_ret (results_cell_row Tryd.results52 _ _ w.heap.size 33 (hc32 S) (0, 0) _ rfl KF.out Tryd.underlying33 rfl HI.out) rfl ?_
    exact ⟨rfl, Gx3.out⟩
theorem gfold_all : ∀ N, N < 1000000 → FdC N
  | N, h => gfold_step N h fun k hk => gfold_all k (by omega)
theorem gfold_any {A : Option Addr} {n c : Nat} {L : List (List Int)} {w : World} (h : InH w A n L) (h0 : 0 < n) (hn : n < 1000000) (hc : n ≤ c) : Calls Tryd.prog 52 #[.slice A n c] w fun e w' => e = .returned (hV (foldR ndF emp L)) ∧ Below w.heap.size w w' := gfold_all n hn h h0 (Nat.le_refl _) hc
set_option maxHeartbeats 16000000 in
theorem gRoot_x {w : World} {x y : Int} {n c : Nat} {A : Option Addr} {L : List (List Int)} (hL : InH w A n L) (hn : n < 1000000) (hc : n ≤ c) :
    Calls Tryd.prog 22 #[.agg (rgc x y (.slice A n c))] w (RtA w x y L) := by
  have hl := hL.1
  obtain ⟨Z, HZ, hZ0, hZs⟩ := zero_Hash
  have k1 := (Blk.new w 29 (rgc x y (.slice A n c))).alloc (.cells Z 33)
  have k2 := Blk.new (w.alloc (.cells (rgc x y (.slice A n c)) 29)) 33 Z
  rw [show (w.alloc (.cells (rgc x y (.slice A n c)) 29)).heap.size = w.heap.size + 1 by simp] at k2
  have b1 : Below w.heap.size w ((w.alloc (.cells (rgc x y (.slice A n c)) 29)).alloc (.cells Z 33)) := ((Below.refl _ _).alloc (Nat.le_refl _) _).alloc (by simp) _
  have K1 := hid k1; have K2 := hid k2; have B1 := hid b1
  have HI1 := hid (info_gRng x y (.slice A n c))
  obtain ⟨v, hv⟩ : ∃ v, v = frm x y n := ⟨_, rfl⟩
  have cf := fun (w1 : World) => gFormed_any x y A n c w1 hn
  simp only [← hv] at cf
  have CF := hid cf
  obtain ⟨S, hS⟩ : ∃ S, S = rtV x y L := ⟨_, rfl⟩
  have hok : H32 S := by rw [hS]; exact rtV_ok hL.ok
  have HI0 := hid (info_hash S hok.len); have HZ0 := hid (hz_size HZ hok)
  have hrq : rtQ x y L.length = (if v && decide (x = 0) then 0 else 1) := by unfold rtQ rtB; rw [hl, hv]
  have hrv : S = (if v && decide (x = 0) then foldR ndF emp L else z32) := by rw [hS]; unfold rtV rtB; rw [hl, hv]
  unfold RtA
  rw [hrq, ← hS]
  have HL := hid hL; have HN := hid hn; have HC := hid hc
  clear k1 k2 b1 cf hrq hv hS hok hL
  cases v with
  | false =>
    have e : S = z32 := hrv
    subst e
    show Calls _ _ _ _ fun e w' => e = .returned (.tuple #[hV z32, .int .i64 1]) ∧ _
    clear hrv
    go_enter Tryd.func22, Tryd.ntmps22
    go_wp2_with (first
      | (refine load_at rfl 29 (.tmp 1) rfl w.heap.size 0 rfl _ _ (gblk_rng K1.out) Tryd.underlying29 rfl HI1.out (rgc x y (.slice A n c)) rfl ?_)
      | (go_at_call 23; refine (CF.out _).mono ?_; rintro e w2 ⟨rfl, hb⟩; have B2 := hid (B1.out.trans (hb.mono B1.out.size)); have J2 := hid (K2.out.below hb); clear hb)
      | (refine fbuild_h0 rfl rfl ?_)
      | (refine wpList_store_row rfl 33 (.tmp 2) _ rfl (w.heap.size + 1) (hc32 z32) rfl rfl 33 Z J2.out HI0.out HZ0.out (u8s_all _) ?_))
    have KF := hid (J2.out.row (hc32 z32))
    try go_frame
    refine bodyPost_ret (results_cell_slot Tryd.results22 _ _ (w.heap.size + 1) 33 (hc32 z32) (0, 0) _ rfl KF.out Tryd.underlying33 rfl HI0.out) rfl ?_
    exact ⟨rfl, below_setRow B2.out (Nat.le_succ _) _⟩
  | true =>
    by_cases hx : x = 0
    · subst hx
      have e : S = foldR ndF emp L := by rw [hrv]; rfl
      show Calls _ _ _ _ fun e w' => e = .returned (.tuple #[hV S, .int .i64 0]) ∧ _
      rcases Nat.eq_zero_or_pos n with h0 | h0
      · subst h0
        obtain rfl : L = [] := List.length_eq_zero_iff.1 hl
        have e2 : S = sum [] := e
        have cs := fun (w' : World) => rsum_at (A := none) (n := 0) (c := 0) (x := []) (w := w') rfl (fun h => by simp at h) (fun v hv => by cases hv) (by decide)
        rw [← e2] at cs
        have CS := hid cs
        clear cs e e2 hrv
        go_enter Tryd.func22, Tryd.ntmps22
        go_wp2_with (first
          | (refine load_at rfl 29 (.tmp 1) rfl w.heap.size 0 rfl _ _ (gblk_rng K1.out) Tryd.underlying29 rfl HI1.out (rgc 0 y (.slice A 0 c)) rfl ?_)
          | (go_at_call 23; refine (CF.out _).mono ?_; rintro e w2 ⟨rfl, hb⟩; have B2 := hid (B1.out.trans (hb.mono B1.out.size)); have J1 := hid (K1.out.below hb); have J2 := hid (K2.out.below hb); have d0 : w2.cell? ⟨w.heap.size, 0, none⟩ = some (.int .i64 0) := J1.out.cell 0; have d2 : w2.cell? ⟨w.heap.size, 2, none⟩ = some (.slice A 0 c) := J1.out.cell 2; clear hb)
          | (go_at_call 47; refine (CS.out _).mono ?_; rintro e w3 ⟨rfl, hb⟩; have B3 := hid (B2.out.trans (hb.mono B2.out.size)); have J3 := hid (J2.out.below hb); clear hb)
          | (refine wpList_store_row rfl 33 (.tmp 2) _ rfl (w.heap.size + 1) (hc32 S) rfl rfl 33 Z J3.out HI0.out HZ0.out (u8s_all _) ?_))
        have KF := hid (J3.out.row (hc32 S))
        try go_frame
        refine bodyPost_ret (results_cell_slot Tryd.results22 _ _ (w.heap.size + 1) 33 (hc32 S) (0, 0) _ rfl KF.out Tryd.underlying33 rfl HI0.out) rfl ?_
        exact ⟨rfl, below_setRow B3.out (Nat.le_succ _) _⟩
      · have hn0 : ((n : Int) == 0) = false := by simp; omega
        have cs := fun (w' : World) (hb : Below w.heap.size w w') => gfold_any (HL.out.below hb) h0 HN.out HC.out
        simp only [← e] at cs
        have CS := hid cs
        clear cs e hrv
        go_enter Tryd.func22, Tryd.ntmps22
        go_wp2_with (first
          | (refine load_at rfl 29 (.tmp 1) rfl w.heap.size 0 rfl _ _ (gblk_rng K1.out) Tryd.underlying29 rfl HI1.out (rgc 0 y (.slice A n c)) rfl ?_)
          | (go_at_call 23; refine (CF.out _).mono ?_; rintro e w2 ⟨rfl, hb⟩; have B2 := hid (B1.out.trans (hb.mono B1.out.size)); have J1 := hid (K1.out.below hb); have J2 := hid (K2.out.below hb); have d0 : w2.cell? ⟨w.heap.size, 0, none⟩ = some (.int .i64 0) := J1.out.cell 0; have d2 : w2.cell? ⟨w.heap.size, 2, none⟩ = some (.slice A n c) := J1.out.cell 2; clear hb)
          | (go_at_call 52; refine (CS.out _ B2.out).mono ?_; rintro e w3 ⟨rfl, hb⟩; have B3 := hid (B2.out.trans (hb.mono B2.out.size)); have J3 := hid (J2.out.below hb); clear hb)
          | (refine wpList_store_row rfl 33 (.tmp 2) _ rfl (w.heap.size + 1) (hc32 S) rfl rfl 33 Z J3.out HI0.out HZ0.out (u8s_all _) ?_))
        have KF := hid (J3.out.row (hc32 S))
        try go_frame
        refine bodyPost_ret (results_cell_slot Tryd.results22 _ _ (w.heap.size + 1) 33 (hc32 S) (0, 0) _ rfl KF.out Tryd.underlying33 rfl HI0.out) rfl ?_
        exact ⟨rfl, below_setRow B3.out (Nat.le_succ _) _⟩
    · have hx2 : (x != 0) = true := by simpa using hx
      have e : S = z32 := by rw [hrv]; simp [hx]
      subst e
      have e2 : (if (true && decide (x = 0)) = true then (0 : Int) else 1) = 1 := by simp [hx]
      rw [e2]
      clear hrv
      go_enter Tryd.func22, Tryd.ntmps22
      go_wp2_with (first
        | (refine load_at rfl 29 (.tmp 1) rfl w.heap.size 0 rfl _ _ (gblk_rng K1.out) Tryd.underlying29 rfl HI1.out (rgc x y (.slice A n c)) rfl ?_)
        | (go_at_call 23; refine (CF.out _).mono ?_; rintro e w2 ⟨rfl, hb⟩; have B2 := hid (B1.out.trans (hb.mono B1.out.size)); have J1 := hid (K1.out.below hb); have J2 := hid (K2.out.below hb); have d0 : w2.cell? ⟨w.heap.size, 0, none⟩ = some (.int .i64 x) := J1.out.cell 0; clear hb)
        | (refine fbuild_h0 rfl rfl ?_)
        | (refine wpList_store_row rfl 33 (.tmp 2) _ rfl (w.heap.size + 1) (hc32 z32) rfl rfl 33 Z J2.out HI0.out HZ0.out (u8s_all _) ?_))
      have KF := hid (J2.out.row (hc32 z32))
      try go_frame
      refine bodyPost_ret (results_cell_slot Tryd.results22 _ _ (w.heap.size + 1) 33 (hc32 z32) (0, 0) _ rfl KF.out Tryd.underlying33 rfl HI0.out) rfl ?_
      exact ⟨rfl, below_setRow B2.out (Nat.le_succ _) _⟩
end Go.Proofs.YtoacjaecfabahaaDoor
