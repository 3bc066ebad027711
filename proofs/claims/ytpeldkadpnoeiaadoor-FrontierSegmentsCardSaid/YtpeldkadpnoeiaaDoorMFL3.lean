/-
  What is proved here: lists of numbers compared; all numbers have the segments that the chapter says: the walk of the statement.
-/
import Derived.Test.YtpeldkadpnoeiaaDoorMF4
import Derived.Test.YtpeldkadpnoeiaaDoorMF5
import Derived.Test.YtpeldkadpnoeiaaDoorMF1
set_option linter.unusedSimpArgs false
set_option linter.unusedVariables false
namespace Go.Proofs.YtpeldkadpnoeiaaDoor
open Go.ChangeShapes Go.WideShapes Go.ChangeAt Go.RowKit
set_option linter.unusedVariables false
set_option linter.unusedSimpArgs false
set_option maxRecDepth 20000

structure TwoI (w : World) (A B : Option Addr) (n : Nat) (L : List Int) (w' : World) : Prop where
  l : InI w' A n L
  m : InI w' B n L
  b : Below w.heap.size w w'
theorem TwoI.below {w : World} {A B : Option Addr} {n : Nat} {L : List Int} {x y : World} (h : TwoI w A B n L x) (hb : Below x.heap.size x y) : TwoI w A B n L y := ⟨h.l.below hb, h.m.below hb, h.b.trans (hb.mono h.b.size)⟩
structure TwoC (b1 o1 b2 o2 : Nat) (x : Int) (w' : World) : Prop where
  c1 : w'.cell? ⟨b1, o1, none⟩ = some (.int .i64 x)
  c2 : w'.cell? ⟨b2, o2, none⟩ = some (.int .i64 x)
set_option maxHeartbeats 4000000 in
/-- a list compared with itself -/
theorem fInts_any {A B : Option Addr} {n c d : Nat} {L : List Int} {w : World} (hL : InI w A n L) (hM : InI w B n L) (hn : n < 1000000) :
    Calls Tryd.prog 15 #[.slice A n c, .slice B n d] w fun e w' => e = .returned (.bool true) ∧ Below w.heap.size w w' := by
  have T0 : Hid (TwoI w A B n L w) := ⟨hL, hM, Below.refl _ _⟩
  clear hL hM
  go_enter Tryd.func15, Tryd.ntmps15
  go_wp2
  go_loopw [5] (fun i wr => ∃ k : Nat, k ≤ n ∧ i = .int .i64 (k : Int) ∧ Hid (TwoI w A B n L wr)) (fun i _ => n - (intOf i).toNat)
  case atStart => exact ⟨0, by omega, rfl, T0.out⟩
  case round =>
    obtain ⟨k, hk, rfl, TT⟩ := hrel
    clear T0
    by_cases hlt : k < n
    · obtain ⟨b1, o1, x, rfl, hx, hb1, hc1⟩ := TT.out.l.at hlt
      obtain ⟨b2, o2, y, rfl, hy, hb2, hc2⟩ := TT.out.m.at hlt
      obtain rfl : x = y := by rw [hx] at hy; injection hy
      have C0 : Hid (TwoC b1 (o1 + k) b2 (o2 + k) x wr) := ⟨hc1, hc2⟩
      clear hx hy hb1 hb2 hc1 hc2
      go_wp2
      refine wp_region_held (S := fun w' => Hid (TwoC b1 (o1 + k) b2 (o2 + k) x w')) (by kernel_rfl) ?_
      change wpAnyH _ _ _ _ _ _ _ _ wr.drew
      have Gx0 : Hid (TwoC b1 (o1 + k) b2 (o2 + k) x wr.drew) := ⟨C0.out.c1, C0.out.c2⟩
      have TT' : Hid (TwoI w (some ⟨b1, o1, none⟩) (some ⟨b2, o2, none⟩) n L wr.drew) := TT.out.below ((Below.refl _ _).drew)
      clear TT
      have TT := TT'
      clear TT'
      generalize wr.drew = x0 at Gx0 TT ⊢
      refine wpAnyH_take (i := 0) (oi := { dst := some 17, op := _, type := _, pos := _, after := _, guard := _ }) (v := ?_) rfl (by kernel_rfl) (by kernel_rfl) (by kernel_rfl) (fun _ _ _ h => h) (Or.inl ⟨by kernel_rfl, ?_⟩) Gx0 ?_
      rotate_left
      · (intro w hSw; go_simp; try with_reducible rfl)
      try simp only [Act.put, List.setIfInBounds_toArray, List.set_cons_zero, List.set_cons_succ]
      refine wpAnyH_take (i := 1) (oi := { dst := some 18, op := _, type := _, pos := _, after := _, guard := _ }) (v := ?_) rfl (by kernel_rfl) (by kernel_rfl) (by kernel_rfl) (fun _ _ _ h => h) (Or.inl ⟨by kernel_rfl, ?_⟩) Gx0 ?_
      rotate_left
      · (intro w hSw; go_simp; try with_reducible rfl)
      try simp only [Act.put, List.setIfInBounds_toArray, List.set_cons_zero, List.set_cons_succ]
      refine wpAnyH_take (i := 2) (oi := { dst := some 19, op := _, type := _, pos := _, after := _, guard := _ }) (v := ?_) rfl (by kernel_rfl) (by kernel_rfl) (by kernel_rfl) (fun _ _ _ h => h) (Or.inl ⟨by kernel_rfl, ?_⟩) Gx0 ?_
      rotate_left
      · (intro w hSw; go_simp; try with_reducible rfl)
      try simp only [Act.put, List.setIfInBounds_toArray, List.set_cons_zero, List.set_cons_succ]
      refine wpAnyH_take (i := 3) (oi := { dst := some 20, op := _, type := _, pos := _, after := _, guard := _ }) (v := ?_) rfl (by kernel_rfl) (by kernel_rfl) (by kernel_rfl) (fun _ _ _ h => h) (Or.inl ⟨by kernel_rfl, ?_⟩) Gx0 ?_
      rotate_left
      · (intro w hSw; have c1 := hSw.out.c1; go_simp; try with_reducible rfl)
      try simp only [Act.put, List.setIfInBounds_toArray, List.set_cons_zero, List.set_cons_succ]
      refine wpAnyH_take (i := 4) (oi := { dst := some 21, op := _, type := _, pos := _, after := _, guard := _ }) (v := ?_) rfl (by kernel_rfl) (by kernel_rfl) (by kernel_rfl) (fun _ _ _ h => h) (Or.inl ⟨by kernel_rfl, ?_⟩) Gx0 ?_
      rotate_left
      · (intro w hSw; go_simp; try with_reducible rfl)
      try simp only [Act.put, List.setIfInBounds_toArray, List.set_cons_zero, List.set_cons_succ]
      refine wpAnyH_take (i := 5) (oi := { dst := some 22, op := _, type := _, pos := _, after := _, guard := _ }) (v := ?_) rfl (by kernel_rfl) (by kernel_rfl) (by kernel_rfl) (fun _ _ _ h => h) (Or.inl ⟨by kernel_rfl, ?_⟩) Gx0 ?_
      rotate_left
      · (intro w hSw; go_simp; try with_reducible rfl)
      try simp only [Act.put, List.setIfInBounds_toArray, List.set_cons_zero, List.set_cons_succ]
      refine wpAnyH_take (i := 6) (oi := { dst := some 23, op := _, type := _, pos := _, after := _, guard := _ }) (v := ?_) rfl (by kernel_rfl) (by kernel_rfl) (by kernel_rfl) (fun _ _ _ h => h) (Or.inl ⟨by kernel_rfl, ?_⟩) Gx0 ?_
      rotate_left
      · (intro w hSw; go_simp; try with_reducible rfl)
      try simp only [Act.put, List.setIfInBounds_toArray, List.set_cons_zero, List.set_cons_succ]
      refine wpAnyH_take (i := 7) (oi := { dst := some 24, op := _, type := _, pos := _, after := _, guard := _ }) (v := ?_) rfl (by kernel_rfl) (by kernel_rfl) (by kernel_rfl) (fun _ _ _ h => h) (Or.inl ⟨by kernel_rfl, ?_⟩) Gx0 ?_
      rotate_left
      · (intro w hSw; have c2 := hSw.out.c2; go_simp; try with_reducible rfl)
      try simp only [Act.put, List.setIfInBounds_toArray, List.set_cons_zero, List.set_cons_succ]
      refine wpAnyH_take (i := 8) (oi := { dst := some 25, op := _, type := _, pos := _, after := _, guard := _ }) (v := ?_) rfl (by kernel_rfl) (by kernel_rfl) (by kernel_rfl) (fun _ _ _ h => h) (Or.inl ⟨by kernel_rfl, ?_⟩) Gx0 ?_
      rotate_left
      · (intro w hSw; go_simp; try with_reducible rfl)
      try simp only [Act.put, List.setIfInBounds_toArray, List.set_cons_zero, List.set_cons_succ]
      refine wpAnyH_done (by kernel_rfl) ?_ _
      try simp only [Act.put, List.setIfInBounds_toArray, List.set_cons_zero, List.set_cons_succ]
      go_wp2
      go_roundw
      case rel => exact ⟨k + 1, by omega, by go_num, TT.out⟩
      case measure => simp [intOf]; omega
    · obtain rfl : k = n := by omega
      go_wp2
      go_ret
      exact ⟨rfl, TT.out.b⟩
/-- between two segments that are looked at -/
structure SgC (w : World) (q n c : Nat) (L : List Int) (i z : Nat) (w' : World) : Prop where
  x : w'.cell? ⟨q, i, none⟩ = some (.int .i64 (z : Int))
  o : OwI w.heap.size w' (.slice (some ⟨q, 0, none⟩) n c) L
  b : Below w.heap.size w w'
theorem two_and (m : Nat) (hm : m ≤ 30) : bits .and .i64 ((2 ^ m : Nat) : Int) (((2 ^ m : Nat) : Int) - 1) = 0 := by
  have h3 : (2 : Nat) ^ m ≤ 2 ^ 30 := pow_mono2 hm
  have hp := pow_pos2 m
  have e : ((2 ^ m : Nat) : Int) - 1 = ((2 ^ m - 1 : Nat) : Int) := by omega
  rw [e, bits_and_i64 _ _ (by omega) (by omega), Nat.and_two_pow_sub_one_eq_mod, Nat.mod_self]; rfl
set_option maxHeartbeats 8000000 in
theorem fsegs_walk (a b : Int) (w : World) (hTb : Tab w) (hTd : TabD w) :
    Calls Tryd.prog 4 #[.int .i64 a, .int .i64 b] w fun e w' => e = .returned (.bool true) ∧ Below w.heap.size w w' := by
  have C1 := hid (fSegs_any a b w hTd)
  have CA := hid (fun (w' : World) (hb : Below w.heap.size w w') => fawake_any w' (hTb.below hb))
  have C2 := hid (fun (w' : World) => gSegs_any a b w')
  have HL := hid (segI_len a b)
  by_cases hm : mayR a b = true
  · have e : segI a b = szs (seg a.toNat b.toNat) := by unfold segI; rw [if_pos hm]
    have hm2 := hm
    unfold mayR at hm2
    rw [decide_eq_true_eq] at hm2
    obtain ⟨x, rfl⟩ : ∃ x : Nat, a = (x : Int) := ⟨a.toNat, by omega⟩
    obtain ⟨y, rfl⟩ : ∃ y : Nat, b = (y : Int) := ⟨b.toNat, by omega⟩
    rw [Int.toNat_natCast, Int.toNat_natCast] at e
    rw [e] at C1 C2 HL
    have hxy : x ≤ y := by omega
    have hy : y ≤ 2147483647 := by omega
    have CM := hid (fun w => gMay_any (x : Int) (y : Int) w)
    rw [hm] at CM
    have HAD : Hid (adv x (seg x y) = y) := al_adv (al_seg (y - x) (Nat.le_refl _) hxy)
    have HALL := hid (al_seg (y - x) (Nat.le_refl _) hxy)
    have HEXP := hid (seg_exp (y - x) (a := x) (b := y) (Nat.le_refl _) (by omega))
    have HTK := hid (seg_take_le hxy)
    obtain ⟨E, hE⟩ : ∃ E, E = seg x y := ⟨_, rfl⟩
    rw [← hE] at C1 C2 HL HAD HALL HEXP HTK
    obtain ⟨n, hn⟩ : ∃ n, n = (szs E).length := ⟨_, rfl⟩
    rw [← hn] at HL
    have HN := hid hn
    have hn62 : n ≤ 62 := HL.out
    clear hm hm2 hTb hTd e hE hn
    unfold SgA at C1 C2
    go_enter Tryd.func4, Tryd.ntmps4
    go_wp2_with (first
      | (go_at_call 14; refine C1.out.mono ?_; clear C1; rintro e w1 ⟨v, rfl, ho, hb⟩; obtain ⟨A9, c9, e9, hc9, hd9⟩ := ho.len; rw [← HN.out] at e9; subst e9; have O1 := hid ho; have B1 := hid hb; clear ho hb)
      | (go_at_call 9; refine (CA.out _ B1.out).mono ?_; rintro e w2 ⟨rfl, hb⟩; have O2 := hid (O1.out.below hb); have B2 := hid (B1.out.trans (hb.mono B1.out.size)); clear hb O1)
      | (go_at_call 16; refine (C2.out _).mono ?_; rintro e w3 ⟨v, rfl, ho, hb⟩; obtain ⟨A8, c8, e8, hc8, hd8⟩ := ho.len; rw [← HN.out] at e8; subst e8; have O3 := hid (O2.out.below hb); have B3 := hid (B2.out.trans (hb.mono B2.out.size)); have CI := hid (fInts_any (c := c9) (d := c8) O3.out.in ho.in (by omega)); clear ho hb O2)
      | (go_at_call 15; refine CI.out.mono ?_; clear CI; rintro e w4 ⟨rfl, hb⟩; have O4 := hid (O3.out.below hb); have B4 := hid (B3.out.trans (hb.mono B3.out.size)); clear hb O3)
      | (go_at_call 17; refine (CM.out _).mono ?_; rintro e w5 ⟨rfl, rfl⟩))
    go_loopw [6, 7] (fun s6 s7 wr => ∃ i p : Nat, i ≤ n ∧ s6 = .int .i64 (p : Int) ∧ s7 = .int .i64 (i : Int) ∧ Hid (p = adv x (E.take i)) ∧ Hid (OwI w.heap.size wr (.slice A9 n c9) (szs E)) ∧ Hid (Below w.heap.size w wr)) (fun _ i _ => n - (intOf i).toNat)
    case atStart => exact ⟨0, x, by omega, rfl, rfl, rfl, O4.out, B4.out⟩
    case round =>
      obtain ⟨i, p, hi, rfl, rfl, HP, HO, HB⟩ := hrel
      clear O4 B4 B1 B2 B3
      by_cases hlt : i < n
      · have hlt2 : i < E.length := by have := HN.out; rw [szs_len] at this; omega
        have hEi := List.getElem?_eq_getElem hlt2
        obtain ⟨m, hm⟩ : ∃ m, m = E[i] := ⟨_, rfl⟩
        rw [← hm] at hEi
        have hm30 : m ≤ 30 := HEXP.out m (List.mem_of_getElem? hEi)
        have hsz : (szs E)[i]? = some ((2 ^ m : Nat) : Int) := by unfold szs; rw [List.getElem?_map, hEi]; rfl
        obtain ⟨q, rfl, hcell⟩ := own_cell HO.out hsz
        have hdv : 2 ^ m ∣ p := by
          have h := HALL.out
          rw [← List.take_append_drop i E, al_append] at h
          have h2 := h.2
          rw [List.drop_eq_getElem_cons hlt2, ← hm, ← HP.out] at h2
          exact h2.1
        have hbit := two_and m hm30
        have hpos := pow_pos2 m
        have hle := HTK.out (i + 1)
        rw [take_snoc hEi, adv_snoc, ← HP.out] at hle
        have HPN0 : p + 2 ^ m = adv x (E.take (i + 1)) := by rw [take_snoc hEi, adv_snoc, ← HP.out]
        have h30 : 2 ^ m ≤ 2 ^ 30 := pow_mono2 hm30
        obtain ⟨z, hz⟩ : ∃ z, z = 2 ^ m := ⟨_, rfl⟩
        rw [← hz] at hcell hdv hbit hpos hle HPN0 h30
        have hmod : (p : Int) % (z : Int) = 0 := by rw [← Int.natCast_emod, Nat.mod_eq_zero_of_dvd hdv]; rfl
        have hz0 : ¬ (z = 0) := by omega
        have hz1 : ¬ ((z : Int) < 1) := by omega
        have hmod2 : (p : Int).tmod (z : Int) = 0 := by rw [Int.tmod_eq_emod_of_nonneg (by omega)]; exact hmod
        have h31 : z ≤ 1073741824 := h30
        have hbit2 : bits .and .i64 (z : Int) (IntKind.i64.wrap ((z : Int) - 1)) = 0 := by rw [IntWalk.i64_in _ (by omega)]; exact hbit
        have HPN := hid HPN0
        have C0 : Hid (SgC w q n c9 (szs E) i z wr) := ⟨hcell, HO.out, HB.out⟩
        clear hz hm hEi hsz hcell hdv HPN0 HP hm30 hlt2
        go_wp2
        refine wp_region_held (S := fun w' => Hid (SgC w q n c9 (szs E) i z w')) (by kernel_rfl) ?_
        change wpAnyH _ _ _ _ _ _ _ _ wr.drew
        have Gx0 : Hid (SgC w q n c9 (szs E) i z wr.drew) := ⟨C0.out.x, C0.out.o, C0.out.b.drew⟩
        generalize wr.drew = x0 at Gx0  ⊢
        refine wpAnyH_take (i := 0) (oi := { dst := some 35, op := _, type := _, pos := _, after := _, guard := _ }) (v := ?_) rfl (by kernel_rfl) (by kernel_rfl) (by kernel_rfl) (fun _ _ _ h => h) (Or.inl ⟨by kernel_rfl, ?_⟩) Gx0 ?_
        rotate_left
        · (intro w hSw; go_simp; try with_reducible rfl)
        try simp only [Act.put, List.setIfInBounds_toArray, List.set_cons_zero, List.set_cons_succ]
        refine wpAnyH_take (i := 1) (oi := { dst := some 36, op := _, type := _, pos := _, after := _, guard := _ }) (v := ?_) rfl (by kernel_rfl) (by kernel_rfl) (by kernel_rfl) (fun _ _ _ h => h) (Or.inl ⟨by kernel_rfl, ?_⟩) Gx0 ?_
        rotate_left
        · (intro w hSw; go_simp; try with_reducible rfl)
        try simp only [Act.put, List.setIfInBounds_toArray, List.set_cons_zero, List.set_cons_succ]
        refine wpAnyH_take (i := 2) (oi := { dst := some 37, op := _, type := _, pos := _, after := _, guard := _ }) (v := ?_) rfl (by kernel_rfl) (by kernel_rfl) (by kernel_rfl) (fun _ _ _ h => h) (Or.inl ⟨by kernel_rfl, ?_⟩) Gx0 ?_
        rotate_left
        · (intro w hSw; go_simp; try with_reducible rfl)
        try simp only [Act.put, List.setIfInBounds_toArray, List.set_cons_zero, List.set_cons_succ]
        refine wpAnyH_take (i := 3) (oi := { dst := some 38, op := _, type := _, pos := _, after := _, guard := _ }) (v := ?_) rfl (by kernel_rfl) (by kernel_rfl) (by kernel_rfl) (fun _ _ _ h => h) (Or.inl ⟨by kernel_rfl, ?_⟩) Gx0 ?_
        rotate_left
        · (intro w hSw; have hx := hSw.out.x; go_simp; try with_reducible rfl)
        try simp only [Act.put, List.setIfInBounds_toArray, List.set_cons_zero, List.set_cons_succ]
        refine wpAnyH_take (i := 4) (oi := { dst := some 39, op := _, type := _, pos := _, after := _, guard := _ }) (v := .bool false) rfl (by kernel_rfl) (by kernel_rfl) (by kernel_rfl) (fun _ _ _ h => h) (Or.inl ⟨by kernel_rfl, ?_⟩) Gx0 ?_
        · (intro w hSw; go_simp; try with_reducible rfl)
        try simp only [Act.put, List.setIfInBounds_toArray, List.set_cons_zero, List.set_cons_succ]
        refine wpAnyH_take (i := 5) (oi := { dst := some 40, op := _, type := _, pos := _, after := _, guard := _ }) (v := ?_) rfl (by kernel_rfl) (by kernel_rfl) (by kernel_rfl) (fun _ _ _ h => h) (Or.inl ⟨by kernel_rfl, ?_⟩) Gx0 ?_
        rotate_left
        · (intro w hSw; go_simp; try with_reducible rfl)
        try simp only [Act.put, List.setIfInBounds_toArray, List.set_cons_zero, List.set_cons_succ]
        refine wpAnyH_take (i := 6) (oi := { dst := some 41, op := _, type := _, pos := _, after := _, guard := _ }) (v := ?_) rfl (by kernel_rfl) (by kernel_rfl) (by kernel_rfl) (fun _ _ _ h => h) (Or.inl ⟨by kernel_rfl, ?_⟩) Gx0 ?_
        rotate_left
        · (intro w hSw; go_simp; try with_reducible rfl)
        try simp only [Act.put, List.setIfInBounds_toArray, List.set_cons_zero, List.set_cons_succ]
        refine wpAnyH_take (i := 7) (oi := { dst := some 42, op := _, type := _, pos := _, after := _, guard := _ }) (v := ?_) rfl (by kernel_rfl) (by kernel_rfl) (by kernel_rfl) (fun _ _ _ h => h) (Or.inl ⟨by kernel_rfl, ?_⟩) Gx0 ?_
        rotate_left
        · (intro w hSw; go_simp; try with_reducible rfl)
        try simp only [Act.put, List.setIfInBounds_toArray, List.set_cons_zero, List.set_cons_succ]
        refine wpAnyH_take (i := 8) (oi := { dst := some 43, op := _, type := _, pos := _, after := _, guard := _ }) (v := ?_) rfl (by kernel_rfl) (by kernel_rfl) (by kernel_rfl) (fun _ _ _ h => h) (Or.inl ⟨by kernel_rfl, ?_⟩) Gx0 ?_
        rotate_left
        · (intro w hSw; go_simp; try with_reducible rfl)
        try simp only [Act.put, List.setIfInBounds_toArray, List.set_cons_zero, List.set_cons_succ]
        refine wpAnyH_take (i := 9) (oi := { dst := some 44, op := _, type := _, pos := _, after := _, guard := _ }) (v := ?_) rfl (by kernel_rfl) (by kernel_rfl) (by kernel_rfl) (fun _ _ _ h => h) (Or.inl ⟨by kernel_rfl, ?_⟩) Gx0 ?_
        rotate_left
        · (intro w hSw; have hx := hSw.out.x; go_simp; try with_reducible rfl)
        try simp only [Act.put, List.setIfInBounds_toArray, List.set_cons_zero, List.set_cons_succ]
        refine wpAnyH_take (i := 10) (oi := { dst := some 45, op := _, type := _, pos := _, after := _, guard := _ }) (v := ?_) rfl (by kernel_rfl) (by kernel_rfl) (by kernel_rfl) (fun _ _ _ h => h) (Or.inl ⟨by kernel_rfl, ?_⟩) Gx0 ?_
        rotate_left
        · (intro w hSw; go_simp; try with_reducible rfl)
        try simp only [Act.put, List.setIfInBounds_toArray, List.set_cons_zero, List.set_cons_succ]
        refine wpAnyH_take (i := 11) (oi := { dst := some 46, op := _, type := _, pos := _, after := _, guard := _ }) (v := ?_) rfl (by kernel_rfl) (by kernel_rfl) (by kernel_rfl) (fun _ _ _ h => h) (Or.inl ⟨by kernel_rfl, ?_⟩) Gx0 ?_
        rotate_left
        · (intro w hSw; go_simp; try with_reducible rfl)
        try simp only [Act.put, List.setIfInBounds_toArray, List.set_cons_zero, List.set_cons_succ]
        refine wpAnyH_take (i := 12) (oi := { dst := some 47, op := _, type := _, pos := _, after := _, guard := _ }) (v := ?_) rfl (by kernel_rfl) (by kernel_rfl) (by kernel_rfl) (fun _ _ _ h => h) (Or.inl ⟨by kernel_rfl, ?_⟩) Gx0 ?_
        rotate_left
        · (intro w hSw; go_simp; try with_reducible rfl)
        try simp only [Act.put, List.setIfInBounds_toArray, List.set_cons_zero, List.set_cons_succ]
        refine wpAnyH_take (i := 13) (oi := { dst := some 48, op := _, type := _, pos := _, after := _, guard := _ }) (v := ?_) rfl (by kernel_rfl) (by kernel_rfl) (by kernel_rfl) (fun _ _ _ h => h) (Or.inl ⟨by kernel_rfl, ?_⟩) Gx0 ?_
        rotate_left
        · (intro w hSw; have hx := hSw.out.x; go_simp; try with_reducible rfl)
        try simp only [Act.put, List.setIfInBounds_toArray, List.set_cons_zero, List.set_cons_succ]
        refine wpAnyH_take (i := 14) (oi := { dst := some 49, op := _, type := _, pos := _, after := _, guard := _ }) (v := ?_) rfl (by kernel_rfl) (by kernel_rfl) (by kernel_rfl) (fun _ _ _ h => h) (Or.inl ⟨by kernel_rfl, ?_⟩) Gx0 ?_
        rotate_left
        · (intro w hSw; go_simp; try with_reducible rfl)
        try simp only [Act.put, List.setIfInBounds_toArray, List.set_cons_zero, List.set_cons_succ]
        refine wpAnyH_take (i := 15) (oi := { dst := some 50, op := _, type := _, pos := _, after := _, guard := _ }) (v := ?_) rfl (by kernel_rfl) (by kernel_rfl) (by kernel_rfl) (fun _ _ _ h => h) (Or.inl ⟨by kernel_rfl, ?_⟩) Gx0 ?_
        rotate_left
        · (intro w hSw; go_simp; try with_reducible rfl)
        try simp only [Act.put, List.setIfInBounds_toArray, List.set_cons_zero, List.set_cons_succ]
        refine wpAnyH_take (i := 16) (oi := { dst := some 51, op := _, type := _, pos := _, after := _, guard := _ }) (v := ?_) rfl (by kernel_rfl) (by kernel_rfl) (by kernel_rfl) (fun _ _ _ h => h) (Or.inl ⟨by kernel_rfl, ?_⟩) Gx0 ?_
        rotate_left
        · (intro w hSw; go_simp; try with_reducible rfl)
        try simp only [Act.put, List.setIfInBounds_toArray, List.set_cons_zero, List.set_cons_succ]
        refine wpAnyH_take (i := 17) (oi := { dst := some 52, op := _, type := _, pos := _, after := _, guard := _ }) (v := ?_) rfl (by kernel_rfl) (by kernel_rfl) (by kernel_rfl) (fun _ _ _ h => h) (Or.inl ⟨by kernel_rfl, ?_⟩) Gx0 ?_
        rotate_left
        · (intro w hSw; go_simp; try with_reducible rfl)
        try simp only [Act.put, List.setIfInBounds_toArray, List.set_cons_zero, List.set_cons_succ]
        refine wpAnyH_take (i := 18) (oi := { dst := some 53, op := _, type := _, pos := _, after := _, guard := _ }) (v := ?_) rfl (by kernel_rfl) (by kernel_rfl) (by kernel_rfl) (fun _ _ _ h => h) (Or.inl ⟨by kernel_rfl, ?_⟩) Gx0 ?_
        rotate_left
        · (intro w hSw; go_simp; try with_reducible rfl)
        try simp only [Act.put, List.setIfInBounds_toArray, List.set_cons_zero, List.set_cons_succ]
        refine wpAnyH_take (i := 19) (oi := { dst := some 54, op := _, type := _, pos := _, after := _, guard := _ }) (v := ?_) rfl (by kernel_rfl) (by kernel_rfl) (by kernel_rfl) (fun _ _ _ h => h) (Or.inl ⟨by kernel_rfl, ?_⟩) Gx0 ?_
        rotate_left
        · (intro w hSw; go_simp; try with_reducible rfl)
        try simp only [Act.put, List.setIfInBounds_toArray, List.set_cons_zero, List.set_cons_succ]
        refine wpAnyH_take (i := 20) (oi := { dst := some 55, op := _, type := _, pos := _, after := _, guard := _ }) (v := ?_) rfl (by kernel_rfl) (by kernel_rfl) (by kernel_rfl) (fun _ _ _ h => h) (Or.inl ⟨by kernel_rfl, ?_⟩) Gx0 ?_
        rotate_left
        · (intro w hSw; go_simp; try with_reducible rfl)
        try simp only [Act.put, List.setIfInBounds_toArray, List.set_cons_zero, List.set_cons_succ]
        refine wpAnyH_take (i := 21) (oi := { dst := some 56, op := _, type := _, pos := _, after := _, guard := _ }) (v := ?_) rfl (by kernel_rfl) (by kernel_rfl) (by kernel_rfl) (fun _ _ _ h => h) (Or.inl ⟨by kernel_rfl, ?_⟩) Gx0 ?_
        rotate_left
        · (intro w hSw; go_simp; try with_reducible rfl)
        try simp only [Act.put, List.setIfInBounds_toArray, List.set_cons_zero, List.set_cons_succ]
        refine wpAnyH_take (i := 22) (oi := { dst := some 57, op := _, type := _, pos := _, after := _, guard := _ }) (v := ?_) rfl (by kernel_rfl) (by kernel_rfl) (by kernel_rfl) (fun _ _ _ h => h) (Or.inl ⟨by kernel_rfl, ?_⟩) Gx0 ?_
        rotate_left
        · (intro w hSw; go_simp; try with_reducible rfl)
        try simp only [Act.put, List.setIfInBounds_toArray, List.set_cons_zero, List.set_cons_succ]
        refine wpAnyH_take (i := 23) (oi := { dst := some 58, op := _, type := _, pos := _, after := _, guard := _ }) (v := ?_) rfl (by kernel_rfl) (by kernel_rfl) (by kernel_rfl) (fun _ _ _ h => h) (Or.inl ⟨by kernel_rfl, ?_⟩) Gx0 ?_
        rotate_left
        · (intro w hSw; have hx := hSw.out.x; go_simp; try with_reducible rfl)
        try simp only [Act.put, List.setIfInBounds_toArray, List.set_cons_zero, List.set_cons_succ]
        refine wpAnyH_take (i := 24) (oi := { dst := some 59, op := _, type := _, pos := _, after := _, guard := _ }) (v := ?_) rfl (by kernel_rfl) (by kernel_rfl) (by kernel_rfl) (fun _ _ _ h => h) (Or.inl ⟨by kernel_rfl, ?_⟩) Gx0 ?_
        rotate_left
        · (intro w hSw; go_simp; try with_reducible rfl)
        try simp only [Act.put, List.setIfInBounds_toArray, List.set_cons_zero, List.set_cons_succ]
        refine wpAnyH_take (i := 25) (oi := { dst := some 60, op := _, type := _, pos := _, after := _, guard := _ }) (v := ?_) rfl (by kernel_rfl) (by kernel_rfl) (by kernel_rfl) (fun _ _ _ h => h) (Or.inl ⟨by kernel_rfl, ?_⟩) Gx0 ?_
        rotate_left
        · (intro w hSw; go_simp; try with_reducible rfl)
        try simp only [Act.put, List.setIfInBounds_toArray, List.set_cons_zero, List.set_cons_succ]
        refine wpAnyH_take (i := 26) (oi := { dst := some 61, op := _, type := _, pos := _, after := _, guard := _ }) (v := ?_) rfl (by kernel_rfl) (by kernel_rfl) (by kernel_rfl) (fun _ _ _ h => h) (Or.inl ⟨by kernel_rfl, ?_⟩) Gx0 ?_
        rotate_left
        · (intro w hSw; go_simp; try with_reducible rfl)
        try simp only [Act.put, List.setIfInBounds_toArray, List.set_cons_zero, List.set_cons_succ]
        refine wpAnyH_done (by kernel_rfl) ?_ _
        try simp only [Act.put, List.setIfInBounds_toArray, List.set_cons_zero, List.set_cons_succ]
        have hx : x0.cell? ⟨q, i, none⟩ = some (.int .i64 (z : Int)) := Gx0.out.x
        go_wp2
        go_roundw
        case rel => exact ⟨i + 1, p + z, by omega, by go_num, by go_num, HPN.out, Gx0.out.o, Gx0.out.b⟩
        case measure => simp [intOf]; omega
      · obtain rfl : i = n := by omega
        have hp : p = y := by
          rw [HP.out, List.take_of_length_le (by have := HN.out; rw [szs_len] at this; omega), HAD.out]
        have hpe : ((p : Int) == (y : Int)) = true := by rw [hp]; simp
        have hn62' : (i : Int) ≤ 62 := by omega
        clear hp
        go_wp2
        go_ret
        exact ⟨rfl, HB.out⟩
  · have e : segI a b = [] := by unfold segI; rw [if_neg hm]
    rw [e] at C1 C2
    have hm2 : mayR a b = false := by simpa using hm
    have CM := hid (fun w => gMay_any a b w)
    rw [hm2] at CM
    clear hm hm2 e HL hTb hTd
    unfold SgA at C1 C2
    go_enter Tryd.func4, Tryd.ntmps4
    go_wp2_with (first
      | (go_at_call 14; refine C1.out.mono ?_; clear C1; rintro e w1 ⟨v, rfl, ho, hb⟩; obtain ⟨A9, c9, e9, hc9, hd9⟩ := ho.len; rw [show ([] : List Int).length = 0 from rfl] at e9; subst e9; have O1 := hid ho; have B1 := hid hb; clear ho hb)
      | (go_at_call 9; refine (CA.out _ B1.out).mono ?_; rintro e w2 ⟨rfl, hb⟩; have O2 := hid (O1.out.below hb); have B2 := hid (B1.out.trans (hb.mono B1.out.size)); clear hb O1)
      | (go_at_call 16; refine (C2.out _).mono ?_; rintro e w3 ⟨v, rfl, ho, hb⟩; obtain ⟨A8, c8, e8, hc8, hd8⟩ := ho.len; rw [show ([] : List Int).length = 0 from rfl] at e8; subst e8; have O3 := hid (O2.out.below hb); have B3 := hid (B2.out.trans (hb.mono B2.out.size)); have CI := hid (fInts_any (c := c9) (d := c8) O3.out.in ho.in (by omega)); clear ho hb O2)
      | (go_at_call 15; refine CI.out.mono ?_; clear CI; rintro e w4 ⟨rfl, hb⟩; have O4 := hid (O3.out.below hb); have B4 := hid (B3.out.trans (hb.mono B3.out.size)); clear hb O3)
      | (go_at_call 17; refine (CM.out _).mono ?_; rintro e w5 ⟨rfl, rfl⟩))
    go_ret
    exact ⟨rfl, B4.out⟩
end Go.Proofs.YtpeldkadpnoeiaaDoor
