/-
  What is proved here: the document's own comparing of lists of hashes and of ranges; the statements' own turning of a range.
-/
import Derived.Test.YtoacjaecfabahaaDoorMF4
import Derived.Test.YtoacjaecfabahaaDoorMA2
set_option linter.unusedSimpArgs false
set_option linter.unusedVariables false
namespace Go.Proofs.YtoacjaecfabahaaDoor
open Go.ChangeShapes Go.WideShapes Go.ChangeAt Go.RowKit
set_option linter.unusedVariables false
set_option linter.unusedSimpArgs false
set_option maxRecDepth 20000

theorem eql_h (a b : List Int) (ha : H32 a) (hb : H32 b) (w : World) : (binOp .eql 33 (hV a) (hV b)).run Tryd.prog w = .ok (.bool (decide (a = b))) w := eql_hash a b ha.bs hb.bs ha.len hb.len w
theorem neq_h (a b : List Int) (ha : H32 a) (hb : H32 b) (w : World) : (binOp .neq 33 (hV a) (hV b)).run Tryd.prog w = .ok (.bool (!decide (a = b))) w := by
  have h := eql_h a b ha hb w
  unfold binOp at h ⊢
  simp only [Sem.run_bind] at h ⊢
  cases hr : (Op.equal 33 (hV a) (hV b)).run Tryd.prog w with
  | ok x w' =>
    rw [hr] at h
    simp only [Result.andThen_ok] at h ⊢
    cases h
    rfl
  | halt x w' =>
    rw [hr] at h
    cases h
theorem lists_eq {L M : List (List Int)} {n : Nat} (h1 : L.length = n) (h2 : M.length = n) (h : ∀ j, j < n → L[j]? = M[j]?) : L = M := List.ext_getElem? fun j => by
  by_cases hj : j < n
  · exact h j hj
  · rw [List.getElem?_eq_none (by omega), List.getElem?_eq_none (by omega)]
structure TwoH (w : World) (A B : Option Addr) (n m : Nat) (L M : List (List Int)) (w' : World) : Prop where
  l : InH w' A n L
  m : InH w' B m M
  b : Below w.heap.size w w'
theorem TwoH.below {w : World} {A B : Option Addr} {n m : Nat} {L M : List (List Int)} {x y : World} (h : TwoH w A B n m L M x) (hb : Below x.heap.size x y) : TwoH w A B n m L M y := ⟨h.l.below hb, h.m.below hb, h.b.trans (hb.mono h.b.size)⟩
structure RngT (b1 o1 b2 o2 : Nat) (K1 K2 : List Int) (w' : World) : Prop where
  r1 : w'.rangeAt b1 o1 (u8s K1)
  r2 : w'.rangeAt b2 o2 (u8s K2)
set_option maxHeartbeats 4000000 in
theorem gSame_any {A B : Option Addr} {n m c d : Nat} {L M : List (List Int)} {w : World} (hL : InH w A n L) (hM : InH w B m M) (hn : n < 1000000) (hm : m < 1000000) :
    Calls Tryd.prog 24 #[.slice A n c, .slice B m d] w fun e w' => e = .returned (.bool (decide (L = M))) ∧ Below w.heap.size w w' := by
  obtain ⟨r, hr⟩ : ∃ r, r = decide (L = M) := ⟨_, rfl⟩
  rw [← hr]
  have HR := hid hr
  have hl := hL.1; have hm' := hM.1
  by_cases hnm : n = m
  · subst hnm
    have T0 : Hid (TwoH w A B n n L M w) := ⟨hL, hM, Below.refl _ _⟩
    have HL := hid hl; have HM := hid hm'
    clear hL hM hr hl hm'
    go_enter Tryd.func24, Tryd.ntmps24
    go_wp2
    go_loopw [5] (fun i wr => ∃ k : Nat, k ≤ n ∧ i = .int .i64 (k : Int) ∧ Hid (∀ j, j < k → L[j]? = M[j]?) ∧ Hid (TwoH w A B n n L M wr)) (fun i _ => n - (intOf i).toNat)
    case atStart => exact ⟨0, by omega, rfl, fun j hj => by omega, T0.out⟩
    case round =>
      obtain ⟨k, hk, rfl, HE, TT⟩ := hrel
      clear T0
      by_cases hlt : k < n
      · obtain ⟨b1, o1, K1, rfl, hK1, h1, hb1, hr1⟩ := TT.out.l.at hlt
        obtain ⟨b2, o2, K2, rfl, hK2, h2, hb2, hr2⟩ := TT.out.m.at hlt
        have HR1 := hid hr1; have HR2 := hid hr2
        have HI1 := hid (info_hash K1 h1.len); have HI2 := hid (info_hash K2 h2.len)
        have hneq := fun w => neq_h K1 K2 h1 h2 w
        have HK1 := hid hK1; have HK2 := hid hK2
        clear hr1 hr2 hK1 hK2 h1 h2 hb1 hb2
        by_cases hab : K1 = K2
        · rw [decide_eq_true hab] at hneq
          have HEN : Hid (∀ j, j < k + 1 → L[j]? = M[j]?) := by
            show ∀ j, _
            intro j hj
            by_cases hjk : j = k
            · subst hjk; rw [HK1.out, HK2.out, hab]
            · exact HE.out j (by omega)
          clear hab HK1 HK2
          go_wp2
          refine wp_region_held (S := fun w' => Hid (RngT b1 (o1 + k * 32) b2 (o2 + k * 32) K1 K2 w')) (by kernel_rfl) ?_
          change wpAnyH _ _ _ _ _ _ _ _ wr.drew
          have Gx0 : Hid (RngT b1 (o1 + k * 32) b2 (o2 + k * 32) K1 K2 wr.drew) := ⟨HR1.out, HR2.out⟩
          have TT' : Hid (TwoH w (some ⟨b1, o1, none⟩) (some ⟨b2, o2, none⟩) n n L M wr.drew) := TT.out.below ((Below.refl _ _).drew)
          clear TT
          have TT := TT'
          clear TT'
          generalize wr.drew = x0 at Gx0 TT ⊢
          refine wpAnyH_take (i := 0) (oi := { dst := some 17, op := _, type := _, pos := _, after := _, guard := _ }) (v := ?_) rfl (by kernel_rfl) (by kernel_rfl) (by kernel_rfl) (fun _ _ _ h => h) (Or.inl ⟨by kernel_rfl, ?_⟩) Gx0 ?_
          rotate_left
          · (intro w hSw; go_simp; try with_reducible rfl)
          try simp only [Act.put, List.setIfInBounds_toArray, List.set_cons_zero, List.set_cons_succ]
          refine wpAnyH_take (i := 1) (oi := { dst := some 18, op := _, type := _, pos := _, after := _, guard := _ }) (v := ?_) rfl (by kernel_rfl) (by kernel_rfl) (by kernel_rfl) (fun _ _ _ h => h) (Or.inl ⟨by kernel_rfl, ?_⟩) Gx0 ?_
          rotate_left
          · (intro w hSw; go_simp; try with_reducible rfl)
          try simp only [Act.put, List.setIfInBounds_toArray, List.set_cons_zero, List.set_cons_succ]
          refine wpAnyH_take (i := 2) (oi := { dst := some 19, op := _, type := _, pos := _, after := _, guard := _ }) (v := ?_) rfl (by kernel_rfl) (by kernel_rfl) (by kernel_rfl) (fun _ _ _ h => h) (Or.inl ⟨by kernel_rfl, ?_⟩) Gx0 ?_
          rotate_left
          · (intro w hSw; go_simp; try with_reducible rfl)
          try simp only [Act.put, List.setIfInBounds_toArray, List.set_cons_zero, List.set_cons_succ]
          refine wpAnyH_take (i := 3) (oi := { dst := some 20, op := _, type := _, pos := _, after := _, guard := _ }) (v := .agg (hc32 K1)) rfl (by kernel_rfl) (by kernel_rfl) (by kernel_rfl) (fun _ _ _ h => h) (yieldsIf_load_mid (cs := u8s K1) (by rfl) _ _ rfl _ _ rfl _ (fun w' hSw => hSw.out.r1) Tryd.underlying33 rfl HI1.out) Gx0 ?_
          try simp only [Act.put, List.setIfInBounds_toArray, List.set_cons_zero, List.set_cons_succ]
          refine wpAnyH_take (i := 4) (oi := { dst := some 21, op := _, type := _, pos := _, after := _, guard := _ }) (v := ?_) rfl (by kernel_rfl) (by kernel_rfl) (by kernel_rfl) (fun _ _ _ h => h) (Or.inl ⟨by kernel_rfl, ?_⟩) Gx0 ?_
          rotate_left
          · (intro w hSw; go_simp; try with_reducible rfl)
          try simp only [Act.put, List.setIfInBounds_toArray, List.set_cons_zero, List.set_cons_succ]
          refine wpAnyH_take (i := 5) (oi := { dst := some 22, op := _, type := _, pos := _, after := _, guard := _ }) (v := ?_) rfl (by kernel_rfl) (by kernel_rfl) (by kernel_rfl) (fun _ _ _ h => h) (Or.inl ⟨by kernel_rfl, ?_⟩) Gx0 ?_
          rotate_left
          · (intro w hSw; go_simp; try with_reducible rfl)
          try simp only [Act.put, List.setIfInBounds_toArray, List.set_cons_zero, List.set_cons_succ]
          refine wpAnyH_take (i := 6) (oi := { dst := some 23, op := _, type := _, pos := _, after := _, guard := _ }) (v := ?_) rfl (by kernel_rfl) (by kernel_rfl) (by kernel_rfl) (fun _ _ _ h => h) (Or.inl ⟨by kernel_rfl, ?_⟩) Gx0 ?_
          rotate_left
          · (intro w hSw; go_simp; try with_reducible rfl)
          try simp only [Act.put, List.setIfInBounds_toArray, List.set_cons_zero, List.set_cons_succ]
          refine wpAnyH_take (i := 7) (oi := { dst := some 24, op := _, type := _, pos := _, after := _, guard := _ }) (v := .agg (hc32 K2)) rfl (by kernel_rfl) (by kernel_rfl) (by kernel_rfl) (fun _ _ _ h => h) (yieldsIf_load_mid (cs := u8s K2) (by rfl) _ _ rfl _ _ rfl _ (fun w' hSw => hSw.out.r2) Tryd.underlying33 rfl HI2.out) Gx0 ?_
          try simp only [Act.put, List.setIfInBounds_toArray, List.set_cons_zero, List.set_cons_succ]
          refine wpAnyH_take (i := 8) (oi := { dst := some 25, op := _, type := _, pos := _, after := _, guard := _ }) (v := ?_) rfl (by kernel_rfl) (by kernel_rfl) (by kernel_rfl) (fun _ _ _ h => h) (Or.inl ⟨by kernel_rfl, ?_⟩) Gx0 ?_
          rotate_left
          · (intro w hSw; go_simp; try with_reducible rfl)
          try simp only [Act.put, List.setIfInBounds_toArray, List.set_cons_zero, List.set_cons_succ]
          refine wpAnyH_done (by kernel_rfl) ?_ _
          try simp only [Act.put, List.setIfInBounds_toArray, List.set_cons_zero, List.set_cons_succ]
          go_wp2
          go_roundw
          case rel => exact ⟨k + 1, by omega, by go_num, HEN.out, TT.out⟩
          case measure => simp [intOf]; omega
        · rw [decide_eq_false hab] at hneq
          have HF : Hid (r = false) := by
            show _ = _
            rw [HR.out]
            apply decide_eq_false
            intro e
            have h1 := HK1.out; have h2 := HK2.out
            rw [e] at h1
            rw [h1] at h2
            exact hab (by injection h2)
          clear hab HK1 HK2
          go_wp2
          refine wp_region_held (S := fun w' => Hid (RngT b1 (o1 + k * 32) b2 (o2 + k * 32) K1 K2 w')) (by kernel_rfl) ?_
          change wpAnyH _ _ _ _ _ _ _ _ wr.drew
          have Gx0 : Hid (RngT b1 (o1 + k * 32) b2 (o2 + k * 32) K1 K2 wr.drew) := ⟨HR1.out, HR2.out⟩
          have TT' : Hid (TwoH w (some ⟨b1, o1, none⟩) (some ⟨b2, o2, none⟩) n n L M wr.drew) := TT.out.below ((Below.refl _ _).drew)
          clear TT
          have TT := TT'
          clear TT'
          generalize wr.drew = x0 at Gx0 TT ⊢
          refine wpAnyH_take (i := 0) (oi := { dst := some 17, op := _, type := _, pos := _, after := _, guard := _ }) (v := ?_) rfl (by kernel_rfl) (by kernel_rfl) (by kernel_rfl) (fun _ _ _ h => h) (Or.inl ⟨by kernel_rfl, ?_⟩) Gx0 ?_
          rotate_left
          · (intro w hSw; go_simp; try with_reducible rfl)
          try simp only [Act.put, List.setIfInBounds_toArray, List.set_cons_zero, List.set_cons_succ]
          refine wpAnyH_take (i := 1) (oi := { dst := some 18, op := _, type := _, pos := _, after := _, guard := _ }) (v := ?_) rfl (by kernel_rfl) (by kernel_rfl) (by kernel_rfl) (fun _ _ _ h => h) (Or.inl ⟨by kernel_rfl, ?_⟩) Gx0 ?_
          rotate_left
          · (intro w hSw; go_simp; try with_reducible rfl)
          try simp only [Act.put, List.setIfInBounds_toArray, List.set_cons_zero, List.set_cons_succ]
          refine wpAnyH_take (i := 2) (oi := { dst := some 19, op := _, type := _, pos := _, after := _, guard := _ }) (v := ?_) rfl (by kernel_rfl) (by kernel_rfl) (by kernel_rfl) (fun _ _ _ h => h) (Or.inl ⟨by kernel_rfl, ?_⟩) Gx0 ?_
          rotate_left
          · (intro w hSw; go_simp; try with_reducible rfl)
          try simp only [Act.put, List.setIfInBounds_toArray, List.set_cons_zero, List.set_cons_succ]
          refine wpAnyH_take (i := 3) (oi := { dst := some 20, op := _, type := _, pos := _, after := _, guard := _ }) (v := .agg (hc32 K1)) rfl (by kernel_rfl) (by kernel_rfl) (by kernel_rfl) (fun _ _ _ h => h) (yieldsIf_load_mid (cs := u8s K1) (by rfl) _ _ rfl _ _ rfl _ (fun w' hSw => hSw.out.r1) Tryd.underlying33 rfl HI1.out) Gx0 ?_
          try simp only [Act.put, List.setIfInBounds_toArray, List.set_cons_zero, List.set_cons_succ]
          refine wpAnyH_take (i := 4) (oi := { dst := some 21, op := _, type := _, pos := _, after := _, guard := _ }) (v := ?_) rfl (by kernel_rfl) (by kernel_rfl) (by kernel_rfl) (fun _ _ _ h => h) (Or.inl ⟨by kernel_rfl, ?_⟩) Gx0 ?_
          rotate_left
          · (intro w hSw; go_simp; try with_reducible rfl)
          try simp only [Act.put, List.setIfInBounds_toArray, List.set_cons_zero, List.set_cons_succ]
          refine wpAnyH_take (i := 5) (oi := { dst := some 22, op := _, type := _, pos := _, after := _, guard := _ }) (v := ?_) rfl (by kernel_rfl) (by kernel_rfl) (by kernel_rfl) (fun _ _ _ h => h) (Or.inl ⟨by kernel_rfl, ?_⟩) Gx0 ?_
          rotate_left
          · (intro w hSw; go_simp; try with_reducible rfl)
          try simp only [Act.put, List.setIfInBounds_toArray, List.set_cons_zero, List.set_cons_succ]
          refine wpAnyH_take (i := 6) (oi := { dst := some 23, op := _, type := _, pos := _, after := _, guard := _ }) (v := ?_) rfl (by kernel_rfl) (by kernel_rfl) (by kernel_rfl) (fun _ _ _ h => h) (Or.inl ⟨by kernel_rfl, ?_⟩) Gx0 ?_
          rotate_left
          · (intro w hSw; go_simp; try with_reducible rfl)
          try simp only [Act.put, List.setIfInBounds_toArray, List.set_cons_zero, List.set_cons_succ]
          refine wpAnyH_take (i := 7) (oi := { dst := some 24, op := _, type := _, pos := _, after := _, guard := _ }) (v := .agg (hc32 K2)) rfl (by kernel_rfl) (by kernel_rfl) (by kernel_rfl) (fun _ _ _ h => h) (yieldsIf_load_mid (cs := u8s K2) (by rfl) _ _ rfl _ _ rfl _ (fun w' hSw => hSw.out.r2) Tryd.underlying33 rfl HI2.out) Gx0 ?_
          try simp only [Act.put, List.setIfInBounds_toArray, List.set_cons_zero, List.set_cons_succ]
          refine wpAnyH_take (i := 8) (oi := { dst := some 25, op := _, type := _, pos := _, after := _, guard := _ }) (v := ?_) rfl (by kernel_rfl) (by kernel_rfl) (by kernel_rfl) (fun _ _ _ h => h) (Or.inl ⟨by kernel_rfl, ?_⟩) Gx0 ?_
          rotate_left
          · (intro w hSw; go_simp; try with_reducible rfl)
          try simp only [Act.put, List.setIfInBounds_toArray, List.set_cons_zero, List.set_cons_succ]
          refine wpAnyH_done (by kernel_rfl) ?_ _
          try simp only [Act.put, List.setIfInBounds_toArray, List.set_cons_zero, List.set_cons_succ]
          go_wp2
          go_ret
          exact ⟨by rw [HF.out]; rfl, TT.out.b⟩
      · obtain rfl : k = n := by omega
        have HF : Hid (r = true) := by
          show _ = _
          rw [HR.out]
          exact decide_eq_true (lists_eq HL.out HM.out HE.out)
        go_wp2
        go_ret
        exact ⟨by rw [HF.out]; rfl, TT.out.b⟩
  · have HF : Hid (r = false) := by
      show _ = _
      rw [hr]
      apply decide_eq_false
      intro e
      rw [e] at hl
      omega
    have hne : ((n : Int) != (m : Int)) = true := by simp; omega
    clear hL hM hr hl hm'
    go_enter Tryd.func24, Tryd.ntmps24
    go_wp2
    go_ret
    exact ⟨by rw [HF.out]; rfl, Below.refl _ _⟩
theorem gblk_rng {w : World} {g : Nat} {t : TypeId} {cs : Array Value} (h : Blk w g t cs) : w.rangeAt g 0 cs.toList := fun j v hv => by
  rw [h.cell, Nat.zero_add, ← Array.getElem?_toList]; exact hv
set_option maxHeartbeats 2000000 in
theorem fto_any (a b : Int) (A : Option Addr) (n c : Nat) (w : World) : Calls Tryd.prog 17 #[.agg (rgc a b (.slice A n c))] w fun e w' => e = .returned (.agg (rgc a b (.slice A n c))) ∧ Below w.heap.size w w' := by
  have K1 := hid ((Blk.new w 25 (rgc a b (.slice A n c))).alloc (.cells (rgc 0 0 (.slice none 0 0)) 29))
  have k2 := Blk.new (w.alloc (.cells (rgc a b (.slice A n c)) 25)) 29 (rgc 0 0 (.slice none 0 0))
  rw [show (w.alloc (.cells (rgc a b (.slice A n c)) 25)).heap.size = w.heap.size + 1 by simp] at k2
  have K2 := hid k2
  have B2 : Hid (Below w.heap.size w ((w.alloc (.cells (rgc a b (.slice A n c)) 25)).alloc (.cells (rgc 0 0 (.slice none 0 0)) 29))) := ((Below.refl _ _).alloc (Nat.le_refl _) _).alloc (by simp) _
  have hz := zero_gRng
  have HI1 := hid (info_fRng a b (.slice A n c))
  have HI2 := hid (info_gRng a b (.slice A n c))
  clear k2
  go_enter Tryd.func17, Tryd.ntmps17
  go_wp2_with (first
    | (refine load_at rfl 25 (.tmp 1) rfl w.heap.size 0 rfl _ _ (gblk_rng K1.out) Tryd.underlying25 rfl HI1.out (rgc a b (.slice A n c)) rfl ?_)
    | (refine wpList_store_row rfl 29 (.tmp 2) (.tmp 3) rfl (w.heap.size + 1) (rgc a b (.slice A n c)) rfl rfl 29 (rgc 0 0 (.slice none 0 0)) K2.out HI2.out rfl (rgc_ones _ _ rfl) ?_))
  try go_frame
  refine bodyPost_ret (results_cell_row Tryd.results17 _ _ (w.heap.size + 1) 29 (rgc a b (.slice A n c)) (0, 0) _ rfl (K2.out.row _) Tryd.underlying29 rfl HI2.out) rfl ?_
  exact ⟨rfl, below_setRow B2.out (by omega) _⟩
end Go.Proofs.YtoacjaecfabahaaDoor
/-
  What is proved here: the document's own comparing of ranges; of lists of numbers.
-/
namespace Go.Proofs.YtoacjaecfabahaaDoor
open Go.ChangeShapes Go.WideShapes Go.ChangeAt Go.RowKit
set_option linter.unusedVariables false
set_option linter.unusedSimpArgs false
set_option maxRecDepth 20000

set_option maxHeartbeats 4000000 in
theorem gRanges_any {a b a' b' : Int} {A B : Option Addr} {n m c d : Nat} {L M : List (List Int)} {w : World} (hL : InH w A n L) (hM : InH w B m M) (hn : n < 1000000) (hm : m < 1000000) :
    Calls Tryd.prog 16 #[.agg (rgc a b (.slice A n c)), .agg (rgc a' b' (.slice B m d))] w fun e w' => e = .returned (.bool (decide (a = a' ∧ b = b' ∧ L = M))) ∧ Below w.heap.size w w' := by
  have k1 := (Blk.new w 29 (rgc a b (.slice A n c))).alloc (.cells (rgc a' b' (.slice B m d)) 29)
  have k2 := Blk.new (w.alloc (.cells (rgc a b (.slice A n c)) 29)) 29 (rgc a' b' (.slice B m d))
  rw [show (w.alloc (.cells (rgc a b (.slice A n c)) 29)).heap.size = w.heap.size + 1 by simp] at k2
  have hb : Below w.heap.size w ((w.alloc (.cells (rgc a b (.slice A n c)) 29)).alloc (.cells (rgc a' b' (.slice B m d)) 29)) := ((Below.refl _ _).alloc (Nat.le_refl _) _).alloc (by simp) _
  have B2 := hid hb
  have CS := hid (gSame_any (c := c) (d := d) (hL.below hb) (hM.below hb) hn hm)
  have c0 := k1.cell 0
  have c1 := k1.cell 1
  have c2 := k1.cell 2
  have d0 := k2.cell 0
  have d1 := k2.cell 1
  have d2 := k2.cell 2
  have e0 : (rgc a b (.slice A n c))[0]? = some (.int .i64 a) := rfl
  have e1 : (rgc a b (.slice A n c))[1]? = some (.int .i64 b) := rfl
  have e2 : (rgc a b (.slice A n c))[2]? = some (.slice A n c) := rfl
  have f0 : (rgc a' b' (.slice B m d))[0]? = some (.int .i64 a') := rfl
  have f1 : (rgc a' b' (.slice B m d))[1]? = some (.int .i64 b') := rfl
  have f2 : (rgc a' b' (.slice B m d))[2]? = some (.slice B m d) := rfl
  rw [e0] at c0; rw [e1] at c1; rw [e2] at c2; rw [f0] at d0; rw [f1] at d1; rw [f2] at d2
  clear hL hM k1 k2 hb e0 e1 e2 f0 f1 f2
  by_cases h1 : a = a'
  · by_cases h2 : b = b'
    · have e : decide (a = a' ∧ b = b' ∧ L = M) = decide (L = M) := by simp [h1, h2]
      rw [e]
      clear e
      generalize decide (L = M) = r at CS ⊢
      have h1' : (a == a') = true := by simp [h1]
      have h2' : (b == b') = true := by simp [h2]
      clear h1 h2
      go_enter Tryd.func16, Tryd.ntmps16
      go_wp2_with (go_at_call 24; refine CS.out.mono ?_; rintro e w3 ⟨rfl, hb3⟩; have B3 := hid (B2.out.trans (hb3.mono B2.out.size)); clear hb3 c0 c1 c2 d0 d1 d2)
      go_ret
      exact ⟨rfl, B3.out⟩
    · have e : decide (a = a' ∧ b = b' ∧ L = M) = false := by simp [h2]
      rw [e]
      have h1' : (a == a') = true := by simp [h1]
      have h2' : (b == b') = false := by simpa using h2
      clear h1 h2 e CS
      go_enter Tryd.func16, Tryd.ntmps16
      go_wp2
      go_ret
      exact ⟨rfl, B2.out⟩
  · have e : decide (a = a' ∧ b = b' ∧ L = M) = false := by simp [h1]
    rw [e]
    have h1' : (a == a') = false := by simpa using h1
    clear h1 e CS
    go_enter Tryd.func16, Tryd.ntmps16
    go_wp2
    go_ret
    exact ⟨rfl, B2.out⟩
end Go.Proofs.YtoacjaecfabahaaDoor
