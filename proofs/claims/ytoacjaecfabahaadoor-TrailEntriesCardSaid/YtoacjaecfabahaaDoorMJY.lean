/-
  What is proved here: the text of two hashes, lists of texts put together; all texts that are hashed of a list.
-/
import Derived.Test.YtoacjaecfabahaaDoorMJP
import Derived.Test.YtoacjaecfabahaaDoorMFE1
import Derived.Test.YtoacjaecfabahaaDoorMF2
set_option linter.unusedSimpArgs false
set_option linter.unusedVariables false
namespace Go.Proofs.YtoacjaecfabahaaDoor
open Go.ChangeShapes Go.WideShapes Go.ChangeAt Go.RowKit
set_option linter.unusedVariables false
set_option linter.unusedSimpArgs false
set_option maxRecDepth 20000

set_option maxHeartbeats 4000000 in
theorem gText_b {a b : List Int} {w : World} (ha : H32 a) (hb : H32 b) :
    Calls Tryd.prog 58 #[hV a, hV b] w fun e w' => ∃ A' c', e = .returned (.slice A' (ndT a b).length c') ∧ (ndT a b).length ≤ c' ∧ BytV w' A' (ndT a b) ∧ Below w.heap.size w w' := by
  have k1 := Blk.new w 33 (hc32 a)
  have k2 := Blk.new (w.alloc (.cells (hc32 a) 33)) 33 (hc32 b)
  rw [show (w.alloc (.cells (hc32 a) 33)).heap.size = w.heap.size + 1 by simp] at k2
  have K1 := hid (k1.alloc (.cells (hc32 b) 33)); have K2 := hid k2
  have B2 : Hid (Below w.heap.size w ((w.alloc (.cells (hc32 a) 33)).alloc (.cells (hc32 b) 33))) := ((Below.refl _ _).alloc (Nat.le_refl _) _).alloc (by simp) _
  have SZ : ((w.alloc (.cells (hc32 a) 33)).alloc (.cells (hc32 b) 33)).heap.size = w.heap.size + 1 + 1 := by simp
  have k3 := Blk.new ((w.alloc (.cells (hc32 a) 33)).alloc (.cells (hc32 b) 33)) 5 #[.int .u8 1]
  rw [SZ] at k3
  have O2 := hid (own_blk (base := w.heap.size + 1 + 1) (l := [1]) k3 (Nat.le_refl _) (by decide))
  have B3 := hid (B2.out.alloc B2.out.size (.cells #[.int .u8 1] 5))
  have K13 := hid (K1.out.alloc (.cells #[.int .u8 1] 5))
  have K23 := hid (K2.out.alloc (.cells #[.int .u8 1] 5))
  have SZ3 : Hid (w.heap.size + 1 + 1 ≤ (((w.alloc (.cells (hc32 a) 33)).alloc (.cells (hc32 b) 33)).alloc (.cells #[.int .u8 1] 5)).heap.size) := by show _ ≤ _; simp
  have LA := hid ha.len.symm; have LB := hid hb.len.symm
  have L65 := hid (ndt_len ha hb)
  obtain ⟨N1, hN1⟩ : ∃ N1, N1 = (1 : Int) :: a := ⟨_, rfl⟩
  have e1 : [(1 : Int)] ++ a = N1 := by rw [hN1]; rfl
  have e2 : N1 ++ b = ndT a b := by rw [hN1]; rfl
  have l1 : N1.length = 33 := by rw [hN1, List.length_cons, ha.len]
  have E1 := hid e1; have E2 := hid e2; have L1 := hid l1
  clear e1 e2 l1 hN1 k1 k2 k3 ha hb SZ
  generalize ndT a b = X at E2 L65 ⊢
  go_enter Tryd.func58, Tryd.ntmps58
  go_wp2_with (first
    | (at_builtin; refine append_rpm rfl (.tmp 7) (.tmp 8) rfl (w.heap.size + 1 + 1) (w.heap.size + 1 + 1) _ [1] rfl O2.out _ _ _ a LA.out rfl (blk_rp K13.out) (by rw [← LA.out]; decide) SZ3.out (Nat.le_refl _) ?_; intro v3 w3 o3 b3; rw [E1.out] at o3; have O3 := o3; have D3 := b3; have C3 := hid (blk_rp (K23.out.same (b3.out.block _ (by omega)))))
    | (at_builtin; refine append_rpm rfl (.tmp 10) (.tmp 11) rfl (w.heap.size + 1 + 1) (w.heap.size + 1 + 1) _ N1 rfl O3.out _ _ _ b LB.out rfl C3.out (by rw [← LB.out, L1.out]; decide) (Nat.le_trans SZ3.out D3.out.size) (Nat.le_refl _) ?_; intro v4 w4 o4 b4; rw [E2.out] at o4; have O4 := o4; have D4 := hid (B3.out.trans ((D3.out.trans b4.out).mono (by omega)))))
  go_ret
  obtain ⟨A9, c9, rfl, _, hc9, hf9⟩ := fresh_of_own (w := w) O4.out (by omega)
  exact ⟨A9, c9, rfl, hc9, hf9.bytV, D4.out⟩
/-- some texts behind others -/
theorem append_txs {w : World} {ops : Array Oper} {rest : List Oper} {o : Oper} {a : Act} {Q : Exit → Act → World → Prop} (hgd : o.guard = none) (s y : Operand)
    (ho : o.op = .call { callee := .builtin .append, args := #[s, y], argTypes := #[66, 66] }) (n0 n1 : Nat) (M M2 : List (List Int)) (v v2 : Value) (hs : a.eval s = v) (hM : TxV n0 w M v) (hy : a.eval y = v2) (hM2 : TxV n1 w M2 v2)
    (h63 : M.length + M2.length ≤ 100000) (hn : n0 ≤ w.heap.size)
    (h : ∀ v' w', TxV n0 w' (M ++ M2) v' → w.grownBy w' v.ownBlock → wpList Tryd.prog ops Q rest (a.put o.dst v') w') : wpList Tryd.prog ops Q (o :: rest) a w := by
  obtain ⟨i0, hi, hz0, hz1, hz2⟩ := info_parts info_txV
  obtain ⟨A, cc, rows, hv, hown, hj⟩ := hM
  obtain ⟨A2, c2, rows2, hv2, hown2, hj2⟩ := hM2
  have hl : rows.length = M.length := by have := hown.1; omega
  have hl2 : rows2.length = M2.length := by have := hown2.1; omega
  rcases hown2.2 with ⟨h1, h0⟩ | ⟨g, cap, cur, hv3, hb, hh, hrest⟩
  · have : M2 = [] := List.length_eq_zero_iff.1 h0
    subst this
    rw [h1] at hv2
    refine wpList_append_nil' hgd s y 66 ho n0 89 i0 1 Tryd.underlying66 hi v M.length rows 0 hs hown (by rw [hy, h1]) ?_
    exact h v w (by rw [List.append_nil]; exact ⟨A, cc, rows, hv, hown, hj⟩) (World.grownBy.refl _ _)
  · refine wpList_append_own_at _ hgd s y 66 ho n0 89 i0 (.slice none 0 0) 1 24 Tryd.underlying66 hi hz0 hz1 hz2 rfl (by decide) v M.length rows hs hown ⟨g, 0, none⟩ M2.length cap rows2 (by rw [hy, hv3]) (by omega) (fun j u hu => ?_) (fun u hu => ?_) (by unfold maxLen; omega) (by omega) hn ?_
    · exact hown2.cells (g := g) (by rw [hv3]; rfl) j u hu
    · obtain ⟨j, hjl, rfl⟩ := List.getElem_of_mem hu
      obtain ⟨B, d, h4, _⟩ := hj2 j (by omega)
      rw [List.getElem?_eq_getElem hjl] at h4
      injection h4 with h4
      rw [h4]; rfl
    · intro v9 w9 ow9 gr9 _ _
      obtain ⟨A9, c9, hv9⟩ : ∃ A' c', v9 = .slice A' (M.length + M2.length) c' := by
        rcases ow9.2 with ⟨h1, h0⟩ | ⟨g, cap, cur, hv, _⟩
        · exact ⟨none, 0, by rw [h1, h0]⟩
        · exact ⟨_, _, hv⟩
      have ku : ∀ g cs, Blk w g 5 cs → w9.heap[g]? = w.heap[g]? := fun g cs hg => gr9.block g hg.lt (fun e => by
        rcases hown.2 with ⟨h1, h0⟩ | ⟨g', cap, cur, hv', hb, hh, _⟩
        · rw [h1] at e; cases e
        · rw [hv'] at e; injection e with e; subst e
          exact hg.ne (show Blk w g 89 cur from hh) (by decide) rfl)
      refine h v9 w9 ⟨A9, c9, rows ++ rows2, by rw [hv9, List.length_append], by rw [List.length_append]; exact ow9, fun j hjj => ?_⟩ gr9
      rw [List.length_append] at hjj
      by_cases hlt : j < M.length
      · obtain ⟨B', d', h4, h5, h6⟩ := hj j hlt
        rw [List.getElem?_append_left hlt]
        exact ⟨B', d', by rw [List.getElem?_append_left (by omega)]; exact h4, h5, h6.same ku⟩
      · obtain ⟨B', d', h4, h5, h6⟩ := hj2 (j - M.length) (by omega)
        have e9 : (M ++ M2)[j]? = M2[j - M.length]? := List.getElem?_append_right (by omega)
        rw [e9]
        exact ⟨B', d', by rw [List.getElem?_append_right (by omega), hl]; exact h4, h5, h6.same ku⟩
/-- texts at work -/
structure TxS (w : World) (M : List (List Int)) (v : Value) (W : World) : Prop where
  tx : TxV w.heap.size W M v
  bl : Below w.heap.size w W
theorem TxS.below {w x y : World} {M : List (List Int)} {v : Value} (h : TxS w M v x) (hb : Below x.heap.size x y) : TxS w M v y := ⟨h.tx.below hb, h.bl.trans (hb.mono h.bl.size)⟩
theorem TxS.app {w x y : World} {M M' : List (List Int)} {v v' : Value} (h : TxS w M v x) (ht : TxV w.heap.size y M' v') (hg : x.grownBy y v.ownBlock) : TxS w M' v' y := ⟨ht, h.bl.grown hg h.bl.size (fun k e => (h.tx.ty k e).1)⟩
def txs (P : List Pr) : List (List Int) := P.map txp
theorem txs_len (P : List Pr) : (txs P).length = P.length := List.length_map _
theorem tX_len : ∀ (f : Nat) (L : List (List Int)), (treeX ndF emp Prod.mk f L).length ≤ L.length
  | 0, _ => Nat.zero_le _
  | f + 1, L => by
    unfold treeX
    by_cases h : L.length < 2
    · rw [if_pos h]; exact Nat.zero_le _
    · have hs := spl_is (n := L.length) (by omega)
      have h4 := hs.1
      rw [if_neg h, List.length_append, List.length_append, List.length_singleton]
      have key : ∀ (f : Nat) (L : List (List Int)), 0 < L.length → (treeX ndF emp Prod.mk f L).length + 1 ≤ L.length := by
        intro f
        induction f with
        | zero => intro L h; exact h
        | succ f ih =>
          intro L h
          unfold treeX
          by_cases h2 : L.length < 2
          · rw [if_pos h2]; simp only [List.length_nil]; omega
          · have hs := spl_is (n := L.length) (by omega)
            have h4 := hs.1
            have hp := pow_pos2 (spl L.length)
            rw [if_neg h2, List.length_append, List.length_append, List.length_singleton]
            have a1 := ih (L.take (2 ^ spl L.length)) (by rw [List.length_take]; omega)
            have a2 := ih (L.drop (2 ^ spl L.length)) (by rw [List.length_drop]; omega)
            rw [List.length_take] at a1
            rw [List.length_drop] at a2
            omega
      have hp := pow_pos2 (spl L.length)
      have a1 := key f (L.take (2 ^ spl L.length)) (by rw [List.length_take]; omega)
      have a2 := key f (L.drop (2 ^ spl L.length)) (by rw [List.length_drop]; omega)
      rw [List.length_take] at a1
      rw [List.length_drop] at a2
      omega
/-- what Tree answers, of lists up to n hashes -/
def TxA (w : World) (P : List Pr) (e : Ending) (w' : World) : Prop := ∃ v, e = .returned v ∧ TxS w (txs P) v w'
def TrC (n : Nat) : Prop := ∀ {A : Option Addr} {m c : Nat} {L : List (List Int)} {w : World}, InH w A m L → m ≤ n → m ≤ c → Calls Tryd.prog 39 #[.slice A m c] w (TxA w (tX L))
set_option maxHeartbeats 16000000 in
theorem jrTree_step (N : Nat) (hN : N ≤ 60) (ih : ∀ k, k < N → TrC k) : TrC N := by
  intro A n c L w hin hn hnc
  have hl := hin.1
  by_cases h0 : n < 2
  · have e : tX L = [] := ltree_few ndF emp Prod.mk (by omega)
    rw [e]
    have h0' : (n : Int) < 2 := by omega
    clear hin ih hl e h0
    go_enter Tryd.func39, Tryd.ntmps39
    go_wp2
    go_ret
    exact ⟨_, rfl, TxV.nil _ _, Below.refl _ _⟩
  · have h0' : ¬ (n : Int) < 2 := by omega
    have h2 : 2 ≤ L.length := by omega
    have hsp := spl_is h2
    rw [hl] at hsp
    have hM := ltree_more ndF emp Prod.mk h2
    rw [hl] at hM
    obtain ⟨P, hP⟩ : ∃ P, P = 2 ^ spl n := ⟨_, rfl⟩
    rw [← hP] at hM
    have hp0 : 0 < P := by rw [hP]; exact pow_pos2 _
    have hp1 : P < n := by rw [hP]; exact hsp.1
    have i1 := cut_front hin (a := P) (by omega) hnc
    have i2 := cut_rest hin (b := P) (by omega) hnc
    have C1 := hid (fun (w' : World) (hb : Below w.heap.size w w') => ih P (by omega) (c := c) (i1.below hb) (Nat.le_refl _) (by omega))
    have C2 := hid (fun (w' : World) (hb : Below w.heap.size w w') => ih (n - P) (by omega) (c := c - P) (i2.below hb) (Nat.le_refl _) (by omega))
    have l1 := fun (w' : World) (hb : Below w.heap.size w w') => gList_any (c := c) (i1.below hb) (show P < 1000000 by omega) (by omega)
    have l2 := fun (w' : World) (hb : Below w.heap.size w w') => gList_any (c := c - P) (i2.below hb) (show n - P < 1000000 by omega) (by omega)
    have r1 := root_ok i1.ok
    have r2 := root_ok i2.ok
    have ln1 : (tX (L.take P)).length ≤ P := by
      have h1 := tX_len (L.take P).length (L.take P)
      have h2 : (L.take P).length ≤ P := by rw [List.length_take]; omega
      exact Nat.le_trans h1 h2
    have ln2 : (tX (L.drop P)).length ≤ n - P := by
      have h1 := tX_len (L.drop P).length (L.drop P)
      have h2 : (L.drop P).length ≤ n - P := by rw [List.length_drop]; omega
      exact Nat.le_trans h1 h2
    have HL12 : Hid ((tX (L.take P)).length + (tX (L.drop P)).length ≤ 60) := by show _ ≤ _; omega
    have HTT : Hid (txs (tX L) = txs (tX (L.take P)) ++ txs (tX (L.drop P)) ++ [ndT (rootL ndF emp (L.take P)) (rootL ndF emp (L.drop P))]) := by
      show _ = _
      unfold txs
      rw [show tX L = _ from hM, List.map_append, List.map_append, List.append_assoc]; rfl
    have HPC := hid (show P ≤ c by omega); have HPN := hid (show P ≤ n by omega)
    have HUQ : Hid (∀ m, 2 ^ m < n → n ≤ 2 ^ (m + 1) → 2 ^ m = P) := fun m h1 h2 => by rw [hP, IsSp.uniq ⟨h1, h2⟩ hsp]
    have CT := hid (fun (w' : World) => gText_b (w := w') r1 r2)
    generalize rootL ndF emp (L.take P) = S1 at l1 CT HTT
    generalize rootL ndF emp (L.drop P) = S2 at l2 CT HTT
    have L1 := hid l1; have L2 := hid l2
    generalize tX (L.take P) = T1 at C1 HTT HL12
    generalize tX (L.drop P) = T2 at C2 HTT HL12
    have hn60 : n ≤ 60 := by omega
    unfold TxA at C1 C2
    unfold TxA
    clear hin ih l1 l2 i1 i2 r1 r2 hM hsp hP h2 hl ln1 ln2 h0
    go_enter Tryd.func39, Tryd.ntmps39
    go_wp2
    go_loop [3] (fun v => ∃ m Q : Nat, v = .int .i64 (Q : Int) ∧ Hid (Q = 2 ^ m) ∧ 0 < Q ∧ Q < n) (fun v => n - (intOf v).toNat)
    case atStart => exact ⟨0, 1, rfl, rfl, by omega, by omega⟩
    case round =>
      obtain ⟨m, Q, rfl, HQ, hq0, hqn⟩ := hrel
      by_cases hc : Q < n - Q
      · have d1 : (Q : Int) < (n : Int) - (Q : Int) := by omega
        have HQ2 : Hid (2 * Q = 2 ^ (m + 1)) := by show _ = _; rw [HQ.out, Nat.pow_succ]; omega
        go_wp2
        go_round
        case rel => exact ⟨m + 1, 2 * Q, by go_num, HQ2.out, by omega, by omega⟩
        case measure => simp [intOf]; omega
      · have d1 : ¬ ((Q : Int) < (n : Int) - (Q : Int)) := by omega
        have hQP : Q = P := by
          rw [HQ.out]
          exact HUQ.out m (by rw [← HQ.out]; exact hqn) (by rw [Nat.pow_succ, ← HQ.out]; omega)
        subst hQP
        clear hq0 hqn hc HQ
        have B0 := hid (Below.refl w.heap.size w)
        go_upto_region 7 with (first
          | (refine cutH_at rfl (.tmp 16) (.tmp 17) rfl A n c Q rfl rfl HPC.out ?_)
          | (go_at_call 39; go_loud (have hj := C1.out _ B0.out; with_reducible refine hj.mono ?_; clear hj); rintro e w3 ⟨v3, rfl, h3⟩; have S3 := hid h3; clear h3))
        go_upto_region 8 with (first
          | (refine cutL_at rfl (.tmp 21) (.tmp 22) rfl A n c Q rfl rfl HPN.out ?_)
          | (go_at_call 39; go_loud (have hj := C2.out _ S3.out.bl; with_reducible refine hj.mono ?_; clear hj); rintro e w4 ⟨v4, rfl, h4⟩; have S4 := hid h4; have S34 := hid (S3.out.below h4.bl); clear h4)
          | (at_builtin; refine append_txs rfl (.tmp 20) (.tmp 24) rfl w.heap.size w3.heap.size (txs T1) (txs T2) v3 v4 rfl S34.out.tx rfl S4.out.tx (by rw [txs_len, txs_len]; have := HL12.out; omega) S34.out.bl.size ?_; intro v w5 ht hg; have PX := hid (S34.out.app ht hg); clear ht hg))
        obtain ⟨M, hMM⟩ : ∃ M, M = txs T1 ++ txs T2 := ⟨_, rfl⟩
        rw [← hMM] at PX HTT
        have HLM := hid (show M.length ≤ 1000 by rw [hMM, List.length_append, txs_len, txs_len]; have := HL12.out; omega)
        clear hMM S3 S4 S34 B0 C1 C2
        refine wp_region_L (B := fun w' => Hid (TxS w M v w')) [11] (by kernel_rfl) ?_
        change wpAnyL _ _ _ _ _ _ _ _ _ w5.drew
        have Gx0 : Hid (TxS w M v w5.drew) := PX.out.below ((Below.refl _ _).drew)
        have PX' : Hid (TxS w M v w5.drew) := PX.out.below ((Below.refl _ _).drew)
        clear PX
        have PX := PX'
        clear PX'
        generalize w5.drew = x0 at Gx0 PX ⊢
        refine wpAnyL_pure (i := 0) (oi := { dst := some 26, op := _, type := _, pos := _, after := _, guard := _ }) (v := ?_) rfl (by kernel_rfl) (by kernel_rfl) (by kernel_rfl) (by rfl) (fun _ _ _ h => h) (Or.inl ⟨by kernel_rfl, ?_⟩) (fun _ => Gx0) ?_
        rotate_left
        · (intro w _; go_simp; try with_reducible rfl)
        try simp only [Act.put, List.setIfInBounds_toArray, List.set_cons_zero, List.set_cons_succ]
        refine wpAnyL_pure (i := 1) (oi := { dst := some 27, op := _, type := _, pos := _, after := _, guard := _ }) (v := ?_) rfl (by kernel_rfl) (by kernel_rfl) (by kernel_rfl) (by rfl) (fun _ _ _ h => h) (Or.inl ⟨by kernel_rfl, ?_⟩) (fun _ => Gx0) ?_
        rotate_left
        · (intro w _; go_simp; try with_reducible rfl)
        try simp only [Act.put, List.setIfInBounds_toArray, List.set_cons_zero, List.set_cons_succ]
        refine wpAnyL_pure (i := 2) (oi := { dst := some 28, op := _, type := _, pos := _, after := _, guard := _ }) (v := ?_) rfl (by kernel_rfl) (by kernel_rfl) (by kernel_rfl) (by rfl) (fun _ _ _ h => h) (Or.inl ⟨by kernel_rfl, ?_⟩) (fun _ => Gx0) ?_
        rotate_left
        · (intro w _; go_simp; try with_reducible rfl)
        try simp only [Act.put, List.setIfInBounds_toArray, List.set_cons_zero, List.set_cons_succ]
        refine wpAnyL_take (i := 3) (oi := { dst := some 29, op := _, type := _, pos := _, after := _, guard := _ }) (v := .slice (slA A 0 c 32) Q c) [4, 8, 9, 10, 11, 12] rfl (by kernel_rfl) (by kernel_rfl) (by kernel_rfl) (by kernel_rfl) (fun _ _ _ h => h) (Or.inl ⟨by kernel_rfl, ?_⟩) Gx0 ?_
        · (intro w hSw; exact exec_cutH rfl A n c Q rfl rfl HPC.out w)
        try simp only [Act.put, List.setIfInBounds_toArray, List.set_cons_zero, List.set_cons_succ]
        refine wpAnyL_pure (i := 5) (oi := { dst := some 31, op := _, type := _, pos := _, after := _, guard := _ }) (v := ?_) rfl (by kernel_rfl) (by kernel_rfl) (by kernel_rfl) (by rfl) (fun _ _ _ h => h) (Or.inl ⟨by kernel_rfl, ?_⟩) (fun _ => Gx0) ?_
        rotate_left
        · (intro w _; go_simp; try with_reducible rfl)
        try simp only [Act.put, List.setIfInBounds_toArray, List.set_cons_zero, List.set_cons_succ]
        refine wpAnyL_pure (i := 6) (oi := { dst := some 32, op := _, type := _, pos := _, after := _, guard := _ }) (v := ?_) rfl (by kernel_rfl) (by kernel_rfl) (by kernel_rfl) (by rfl) (fun _ _ _ h => h) (Or.inl ⟨by kernel_rfl, ?_⟩) (fun _ => Gx0) ?_
        rotate_left
        · (intro w _; go_simp; try with_reducible rfl)
        try simp only [Act.put, List.setIfInBounds_toArray, List.set_cons_zero, List.set_cons_succ]
        refine wpAnyL_take (i := 7) (oi := { dst := some 33, op := _, type := _, pos := _, after := _, guard := _ }) (v := .slice (slA A Q c 32) (n - Q) (c - Q)) [8, 9, 10, 11, 12] rfl (by kernel_rfl) (by kernel_rfl) (by kernel_rfl) (by kernel_rfl) (fun _ _ _ h => h) (Or.inl ⟨by kernel_rfl, ?_⟩) Gx0 ?_
        · (intro w hSw; exact exec_cutL rfl A n c Q rfl rfl HPN.out w)
        try simp only [Act.put, List.setIfInBounds_toArray, List.set_cons_zero, List.set_cons_succ]
        refine wpAnyL_ready (rs := [4]) (by kernel_rfl) (by simp) ?_
        refine (AllReadyL.cons (o := { dst := some 30, op := _, type := _, pos := _, after := _, guard := _ }) rfl (fun Qc hQc => ?_) AllReadyL.nil)
        go_simp
        go_at_call 19
        refine (L1.out x0 PX.out.bl).mono ?_
        rintro e x1 ⟨rfl, hb⟩
        have PY := hid (PX.out.below hb)
        have Gx1 := PY
        clear hb PX
        have PX := PY
        clear PY
        go_wp2_with fail
        refine hQc.out _ _ (fun _ => Gx1) ?_
        clear hQc Qc
        try simp only [Act.put, List.setIfInBounds_toArray, List.set_cons_zero, List.set_cons_succ]
        refine wpAnyL_ready (rs := [8]) (by kernel_rfl) (by simp) ?_
        refine (AllReadyL.cons (o := { dst := some 34, op := _, type := _, pos := _, after := _, guard := _ }) rfl (fun Qc hQc => ?_) AllReadyL.nil)
        go_simp
        go_at_call 19
        refine (L2.out x1 PX.out.bl).mono ?_
        rintro e x2 ⟨rfl, hb⟩
        have PY := hid (PX.out.below hb)
        have Gx2 := PY
        clear hb PX
        have PX := PY
        clear PY
        go_wp2_with fail
        refine hQc.out _ _ (fun _ => Gx2) ?_
        clear hQc Qc
        try simp only [Act.put, List.setIfInBounds_toArray, List.set_cons_zero, List.set_cons_succ]
        refine wpAnyL_ready (rs := [9]) (by kernel_rfl) (by simp) ?_
        refine (AllReadyL.cons (o := { dst := some 35, op := _, type := _, pos := _, after := _, guard := _ }) rfl (fun Qc hQc => ?_) AllReadyL.nil)
        go_simp
        go_at_call 58
        refine (CT.out x2).mono ?_
        rintro e x3 ⟨B9, d9, rfl, hd9, hb9, hb⟩
        have HB9 := hid hb9; have HD9 := hid hd9
        have PY := hid (PX.out.below hb)
        have Gx3 := PY
        clear hb PX hb9 hd9
        have PX := PY
        clear PY
        go_wp2_with fail
        refine hQc.out _ _ (fun _ => Gx3) ?_
        clear hQc Qc
        try simp only [Act.put, List.setIfInBounds_toArray, List.set_cons_zero, List.set_cons_succ]
        refine wpAnyL_ready (rs := [10]) (by kernel_rfl) (by simp) ?_
        refine (AllReadyL.cons (o := { dst := some 36, op := _, type := _, pos := _, after := _, guard := _ }) rfl (fun Qc hQc => ?_) AllReadyL.nil)
        go_simp
        have NB : Hid (Blk (x3.alloc (.cells #[.slice B9 (ndT S1 S2).length d9] 89)) x3.heap.size 89 #[.slice B9 (ndT S1 S2).length d9]) := Blk.new x3 89 _
        have hb : Below x3.heap.size x3 (x3.alloc (.cells #[.slice B9 (ndT S1 S2).length d9] 89)) := (Below.refl _ _).alloc (Nat.le_refl _) _
        have PY := hid (PX.out.below hb)
        have HB := hid (HB9.out.below hb)
        have Gx4 := PY
        clear hb PX HB9
        refine hQc.out _ _ (fun _ => Gx4) ?_
        clear hQc Qc
        generalize x3.heap.size = g9 at NB ⊢
        generalize x3.alloc (.cells #[.slice B9 (ndT S1 S2).length d9] 89) = x4 at NB PY HB Gx4 ⊢
        have PX := PY
        clear PY
        try simp only [Act.put, List.setIfInBounds_toArray, List.set_cons_zero, List.set_cons_succ]
        refine wpAnyL_ready (rs := [11]) (by kernel_rfl) (by simp) ?_
        refine (AllReadyL.cons (o := { dst := some 37, op := _, type := _, pos := _, after := _, guard := _ }) rfl (fun Qc hQc => ?_) AllReadyL.nil)
        rw [if_pos (by rfl)]
        refine wp_append_txV (.tmp 26) (.tmp 36) rfl w.heap.size M v rfl PX.out.tx g9 B9 d9 _ (ndT S1 S2) rfl rfl NB.out HD9.out HB.out HLM.out PX.out.bl.size ?_
        intro v9 x5 ht hg
        have PY := hid (PX.out.app ht hg)
        clear ht hg NB PX HB
        refine hQc.out _ _ (unl_no (d := 11) (by rfl) (by kernel_rfl)) ?_
        clear hQc Qc
        have PX := PY
        clear PY
        try simp only [Act.put, List.setIfInBounds_toArray, List.set_cons_zero, List.set_cons_succ]
        refine wpAnyL_pure (i := 12) (oi := { dst := some 2, op := _, type := _, pos := _, after := _, guard := _ }) (v := ?_) rfl (by kernel_rfl) (by kernel_rfl) (by kernel_rfl) (by rfl) (fun _ _ _ h => h) (Or.inl ⟨by kernel_rfl, ?_⟩) (unl_no (d := 11) (by rfl) (by kernel_rfl)) ?_
        rotate_left
        · (intro w _; go_simp; try with_reducible rfl)
        try simp only [Act.put, List.setIfInBounds_toArray, List.set_cons_zero, List.set_cons_succ]
        refine wpAnyL_done (by kernel_rfl) ?_ _
        try simp only [Act.put, List.setIfInBounds_toArray, List.set_cons_zero, List.set_cons_succ]
        go_wp2
        go_ret
        exact ⟨v9, rfl, by rw [HTT.out]; exact PX.out⟩
theorem jrTree_all : ∀ N, N ≤ 60 → TrC N
  | N, h => jrTree_step N h fun k hk => jrTree_all k (by omega)
theorem jrTree_any {A : Option Addr} {n c : Nat} {L : List (List Int)} {w : World} (h : InH w A n L) (hn : n ≤ 60) (hc : n ≤ c) : Calls Tryd.prog 39 #[.slice A n c] w (TxA w (tX L)) := jrTree_all n hn h (Nat.le_refl _) hc
end Go.Proofs.YtoacjaecfabahaaDoor
