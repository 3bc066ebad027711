/-
  What is proved here: the document's own root of a list.
-/
import Derived.Test.YtoacjaecfabahaaDoorMF1
import Derived.Test.YtoacjaecfabahaaDoorMF2
set_option linter.unusedSimpArgs false
set_option linter.unusedVariables false
namespace Go.Proofs.YtoacjaecfabahaaDoor
open Go.ChangeShapes Go.WideShapes Go.ChangeAt Go.RowKit
set_option linter.unusedVariables false
set_option linter.unusedSimpArgs false
set_option maxRecDepth 20000

def emp : List Int := sum []
theorem emp_ok : H32 emp := h32_sum []
theorem rtf_ok : ∀ (f : Nat) (L : List (List Int)), (∀ q ∈ L, H32 q) → H32 (rtf ndF emp f L)
  | 0, _, _ => emp_ok
  | f + 1, L, h => by
    unfold rtf
    split
    · exact emp_ok
    · split
      · rename_i h1
        have hs : L[0]? = some L[0] := List.getElem?_eq_getElem (by omega)
        rw [hs]
        exact h _ (List.getElem_mem (by omega))
      · exact h32_sum _
theorem root_ok {L : List (List Int)} (h : ∀ q ∈ L, H32 q) : H32 (rootL ndF emp L) := rtf_ok _ L h
/-- what the root's call answers, of lists up to n hashes -/
def LsC (n : Nat) : Prop := ∀ {A : Option Addr} {m c : Nat} {L : List (List Int)} {w : World}, InH w A m L → m ≤ n → m ≤ c → Calls Tryd.prog 19 #[.slice A m c] w fun e w' => e = .returned (hV (rootL ndF emp L)) ∧ Below w.heap.size w w'
theorem spl_step {n m P : Nat} (hP : P = 2 ^ m) (h : P < n - P) : 2 * P = 2 ^ (m + 1) ∧ 2 ^ (m + 1) < n + 1 ∧ 2 * P < n := by
  have e : 2 * P = 2 ^ (m + 1) := by rw [hP, Nat.pow_succ]; omega
  exact ⟨e, by omega, by omega⟩
theorem exec_cutH {o : Oper} {a : Act} {x h : Operand} (ho : o.op = .slice 22 x none (some h) none) (A : Option Addr) (n c hi : Nat) (hx : a.eval x = .slice A n c) (hh : a.eval h = .int .i64 (hi : Int)) (h2 : hi ≤ c) (w : World) :
    (execOp a.eval o).run Tryd.prog w = .ok (.value (.slice (slA A 0 c 32) hi c)) w := by
  unfold execOp
  simp only [ho, Option.map_some, Option.map_none, hx, hh, Sem.run_bind, run_cutH A n c hi h2 w, Result.andThen_ok, Sem.run_pure]
theorem exec_cutL {o : Oper} {a : Act} {x l : Operand} (ho : o.op = .slice 22 x (some l) none none) (A : Option Addr) (n c lo : Nat) (hx : a.eval x = .slice A n c) (hl : a.eval l = .int .i64 (lo : Int)) (h1 : lo ≤ n) (w : World) :
    (execOp a.eval o).run Tryd.prog w = .ok (.value (.slice (slA A lo c 32) (n - lo) (c - lo))) w := by
  unfold execOp
  simp only [ho, Option.map_some, Option.map_none, hx, hl, Sem.run_bind, run_cutL A n c lo h1 w, Result.andThen_ok, Sem.run_pure]
set_option maxHeartbeats 8000000 in
theorem gList_step (N : Nat) (hN : N < 1000000) (ih : ∀ k, k < N → LsC k) : LsC N := by
  intro A n c L w hin hn hnc
  obtain ⟨Z, HZ, hZ0, hZs⟩ := zero_Hash
  have HS : H32 (rootL ndF emp L) := root_ok hin.ok
  have hi32 := info_hash (rootL ndF emp L) HS.len
  have HI := hid hi32
  have HZ32 := hid (hz_size HZ HS)
  have KR := hid (Blk.new w 33 Z)
  have B1 := hid ((Below.refl w.heap.size w).alloc (Nat.le_refl _) (.cells Z 33))
  have hl := hin.1
  by_cases h0 : n = 0
  · subst h0
    have e : L = [] := List.length_eq_zero_iff.1 hl
    subst e
    have CS := hid (fun (w' : World) => rsum_at (A := none) (n := 0) (c := 0) (x := []) (w := w') rfl (fun h => by simp at h) (fun v hv => by cases hv) (by decide))
    rw [rootL_nil] at HI HZ32 HS ⊢
    have HE : Hid (emp = sum []) := rfl
    rw [← HE.out] at CS
    clear hin ih hi32 HS
    generalize emp = S at HI HZ32 CS ⊢
    go_enter Tryd.func19, Tryd.ntmps19
    go_wp2_with (first
      | (go_at_call 47; refine (CS.out _).mono ?_; rintro e w3 ⟨rfl, hb3⟩; have I3 := hid (KR.out.below hb3); have B3 := hid (B1.out.trans (hb3.mono B1.out.size)); clear hb3)
      | (refine wpList_store_row rfl 33 (.tmp 2) (.tmp 7) rfl w.heap.size (hc32 S) rfl rfl 33 Z I3.out HI.out HZ32.out (u8s_all S) ?_))
    try go_frame
    refine bodyPost_ret (results_cell_row Tryd.results19 _ _ w.heap.size 33 (hc32 S) (0, 0) _ rfl (I3.out.row _) Tryd.underlying33 rfl HI.out) rfl ?_
    exact ⟨rfl, below_setRow B3.out (Nat.le_refl _) _⟩
  · by_cases h1 : n = 1
    · subst h1
      obtain ⟨K, hK⟩ := List.length_eq_one_iff.1 hl
      subst hK
      rw [rootL_one] at HI HZ32 HS ⊢
      obtain ⟨b, o, K', rfl, hK', h32, hblt, hr⟩ := (hin.below B1.out).at (k := 0) (by decide)
      obtain rfl : K = K' := by simpa using hK'
      have HR := hid hr
      clear hin ih hi32 HS hK' hr h32 hblt hl
      have e0 : o + 0 * 32 = o := by omega
      rw [e0] at HR
      go_enter Tryd.func19, Tryd.ntmps19
      go_wp2_with (first
        | (refine load_at rfl 33 (.tmp 12) rfl b o rfl (u8s K) _ HR.out Tryd.underlying33 rfl HI.out (hc32 K) rfl ?_)
        | (refine wpList_store_row rfl 33 (.tmp 2) (.tmp 13) rfl w.heap.size (hc32 K) rfl rfl 33 Z KR.out HI.out HZ32.out (u8s_all K) ?_))
      try go_frame
      refine bodyPost_ret (results_cell_row Tryd.results19 _ _ w.heap.size 33 (hc32 K) (0, 0) _ rfl (KR.out.row _) Tryd.underlying33 rfl HI.out) rfl ?_
      exact ⟨rfl, below_setRow B1.out (Nat.le_refl _) _⟩
    · have h2 : 2 ≤ L.length := by omega
      have hsp := spl_is h2
      rw [hl] at hsp
      have hM := rootL_more ndF emp h2
      rw [hl] at hM
      obtain ⟨P, hP⟩ : ∃ P, P = 2 ^ spl n := ⟨_, rfl⟩
      rw [← hP] at hM
      have hp0 : 0 < P := by rw [hP]; exact pow_pos2 _
      have hp1 : P < n := by rw [hP]; exact hsp.1
      have i1 := hin.cut (c := c) (l := 0) (m := P) (by omega) hnc
      have i2 := hin.cut (c := c) (l := P) (m := n - P) (by omega) hnc
      rw [List.drop_zero] at i1
      rw [List.take_of_length_le (by rw [List.length_drop]; omega)] at i2
      have C1 := hid (fun (w' : World) (hb : Below (w.alloc (.cells Z 33)).heap.size (w.alloc (.cells Z 33)) w') => ih P (by omega) (c := c) ((i1.below B1.out).below hb) (Nat.le_refl _) (by omega))
      have C2 := hid (fun (w' : World) (hb : Below (w.alloc (.cells Z 33)).heap.size (w.alloc (.cells Z 33)) w') => ih (n - P) (by omega) (c := c - P) ((i2.below B1.out).below hb) (Nat.le_refl _) (by omega))
      have r1 := root_ok i1.ok
      have r2 := root_ok i2.ok
      have CN := hid (fun (w' : World) => gNode_any (w := w') r1 r2)
      rw [← hM] at CN
      have HPC := hid (show P ≤ c by omega); have HPN := hid (show P ≤ n by omega)
      have HUQ : Hid (∀ m, 2 ^ m < n → n ≤ 2 ^ (m + 1) → 2 ^ m = P) := fun m h1 h2 => by rw [hP, IsSp.uniq ⟨h1, h2⟩ hsp]
      generalize rootL ndF emp (L.take P) = S1 at C1 CN
      generalize rootL ndF emp (L.drop P) = S2 at C2 CN
      generalize rootL ndF emp L = S at HI HZ32 CN ⊢
      clear hin ih hi32 HS i1 i2 r1 r2 hM hsp hP h2 hl
      go_enter Tryd.func19, Tryd.ntmps19
      go_wp2
      generalize w.alloc (.cells Z 33) = w1 at KR B1 C1 C2 ⊢
      go_loop [3] (fun v => ∃ m Q : Nat, v = .int .i64 (Q : Int) ∧ Hid (Q = 2 ^ m) ∧ 0 < Q ∧ Q < n) (fun v => n - (intOf v).toNat)
      case atStart => exact ⟨0, 1, rfl, rfl, by omega, by omega⟩
      case round =>
        obtain ⟨m, Q, rfl, HQ, hq0, hqn⟩ := hrel
        by_cases hc : Q < n - Q
        · have d1 : (Q : Int) < (n : Int) - (Q : Int) := by omega
          have HQ2 : Hid (2 * Q = 2 ^ (m + 1)) := by show _ = _; rw [HQ.out, Nat.pow_succ]; omega
          go_wp2
          go_round
          case rel => exact ⟨m + 1, 2 * Q, by go_num, HQ2.out, by omega, by omega⟩
          case measure => simp [intOf]; omega
        · have d1 : ¬ ((Q : Int) < (n : Int) - (Q : Int)) := by omega
          have hQP : Q = P := by
            rw [HQ.out]
            exact HUQ.out m (by rw [← HQ.out]; exact hqn) (by rw [Nat.pow_succ, ← HQ.out]; omega)
          subst hQP
          clear hq0 hqn hc HQ
          go_wp2
          have PX : Hid (Below w1.heap.size w1 w1) := Below.refl _ _
          refine wp_region_held (S := fun w' => Hid (Below w.heap.size w w')) (by kernel_rfl) ?_
          change wpAnyH _ _ _ _ _ _ _ _ w1.drew
          have Gx0 : Hid (Below w.heap.size w w1.drew) := B1.out.drew
          have PX' : Hid (Below w1.heap.size w1 w1.drew) := PX.out.drew
          clear PX
          have PX := PX'
          clear PX'
          generalize w1.drew = x0 at Gx0 PX ⊢
          refine wpAnyH_take (i := 0) (oi := { dst := some 22, op := _, type := _, pos := _, after := _, guard := _ }) (v := ?_) rfl (by kernel_rfl) (by kernel_rfl) (by kernel_rfl) (fun _ _ _ h => h) (Or.inl ⟨by kernel_rfl, ?_⟩) Gx0 ?_
          rotate_left
          · (intro w hSw; go_simp; try with_reducible rfl)
          try simp only [Act.put, List.setIfInBounds_toArray, List.set_cons_zero, List.set_cons_succ]
          refine wpAnyH_take (i := 1) (oi := { dst := some 23, op := _, type := _, pos := _, after := _, guard := _ }) (v := ?_) rfl (by kernel_rfl) (by kernel_rfl) (by kernel_rfl) (fun _ _ _ h => h) (Or.inl ⟨by kernel_rfl, ?_⟩) Gx0 ?_
          rotate_left
          · (intro w hSw; go_simp; try with_reducible rfl)
          try simp only [Act.put, List.setIfInBounds_toArray, List.set_cons_zero, List.set_cons_succ]
          refine wpAnyH_take (i := 2) (oi := { dst := some 24, op := _, type := _, pos := _, after := _, guard := _ }) (v := .slice (slA A 0 c 32) Q c) rfl (by kernel_rfl) (by kernel_rfl) (by kernel_rfl) (fun _ _ _ h => h) (Or.inl ⟨by kernel_rfl, ?_⟩) Gx0 ?_
          · (intro w hSw; exact exec_cutH rfl A n c Q rfl rfl HPC.out w)
          try simp only [Act.put, List.setIfInBounds_toArray, List.set_cons_zero, List.set_cons_succ]
          refine wpAnyH_take (i := 4) (oi := { dst := some 26, op := _, type := _, pos := _, after := _, guard := _ }) (v := ?_) rfl (by kernel_rfl) (by kernel_rfl) (by kernel_rfl) (fun _ _ _ h => h) (Or.inl ⟨by kernel_rfl, ?_⟩) Gx0 ?_
          rotate_left
          · (intro w hSw; go_simp; try with_reducible rfl)
          try simp only [Act.put, List.setIfInBounds_toArray, List.set_cons_zero, List.set_cons_succ]
          refine wpAnyH_take (i := 5) (oi := { dst := some 27, op := _, type := _, pos := _, after := _, guard := _ }) (v := ?_) rfl (by kernel_rfl) (by kernel_rfl) (by kernel_rfl) (fun _ _ _ h => h) (Or.inl ⟨by kernel_rfl, ?_⟩) Gx0 ?_
          rotate_left
          · (intro w hSw; go_simp; try with_reducible rfl)
          try simp only [Act.put, List.setIfInBounds_toArray, List.set_cons_zero, List.set_cons_succ]
          refine wpAnyH_take (i := 6) (oi := { dst := some 28, op := _, type := _, pos := _, after := _, guard := _ }) (v := .slice (slA A Q c 32) (n - Q) (c - Q)) rfl (by kernel_rfl) (by kernel_rfl) (by kernel_rfl) (fun _ _ _ h => h) (Or.inl ⟨by kernel_rfl, ?_⟩) Gx0 ?_
          · (intro w hSw; exact exec_cutL rfl A n c Q rfl rfl HPN.out w)
          try simp only [Act.put, List.setIfInBounds_toArray, List.set_cons_zero, List.set_cons_succ]
          refine wpAnyH_ready (rs := [3]) (by kernel_rfl) (by simp) ?_
          refine (AllReadyH.cons (o := { dst := some 25, op := _, type := _, pos := _, after := _, guard := _ }) rfl (fun Qc hQc => ?_) AllReadyH.nil)
          go_simp
          go_at_call 19
          refine (C1.out x0 PX.out).mono ?_
          rintro e x1 ⟨rfl, hb⟩
          have PY := hid (PX.out.trans (hb.mono PX.out.size))
          have Gx1 := hid (B1.out.trans (PY.out.mono B1.out.size))
          clear hb PX
          have PX := PY
          clear PY
          go_wp2_with fail
          refine hQc.out _ _ Gx1 (fun hHeld => ?_)
          clear hQc Qc hHeld
          try simp only [Act.put, List.setIfInBounds_toArray, List.set_cons_zero, List.set_cons_succ]
          refine wpAnyH_ready (rs := [7]) (by kernel_rfl) (by simp) ?_
          refine (AllReadyH.cons (o := { dst := some 29, op := _, type := _, pos := _, after := _, guard := _ }) rfl (fun Qc hQc => ?_) AllReadyH.nil)
          go_simp
          go_at_call 19
          refine (C2.out x1 PX.out).mono ?_
          rintro e x2 ⟨rfl, hb⟩
          have PY := hid (PX.out.trans (hb.mono PX.out.size))
          have Gx2 := hid (B1.out.trans (PY.out.mono B1.out.size))
          clear hb PX
          have PX := PY
          clear PY
          go_wp2_with fail
          refine hQc.out _ _ Gx2 (fun hHeld => ?_)
          clear hQc Qc hHeld
          try simp only [Act.put, List.setIfInBounds_toArray, List.set_cons_zero, List.set_cons_succ]
          refine wpAnyH_ready (rs := [8]) (by kernel_rfl) (by simp) ?_
          refine (AllReadyH.cons (o := { dst := some 30, op := _, type := _, pos := _, after := _, guard := _ }) rfl (fun Qc hQc => ?_) AllReadyH.nil)
          go_simp
          go_at_call 48
          refine (CN.out x2).mono ?_
          rintro e x3 ⟨rfl, hb⟩
          have PY := hid (PX.out.trans (hb.mono PX.out.size))
          have Gx3 := hid (B1.out.trans (PY.out.mono B1.out.size))
          clear hb PX
          have PX := PY
          clear PY
          go_wp2_with fail
          refine hQc.out _ _ Gx3 (fun hHeld => ?_)
          clear hQc Qc hHeld
          try simp only [Act.put, List.setIfInBounds_toArray, List.set_cons_zero, List.set_cons_succ]
          refine wpAnyH_ready (rs := [9]) (by kernel_rfl) (by simp) ?_
          refine (AllReadyH.cons (o := { dst := none, op := _, type := _, pos := _, after := _, guard := _ }) rfl (fun Qc hQc => ?_) AllReadyH.nil)
          rw [if_pos (by rfl)]
          have Kx4 := hid (KR.out.below PX.out)
          refine wp_store_row 33 (.tmp 2) (.tmp 30) rfl w.heap.size (hc32 S) rfl rfl 33 Z Kx4.out HI.out HZ32.out (u8s_all S) ?_
          have KF := hid (Kx4.out.row (hc32 S))
          have Gx4 : Hid (Below w.heap.size w (x3.setRow w.heap.size (hc32 S))) := below_setRow Gx3.out (Nat.le_refl _) _
          refine hQc.out _ _ Gx4 (fun hHeld => ?_)
          clear hQc Qc hHeld Kx4 PX
          generalize x3.setRow w.heap.size (hc32 S) = x4 at KF Gx4 ⊢
          try simp only [Act.put, List.setIfInBounds_toArray, List.set_cons_zero, List.set_cons_succ]
          refine wpAnyH_done (by kernel_rfl) ?_ _
          try simp only [Act.put, List.setIfInBounds_toArray, List.set_cons_zero, List.set_cons_succ]
          go_wp2
          try go_frame
          refine bodyPost_ret (results_cell_row Tryd.results19 _ _ w.heap.size 33 (hc32 S) (0, 0) _ rfl KF.out Tryd.underlying33 rfl HI.out) rfl ?_
          exact ⟨rfl, Gx4.out⟩
theorem gList_all : ∀ N, N < 1000000 → LsC N
  | N, hN => gList_step N hN (fun k hk => gList_all k (by omega))
termination_by N => N
theorem gList_any {A : Option Addr} {n c : Nat} {L : List (List Int)} {w : World} (h : InH w A n L) (hn : n < 1000000) (hc : n ≤ c) : Calls Tryd.prog 19 #[.slice A n c] w fun e w' => e = .returned (hV (rootL ndF emp L)) ∧ Below w.heap.size w w' := gList_all n hn h (Nat.le_refl _) hc
end Go.Proofs.YtoacjaecfabahaaDoor
