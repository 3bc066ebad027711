/-
  What is proved here: the document's device is made.
-/
import Derived.Test.YtjdojnbpchommaaMVeF
import Derived.Test.YtjdojnbpchommaaMDvFuse
import Derived.OrdersHeld
set_option linter.unusedSimpArgs false
set_option linter.unusedVariables false
namespace Go.Proofs.Ytjdojnbpchommaa
open Go.ChangeShapes Go.WideShapes Go.ChangeAt Go.RowKit
set_option linter.unusedVariables false
set_option linter.unusedSimpArgs false
set_option maxRecDepth 20000

theorem pb_new (u : World) : Pb (u.alloc (.cells (u8s zpg).toArray 5)) (some ⟨u.heap.size, 0, none⟩) zpg :=
  ⟨_, _, rfl, Blk.new u 5 _, fun j hj => by rw [List.getElem?_toArray, u8s_get _ _ (by show j < 128; exact hj)]⟩
theorem row_cell {w : World} {g : Nat} {v : Value} (h : Blk w g 31 #[v]) : ∀ j x, [v][j]? = some x → w.cell? ((⟨g, 0, none⟩ : Addr).add j) = some x := fun j x hx => by
  rw [Addr.add_lit, Nat.zero_add, h.cell]
  show [v].toArray[j]? = some x
  rw [List.getElem?_toArray]; exact hx
theorem vn_done {n0 b k c c' c9 : Nat} {A A' A9 : Option Addr} {w2 w8 w9 : World} {rows qr : List Value} {gz : Nat}
    (h1 : Blk w2 b 44 (devV A k c A' 0 c' (-1) false)) (h2 : w2.ownsRow n0 31 1 (.slice A k c) k rows) (h3 : w2.ownsRow n0 71 2 (.slice A' 0 c') 0 qr) (h4 : n0 ≤ b)
    (h5 : RowsP w2 rows (List.replicate k zpg)) (hk : k < 4096) (hn : n0 ≤ w2.heap.size)
    (h8b : Below w2.heap.size w2 w8) (ho8 : w8.ownsRow n0 31 1 (.slice A k c) k rows) (hg : w8.grownBy w9 (Value.slice A k c).ownBlock) (ho : w9.ownsRow n0 31 1 (.slice A9 (k + 1) c9) (k + 1) (rows ++ [.slice (some ⟨gz, 0, none⟩) 128 128])) (hB : Pb w8 (some ⟨gz, 0, none⟩) zpg) :
    VAt n0 (w9.setCell ⟨b, 0, none⟩ (.slice A9 (k + 1) c9)) b ⟨List.replicate (k + 1) zpg, [], -1, false⟩ ∧ Below n0 w2 (w9.setCell ⟨b, 0, none⟩ (.slice A9 (k + 1) c9)) := by
  have sm8 : ∀ j t cs, Blk w8 j t cs → t ≠ 31 → w9.heap[j]? = w8.heap[j]? := fun j t cs hj ht => hg.block j hj.lt (fun e => own_ne_t ho8 hj ht e.symm)
  have sm : ∀ j t cs, Blk w2 j t cs → t ≠ 31 → w9.heap[j]? = w2.heap[j]? := fun j t cs hj ht => (sm8 j t cs (hj.same (h8b.block j hj.lt)) ht).trans (h8b.block j hj.lt)
  have b9 : Blk w9 b 44 _ := h1.same (sm b _ _ h1 (by decide))
  have sm2 : ∀ j t cs, Blk w2 j t cs → t ≠ 31 → t ≠ 44 → (w9.setCell ⟨b, 0, none⟩ (.slice A9 (k + 1) c9)).heap[j]? = w2.heap[j]? := fun j t cs hj ht ht2 => (other_set _ _ _ _ j (hj.ne h1 ht2)).trans (sm j t cs hj ht)
  have ho2 := own_t ho (fun j cs hj => other_set w9 b 0 (.slice A9 (k + 1) c9) j (hj.ne b9 (by decide)))
  have hB2 : Pb (w9.setCell ⟨b, 0, none⟩ (.slice A9 (k + 1) c9)) (some ⟨gz, 0, none⟩) zpg := by
    refine (hB.same (fun j cs hj => sm8 j _ cs hj (by decide))).same (fun j cs hj => other_set _ _ _ _ j (hj.ne b9 (by decide)))
  have hl : rows.length = k := by have := h2.1; omega
  have hok : PgOk (List.replicate (k + 1) zpg) := fun p hp => by rw [List.eq_of_mem_replicate hp]; rfl
  refine ⟨⟨A9, c9, A', c', rows ++ [.slice (some ⟨gz, 0, none⟩) 128 128], qr, ?_, ?_, own_t h3 (fun j cs hj => sm2 j _ cs hj (by decide) (by decide)), h4, ?_, fun i q hq => by simp at hq, by simp, hok, QOk.nil _, by simp; omega⟩, ?_⟩
  · have := b9.setd 0 (.slice A9 (k + 1) c9)
    simp only [List.length_replicate]
    exact this
  · simp only [List.length_replicate]
    exact ho2
  · intro i hi
    simp only [List.length_replicate] at hi
    by_cases hik : i < k
    · obtain ⟨B, d, g1, g2⟩ := h5 i (by rw [List.length_replicate]; exact hik)
      refine ⟨B, d, by rw [List.getElem?_append_left (by omega)]; exact g1, ?_⟩
      have e : (List.replicate (k + 1) zpg)[i]?.getD [] = (List.replicate k zpg)[i]?.getD [] := by rw [List.getElem?_replicate, List.getElem?_replicate, if_pos hik, if_pos hi]
      rw [e]
      exact g2.same (fun j cs hj => sm2 j _ cs hj (by decide) (by decide))
    · have hik2 : i = k := by omega
      refine ⟨some ⟨gz, 0, none⟩, 0, by rw [List.getElem?_append_right (by omega), hl, hik2, Nat.sub_self]; rfl, ?_⟩
      rw [List.getElem?_replicate, if_pos hi]
      exact hB2
  · refine Below.setCell ?_ h4 _
    exact ((h8b.mono hn).trans ((Below.refl _ _).grown hg (Nat.le_trans hn h8b.size) (fun j hj => (h2.lt j hj).1)))
set_option maxHeartbeats 16000000 in
theorem vn_any (n : Nat) (w : World) (hn : n ≤ 12) : Calls Try.prog 11 #[.int .i64 n] w fun e w' => ∃ b, e = .returned (.pointer (some ⟨b, 0, none⟩)) ∧ VAt w.heap.size w' b ⟨List.replicate n zpg, [], -1, false⟩ ∧ Below w.heap.size w w' := by
  obtain ⟨zb, HZB, hmk⟩ := make_128
  obtain ⟨i0, hi, hz0, hz1, hz2⟩ := info_parts info_row1
  have HI := hid hi; have HZ0 := hid hz0; have HZ1 := hid hz1; have HZ2 := hid hz2
  have hn2 : (n : Int) ≤ 12 := by omega
  have HKN0 := hid hn
  have I0 : Hid (VAt w.heap.size (w.alloc (.cells (devV none 0 0 none 0 0 (-1) false) 44)) w.heap.size ⟨List.replicate 0 zpg, [], -1, false⟩) := ⟨none, 0, none, 0, [], [], Blk.new w 44 _, ⟨rfl, .inl ⟨rfl, rfl⟩⟩, ⟨rfl, .inl ⟨rfl, rfl⟩⟩, Nat.le_refl _, fun i hi => by simp at hi, fun i q hq => by simp at hq, by simp, fun p hp => by simp at hp, QOk.nil _, by simp⟩
  have B0 : Hid (Below w.heap.size w (w.alloc (.cells (devV none 0 0 none 0 0 (-1) false) 44))) := (Below.refl _ _).alloc (Nat.le_refl _) _
  obtain ⟨n0, hn0⟩ : ∃ n0, n0 = w.heap.size := ⟨_, rfl⟩
  rw [← hn0] at I0 B0
  rw [← hn0]
  have HN0 := hid hn0
  have hbv : Try.prog.built 44 [(2, .int .i64 (-1))] = some (devV none 0 0 none 0 0 (-1) false) := by kernel_rfl
  clear hi hz0 hz1 hz2 hn
  go_enter Try.func11, Try.ntmps11
  go_wp2_with (refine wpList_build rfl 44 _ rfl (by simp [Act.eval, hbv]) ?_)
  clear hbv
  change Code.wp _ _ _ _ (w.alloc (.cells (devV none 0 0 none 0 0 (-1) false) 44))
  generalize w.alloc (.cells (devV none 0 0 none 0 0 (-1) false) 44) = w1 at I0 B0 ⊢
  obtain ⟨b, hb⟩ : ∃ b, b = n0 := ⟨_, rfl⟩
  have I1 : Hid (VAt n0 w1 b ⟨List.replicate 0 zpg, [], -1, false⟩) := by rw [hb]; exact I0.out
  rw [← hn0, ← hb]
  clear hb I0 hn0
  go_loopw [4] (fun i wr => ∃ k : Nat, k ≤ n ∧ i = .int .i64 k ∧ Hid (VAt n0 wr b ⟨List.replicate k zpg, [], -1, false⟩) ∧ Hid (Below n0 w wr)) (fun i _ => n - (intOf i).toNat)
  case atStart => exact ⟨0, Nat.zero_le _, rfl, I1.out, B0.out⟩
  case round =>
    obtain ⟨k, hk, rfl, HV, BL⟩ := hrel
    clear I1 B0
    by_cases hlt : k < n
    · obtain ⟨A, c, A', c', rows, qr, v1, v2, v3, v4, v5, _⟩ := HV.out
      simp only [List.length_replicate, List.length_nil] at v1 v2 v3 v5
      have V1 := hid v1; have V2 := hid v2; have V3 := hid v3; have V4 := hid v4; have V5 := hid v5
      have K1 := hid v1; have K2 := hid v2
      have BX : Hid (Below wr.heap.size wr wr) := Below.refl _ _
      have S4 : Hid (n0 ≤ wr.heap.size) := Nat.le_trans (Nat.le_of_eq HN0.out) BL.out.size
      have HK : Hid (k < 12) := by show _ < _; have := HKN0.out; omega
      have HKL : Hid (k < 4096) := by show _ < _; have := HKN0.out; omega
      have HKN := hid hlt
      have hk2 : (k : Int) < n := by omega
      clear v1 v2 v3 v4 v5 hlt
      go_wp2
      refine wp_region_held (S := fun _ => Hid True) (by kernel_rfl) ?_
      change wpAnyH _ _ _ _ _ _ _ _ wr.drew
      have Gx0 : Hid True := trivial
      have K1' : Hid (Blk wr.drew b 44 (devV A k c A' 0 c' (-1) false)) := K1.out
      have K2' : Hid ((wr.drew).ownsRow n0 31 1 (.slice A k c) k rows) := own_below K2.out ((Below.refl _ _).drew)
      have BX' : Hid (Below wr.heap.size wr wr.drew) := (Below.refl _ _).drew
      clear K1 K2 BX
      have K1 := K1'
      have K2 := K2'
      have BX := BX'
      clear K1' K2' BX'
      generalize wr.drew = x0 at Gx0 K1 K2 BX ⊢
      refine wpAnyH_take (i := 0) (oi := { dst := some 12, op := _, type := _, pos := _, after := _, guard := _ }) (v := ?_) rfl (by kernel_rfl) (by kernel_rfl) (by kernel_rfl) (fun _ _ _ h => h) (Or.inl ⟨by kernel_rfl, ?_⟩) Gx0 ?_
      rotate_left
      · (intro w hSw; go_simp; try with_reducible rfl)
      try simp only [Act.put, List.setIfInBounds_toArray, List.set_cons_zero, List.set_cons_succ]
      refine wpAnyH_take (i := 1) (oi := { dst := some 13, op := _, type := _, pos := _, after := _, guard := _ }) (v := ?_) rfl (by kernel_rfl) (by kernel_rfl) (by kernel_rfl) (fun _ _ _ h => h) (Or.inl ⟨by kernel_rfl, ?_⟩) Gx0 ?_
      rotate_left
      · (intro w hSw; go_simp; try with_reducible rfl)
      try simp only [Act.put, List.setIfInBounds_toArray, List.set_cons_zero, List.set_cons_succ]
      refine wpAnyH_take (i := 2) (oi := { dst := some 14, op := _, type := _, pos := _, after := _, guard := _ }) (v := ?_) rfl (by kernel_rfl) (by kernel_rfl) (by kernel_rfl) (fun _ _ _ h => h) (Or.inl ⟨by kernel_rfl, ?_⟩) Gx0 ?_
      rotate_left
      · (intro w hSw; go_simp; try with_reducible rfl)
      try simp only [Act.put, List.setIfInBounds_toArray, List.set_cons_zero, List.set_cons_succ]
      refine wpAnyH_take (i := 3) (oi := { dst := some 15, op := _, type := _, pos := _, after := _, guard := _ }) (v := ?_) rfl (by kernel_rfl) (by kernel_rfl) (by kernel_rfl) (fun _ _ _ h => h) (Or.inl ⟨by kernel_rfl, ?_⟩) Gx0 ?_
      rotate_left
      · (intro w hSw; go_simp; try with_reducible rfl)
      try simp only [Act.put, List.setIfInBounds_toArray, List.set_cons_zero, List.set_cons_succ]
      refine wpAnyH_ready (rs := [4, 5]) (by kernel_rfl) (by simp) ?_
      refine (AllReadyH.cons (o := { dst := some 16, op := _, type := _, pos := _, after := _, guard := _ }) rfl (fun Qc hQc => ?_) (AllReadyH.cons (o := { dst := some 17, op := _, type := _, pos := _, after := _, guard := _ }) rfl (fun Qc hQc => ?_) AllReadyH.nil))
      ·
        have c0 : x0.cell? ⟨b, 0, none⟩ = some (.slice A k c) := K1.out.cell 0
        go_simp
        refine hQc.out _ _ Gx0 (fun hHeld => ?_)
        clear hQc Qc c0
        try simp only [Act.put, List.setIfInBounds_toArray, List.set_cons_zero, List.set_cons_succ]
        refine wpAnyH_ready (rs := [5]) (by kernel_rfl) (by simp) ?_
        refine (AllReadyH.cons (o := { dst := some 17, op := _, type := _, pos := _, after := _, guard := _ }) rfl (fun Qc hQc => ?_) AllReadyH.nil)
        go_simp
        have HBA : Below x0.heap.size x0 (x0.alloc (.cells zb 5)) := (Below.refl _ _).alloc (Nat.le_refl _) _
        have K1' := hid (K1.out.alloc (.cells zb 5))
        have K2' := hid (K2.out.alloc (.cells zb 5))
        have BX' := hid (BX.out.trans (HBA.mono BX.out.size))
        have PZ : Hid (Pb (x0.alloc (.cells zb 5)) (some ⟨x0.heap.size, 0, none⟩) zpg) := by show Pb _ _ _; rw [HZB.out]; exact pb_new x0
        have Gx1 : Hid True := trivial
        refine hQc.out _ _ Gx1 (fun hHeld => ?_)
        clear hQc Qc hHeld Gx0 K1 K2 BX HBA
        have K1 := K1'; have K2 := K2'; have BX := BX'
        clear K1' K2' BX'
        generalize x0.heap.size = gz at PZ ⊢
        generalize x0.alloc (.cells zb 5) = x1 at Gx1 K1 K2 BX PZ ⊢
        try simp only [Act.put, List.setIfInBounds_toArray, List.set_cons_zero, List.set_cons_succ]
        refine wpAnyH_ready (rs := [6]) (by kernel_rfl) (by simp) ?_
        refine (AllReadyH.cons (o := { dst := some 18, op := _, type := _, pos := _, after := _, guard := _ }) rfl (fun Qc hQc => ?_) AllReadyH.nil)
        go_simp
        have HBA : Below x1.heap.size x1 (x1.alloc (.cells #[.slice (some ⟨gz, 0, none⟩) 128 128] 31)) := (Below.refl _ _).alloc (Nat.le_refl _) _
        have K1' := hid (K1.out.alloc (.cells #[.slice (some ⟨gz, 0, none⟩) 128 128] 31))
        have K2' := hid (K2.out.alloc (.cells #[.slice (some ⟨gz, 0, none⟩) 128 128] 31))
        have BX' := hid (BX.out.trans (HBA.mono BX.out.size))
        have PZ' := hid (PZ.out.same (fun k cs hk => HBA.block k hk.lt))
        have NB := hid (Blk.new x1 31 #[.slice (some ⟨gz, 0, none⟩) 128 128])
        have Gx2 : Hid True := trivial
        refine hQc.out _ _ Gx2 (fun hHeld => ?_)
        clear hQc Qc hHeld Gx1 K1 K2 BX HBA
        have K1 := K1'; have K2 := K2'; have BX := BX'
        clear K1' K2' BX'
        clear PZ
        have PZ := PZ'
        clear PZ'
        generalize x1.heap.size = gq at NB ⊢
        generalize x1.alloc (.cells #[.slice (some ⟨gz, 0, none⟩) 128 128] 31) = x2 at Gx2 K1 K2 BX PZ NB ⊢
        try simp only [Act.put, List.setIfInBounds_toArray, List.set_cons_zero, List.set_cons_succ]
        refine wpAnyH_ready (rs := [7]) (by kernel_rfl) (by simp) ?_
        refine (AllReadyH.cons (o := { dst := some 19, op := _, type := _, pos := _, after := _, guard := _ }) rfl (fun Qc hQc => ?_) AllReadyH.nil)
        rw [if_pos (by rfl)]
        refine wp_append_own _ (.tmp 16) (.tmp 18) 41 rfl n0 31 i0 (.slice none 0 0) 1 24 Try.underlying41 HI.out HZ0.out HZ1.out HZ2.out rfl (by decide) (.slice A k c) k rows rfl K2.out ⟨gq, 0, none⟩ 1 1 [.slice (some ⟨gz, 0, none⟩) 128 128] rfl rfl (row_cell NB.out) (fun u hu => by rw [List.mem_singleton.1 hu]; rfl) (by have := HK.out; unfold maxLen; omega) (by have := HK.out; omega) (Nat.le_trans S4.out BX.out.size) ?_
        intro v9 x3 ow9 gr9 _
        obtain ⟨A9, c9, rfl⟩ := slice_of ow9
        have OW9 := hid ow9; have GR9 := hid gr9
        have K1' : Hid (Blk x3 b 44 (devV A k c A' 0 c' (-1) false)) := K1.out.same (gr9.block b K1.out.lt (fun e => own_ne_t K2.out K1.out (by decide) e.symm))
        have Gx3 : Hid True := trivial
        refine hQc.out _ _ Gx3 (fun hHeld => ?_)
        clear hQc Qc hHeld Gx2 ow9 gr9
        try simp only [Act.put, List.setIfInBounds_toArray, List.set_cons_zero, List.set_cons_succ]
        refine wpAnyH_take (i := 8) (oi := { dst := some 20, op := _, type := _, pos := _, after := _, guard := _ }) (v := ?_) rfl (by kernel_rfl) (by kernel_rfl) (by kernel_rfl) (fun _ _ _ h => h) (Or.inl ⟨by kernel_rfl, ?_⟩) Gx3 ?_
        rotate_left
        · (intro w hSw; go_simp; try with_reducible rfl)
        try simp only [Act.put, List.setIfInBounds_toArray, List.set_cons_zero, List.set_cons_succ]
        refine wpAnyH_take (i := 9) (oi := { dst := some 21, op := _, type := _, pos := _, after := _, guard := _ }) (v := ?_) rfl (by kernel_rfl) (by kernel_rfl) (by kernel_rfl) (fun _ _ _ h => h) (Or.inl ⟨by kernel_rfl, ?_⟩) Gx3 ?_
        rotate_left
        · (intro w hSw; go_simp; try with_reducible rfl)
        try simp only [Act.put, List.setIfInBounds_toArray, List.set_cons_zero, List.set_cons_succ]
        refine wpAnyH_ready (rs := [10]) (by kernel_rfl) (by simp) ?_
        refine (AllReadyH.cons (o := { dst := none, op := _, type := _, pos := _, after := _, guard := _ }) rfl (fun Qc hQc => ?_) AllReadyH.nil)
        have y0 : x3.cell? ⟨b, 0, none⟩ = some (.slice A k c) := K1'.out.cell 0
        have fy0 : x3.frozen? ⟨b, 0, none⟩ = false := K1'.out.frozen 0
        go_simp
        clear y0 fy0
        have HV9 : Hid (VAt n0 (x3.setCell ⟨b, 0, none⟩ (.slice A9 (k + 1) c9)) b ⟨List.replicate (k + 1) zpg, [], -1, false⟩ ∧ Below n0 wr (x3.setCell ⟨b, 0, none⟩ (.slice A9 (k + 1) c9))) := vn_done V1.out V2.out V3.out V4.out V5.out HKL.out S4.out BX.out K2.out GR9.out OW9.out PZ.out
        have Gx4 : Hid True := trivial
        refine hQc.out _ _ Gx4 (fun hHeld => ?_)
        clear hQc Qc hHeld Gx3 K1' GR9 OW9
        generalize x3.setCell ⟨b, 0, none⟩ (.slice A9 (k + 1) c9) = x4 at Gx4 HV9 ⊢
        try simp only [Act.put, List.setIfInBounds_toArray, List.set_cons_zero, List.set_cons_succ]
        refine wpAnyH_done (by kernel_rfl) ?_ _
        try simp only [Act.put, List.setIfInBounds_toArray, List.set_cons_zero, List.set_cons_succ]
        go_wp2
        go_roundw
        case rel => exact ⟨k + 1, by have := HKN.out; omega, by go_num, HV9.out.1, BL.out.trans HV9.out.2⟩
        case measure => simp [intOf]; omega
      ·
        go_simp
        have HBA : Below x0.heap.size x0 (x0.alloc (.cells zb 5)) := (Below.refl _ _).alloc (Nat.le_refl _) _
        have K1' := hid (K1.out.alloc (.cells zb 5))
        have K2' := hid (K2.out.alloc (.cells zb 5))
        have BX' := hid (BX.out.trans (HBA.mono BX.out.size))
        have PZ : Hid (Pb (x0.alloc (.cells zb 5)) (some ⟨x0.heap.size, 0, none⟩) zpg) := by show Pb _ _ _; rw [HZB.out]; exact pb_new x0
        have Gx5 : Hid True := trivial
        refine hQc.out _ _ Gx5 (fun hHeld => ?_)
        clear hQc Qc hHeld Gx0 K1 K2 BX HBA
        have K1 := K1'; have K2 := K2'; have BX := BX'
        clear K1' K2' BX'
        generalize x0.heap.size = gz at PZ ⊢
        generalize x0.alloc (.cells zb 5) = x5 at Gx5 K1 K2 BX PZ ⊢
        try simp only [Act.put, List.setIfInBounds_toArray, List.set_cons_zero, List.set_cons_succ]
        refine wpAnyH_ready (rs := [4, 6]) (by kernel_rfl) (by simp) ?_
        refine (AllReadyH.cons (o := { dst := some 16, op := _, type := _, pos := _, after := _, guard := _ }) rfl (fun Qc hQc => ?_) (AllReadyH.cons (o := { dst := some 18, op := _, type := _, pos := _, after := _, guard := _ }) rfl (fun Qc hQc => ?_) AllReadyH.nil))
        ·
          have c0 : x5.cell? ⟨b, 0, none⟩ = some (.slice A k c) := K1.out.cell 0
          go_simp
          refine hQc.out _ _ Gx5 (fun hHeld => ?_)
          clear hQc Qc c0
          try simp only [Act.put, List.setIfInBounds_toArray, List.set_cons_zero, List.set_cons_succ]
          refine wpAnyH_ready (rs := [6]) (by kernel_rfl) (by simp) ?_
          refine (AllReadyH.cons (o := { dst := some 18, op := _, type := _, pos := _, after := _, guard := _ }) rfl (fun Qc hQc => ?_) AllReadyH.nil)
          go_simp
          have HBA : Below x5.heap.size x5 (x5.alloc (.cells #[.slice (some ⟨gz, 0, none⟩) 128 128] 31)) := (Below.refl _ _).alloc (Nat.le_refl _) _
          have K1' := hid (K1.out.alloc (.cells #[.slice (some ⟨gz, 0, none⟩) 128 128] 31))
          have K2' := hid (K2.out.alloc (.cells #[.slice (some ⟨gz, 0, none⟩) 128 128] 31))
          have BX' := hid (BX.out.trans (HBA.mono BX.out.size))
          have PZ' := hid (PZ.out.same (fun k cs hk => HBA.block k hk.lt))
          have NB := hid (Blk.new x5 31 #[.slice (some ⟨gz, 0, none⟩) 128 128])
          have Gx6 : Hid True := trivial
          refine hQc.out _ _ Gx6 (fun hHeld => ?_)
          clear hQc Qc hHeld Gx5 K1 K2 BX HBA
          have K1 := K1'; have K2 := K2'; have BX := BX'
          clear K1' K2' BX'
          clear PZ
          have PZ := PZ'
          clear PZ'
          generalize x5.heap.size = gq at NB ⊢
          generalize x5.alloc (.cells #[.slice (some ⟨gz, 0, none⟩) 128 128] 31) = x6 at Gx6 K1 K2 BX PZ NB ⊢
          try simp only [Act.put, List.setIfInBounds_toArray, List.set_cons_zero, List.set_cons_succ]
          refine wpAnyH_ready (rs := [7]) (by kernel_rfl) (by simp) ?_
          refine (AllReadyH.cons (o := { dst := some 19, op := _, type := _, pos := _, after := _, guard := _ }) rfl (fun Qc hQc => ?_) AllReadyH.nil)
          rw [if_pos (by rfl)]
          refine wp_append_own _ (.tmp 16) (.tmp 18) 41 rfl n0 31 i0 (.slice none 0 0) 1 24 Try.underlying41 HI.out HZ0.out HZ1.out HZ2.out rfl (by decide) (.slice A k c) k rows rfl K2.out ⟨gq, 0, none⟩ 1 1 [.slice (some ⟨gz, 0, none⟩) 128 128] rfl rfl (row_cell NB.out) (fun u hu => by rw [List.mem_singleton.1 hu]; rfl) (by have := HK.out; unfold maxLen; omega) (by have := HK.out; omega) (Nat.le_trans S4.out BX.out.size) ?_
          intro v9 x7 ow9 gr9 _
          obtain ⟨A9, c9, rfl⟩ := slice_of ow9
          have OW9 := hid ow9; have GR9 := hid gr9
          have K1' : Hid (Blk x7 b 44 (devV A k c A' 0 c' (-1) false)) := K1.out.same (gr9.block b K1.out.lt (fun e => own_ne_t K2.out K1.out (by decide) e.symm))
          have Gx7 : Hid True := trivial
          refine hQc.out _ _ Gx7 (fun hHeld => ?_)
          clear hQc Qc hHeld Gx6 ow9 gr9
          try simp only [Act.put, List.setIfInBounds_toArray, List.set_cons_zero, List.set_cons_succ]
          refine wpAnyH_take (i := 8) (oi := { dst := some 20, op := _, type := _, pos := _, after := _, guard := _ }) (v := ?_) rfl (by kernel_rfl) (by kernel_rfl) (by kernel_rfl) (fun _ _ _ h => h) (Or.inl ⟨by kernel_rfl, ?_⟩) Gx7 ?_
          rotate_left
          · (intro w hSw; go_simp; try with_reducible rfl)
          try simp only [Act.put, List.setIfInBounds_toArray, List.set_cons_zero, List.set_cons_succ]
          refine wpAnyH_take (i := 9) (oi := { dst := some 21, op := _, type := _, pos := _, after := _, guard := _ }) (v := ?_) rfl (by kernel_rfl) (by kernel_rfl) (by kernel_rfl) (fun _ _ _ h => h) (Or.inl ⟨by kernel_rfl, ?_⟩) Gx7 ?_
          rotate_left
          · (intro w hSw; go_simp; try with_reducible rfl)
          try simp only [Act.put, List.setIfInBounds_toArray, List.set_cons_zero, List.set_cons_succ]
          refine wpAnyH_ready (rs := [10]) (by kernel_rfl) (by simp) ?_
          refine (AllReadyH.cons (o := { dst := none, op := _, type := _, pos := _, after := _, guard := _ }) rfl (fun Qc hQc => ?_) AllReadyH.nil)
          have y0 : x7.cell? ⟨b, 0, none⟩ = some (.slice A k c) := K1'.out.cell 0
          have fy0 : x7.frozen? ⟨b, 0, none⟩ = false := K1'.out.frozen 0
          go_simp
          clear y0 fy0
          have HV9 : Hid (VAt n0 (x7.setCell ⟨b, 0, none⟩ (.slice A9 (k + 1) c9)) b ⟨List.replicate (k + 1) zpg, [], -1, false⟩ ∧ Below n0 wr (x7.setCell ⟨b, 0, none⟩ (.slice A9 (k + 1) c9))) := vn_done V1.out V2.out V3.out V4.out V5.out HKL.out S4.out BX.out K2.out GR9.out OW9.out PZ.out
          have Gx8 : Hid True := trivial
          refine hQc.out _ _ Gx8 (fun hHeld => ?_)
          clear hQc Qc hHeld Gx7 K1' GR9 OW9
          generalize x7.setCell ⟨b, 0, none⟩ (.slice A9 (k + 1) c9) = x8 at Gx8 HV9 ⊢
          try simp only [Act.put, List.setIfInBounds_toArray, List.set_cons_zero, List.set_cons_succ]
          refine wpAnyH_done (by kernel_rfl) ?_ _
          try simp only [Act.put, List.setIfInBounds_toArray, List.set_cons_zero, List.set_cons_succ]
          go_wp2
          go_roundw
          case rel => exact ⟨k + 1, by have := HKN.out; omega, by go_num, HV9.out.1, BL.out.trans HV9.out.2⟩
          case measure => simp [intOf]; omega
        ·
          go_simp
          have HBA : Below x5.heap.size x5 (x5.alloc (.cells #[.slice (some ⟨gz, 0, none⟩) 128 128] 31)) := (Below.refl _ _).alloc (Nat.le_refl _) _
          have K1' := hid (K1.out.alloc (.cells #[.slice (some ⟨gz, 0, none⟩) 128 128] 31))
          have K2' := hid (K2.out.alloc (.cells #[.slice (some ⟨gz, 0, none⟩) 128 128] 31))
          have BX' := hid (BX.out.trans (HBA.mono BX.out.size))
          have PZ' := hid (PZ.out.same (fun k cs hk => HBA.block k hk.lt))
          have NB := hid (Blk.new x5 31 #[.slice (some ⟨gz, 0, none⟩) 128 128])
          have Gx9 : Hid True := trivial
          refine hQc.out _ _ Gx9 (fun hHeld => ?_)
          clear hQc Qc hHeld Gx5 K1 K2 BX HBA
          have K1 := K1'; have K2 := K2'; have BX := BX'
          clear K1' K2' BX'
          clear PZ
          have PZ := PZ'
          clear PZ'
          generalize x5.heap.size = gq at NB ⊢
          generalize x5.alloc (.cells #[.slice (some ⟨gz, 0, none⟩) 128 128] 31) = x9 at Gx9 K1 K2 BX PZ NB ⊢
          try simp only [Act.put, List.setIfInBounds_toArray, List.set_cons_zero, List.set_cons_succ]
          refine wpAnyH_ready (rs := [4]) (by kernel_rfl) (by simp) ?_
          refine (AllReadyH.cons (o := { dst := some 16, op := _, type := _, pos := _, after := _, guard := _ }) rfl (fun Qc hQc => ?_) AllReadyH.nil)
          have c0 : x9.cell? ⟨b, 0, none⟩ = some (.slice A k c) := K1.out.cell 0
          go_simp
          refine hQc.out _ _ Gx9 (fun hHeld => ?_)
          clear hQc Qc c0
          try simp only [Act.put, List.setIfInBounds_toArray, List.set_cons_zero, List.set_cons_succ]
          refine wpAnyH_ready (rs := [7]) (by kernel_rfl) (by simp) ?_
          refine (AllReadyH.cons (o := { dst := some 19, op := _, type := _, pos := _, after := _, guard := _ }) rfl (fun Qc hQc => ?_) AllReadyH.nil)
          rw [if_pos (by rfl)]
          refine wp_append_own _ (.tmp 16) (.tmp 18) 41 rfl n0 31 i0 (.slice none 0 0) 1 24 Try.underlying41 HI.out HZ0.out HZ1.out HZ2.out rfl (by decide) (.slice A k c) k rows rfl K2.out ⟨gq, 0, none⟩ 1 1 [.slice (some ⟨gz, 0, none⟩) 128 128] rfl rfl (row_cell NB.out) (fun u hu => by rw [List.mem_singleton.1 hu]; rfl) (by have := HK.out; unfold maxLen; omega) (by have := HK.out; omega) (Nat.le_trans S4.out BX.out.size) ?_
          intro v9 x10 ow9 gr9 _
          obtain ⟨A9, c9, rfl⟩ := slice_of ow9
          have OW9 := hid ow9; have GR9 := hid gr9
          have K1' : Hid (Blk x10 b 44 (devV A k c A' 0 c' (-1) false)) := K1.out.same (gr9.block b K1.out.lt (fun e => own_ne_t K2.out K1.out (by decide) e.symm))
          have Gx10 : Hid True := trivial
          refine hQc.out _ _ Gx10 (fun hHeld => ?_)
          clear hQc Qc hHeld Gx9 ow9 gr9
          try simp only [Act.put, List.setIfInBounds_toArray, List.set_cons_zero, List.set_cons_succ]
          refine wpAnyH_take (i := 8) (oi := { dst := some 20, op := _, type := _, pos := _, after := _, guard := _ }) (v := ?_) rfl (by kernel_rfl) (by kernel_rfl) (by kernel_rfl) (fun _ _ _ h => h) (Or.inl ⟨by kernel_rfl, ?_⟩) Gx10 ?_
          rotate_left
          · (intro w hSw; go_simp; try with_reducible rfl)
          try simp only [Act.put, List.setIfInBounds_toArray, List.set_cons_zero, List.set_cons_succ]
          refine wpAnyH_take (i := 9) (oi := { dst := some 21, op := _, type := _, pos := _, after := _, guard := _ }) (v := ?_) rfl (by kernel_rfl) (by kernel_rfl) (by kernel_rfl) (fun _ _ _ h => h) (Or.inl ⟨by kernel_rfl, ?_⟩) Gx10 ?_
          rotate_left
          · (intro w hSw; go_simp; try with_reducible rfl)
          try simp only [Act.put, List.setIfInBounds_toArray, List.set_cons_zero, List.set_cons_succ]
          refine wpAnyH_ready (rs := [10]) (by kernel_rfl) (by simp) ?_
          refine (AllReadyH.cons (o := { dst := none, op := _, type := _, pos := _, after := _, guard := _ }) rfl (fun Qc hQc => ?_) AllReadyH.nil)
          have y0 : x10.cell? ⟨b, 0, none⟩ = some (.slice A k c) := K1'.out.cell 0
          have fy0 : x10.frozen? ⟨b, 0, none⟩ = false := K1'.out.frozen 0
          go_simp
          clear y0 fy0
          have HV9 : Hid (VAt n0 (x10.setCell ⟨b, 0, none⟩ (.slice A9 (k + 1) c9)) b ⟨List.replicate (k + 1) zpg, [], -1, false⟩ ∧ Below n0 wr (x10.setCell ⟨b, 0, none⟩ (.slice A9 (k + 1) c9))) := vn_done V1.out V2.out V3.out V4.out V5.out HKL.out S4.out BX.out K2.out GR9.out OW9.out PZ.out
          have Gx11 : Hid True := trivial
          refine hQc.out _ _ Gx11 (fun hHeld => ?_)
          clear hQc Qc hHeld Gx10 K1' GR9 OW9
          generalize x10.setCell ⟨b, 0, none⟩ (.slice A9 (k + 1) c9) = x11 at Gx11 HV9 ⊢
          try simp only [Act.put, List.setIfInBounds_toArray, List.set_cons_zero, List.set_cons_succ]
          refine wpAnyH_done (by kernel_rfl) ?_ _
          try simp only [Act.put, List.setIfInBounds_toArray, List.set_cons_zero, List.set_cons_succ]
          go_wp2
          go_roundw
          case rel => exact ⟨k + 1, by have := HKN.out; omega, by go_num, HV9.out.1, BL.out.trans HV9.out.2⟩
          case measure => simp [intOf]; omega
    · obtain rfl : k = n := by omega
      go_wp2
      go_ret
      exact ⟨b, rfl, HV.out, BL.out⟩
end Go.Proofs.Ytjdojnbpchommaa
