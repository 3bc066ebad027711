/-
  What is proved here: a write to the document's device.
-/
import Derived.Test.YtjdojnbpchommaaMVeR
import Derived.Deep.DeepCutAuto
import Derived.Deep.RegionLaw
set_option linter.unusedSimpArgs false
set_option linter.unusedVariables false
namespace Go.Proofs.Ytjdojnbpchommaa
open Go.ChangeShapes Go.WideShapes Go.ChangeAt Go.RowKit
set_option linter.unusedVariables false
set_option linter.unusedSimpArgs false
set_option maxRecDepth 20000

theorem append_rpn {w : World} {ops : Array Oper} {rest : List Oper} {o : Oper} {a : Act} {Q : Exit → Act → World → Prop} (hgd : o.guard = none) (s x : Operand)
    (ho : o.op = .call { callee := .builtin .append, args := #[s, x], argTypes := #[31, 31] }) (hs : a.eval s = .slice none 0 0)
    (A : Option Addr) (n c : Nat) (ys : List Int) (hn : n = ys.length) (hx : a.eval x = .slice A n c) (hr : Rp w none A ys) (h63 : n < 1000)
    (h : ∀ X d w', Fresh w w' X ys → Hid (Below w.heap.size w w') → wpList Try.prog ops Q rest (a.put o.dst (.slice X n (n + d))) w') : wpList Try.prog ops Q (o :: rest) a w := by
  subst hn
  refine append_rp hgd s x ho w.heap.size w.heap.size (.slice none 0 0) [] hs ⟨rfl, .inl ⟨rfl, rfl⟩⟩ A c ys hx hr (by simp; omega) (Nat.le_refl _) (Nat.le_refl _) (fun v' w' h1 h2 => ?_)
  have h1' := h1.out
  rw [List.nil_append] at h1'
  obtain ⟨X, d, rfl, _, hnd, hf⟩ := fresh_of_own h1' (Nat.le_refl _)
  have h3 := h X (d - ys.length) w' hf h2
  rw [Nat.add_sub_cancel' hnd] at h3
  exact h3
theorem info_wait : (Try.prog.info? 71).map (fun i => (i.zero, i.size, i.bytes)) = some (some (.agg #[.int .i64 0, .slice none 0 0]), 2, 32) := by kernel_rfl
theorem two_one (j : Int) (X : Option Addr) (n d : Nat) : ∀ u ∈ [Value.int .i64 j, Value.slice X n d], u.oneCell' = true := fun u hu => by
  rcases List.mem_cons.1 hu with h | h
  · rw [h]; rfl
  · rw [List.mem_singleton.1 h]; rfl
theorem two_cells (u : World) (x y : Value) : ∀ j v, [x, y][j]? = some v → (u.alloc (.cells #[x, y] 71)).cell? ((⟨u.heap.size, 0, none⟩ : Addr).add j) = some v := by
  intro j v h
  rw [Addr.add_lit, Nat.zero_add, (Blk.new u 71 #[x, y]).cell]
  show [x, y].toArray[j]? = some v
  rw [List.getElem?_toArray]; exact h
/-- one write more waits -/
theorem qr_snoc {w : World} {qr : List Value} {Q : List Wr} (h : QrP w qr Q) (hl : qr.length = 2 * Q.length) {j : Nat} {X : List Int} {B : Option Addr} {d : Nat} (hB : Pb w B X) : QrP w (qr ++ [.int .i64 (j : Nat), .slice B 128 (128 + d)]) (Q ++ [(j, X)]) := fun i q hq => by
  by_cases hi : i < Q.length
  · rw [List.getElem?_append_left hi] at hq
    obtain ⟨B', d', h1, h2, h3⟩ := h i q hq
    exact ⟨B', d', by rw [List.getElem?_append_left (by omega)]; exact h1, by rw [List.getElem?_append_left (by omega)]; exact h2, h3⟩
  · rw [List.getElem?_append_right (by omega)] at hq
    have he : i = Q.length := by
      rcases Nat.lt_or_ge (i - Q.length) 1 with h5 | h5
      · omega
      · rw [List.getElem?_eq_none (by simpa using h5)] at hq; cases hq
    subst he
    rw [Nat.sub_self] at hq
    injection hq with hq
    subst hq
    exact ⟨B, d, by rw [List.getElem?_append_right (by omega), hl, Nat.sub_self]; rfl, by rw [List.getElem?_append_right (by omega), show 2 * Q.length + 1 - qr.length = 1 by omega]; rfl, hB⟩
theorem vw_done {n0 b c c' c9 : Nat} {A A' A9 : Option Addr} {L : List (List Int)} {Q : List Wr} {F : Int} {w2 w8 w9 : World} {rows qr : List Value} {j : Nat} {X : List Int} {B : Option Addr} {d : Nat}
    (h1 : Blk w2 b 44 (devV A L.length c A' Q.length c' F false)) (h2 : w2.ownsRow n0 31 1 (.slice A L.length c) L.length rows) (h3 : w2.ownsRow n0 71 2 (.slice A' Q.length c') Q.length qr) (h4 : n0 ≤ b)
    (h5 : RowsP w2 rows L) (h6 : QrP w2 qr Q) (h7 : -1 ≤ F ∧ F ≤ 9223372036854775807) (h8 : PgOk L ∧ QOk L.length Q ∧ L.length ≤ 4096) (hj : j < L.length) (hX : X.length = 128) (hB : Pb w2 B X) (hn : n0 ≤ w2.heap.size)
    (h8b : Below w2.heap.size w2 w8) (hg : w8.grownBy w9 (Value.slice A' Q.length c').ownBlock) (ho : w9.ownsRow n0 71 2 (.slice A9 (Q.length + 1) c9) (Q.length + 1) (qr ++ [.int .i64 (j : Nat), .slice B 128 (128 + d)])) :
    Lv n0 b ⟨L, Q ++ [(j, X)], F, false⟩ w2 (w9.setCell ⟨b, 1, none⟩ (.slice A9 (Q.length + 1) c9)) := by
  have sm : ∀ k t cs, Blk w2 k t cs → t ≠ 71 → w9.heap[k]? = w2.heap[k]? := fun k t cs hk ht =>
    (hg.block k (Nat.lt_of_lt_of_le hk.lt h8b.size) (fun e => own_ne_t (own_below h3 h8b) (hk.same (h8b.block k hk.lt)) ht e.symm)).trans (h8b.block k hk.lt)
  have b9 : Blk w9 b 44 _ := h1.same (sm b _ _ h1 (by decide))
  have sm2 : ∀ k t cs, Blk w2 k t cs → t ≠ 71 → t ≠ 44 → (w9.setCell ⟨b, 1, none⟩ (.slice A9 (Q.length + 1) c9)).heap[k]? = w2.heap[k]? := fun k t cs hk ht ht2 => (other_set _ _ _ _ k (hk.ne h1 ht2)).trans (sm k t cs hk ht)
  have ho2 := own_t ho (fun k cs hk => other_set w9 b 1 (.slice A9 (Q.length + 1) c9) k (hk.ne b9 (by decide)))
  have hl : qr.length = 2 * Q.length := by have := h3.1; omega
  refine ⟨⟨A, c, A9, c9, rows, qr ++ [.int .i64 (j : Nat), .slice B 128 (128 + d)], ?_, own_t h2 (fun k cs hk => sm2 k _ cs hk (by decide) (by decide)), ?_, h4, h5.same (fun k cs hk => sm2 k _ cs hk (by decide) (by decide)), qr_snoc (j := j) (X := X) (B := B) (d := d) (h6.same (fun k cs hk => sm2 k _ cs hk (by decide) (by decide))) hl (hB.same (fun k cs hk => sm2 k _ cs hk (by decide) (by decide))), h7, h8.1, h8.2.1.snoc hj hX, h8.2.2⟩, ⟨?_, fun k t cs hk ht => sm2 k t cs hk ht.2.2 ht.1⟩, ?_⟩
  · have := b9.setd 1 (.slice A9 (Q.length + 1) c9)
    simp only [List.length_append, List.length_cons, List.length_nil]
    exact this
  · simp only [List.length_append, List.length_cons, List.length_nil]
    exact ho2
  · have := h8b.size; have := hg.size; simp [World.setCell]; omega
  · refine Below.setCell ?_ h4 _
    exact ((h8b.mono hn).trans ((Below.refl _ _).grown hg (Nat.le_trans hn h8b.size) (fun k hk => (h3.lt k hk).1)))
set_option maxHeartbeats 8000000 in
theorem vw_ok {n0 : Nat} {w : World} {b : Nat} {L : List (List Int)} {Q : List Wr} {F : Int} (h : VAt n0 w b ⟨L, Q, F, false⟩) (hn : n0 ≤ w.heap.size) (hF : F ≠ 0) (j : Nat) (hj : j < L.length) (B : Option Addr) (c9 : Nat) (X : List Int) (hX : X.length = 128) (hr : Rp w none B X) (hA : Src n0 w B X) (hQ : Q.length < 1000) :
    Calls Try.prog 15 #[.pointer (some ⟨b, 0, none⟩), .int .i64 j, .slice B 128 c9] w fun e w' => e = .returned (.int .i64 0) ∧ Lv n0 b ⟨L, Q ++ [(j, X)], bn F, false⟩ w w' := by
  have CO := hid (voper_ok h hF)
  have HA0 : Hid (∀ {w'}, Below n0 w w' → Vt w w' → Rp w' none B X) := fun hb hv hx => by
    obtain ⟨ad, e, h1, hc⟩ := hr hx
    refine ⟨ad, e, h1, fun k hk => ?_⟩
    rcases hA hx ad e with h5 | ⟨cs, h5⟩
    · exact (hb.cell (by rw [add_block]; exact h5)).trans (hc k hk)
    · exact (World.cell?_of_block (w := w) (by rw [add_block]; exact hv.bl _ _ _ h5 (by decide))).trans (hc k hk)
  have HV := hid h
  obtain ⟨A, c, A', c', rows, qr, h1, _⟩ := h
  obtain ⟨n, hn'⟩ : ∃ n, n = L.length := ⟨_, rfl⟩
  simp only at h1
  rw [← hn'] at h1
  have c0 : w.cell? ⟨b, 0, none⟩ = some (.slice A n c) := h1.cell 0
  have c3 : w.cell? ⟨b, 3, none⟩ = some (.bool false) := h1.cell 3
  have g2 : decide (n ≤ j) = false := decide_eq_false (by omega)
  have HJ := hid hj; have HX := hid hX; have HR := hid hr; have HQ := hid hQ; have HN := hid hn
  clear h1 hn' hF hj hX hr hQ hn hA
  go_enter Try.func15, Try.ntmps15
  go_upto_region 11 with (first
    | (go_at_call 32; refine CO.out.mono ?_; rintro e w1 ⟨rfl, hlv⟩; have HLV := hid hlv; have R1 := hid (HA0.out hlv.2.2 hlv.2.1); clear hlv)
    | (at_builtin; refine append_rpn rfl (.tmp 29) (.tmp 30) rfl rfl B 128 c9 X HX.out.symm rfl R1.out (by decide) ?_; intro X2 d2 w2 hf hb2; have HF2 := hid hf; have HB2 := hb2; clear hf hb2))
  have V2 := hid (HLV.out.1.below HB2.out)
  have LV2 : Hid (Vt w w2 ∧ Below n0 w w2 ∧ n0 ≤ w2.heap.size) := ⟨HLV.out.2.1.trans (Vt.below HB2.out), HLV.out.2.2.trans (HB2.out.mono (Nat.le_trans HN.out HLV.out.2.1.sz)), Nat.le_trans (Nat.le_trans HN.out HLV.out.2.1.sz) HB2.out.size⟩
  have PB2 : Hid (Pb w2 X2 X) := HF2.out.pb HX.out
  obtain ⟨A3, c5, A4, c6, rows3, qr3, k1, k2, k3, k4, k5, k6, k7, k8, k9, k10⟩ := V2.out
  simp only at k1 k2 k3 k5 k6 k7 k8 k9 k10
  have y1 : w2.cell? ⟨b, 1, none⟩ = some (.slice A4 Q.length c6) := k1.cell 1
  have fy1 : w2.frozen? ⟨b, 1, none⟩ = false := k1.frozen 1
  have K1 := hid k1; have K2 := hid k2; have K3 := hid k3; have K4 := hid k4; have K5 := hid k5; have K6 := hid k6; have K7 := hid k7; have K8 : Hid (PgOk L ∧ QOk L.length Q ∧ L.length ≤ 4096) := ⟨k8, k9, k10⟩
  obtain ⟨i0, hi, hz0, hz1, hz2⟩ := info_parts info_wait
  obtain ⟨m, hm⟩ : ∃ m, m = Q.length := ⟨_, rfl⟩
  have HM := hid hm
  have KB1 : Hid (Blk w2 b 44 (devV A3 L.length c5 A4 m c6 (bn F) false)) := by show Blk _ _ _ _; rw [hm]; exact k1
  have K3' : Hid (w2.ownsRow n0 71 2 (.slice A4 m c6) m qr3) := by show World.ownsRow _ _ _ _ _ _ _; rw [hm]; exact k3
  rw [← hm] at y1
  clear k1 k2 k3 k4 k5 k6 k7 k8 k9 k10 CO HA0 HV HLV R1 HB2 HF2 V2 hm
  go_upto_region 12 with (at_builtin; refine wpList_append_own _ rfl (.tmp 36) (.tmp 40) 42 rfl n0 71 i0 (.agg #[.int .i64 0, .slice none 0 0]) 2 32 Try.underlying42 hi hz0 hz1 hz2 rfl (by decide) (.slice A4 m c6) m qr3 rfl (K3'.out.alloc _) ⟨w2.heap.size, 0, none⟩ 1 1 [.int .i64 (j : Nat), .slice X2 128 (128 + d2)] rfl rfl (two_cells _ _ _) (two_one _ _ _ _) (by have := HQ.out; have := HM.out; unfold maxLen; omega) (by have := HQ.out; have := HM.out; omega) (Nat.le_trans LV2.out.2.2 (by simp)) ?_; intro v9 w9 ow9 gr9 _; obtain ⟨A9, c10, rfl⟩ := slice_of ow9; have OW9 := hid ow9; have GR9 := hid gr9; have kb9 : Blk w9 b 44 (devV A3 L.length c5 A4 m c6 (bn F) false) := (KB1.out.alloc (.cells #[.int .i64 (j : Nat), .slice X2 128 (128 + d2)] 71)).same (gr9.block b (KB1.out.alloc (.cells #[.int .i64 (j : Nat), .slice X2 128 (128 + d2)] 71)).lt (fun e => own_ne_t (K3'.out.alloc (.cells #[.int .i64 (j : Nat), .slice X2 128 (128 + d2)] 71)) (KB1.out.alloc (.cells #[.int .i64 (j : Nat), .slice X2 128 (128 + d2)] 71)) (by decide) e.symm)); have y9 : w9.cell? ⟨b, 1, none⟩ = some (.slice A4 m c6) := kb9.cell 1; have fy9 : w9.frozen? ⟨b, 1, none⟩ = false := kb9.frozen 1; clear ow9 gr9 kb9)
  have HLW : Hid (Lv n0 b ⟨L, Q ++ [(j, X)], bn F, false⟩ w2 (w9.setCell ⟨b, 1, none⟩ (.slice A9 (m + 1) c10))) := by
    obtain rfl := HM.out
    exact vw_done K1.out K2.out K3.out K4.out K5.out K6.out K7.out K8.out HJ.out HX.out PB2.out LV2.out.2.2 ((Below.refl _ _).alloc (Nat.le_refl _) _) GR9.out OW9.out
  clear OW9 GR9 y1 fy1 hi hz0 hz1 hz2
  go_wp2
  go_ret
  exact ⟨rfl, HLW.out.1, LV2.out.1.trans HLW.out.2.1, LV2.out.2.1.trans HLW.out.2.2⟩
theorem vw_src {n0 : Nat} {w : World} {b : Nat} {s : SS} (h : VAt n0 w b s) (hn : n0 ≤ w.heap.size) (i : Int) (B : Option Addr) (c9 : Nat) (X : List Int) (hr : Rp w none B X) (hA : Src n0 w B X) (hX : X.length ≤ 300) (hQ : s.Q.length < 1000) :
    Calls Try.prog 15 #[.pointer (some ⟨b, 0, none⟩), .int .i64 i, .slice B X.length c9] w fun e w' => e = .returned (.int .i64 (s.wr i X).1) ∧ Lv n0 b (s.wr i X).2 w w' := by
  have hh := h
  obtain ⟨A, c, A', c', rows, qr, h1, h2, h3, h4, h5, h6, h7, h8, h9, h10⟩ := h
  obtain ⟨L, Q, F, D⟩ := s
  simp only at h1 h2 h3 h5 h6 h8 h9 h10 hQ
  unfold SS.wr
  simp only
  obtain ⟨n, hn'⟩ : ∃ n, n = L.length := ⟨_, rfl⟩
  rw [← hn'] at h1
  have c0 : w.cell? ⟨b, 0, none⟩ = some (.slice A n c) := h1.cell 0
  have c3 : w.cell? ⟨b, 3, none⟩ = some (.bool D) := h1.cell 3
  have HV := hid hh
  obtain ⟨x, hx⟩ : ∃ x, x = X.length := ⟨_, rfl⟩
  cases D with
  | true =>
    rw [if_pos rfl, ← hx]
    clear h1 h2 h3 h4 h5 h6 h7 h8 h9 h10 c0 hQ hn' hh hx hX hn hA
    go_enter Try.func15, Try.ntmps15
    go_wp2
    go_ret
    exact ⟨rfl, Lv.refl HV.out⟩
  | false =>
    rw [if_neg (by simp)]
    by_cases hi : i < 0 ∨ (L.length : Int) ≤ i
    · rw [if_pos hi, ← hx]
      rw [← hn'] at hi
      by_cases h0 : i < 0
      · have g1 : decide (i < 0) = true := decide_eq_true h0
        clear h1 h2 h3 h4 h5 h6 h7 h8 h9 h10 hQ hn' hh hx hX hn hA hi
        go_enter Try.func15, Try.ntmps15
        go_wp2
        go_ret
        exact ⟨rfl, Lv.refl HV.out⟩
      · have hni : (n : Int) ≤ i := by omega
        have g1 : decide (i < 0) = false := decide_eq_false h0
        have g2 : decide ((n : Int) ≤ i) = true := decide_eq_true hni
        clear h1 h2 h3 h4 h5 h6 h7 h8 h9 h10 hQ hn' hh hx hX hn hA hi h0
        go_enter Try.func15, Try.ntmps15
        go_wp2
        go_ret
        exact ⟨rfl, Lv.refl HV.out⟩
    · rw [if_neg hi]
      obtain ⟨j, rfl⟩ : ∃ j : Nat, i = j := ⟨i.toNat, by omega⟩
      have hj : j < L.length := by omega
      have g2 : decide (n ≤ j) = false := decide_eq_false (by omega)
      by_cases hx1 : X.length ≠ 128
      · rw [if_pos hx1, ← hx]
        have g3 : ((x : Int) != 128) = true := by simp; omega
        have g4 : ¬ (x : Int) = 128 := by omega
        clear h1 h2 h3 h4 h5 h6 h7 h8 h9 h10 hQ hn' hh hX hn hA hi hj hx1 hx
        go_enter Try.func15, Try.ntmps15
        go_wp2
        go_ret
        exact ⟨rfl, Lv.refl HV.out⟩
      · rw [if_neg hx1]
        have hx' : X.length = 128 := by omega
        rw [hx']
        by_cases hF : F = 0
        · rw [if_pos hF]
          have CO := hid (voper_out hh hF)
          clear h1 h2 h3 h4 h5 h6 h7 h8 h9 h10 hQ hn' hh hX hn hA hi hj hx1 hx hx' hF
          go_enter Try.func15, Try.ntmps15
          go_wp2_with (go_at_call 32; refine CO.out.mono ?_; rintro e w1 ⟨rfl, hlv⟩; have HLV := hid hlv; clear hlv)
          go_ret
          exact ⟨rfl, HLV.out⟩
        · rw [if_neg hF, Int.toNat_natCast]
          exact vw_ok hh hn hF j hj B c9 X hx' hr hA hQ
theorem vw_any {n0 : Nat} {w : World} {b : Nat} {s : SS} (h : VAt n0 w b s) (hn : n0 ≤ w.heap.size) (i : Int) (B : Option Addr) (c9 : Nat) (X : List Int) (hr : Rp w none B X) (hA : 0 < X.length → ∀ a, B = some a → a.block < n0) (hX : X.length ≤ 300) (hQ : s.Q.length < 1000) :
    Calls Try.prog 15 #[.pointer (some ⟨b, 0, none⟩), .int .i64 i, .slice B X.length c9] w fun e w' => e = .returned (.int .i64 (s.wr i X).1) ∧ Lv n0 b (s.wr i X).2 w w' := vw_src h hn i B c9 X hr (fun h a e => .inl (hA h a e)) hX hQ
end Go.Proofs.Ytjdojnbpchommaa
