/-
  What is proved here: the code's i-th bottom tree, and its n-th signature.
-/
import Derived.Test.YtobceieadjpaaaaDoorMHq1
import Derived.Test.YtobceieadjpaaaaDoorMLsU
import Derived.Great.BuildSlice
set_option linter.unusedSimpArgs false
set_option linter.unusedVariables false
namespace Go.Proofs.YtobceieadjpaaaaDoor
open Go.ChangeShapes Go.WideShapes Go.ChangeAt Go.RowKit
set_option linter.unusedVariables false
set_option maxRecDepth 20000

theorem info_rowsB : (Tryd.prog.info? 29).map (fun i => (i.zero, i.size, i.bytes)) = some (some (.slice none 0 0), 1, 24) := by kernel_rfl
theorem fill_two : ∀ (A B : Option Addr) (m c n d : Nat), Instr.fill (fun i => some (i * 1, 1)) ((Array.range (2 * 1)).map fun x => (Value.slice none 0 0).cells[x % (Value.slice none 0 0).cells.size]!) [(0, Value.slice A m c), (1, Value.slice B n d)] = some #[Value.slice A m c, Value.slice B n d] := by
  intros
  kernel_rfl
theorem wp_rows_two {o : Oper} {a : Act} {w : World} {K : Act → World → Prop} {Q : Exit → Act → World → Prop} (x y : Operand) (ho : o.op = .buildSlice 112 2 #[(0, x), (1, y)]) (A B : Option Addr) (m c n d : Nat) (hx : a.eval x = .slice A m c) (hy : a.eval y = .slice B n d)
    (h : K (a.put o.dst (.slice (some ⟨w.heap.size, 0, none⟩) 2 2)) (w.alloc (.cells #[.slice A m c, .slice B n d] 29))) : o.wp Tryd.prog a w K Q := by
  obtain ⟨i0, hi, hz0, hz1, hz2⟩ := info_parts info_rowsB
  refine wp_buildSlice 112 29 2 #[(0, x), (1, y)] ho #[.slice A m c, .slice B n d] i0 (.slice none 0 0) Tryd.underlying112 hi hz0 (by rw [hz1]; decide) (by rw [hz1]; decide) ?_ h
  rw [hz1]
  simp only [List.map_toArray, List.map_cons, List.map_nil, hx, hy]
  exact fill_two ..
/-- nothing that stood has turned -/
structure Bz (q : Nat) (w w' : World) : Prop where
  bl : Below w.heap.size w w'
section
variable {q : Nat} {w w' w2 : World}
theorem Bz.below (h : Bz q w w') (hb : Below w'.heap.size w' w2) : Bz q w w2 := ⟨h.bl.trans (hb.mono h.bl.size)⟩
theorem Bz.drew (h : Bz q w w') : Bz q w w'.drew := h.below ((Below.refl _ _).drew)
theorem Bz.alloc (h : Bz q w w') (o : Obj) : Bz q w (w'.alloc o) := h.below ((Below.refl _ _).alloc (Nat.le_refl _) _)
theorem Bz.row (h : Bz q w w') {g : Nat}  (hg : w.heap.size ≤ g) (cs : Array Value) : Bz q w (w'.setRow g cs) := ⟨below_setRow h.bl hg cs⟩
end
/-- a signer's cells lie where they lay -/
structure Sw (C : Array Value) (s : Nat) (w w' : World) : Prop where
  b0 : Blk w' (s) 100 C
  bl : Below w.heap.size w w'
section
variable {C : Array Value} {s : Nat} {w w' w2 : World}
theorem Sw.below (h : Sw C s w w') (hb : Below w'.heap.size w' w2) : Sw C s w w2 := ⟨h.b0.below hb, h.bl.trans (hb.mono h.bl.size)⟩
theorem Sw.drew (h : Sw C s w w') : Sw C s w w'.drew := h.below ((Below.refl _ _).drew)
theorem Sw.alloc (h : Sw C s w w') (o : Obj) : Sw C s w (w'.alloc o) := h.below ((Below.refl _ _).alloc (Nat.le_refl _) _)
theorem Sw.row (h : Sw C s w w') {g : Nat} (n0 : s ≠ g) (hg : w.heap.size ≤ g) (cs : Array Value) : Sw C s w (w'.setRow g cs) := ⟨h.b0.rowFar n0 cs, below_setRow h.bl hg cs⟩
end
/-- a tree stays when a signer turns -/
theorem TreeAt.only {w w' : World} {t s : Nat} {h k : Int} {id sd : List Int} {C : Array Value} (ht : TreeAt w t h k id sd) (hs : Blk w s 100 C) (ho : OnlyS (Of (some ⟨s, 0, none⟩)) w w') : TreeAt w' t h k id sd := by
  obtain ⟨g, h1, h2⟩ := ht
  have hh := h2
  obtain ⟨cs, k1, k2⟩ := h2
  exact ⟨g, h1.only ho (not_of (Blk.ne h1 hs (by decide))), ⟨cs, k1.only ho (not_of (Blk.ne k1 hs (by decide))), k2.1, fun r h1 h2 j v hv => (World.cell?_of_block (w := w) (ho.block _ k1.lt (not_of (Blk.ne k1 hs (by decide))))).trans (k2.2 r h1 h2 j v hv)⟩⟩
theorem LastAt.only {w w' : World} {s : Nat} {b k : Int} {sd : List Int} {la : Option Addr} {p : Int} {C : Array Value} (h : LastAt w b k sd la p) (hs : Blk w s 100 C) (ho : OnlyS (Of (some ⟨s, 0, none⟩)) w w') : LastAt w' b k sd la p := by
  rcases h with h | ⟨l, j, h1, h2, h3⟩
  · exact .inl h
  · exact .inr ⟨l, j, h1, h2, h3.only hs ho⟩
/-- a signer stays when another one turns -/
theorem SignAt.other {w w' : World} {s s' : Nat} {t b k : Int} {sd : List Int} {C : Array Value} (h : SignAt w s t b k sd) (hs : Blk w s' 100 C) (hne : s ≠ s') (ho : OnlyS (Of (some ⟨s', 0, none⟩)) w w') : SignAt w' s t b k sd := by
  obtain ⟨g, la, p, h1, h2, h3⟩ := h
  exact ⟨g, la, p, h1.only ho (not_of hne), h2.only hs ho, h3.only hs ho⟩
theorem signC_set {b k : Int} {sd : List Int} (hs : Ky sd) (g : Nat) (la la' : Option Addr) (p p' : Int) : ((signC b k sd g la p).setIfInBounds 35 (.pointer la')).setIfInBounds 36 (.int .i64 p') = signC b k sd g la' p' := by
  obtain ⟨b0, b1, b2, b3, b4, b5, b6, b7, b8, b9, b10, b11, b12, b13, b14, b15, b16, b17, b18, b19, b20, b21, b22, b23, b24, b25, b26, b27, b28, b29, b30, b31, rfl⟩ := len_32 sd hs.len
  rfl
attribute [local go_sem] Oper.semAt_some
set_option maxHeartbeats 8000000 in
theorem hbelow_at (s : Nat) (t b k : Int) (sd : List Int) (i : Nat) (w : World) (h2 : 1 ≤ b ∧ b ≤ 4) (hk : Kd k) (hs : Ky sd) (hi : i < 100000) (hsg : SignAt w s t b k sd) (ht : Tab w) :
    Calls Tryd.prog 68 #[.pointer (some ⟨s, 0, none⟩), .int .i64 (i : Nat)] w fun e w' => ∃ l, e = .returned (.tuple #[.pointer (some ⟨l, 0, none⟩), .int .i64 0]) ∧ TreeAt w' l b k (cid sd (.some i)) (csd sd (.some i)) ∧ SignAt w' s t b k sd ∧ OnlyS (Of (some ⟨s, 0, none⟩)) w w' := by
  have HSG := hid hsg
  obtain ⟨g, la, p, hb, htr, hla⟩ := hsg
  have HB := hid hb; have HTR := hid htr; have HKS := hid hs
  have c35 : w.cell? ⟨s, 35, none⟩ = some (.pointer la) := by rw [hb.cell]; exact signC_l _ _ hs ..
  have c36 : w.cell? ⟨s, 36, none⟩ = some (.int .i64 p) := by rw [hb.cell]; exact signC_p _ _ hs ..
  obtain ⟨C, hC⟩ : ∃ C, C = signC b k sd g la p := ⟨_, rfl⟩
  have HC0 : Hid (∀ w', Blk w' s 100 C → w'.cell? ⟨s, 0, none⟩ = some (.int .i64 b)) := fun w' h => by rw [h.cell, hC]; exact signC_b ..
  have HC1 : Hid (∀ w', Blk w' s 100 C → w'.cell? ⟨s, 1, none⟩ = some (.int .i64 k)) := fun w' h => by rw [h.cell, hC]; exact signC_k ..
  have HC35 : Hid (∀ w', Blk w' s 100 C → w'.cell? ⟨s, 35, none⟩ = some (.pointer la) ∧ w'.frozen? ⟨s, 35, none⟩ = false) := fun w' h => ⟨by rw [h.cell, hC]; exact signC_l _ _ hs .., h.frozen _⟩
  have HC36 : Hid (∀ w', Blk w' s 100 C → w'.cell? ⟨s, 36, none⟩ = some (.int .i64 p) ∧ w'.frozen? ⟨s, 36, none⟩ = false) := fun w' h => ⟨by rw [h.cell, hC]; exact signC_p _ _ hs .., h.frozen _⟩
  have HSET : Hid (∀ la' p', (C.setIfInBounds 35 (.pointer la')).setIfInBounds 36 (.int .i64 p') = signC b k sd g la' p') := fun la' p' => by rw [hC]; exact signC_set hs ..
  rw [← hC] at hb HB
  have GT : Hid (Sw C s w w) := ⟨hb, Below.refl _ _⟩
  have HRS : Hid (∀ w', Blk w' s 100 C → Rp w' none (some ⟨s, 2, none⟩) sd) := fun w' h => rp_rng (by rw [hC] at h; exact sign_sd _ _ _ _ _ h)
  have CF := hid (fun w1 => hfour_any i w1 (by omega))
  have CG : Hid (∀ g4 g2 w1, Blk w1 g4 5 (u8s (be (i : Int) 4)).toArray → Blk w1 g2 29 #[.slice (some ⟨s, 2, none⟩) 32 32, .slice (some ⟨g4, 0, none⟩) 4 4] → Blk w1 s 100 C → Below w.heap.size w w1 → Calls Tryd.prog 64 #[.int .i64 b, .int .i64 k, .slice (some ⟨g2, 0, none⟩) 2 2] w1 fun e w' => ∃ l, e = .returned (.tuple #[.pointer (some ⟨l, 0, none⟩), .int .i64 0]) ∧ TreeAt w' l b k (cid sd (.some i)) (csd sd (.some i)) ∧ Below w1.heap.size w1 w') := fun g4 g2 w1 k1 k2 k3 hbl =>
    (hgrow_any b k (some ⟨g2, 0, none⟩) 2 2 [sd, be (i : Int) 4] w1 h2 hk (inR_2 k2 hs.len.symm (HRS.out _ k3) hs.bs (by decide) (by decide) (be_length _ _).symm (blk_rp k1) (be_bs _ _) (by decide) (by decide)) (by decide) (fun f hf => by
      simp at hf
      rcases hf with rfl | rfl
      · rw [hs.len]; decide
      · rw [be_length]; decide) (ht.below hbl)).mono fun e w' ⟨l, he, _, h1, h2⟩ => ⟨l, he, h1, h2⟩
  clear hC hb htr hs ht h2 hk hi
  generalize be (i : Int) 4 = BE at CF CG
  have HFIN : Hid (∀ w1 l, Blk w1 s 100 C → Below w.heap.size w w1 → TreeAt w1 l b k (cid sd (.some i)) (csd sd (.some i)) → TreeAt ((w1.setCell ⟨s, 35, none⟩ (.pointer (some ⟨l, 0, none⟩))).setCell ⟨s, 36, none⟩ (.int .i64 (i : Nat))) l b k (cid sd (.some i)) (csd sd (.some i)) ∧ SignAt ((w1.setCell ⟨s, 35, none⟩ (.pointer (some ⟨l, 0, none⟩))).setCell ⟨s, 36, none⟩ (.int .i64 (i : Nat))) s t b k sd ∧ OnlyS (Of (some ⟨s, 0, none⟩)) w ((w1.setCell ⟨s, 35, none⟩ (.pointer (some ⟨l, 0, none⟩))).setCell ⟨s, 36, none⟩ (.int .i64 (i : Nat)))) := fun w1 l k1 hbl htl => by
    have ho : OnlyS (Of (some ⟨s, 0, none⟩)) w1 ((w1.setCell ⟨s, 35, none⟩ (.pointer (some ⟨l, 0, none⟩))).setCell ⟨s, 36, none⟩ (.int .i64 (i : Nat))) := ((OnlyS.refl _ w1).setCell (.inl ⟨_, rfl, rfl⟩) _).setCell (.inl ⟨_, rfl, rfl⟩) _
    have kk := (k1.setd 35 (.pointer (some ⟨l, 0, none⟩))).setd 36 (.int .i64 (i : Nat))
    rw [HSET.out] at kk
    have t1 := htl.only k1 ho
    exact ⟨t1, ⟨g, _, _, kk, (HTR.out.below hbl).only k1 ho, .inr ⟨l, i, rfl, rfl, t1⟩⟩, (OnlyS.of_below hbl (Nat.le_refl _)).trans ho⟩
  clear HSET HTR HKS
  rcases hla with rfl | ⟨l, j, rfl, rfl, hlt⟩
  · go_enter Tryd.func68, Tryd.ntmps68
    go_wp2_with fail
    refine wp_region_held (S := fun w' => Hid (Sw C s w w')) (by kernel_rfl) ?_
    change wpAnyH _ _ _ _ _ _ _ _ w.drew
    have Gx0 : Hid (Sw C s w w.drew) := GT.out.drew
    have HBx0 : Below w.heap.size w w.drew := (Below.refl _ _).drew
    clear HBx0
    generalize w.drew = x0 at Gx0  ⊢
    refine wpAnyH_take (i := 0) (oi := { dst := some 26, op := _, type := _, pos := _, after := _, guard := _ }) (v := ?_) rfl (by kernel_rfl) (by kernel_rfl) (by kernel_rfl) (fun _ _ _ h => h) (Or.inl ⟨by kernel_rfl, ?_⟩) (by assumption) ?_
    rotate_left
    · (intro w hSw; go_simp; try with_reducible rfl)
    try simp only [Act.put, List.setIfInBounds_toArray, List.set_cons_zero, List.set_cons_succ]
    refine wpAnyH_take (i := 1) (oi := { dst := some 27, op := _, type := _, pos := _, after := _, guard := _ }) (v := ?_) rfl (by kernel_rfl) (by kernel_rfl) (by kernel_rfl) (fun _ _ _ h => h) (Or.inl ⟨by kernel_rfl, ?_⟩) (by assumption) ?_
    rotate_left
    · (intro w hSw; go_simp; try with_reducible rfl)
    try simp only [Act.put, List.setIfInBounds_toArray, List.set_cons_zero, List.set_cons_succ]
    refine wpAnyH_take (i := 2) (oi := { dst := some 28, op := _, type := _, pos := _, after := _, guard := _ }) (v := ?_) rfl (by kernel_rfl) (by kernel_rfl) (by kernel_rfl) (fun _ _ _ h => h) (Or.inl ⟨by kernel_rfl, ?_⟩) (by assumption) ?_
    rotate_left
    · (intro w hSw; go_simp; try with_reducible rfl)
    try simp only [Act.put, List.setIfInBounds_toArray, List.set_cons_zero, List.set_cons_succ]
    refine wpAnyH_take (i := 3) (oi := { dst := some 29, op := _, type := _, pos := _, after := _, guard := _ }) (v := ?_) rfl (by kernel_rfl) (by kernel_rfl) (by kernel_rfl) (fun _ _ _ h => h) (Or.inl ⟨by kernel_rfl, ?_⟩) (by assumption) ?_
    rotate_left
    · (intro w hSw; have c0 := HC0.out _ (Hid.out hSw).b0; go_simp; try with_reducible rfl)
    try simp only [Act.put, List.setIfInBounds_toArray, List.set_cons_zero, List.set_cons_succ]
    refine wpAnyH_take (i := 4) (oi := { dst := some 30, op := _, type := _, pos := _, after := _, guard := _ }) (v := ?_) rfl (by kernel_rfl) (by kernel_rfl) (by kernel_rfl) (fun _ _ _ h => h) (Or.inl ⟨by kernel_rfl, ?_⟩) (by assumption) ?_
    rotate_left
    · (intro w hSw; go_simp; try with_reducible rfl)
    try simp only [Act.put, List.setIfInBounds_toArray, List.set_cons_zero, List.set_cons_succ]
    refine wpAnyH_take (i := 5) (oi := { dst := some 31, op := _, type := _, pos := _, after := _, guard := _ }) (v := ?_) rfl (by kernel_rfl) (by kernel_rfl) (by kernel_rfl) (fun _ _ _ h => h) (Or.inl ⟨by kernel_rfl, ?_⟩) (by assumption) ?_
    rotate_left
    · (intro w hSw; go_simp; try with_reducible rfl)
    try simp only [Act.put, List.setIfInBounds_toArray, List.set_cons_zero, List.set_cons_succ]
    refine wpAnyH_take (i := 6) (oi := { dst := some 32, op := _, type := _, pos := _, after := _, guard := _ }) (v := ?_) rfl (by kernel_rfl) (by kernel_rfl) (by kernel_rfl) (fun _ _ _ h => h) (Or.inl ⟨by kernel_rfl, ?_⟩) (by assumption) ?_
    rotate_left
    · (intro w hSw; go_simp; try with_reducible rfl)
    try simp only [Act.put, List.setIfInBounds_toArray, List.set_cons_zero, List.set_cons_succ]
    refine wpAnyH_take (i := 7) (oi := { dst := some 33, op := _, type := _, pos := _, after := _, guard := _ }) (v := ?_) rfl (by kernel_rfl) (by kernel_rfl) (by kernel_rfl) (fun _ _ _ h => h) (Or.inl ⟨by kernel_rfl, ?_⟩) (by assumption) ?_
    rotate_left
    · (intro w hSw; have c1 := HC1.out _ (Hid.out hSw).b0; go_simp; try with_reducible rfl)
    try simp only [Act.put, List.setIfInBounds_toArray, List.set_cons_zero, List.set_cons_succ]
    refine wpAnyH_take (i := 8) (oi := { dst := some 34, op := _, type := _, pos := _, after := _, guard := _ }) (v := ?_) rfl (by kernel_rfl) (by kernel_rfl) (by kernel_rfl) (fun _ _ _ h => h) (Or.inl ⟨by kernel_rfl, ?_⟩) (by assumption) ?_
    rotate_left
    · (intro w hSw; go_simp; try with_reducible rfl)
    try simp only [Act.put, List.setIfInBounds_toArray, List.set_cons_zero, List.set_cons_succ]
    refine wpAnyH_take (i := 9) (oi := { dst := some 35, op := _, type := _, pos := _, after := _, guard := _ }) (v := ?_) rfl (by kernel_rfl) (by kernel_rfl) (by kernel_rfl) (fun _ _ _ h => h) (Or.inl ⟨by kernel_rfl, ?_⟩) (by assumption) ?_
    rotate_left
    · (intro w hSw; go_simp; try with_reducible rfl)
    try simp only [Act.put, List.setIfInBounds_toArray, List.set_cons_zero, List.set_cons_succ]
    refine wpAnyH_take (i := 10) (oi := { dst := some 36, op := _, type := _, pos := _, after := _, guard := _ }) (v := ?_) rfl (by kernel_rfl) (by kernel_rfl) (by kernel_rfl) (fun _ _ _ h => h) (Or.inl ⟨by kernel_rfl, ?_⟩) (by assumption) ?_
    rotate_left
    · (intro w hSw; go_simp; try with_reducible rfl)
    try simp only [Act.put, List.setIfInBounds_toArray, List.set_cons_zero, List.set_cons_succ]
    refine wpAnyH_take (i := 11) (oi := { dst := some 37, op := _, type := _, pos := _, after := _, guard := _ }) (v := ?_) rfl (by kernel_rfl) (by kernel_rfl) (by kernel_rfl) (fun _ _ _ h => h) (Or.inl ⟨by kernel_rfl, ?_⟩) (by assumption) ?_
    rotate_left
    · (intro w hSw; go_simp; try with_reducible rfl)
    try simp only [Act.put, List.setIfInBounds_toArray, List.set_cons_zero, List.set_cons_succ]
    refine wpAnyH_take (i := 12) (oi := { dst := some 38, op := _, type := _, pos := _, after := _, guard := _ }) (v := ?_) rfl (by kernel_rfl) (by kernel_rfl) (by kernel_rfl) (fun _ _ _ h => h) (Or.inl ⟨by kernel_rfl, ?_⟩) (by assumption) ?_
    rotate_left
    · (intro w hSw; go_simp; try with_reducible rfl)
    try simp only [Act.put, List.setIfInBounds_toArray, List.set_cons_zero, List.set_cons_succ]
    refine wpAnyH_ready (rs := [13]) (by kernel_rfl) (by simp) ?_
    refine (AllReadyH.cons (o := { dst := some 39, op := _, type := _, pos := _, after := _, guard := _ }) rfl (fun Qc hQc => ?_) AllReadyH.nil)
    go_simp
    go_at_call 95; refine (CF.out _).mono ?_; rintro e x1 ⟨g4, rfl, _, hk4, hbx1⟩; have P4 := hid hk4; clear hk4
    have Gx1 := hid (Gx0.out.below hbx1)
    clear hbx1
    go_wp2_with fail
    refine hQc.out _ _ Gx1 (fun hHeld => ?_)
    clear hQc Qc Gx0
    try simp only [Act.put, List.setIfInBounds_toArray, List.set_cons_zero, List.set_cons_succ]
    refine wpAnyH_ready (rs := [14]) (by kernel_rfl) (by simp) ?_
    refine (AllReadyH.cons (o := { dst := some 40, op := _, type := _, pos := _, after := _, guard := _ }) rfl (fun Qc hQc => ?_) AllReadyH.nil)
    rw [if_pos (by rfl)]
    refine wp_rows_two (.tmp 37) (.tmp 39) rfl (some ⟨s, 2, none⟩) (some ⟨g4, 0, none⟩) 32 32 4 4 rfl rfl ?_
    have Gx2 := hid (Gx1.out.alloc (.cells #[.slice (some ⟨s, 2, none⟩) 32 32, .slice (some ⟨g4, 0, none⟩) 4 4] 29))
    have PB := hid (Blk.new x1 29 #[.slice (some ⟨s, 2, none⟩) 32 32, .slice (some ⟨g4, 0, none⟩) 4 4])
    have P4 := hid (P4.out.alloc (.cells #[.slice (some ⟨s, 2, none⟩) 32 32, .slice (some ⟨g4, 0, none⟩) 4 4] 29))
    refine hQc.out _ _ Gx2 (fun hHeld => ?_)
    clear hQc Qc Gx1
    generalize x1.alloc (.cells #[.slice (some ⟨s, 2, none⟩) 32 32, .slice (some ⟨g4, 0, none⟩) 4 4] 29) = x2 at Gx2 PB P4 hHeld ⊢
    generalize x1.heap.size = gl at PB ⊢
    try simp only [Act.put, List.setIfInBounds_toArray, List.set_cons_zero, List.set_cons_succ]
    refine wpAnyH_ready (rs := [15]) (by kernel_rfl) (by simp) ?_
    refine (AllReadyH.cons (o := { dst := some 41, op := _, type := _, pos := _, after := _, guard := _ }) rfl (fun Qc hQc => ?_) AllReadyH.nil)
    go_simp
    go_at_call 64; refine (CG.out _ _ _ P4.out PB.out Gx2.out.b0 Gx2.out.bl).mono ?_; rintro e x3 ⟨l, rfl, htl, hbx3⟩; have TL := hid htl; clear htl
    have Gx3 := hid (Gx2.out.below hbx3)
    clear hbx3
    go_wp2_with fail
    refine hQc.out _ _ Gx3 (fun hHeld => ?_)
    clear hQc Qc Gx2
    try simp only [Act.put, List.setIfInBounds_toArray, List.set_cons_zero, List.set_cons_succ]
    refine wpAnyH_take (i := 16) (oi := { dst := some 25, op := _, type := _, pos := _, after := _, guard := _ }) (v := ?_) rfl (by kernel_rfl) (by kernel_rfl) (by kernel_rfl) (fun _ _ _ h => h) (Or.inl ⟨by kernel_rfl, ?_⟩) (by assumption) ?_
    rotate_left
    · (intro w hSw; go_simp; try with_reducible rfl)
    try simp only [Act.put, List.setIfInBounds_toArray, List.set_cons_zero, List.set_cons_succ]
    refine wpAnyH_take (i := 17) (oi := { dst := some 42, op := _, type := _, pos := _, after := _, guard := _ }) (v := ?_) rfl (by kernel_rfl) (by kernel_rfl) (by kernel_rfl) (fun _ _ _ h => h) (Or.inl ⟨by kernel_rfl, ?_⟩) (by assumption) ?_
    rotate_left
    · (intro w hSw; go_simp; try with_reducible rfl)
    try simp only [Act.put, List.setIfInBounds_toArray, List.set_cons_zero, List.set_cons_succ]
    refine wpAnyH_take (i := 18) (oi := { dst := some 43, op := _, type := _, pos := _, after := _, guard := _ }) (v := ?_) rfl (by kernel_rfl) (by kernel_rfl) (by kernel_rfl) (fun _ _ _ h => h) (Or.inl ⟨by kernel_rfl, ?_⟩) (by assumption) ?_
    rotate_left
    · (intro w hSw; go_simp; try with_reducible rfl)
    try simp only [Act.put, List.setIfInBounds_toArray, List.set_cons_zero, List.set_cons_succ]
    refine wpAnyH_take (i := 19) (oi := { dst := some 6, op := _, type := _, pos := _, after := _, guard := _ }) (v := ?_) rfl (by kernel_rfl) (by kernel_rfl) (by kernel_rfl) (fun _ _ _ h => h) (Or.inl ⟨by kernel_rfl, ?_⟩) (by assumption) ?_
    rotate_left
    · (intro w hSw; go_simp; try with_reducible rfl)
    try simp only [Act.put, List.setIfInBounds_toArray, List.set_cons_zero, List.set_cons_succ]
    refine wpAnyH_take (i := 20) (oi := { dst := some 7, op := _, type := _, pos := _, after := _, guard := _ }) (v := ?_) rfl (by kernel_rfl) (by kernel_rfl) (by kernel_rfl) (fun _ _ _ h => h) (Or.inl ⟨by kernel_rfl, ?_⟩) (by assumption) ?_
    rotate_left
    · (intro w hSw; go_simp; try with_reducible rfl)
    try simp only [Act.put, List.setIfInBounds_toArray, List.set_cons_zero, List.set_cons_succ]
    refine wpAnyH_done (by kernel_rfl) ?_ _
    try simp only [Act.put, List.setIfInBounds_toArray, List.set_cons_zero, List.set_cons_succ]
    have G1 := hid Gx3.out
    have TL1 := hid TL.out
    generalize x3 = w1 at G1 TL1 ⊢
    obtain ⟨e35, f35⟩ := HC35.out _ G1.out.b0
    obtain ⟨e36, f36⟩ := HC36.out _ G1.out.b0
    go_wp2_with fail
    go_ret2
    exact ⟨l, rfl, HFIN.out _ _ G1.out.b0 G1.out.bl TL1.out⟩
  · by_cases hji : j = i
    · subst hji
      have HL := hid hlt
      clear HFIN CF CG HRS HC0 HC1 HC35 HC36
      have hjb : (((j : Nat) : Int) == ((j : Nat) : Int)) = true := by simp
      go_enter Tryd.func68, Tryd.ntmps68
      go_wp2_with fail
      go_ret2
      exact ⟨l, rfl, HL.out, HSG.out, OnlyS.refl _ _⟩
    · have hjb : (((j : Nat) : Int) == ((i : Nat) : Int)) = false := by simp; omega
      have hjn : ¬ ((j : Nat) : Int) = ((i : Nat) : Int) := by omega
      clear hlt hji
      go_enter Tryd.func68, Tryd.ntmps68
      go_wp2_with fail
      refine wp_region_held (S := fun w' => Hid (Sw C s w w')) (by kernel_rfl) ?_
      change wpAnyH _ _ _ _ _ _ _ _ w.drew
      have Gx0 : Hid (Sw C s w w.drew) := GT.out.drew
      have HBx0 : Below w.heap.size w w.drew := (Below.refl _ _).drew
      clear HBx0
      generalize w.drew = x0 at Gx0  ⊢
      refine wpAnyH_take (i := 0) (oi := { dst := some 26, op := _, type := _, pos := _, after := _, guard := _ }) (v := ?_) rfl (by kernel_rfl) (by kernel_rfl) (by kernel_rfl) (fun _ _ _ h => h) (Or.inl ⟨by kernel_rfl, ?_⟩) (by assumption) ?_
      rotate_left
      · (intro w hSw; go_simp; try with_reducible rfl)
      try simp only [Act.put, List.setIfInBounds_toArray, List.set_cons_zero, List.set_cons_succ]
      refine wpAnyH_take (i := 1) (oi := { dst := some 27, op := _, type := _, pos := _, after := _, guard := _ }) (v := ?_) rfl (by kernel_rfl) (by kernel_rfl) (by kernel_rfl) (fun _ _ _ h => h) (Or.inl ⟨by kernel_rfl, ?_⟩) (by assumption) ?_
      rotate_left
      · (intro w hSw; go_simp; try with_reducible rfl)
      try simp only [Act.put, List.setIfInBounds_toArray, List.set_cons_zero, List.set_cons_succ]
      refine wpAnyH_take (i := 2) (oi := { dst := some 28, op := _, type := _, pos := _, after := _, guard := _ }) (v := ?_) rfl (by kernel_rfl) (by kernel_rfl) (by kernel_rfl) (fun _ _ _ h => h) (Or.inl ⟨by kernel_rfl, ?_⟩) (by assumption) ?_
      rotate_left
      · (intro w hSw; go_simp; try with_reducible rfl)
      try simp only [Act.put, List.setIfInBounds_toArray, List.set_cons_zero, List.set_cons_succ]
      refine wpAnyH_take (i := 3) (oi := { dst := some 29, op := _, type := _, pos := _, after := _, guard := _ }) (v := ?_) rfl (by kernel_rfl) (by kernel_rfl) (by kernel_rfl) (fun _ _ _ h => h) (Or.inl ⟨by kernel_rfl, ?_⟩) (by assumption) ?_
      rotate_left
      · (intro w hSw; have c0 := HC0.out _ (Hid.out hSw).b0; go_simp; try with_reducible rfl)
      try simp only [Act.put, List.setIfInBounds_toArray, List.set_cons_zero, List.set_cons_succ]
      refine wpAnyH_take (i := 4) (oi := { dst := some 30, op := _, type := _, pos := _, after := _, guard := _ }) (v := ?_) rfl (by kernel_rfl) (by kernel_rfl) (by kernel_rfl) (fun _ _ _ h => h) (Or.inl ⟨by kernel_rfl, ?_⟩) (by assumption) ?_
      rotate_left
      · (intro w hSw; go_simp; try with_reducible rfl)
      try simp only [Act.put, List.setIfInBounds_toArray, List.set_cons_zero, List.set_cons_succ]
      refine wpAnyH_take (i := 5) (oi := { dst := some 31, op := _, type := _, pos := _, after := _, guard := _ }) (v := ?_) rfl (by kernel_rfl) (by kernel_rfl) (by kernel_rfl) (fun _ _ _ h => h) (Or.inl ⟨by kernel_rfl, ?_⟩) (by assumption) ?_
      rotate_left
      · (intro w hSw; go_simp; try with_reducible rfl)
      try simp only [Act.put, List.setIfInBounds_toArray, List.set_cons_zero, List.set_cons_succ]
      refine wpAnyH_take (i := 6) (oi := { dst := some 32, op := _, type := _, pos := _, after := _, guard := _ }) (v := ?_) rfl (by kernel_rfl) (by kernel_rfl) (by kernel_rfl) (fun _ _ _ h => h) (Or.inl ⟨by kernel_rfl, ?_⟩) (by assumption) ?_
      rotate_left
      · (intro w hSw; go_simp; try with_reducible rfl)
      try simp only [Act.put, List.setIfInBounds_toArray, List.set_cons_zero, List.set_cons_succ]
      refine wpAnyH_take (i := 7) (oi := { dst := some 33, op := _, type := _, pos := _, after := _, guard := _ }) (v := ?_) rfl (by kernel_rfl) (by kernel_rfl) (by kernel_rfl) (fun _ _ _ h => h) (Or.inl ⟨by kernel_rfl, ?_⟩) (by assumption) ?_
      rotate_left
      · (intro w hSw; have c1 := HC1.out _ (Hid.out hSw).b0; go_simp; try with_reducible rfl)
      try simp only [Act.put, List.setIfInBounds_toArray, List.set_cons_zero, List.set_cons_succ]
      refine wpAnyH_take (i := 8) (oi := { dst := some 34, op := _, type := _, pos := _, after := _, guard := _ }) (v := ?_) rfl (by kernel_rfl) (by kernel_rfl) (by kernel_rfl) (fun _ _ _ h => h) (Or.inl ⟨by kernel_rfl, ?_⟩) (by assumption) ?_
      rotate_left
      · (intro w hSw; go_simp; try with_reducible rfl)
      try simp only [Act.put, List.setIfInBounds_toArray, List.set_cons_zero, List.set_cons_succ]
      refine wpAnyH_take (i := 9) (oi := { dst := some 35, op := _, type := _, pos := _, after := _, guard := _ }) (v := ?_) rfl (by kernel_rfl) (by kernel_rfl) (by kernel_rfl) (fun _ _ _ h => h) (Or.inl ⟨by kernel_rfl, ?_⟩) (by assumption) ?_
      rotate_left
      · (intro w hSw; go_simp; try with_reducible rfl)
      try simp only [Act.put, List.setIfInBounds_toArray, List.set_cons_zero, List.set_cons_succ]
      refine wpAnyH_take (i := 10) (oi := { dst := some 36, op := _, type := _, pos := _, after := _, guard := _ }) (v := ?_) rfl (by kernel_rfl) (by kernel_rfl) (by kernel_rfl) (fun _ _ _ h => h) (Or.inl ⟨by kernel_rfl, ?_⟩) (by assumption) ?_
      rotate_left
      · (intro w hSw; go_simp; try with_reducible rfl)
      try simp only [Act.put, List.setIfInBounds_toArray, List.set_cons_zero, List.set_cons_succ]
      refine wpAnyH_take (i := 11) (oi := { dst := some 37, op := _, type := _, pos := _, after := _, guard := _ }) (v := ?_) rfl (by kernel_rfl) (by kernel_rfl) (by kernel_rfl) (fun _ _ _ h => h) (Or.inl ⟨by kernel_rfl, ?_⟩) (by assumption) ?_
      rotate_left
      · (intro w hSw; go_simp; try with_reducible rfl)
      try simp only [Act.put, List.setIfInBounds_toArray, List.set_cons_zero, List.set_cons_succ]
      refine wpAnyH_take (i := 12) (oi := { dst := some 38, op := _, type := _, pos := _, after := _, guard := _ }) (v := ?_) rfl (by kernel_rfl) (by kernel_rfl) (by kernel_rfl) (fun _ _ _ h => h) (Or.inl ⟨by kernel_rfl, ?_⟩) (by assumption) ?_
      rotate_left
      · (intro w hSw; go_simp; try with_reducible rfl)
      try simp only [Act.put, List.setIfInBounds_toArray, List.set_cons_zero, List.set_cons_succ]
      refine wpAnyH_ready (rs := [13]) (by kernel_rfl) (by simp) ?_
      refine (AllReadyH.cons (o := { dst := some 39, op := _, type := _, pos := _, after := _, guard := _ }) rfl (fun Qc hQc => ?_) AllReadyH.nil)
      go_simp
      go_at_call 95; refine (CF.out _).mono ?_; rintro e x1 ⟨g4, rfl, _, hk4, hbx1⟩; have P4 := hid hk4; clear hk4
      have Gx1 := hid (Gx0.out.below hbx1)
      clear hbx1
      go_wp2_with fail
      refine hQc.out _ _ Gx1 (fun hHeld => ?_)
      clear hQc Qc Gx0
      try simp only [Act.put, List.setIfInBounds_toArray, List.set_cons_zero, List.set_cons_succ]
      refine wpAnyH_ready (rs := [14]) (by kernel_rfl) (by simp) ?_
      refine (AllReadyH.cons (o := { dst := some 40, op := _, type := _, pos := _, after := _, guard := _ }) rfl (fun Qc hQc => ?_) AllReadyH.nil)
      rw [if_pos (by rfl)]
      refine wp_rows_two (.tmp 37) (.tmp 39) rfl (some ⟨s, 2, none⟩) (some ⟨g4, 0, none⟩) 32 32 4 4 rfl rfl ?_
      have Gx2 := hid (Gx1.out.alloc (.cells #[.slice (some ⟨s, 2, none⟩) 32 32, .slice (some ⟨g4, 0, none⟩) 4 4] 29))
      have PB := hid (Blk.new x1 29 #[.slice (some ⟨s, 2, none⟩) 32 32, .slice (some ⟨g4, 0, none⟩) 4 4])
      have P4 := hid (P4.out.alloc (.cells #[.slice (some ⟨s, 2, none⟩) 32 32, .slice (some ⟨g4, 0, none⟩) 4 4] 29))
      refine hQc.out _ _ Gx2 (fun hHeld => ?_)
      clear hQc Qc Gx1
      generalize x1.alloc (.cells #[.slice (some ⟨s, 2, none⟩) 32 32, .slice (some ⟨g4, 0, none⟩) 4 4] 29) = x2 at Gx2 PB P4 hHeld ⊢
      generalize x1.heap.size = gl at PB ⊢
      try simp only [Act.put, List.setIfInBounds_toArray, List.set_cons_zero, List.set_cons_succ]
      refine wpAnyH_ready (rs := [15]) (by kernel_rfl) (by simp) ?_
      refine (AllReadyH.cons (o := { dst := some 41, op := _, type := _, pos := _, after := _, guard := _ }) rfl (fun Qc hQc => ?_) AllReadyH.nil)
      go_simp
      go_at_call 64; refine (CG.out _ _ _ P4.out PB.out Gx2.out.b0 Gx2.out.bl).mono ?_; rintro e x3 ⟨l, rfl, htl, hbx3⟩; have TL := hid htl; clear htl
      have Gx3 := hid (Gx2.out.below hbx3)
      clear hbx3
      go_wp2_with fail
      refine hQc.out _ _ Gx3 (fun hHeld => ?_)
      clear hQc Qc Gx2
      try simp only [Act.put, List.setIfInBounds_toArray, List.set_cons_zero, List.set_cons_succ]
      refine wpAnyH_take (i := 16) (oi := { dst := some 25, op := _, type := _, pos := _, after := _, guard := _ }) (v := ?_) rfl (by kernel_rfl) (by kernel_rfl) (by kernel_rfl) (fun _ _ _ h => h) (Or.inl ⟨by kernel_rfl, ?_⟩) (by assumption) ?_
      rotate_left
      · (intro w hSw; go_simp; try with_reducible rfl)
      try simp only [Act.put, List.setIfInBounds_toArray, List.set_cons_zero, List.set_cons_succ]
      refine wpAnyH_take (i := 17) (oi := { dst := some 42, op := _, type := _, pos := _, after := _, guard := _ }) (v := ?_) rfl (by kernel_rfl) (by kernel_rfl) (by kernel_rfl) (fun _ _ _ h => h) (Or.inl ⟨by kernel_rfl, ?_⟩) (by assumption) ?_
      rotate_left
      · (intro w hSw; go_simp; try with_reducible rfl)
      try simp only [Act.put, List.setIfInBounds_toArray, List.set_cons_zero, List.set_cons_succ]
      refine wpAnyH_take (i := 18) (oi := { dst := some 43, op := _, type := _, pos := _, after := _, guard := _ }) (v := ?_) rfl (by kernel_rfl) (by kernel_rfl) (by kernel_rfl) (fun _ _ _ h => h) (Or.inl ⟨by kernel_rfl, ?_⟩) (by assumption) ?_
      rotate_left
      · (intro w hSw; go_simp; try with_reducible rfl)
      try simp only [Act.put, List.setIfInBounds_toArray, List.set_cons_zero, List.set_cons_succ]
      refine wpAnyH_take (i := 19) (oi := { dst := some 6, op := _, type := _, pos := _, after := _, guard := _ }) (v := ?_) rfl (by kernel_rfl) (by kernel_rfl) (by kernel_rfl) (fun _ _ _ h => h) (Or.inl ⟨by kernel_rfl, ?_⟩) (by assumption) ?_
      rotate_left
      · (intro w hSw; go_simp; try with_reducible rfl)
      try simp only [Act.put, List.setIfInBounds_toArray, List.set_cons_zero, List.set_cons_succ]
      refine wpAnyH_take (i := 20) (oi := { dst := some 7, op := _, type := _, pos := _, after := _, guard := _ }) (v := ?_) rfl (by kernel_rfl) (by kernel_rfl) (by kernel_rfl) (fun _ _ _ h => h) (Or.inl ⟨by kernel_rfl, ?_⟩) (by assumption) ?_
      rotate_left
      · (intro w hSw; go_simp; try with_reducible rfl)
      try simp only [Act.put, List.setIfInBounds_toArray, List.set_cons_zero, List.set_cons_succ]
      refine wpAnyH_done (by kernel_rfl) ?_ _
      try simp only [Act.put, List.setIfInBounds_toArray, List.set_cons_zero, List.set_cons_succ]
      have G1 := hid Gx3.out
      have TL1 := hid TL.out
      generalize x3 = w1 at G1 TL1 ⊢
      obtain ⟨e35, f35⟩ := HC35.out _ G1.out.b0
      obtain ⟨e36, f36⟩ := HC36.out _ G1.out.b0
      go_wp2_with fail
      go_ret2
      exact ⟨l, rfl, HFIN.out _ _ G1.out.b0 G1.out.bl TL1.out⟩
end Go.Proofs.YtobceieadjpaaaaDoor
/-
  What is proved here: the code's n-th signature.
-/
namespace Go.Proofs.YtobceieadjpaaaaDoor
open Go.ChangeShapes Go.WideShapes Go.ChangeAt Go.RowKit
set_option linter.unusedVariables false
set_option maxRecDepth 20000

theorem hSign_spent (s : Nat) (t b k : Int) (sd : List Int) (q : Int) (A : Option Addr) (n c : Nat) (w : World) (h2 : 1 ≤ b ∧ b ≤ 4) (hk : Kd k) (hs : Ky sd) (hsg : SignAt w s t b k sd) (hq : q < 0 ∨ (hkeys t b k : Int) ≤ q) :
    Calls Tryd.prog 31 #[.pointer (some ⟨s, 0, none⟩), .int .i64 q, .slice A n c] w fun e w' => e = .returned (.tuple #[.slice none 0 0, .int .i64 7]) ∧ w = w' := by
  have CK := hid (hKeys_at s t b k sd w h2 hk hs hsg)
  generalize hkeys t b k = K at CK hq
  by_cases hq0 : q < 0
  · have hd : decide (q < 0) = true := decide_eq_true hq0
    clear h2 hk hs hsg hq
    go_enter Tryd.func31, Tryd.ntmps31
    go_wp2_with fail
    go_ret2
    exact ⟨rfl, rfl⟩
  · have hd : decide (q < 0) = false := decide_eq_false hq0
    have hqK : (K : Int) ≤ q := by omega
    have hd2 : decide ((K : Int) ≤ q) = true := decide_eq_true hqK
    clear h2 hk hs hsg hq
    go_enter Tryd.func31, Tryd.ntmps31
    go_wp2_with (go_at_call 27; refine CK.out.mono ?_; rintro e w1 ⟨rfl, rfl⟩)
    go_ret2
    exact ⟨rfl, rfl⟩
theorem WPlain_n (p : Option Addr) (st : List Int) (A : Option Addr) (n cap : Nat) (xs : List Int) (w : World) (hn : n = xs.length) (h : WRep w p (.good st)) (hr : Rp w p A xs) (hl : st.length + xs.length < 1000000000000) :
    Calls Tryd.prog 38 #[.pointer p, .slice A n cap] w fun e w' => e = .returned (.tuple #[]) ∧ WRep w' p (.good (st ++ xs)) ∧ OnlyS (Of p) w w' := by
  subst hn
  exact WPlain_any p (.good st) A cap xs w h hr hl
/-- a signer's cells lie where they lay, behind a tree that was made -/
structure Sv (C : Array Value) (s : Nat) (w w' : World) : Prop where
  b0 : Blk w' (s) 100 C
  bl : Below w.heap.size w w'
section
variable {C : Array Value} {s : Nat} {w w' w2 : World}
theorem Sv.below (h : Sv C s w w') (hb : Below w'.heap.size w' w2) : Sv C s w w2 := ⟨h.b0.below hb, h.bl.trans (hb.mono h.bl.size)⟩
theorem Sv.drew (h : Sv C s w w') : Sv C s w w'.drew := h.below ((Below.refl _ _).drew)
theorem Sv.alloc (h : Sv C s w w') (o : Obj) : Sv C s w (w'.alloc o) := h.below ((Below.refl _ _).alloc (Nat.le_refl _) _)
theorem Sv.row (h : Sv C s w w') {g : Nat} (n0 : s ≠ g) (hg : w.heap.size ≤ g) (cs : Array Value) : Sv C s w (w'.setRow g cs) := ⟨h.b0.rowFar n0 cs, below_setRow h.bl hg cs⟩
end
attribute [local go_sem] Oper.semAt_some
set_option maxHeartbeats 16000000 in
theorem hSign_at (s : Nat) (t b k : Int) (sd : List Int) (n : Nat) (A : Option Addr) (m c : Nat) (M : List Int) (w0 w : World) (h1 : 1 ≤ t ∧ t ≤ 4) (h2 : 1 ≤ b ∧ b ≤ 4) (hk : Kd k) (hs : Ky sd) (hsa : SignAt w s t b k sd) (hn : n < hkeys t b k)
    (hb0 : Below w0.heap.size w0 w) (hs0 : w0.heap.size ≤ s) (hm : m = M.length) (hr : Rp w0 none A M) (hb : Bs M) (hl : M.length < 100000) (hc : m ≤ c) (ht : Tab w0) :
    Calls Tryd.prog 31 #[.pointer (some ⟨s, 0, none⟩), .int .i64 (n : Nat), .slice A m c] w fun e w' => ∃ g, e = .returned (.tuple #[.slice (some ⟨g, 0, none⟩) (hsize t b k) (hsize t b k), .int .i64 0]) ∧ w.heap.size ≤ g ∧ Blk w' g 5 (u8s (hsg t b k sd n M)).toArray ∧ SignAt w' s t b k sd ∧ OnlyS (Of (some ⟨s, 0, none⟩)) w w' := by
  obtain ⟨Z, hz, hz0, z0, z1, z2, z3, z4, hZs⟩ := zero_writer
  have HNW : Hid (∀ w3 : World, WRep (w3.alloc (.cells Z 69)) (some ⟨w3.heap.size, 0, none⟩) (.good [])) := fun w3 => ⟨_, rfl, new_writer (Blk.new w3 69 Z) hz z0.out z1.out z2.out z3.out⟩
  have CK := hid (hKeys_at s t b k sd w h2 hk hs hsa)
  have CE := hid (fun w1 (h : Below w.heap.size w w1) => heach_at s t b k sd w1 h2 hk hs (hsa.below h))
  have hle := hkeys_le t b k
  have hKb := tkeys_pos h2 hk
  have hi : n / tkeys b k < tkeys t k := by rw [Nat.div_lt_iff_lt_mul (by omega)]; exact hn
  have hq : n % tkeys b k < tkeys b k := Nat.mod_lt _ (by omega)
  have CBZ : Hid (∀ wz, Below w.heap.size w wz → Calls Tryd.prog 68 #[.pointer (some ⟨s, 0, none⟩), .int .i64 (n / tkeys b k : Nat)] wz fun e w' => ∃ l, e = .returned (.tuple #[.pointer (some ⟨l, 0, none⟩), .int .i64 0]) ∧ TreeAt w' l b k (cid sd (.some (n / tkeys b k))) (csd sd (.some (n / tkeys b k))) ∧ SignAt w' s t b k sd ∧ OnlyS (Of (some ⟨s, 0, none⟩)) w w') := fun wz hbz =>
    (hbelow_at s t b k sd (n / tkeys b k) wz h2 hk hs (by have := tkeys_le t k; omega) (hsa.below hbz) (ht.below (hb0.trans (hbz.mono hb0.size)))).mono fun e w' ⟨l, he, h1, h2, h3⟩ => ⟨l, he, h1, h2, (OnlyS.of_below hbz (Nat.le_refl _)).trans h3⟩
  have HLEN := hid (hsg_length h1 h2 hk sd n M)
  have HSGE : Hid (hsg t b k sd n M = be 1 4 ++ tsg t k sd (n / tkeys b k) (bpb b k sd (n / tkeys b k)) ++ bpb b k sd (n / tkeys b k) ++ bsg b k sd (n / tkeys b k) (n % tkeys b k) M) := rfl
  have HTL : Hid ((tsg t k sd (n / tkeys b k) (bpb b k sd (n / tkeys b k))).length = tsize t k) := by show _ = _; unfold tsg; exact sgt_length h1 hk _ _
  have HBL : Hid ((bsg b k sd (n / tkeys b k) (n % tkeys b k) M).length = tsize b k) := by show _ = _; unfold bsg; exact sgt_length h2 hk _ _
  have HPL : Hid ((bpb b k sd (n / tkeys b k)).length = 56) := bpb_length ..
  have CPB : Hid (∀ l w2, TreeAt w2 l b k (cid sd (.some (n / tkeys b k))) (csd sd (.some (n / tkeys b k))) → Calls Tryd.prog 20 #[.pointer (some ⟨l, 0, none⟩)] w2 fun e w' => ∃ gp, e = .returned (.slice (some ⟨gp, 0, none⟩) 56 56) ∧ w2.heap.size ≤ gp ∧ Blk w' gp 5 (u8s (bpb b k sd (n / tkeys b k))).toArray ∧ Below w2.heap.size w2 w') := fun l w2 h => sPublic_at l b k _ _ w2 h2 hk (cid_idn _ _) (csd_ky _ _) h
  have CST : Hid (∀ g gp w2, TreeAt w2 g t k (cid sd .none) (csd sd .none) → Blk w2 gp 5 (u8s (bpb b k sd (n / tkeys b k))).toArray → Below w0.heap.size w0 w2 → Calls Tryd.prog 19 #[.pointer (some ⟨g, 0, none⟩), .int .i64 (n / tkeys b k : Nat), .slice (some ⟨gp, 0, none⟩) 56 56] w2 fun e w' => ∃ gh, e = .returned (.tuple #[.slice (some ⟨gh, 0, none⟩) (tsize t k) (tsize t k), .int .i64 0]) ∧ w2.heap.size ≤ gh ∧ Blk w' gh 5 (u8s (tsg t k sd (n / tkeys b k) (bpb b k sd (n / tkeys b k)))).toArray ∧ Below w2.heap.size w2 w') := fun g gp w2 h hp hbl =>
    sSign_at g t k _ _ _ (some ⟨gp, 0, none⟩) 56 56 _ w2 h1 hk (cid_idn _ _) (csd_ky _ _) h hi (bpb_length ..).symm (blk_rp hp) (bpb_bs _ _ _ _) (by rw [bpb_length]; decide) (by decide) (ht.below hbl)
  have CSB : Hid (∀ l w2, TreeAt w2 l b k (cid sd (.some (n / tkeys b k))) (csd sd (.some (n / tkeys b k))) → Below w0.heap.size w0 w2 → Calls Tryd.prog 19 #[.pointer (some ⟨l, 0, none⟩), .int .i64 (n % tkeys b k : Nat), .slice A m c] w2 fun e w' => ∃ gl, e = .returned (.tuple #[.slice (some ⟨gl, 0, none⟩) (tsize b k) (tsize b k), .int .i64 0]) ∧ w2.heap.size ≤ gl ∧ Blk w' gl 5 (u8s (bsg b k sd (n / tkeys b k) (n % tkeys b k) M)).toArray ∧ Below w2.heap.size w2 w') := fun l w2 h hbl =>
    sSign_at l b k _ _ _ A m c M w2 h2 hk (cid_idn _ _) (csd_ky _ _) h hq hm (hr.belowN hbl) hb (by omega) hc (ht.below hbl)
  have HWO : Hid (∀ w1, OnlyS (Of (some ⟨s, 0, none⟩)) w w1 → Below w0.heap.size w0 w1) := fun w1 ho => hb0.trans (ho.below hb0.size (fun k hk => by obtain ⟨a, e, rfl⟩ := hk; injection e with e; subst e; exact hs0))
  have HRD : Hid (∀ (wb : World) (p : Nat) (wa wc : World), wb.heap.size ≤ p → Below wb.heap.size wb wa → OnlyS (Of (some ⟨p, 0, none⟩)) wa wc → Below wb.heap.size wb wc) := fun wb p wa wc hp hb ho => hb.trans (ho.below hb.size (fun k hk => by obtain ⟨a, e, rfl⟩ := hk; injection e with e; subst e; exact hp))
  have HDV : Hid ((n : Int) / (tkeys b k : Int) = ((n / tkeys b k : Nat) : Int)) := (Int.natCast_ediv ..).symm
  have HMD : Hid ((n : Int) % (tkeys b k : Int) = ((n % tkeys b k : Nat) : Int)) := (Int.natCast_emod ..).symm
  have HTDV : Hid ((n : Int).tdiv (tkeys b k : Int) = ((n / tkeys b k : Nat) : Int)) := by show _ = _; rw [Int.tdiv_eq_ediv_of_nonneg (by omega)]; exact HDV.out
  have HTMD : Hid ((n : Int).tmod (tkeys b k : Int) = ((n % tkeys b k : Nat) : Int)) := by show _ = _; rw [Int.tmod_eq_emod_of_nonneg (by omega)]; exact HMD.out
  have hnK : ¬ (hkeys t b k : Int) ≤ (n : Int) := by omega
  have hnd : decide ((hkeys t b k : Int) ≤ (n : Int)) = false := decide_eq_false hnK
  have HI16 : Hid (n / tkeys b k < 16) := by have := tkeys_le t k; show _ < _; omega
  have HQ16 : Hid (n % tkeys b k < 16) := by have := tkeys_le b k; show _ < _; omega
  have LTS := hid (tsize_lim (h := t) (k := k)); have LBS := hid (tsize_lim (h := b) (k := k))
  have HHS := hid hs
  generalize hsg t b k sd n M = SG at HLEN HSGE ⊢
  generalize hsize t b k = HZ9 at HLEN ⊢
  generalize tsg t k sd (n / tkeys b k) (bpb b k sd (n / tkeys b k)) = TG at HSGE HTL CST
  generalize bsg b k sd (n / tkeys b k) (n % tkeys b k) M = BG at HSGE HBL CSB
  generalize bpb b k sd (n / tkeys b k) = PB at HSGE HPL CPB CST
  generalize tsize t k = TS at HTL CST LTS
  generalize tsize b k = BS at HBL CSB LBS
  generalize hkeys t b k = K at CK hnK hnd hn hle
  obtain ⟨KB, hKB⟩ : ∃ KB, KB = tkeys b k := ⟨_, rfl⟩
  rw [← hKB] at hKb hi hq CE CBZ CPB CST CSB HDV HMD HTDV HTMD HI16 HQ16
  obtain ⟨i, hii⟩ : ∃ i, i = n / KB := ⟨_, rfl⟩
  obtain ⟨q, hqq⟩ : ∃ q, q = n % KB := ⟨_, rfl⟩
  rw [← hii] at hi CBZ CPB CST CSB HDV HTDV HI16
  rw [← hqq] at hq CSB HMD HTMD HQ16
  have hwi : IntKind.i64.wrap (i : Int) = (i : Int) := IntWalk.i64_in _ (by have := HI16.out; omega)
  have hwq : IntKind.i64.wrap (q : Int) = (q : Int) := IntWalk.i64_in _ (by have := HQ16.out; omega)
  have hKz : ¬ (KB : Int) = 0 := by omega
  have hKzb : ((KB : Int) == 0) = false := by simp; omega
  have GT : Hid (Bz 0 w w) := ⟨Below.refl _ _⟩
  clear hz z0 z1 z2 z3 z4 hsa hb0 hs0 hm hr hb hl hc ht hn hle hi hq h1 h2 hk hs hKB hii hqq hKb
  go_enter Tryd.func31, Tryd.ntmps31
  go_wp2_with (go_at_call 27; refine CK.out.mono ?_; rintro e w1 ⟨rfl, rfl⟩)
  refine wp_region_held (S := fun w' => Hid (Bz 0 w w')) (by kernel_rfl) ?_
  change wpAnyH _ _ _ _ _ _ _ _ w.drew
  have Gx0 : Hid (Bz 0 w w.drew) := GT.out.drew
  have HBx0 : Below w.heap.size w w.drew := (Below.refl _ _).drew
  clear HBx0
  generalize w.drew = x0 at Gx0  ⊢
  refine wpAnyH_take (i := 0) (oi := { dst := some 25, op := _, type := _, pos := _, after := _, guard := _ }) (v := ?_) rfl (by kernel_rfl) (by kernel_rfl) (by kernel_rfl) (fun _ _ _ h => h) (Or.inl ⟨by kernel_rfl, ?_⟩) (by assumption) ?_
  rotate_left
  · (intro w hSw; go_simp; try with_reducible rfl)
  try simp only [Act.put, List.setIfInBounds_toArray, List.set_cons_zero, List.set_cons_succ]
  refine wpAnyH_take (i := 1) (oi := { dst := some 26, op := _, type := _, pos := _, after := _, guard := _ }) (v := ?_) rfl (by kernel_rfl) (by kernel_rfl) (by kernel_rfl) (fun _ _ _ h => h) (Or.inl ⟨by kernel_rfl, ?_⟩) (by assumption) ?_
  rotate_left
  · (intro w hSw; go_simp; try with_reducible rfl)
  try simp only [Act.put, List.setIfInBounds_toArray, List.set_cons_zero, List.set_cons_succ]
  refine wpAnyH_take (i := 4) (oi := { dst := some 29, op := _, type := _, pos := _, after := _, guard := _ }) (v := ?_) rfl (by kernel_rfl) (by kernel_rfl) (by kernel_rfl) (fun _ _ _ h => h) (Or.inl ⟨by kernel_rfl, ?_⟩) (by assumption) ?_
  rotate_left
  · (intro w hSw; go_simp; try with_reducible rfl)
  try simp only [Act.put, List.setIfInBounds_toArray, List.set_cons_zero, List.set_cons_succ]
  refine wpAnyH_take (i := 5) (oi := { dst := some 30, op := _, type := _, pos := _, after := _, guard := _ }) (v := ?_) rfl (by kernel_rfl) (by kernel_rfl) (by kernel_rfl) (fun _ _ _ h => h) (Or.inl ⟨by kernel_rfl, ?_⟩) (by assumption) ?_
  rotate_left
  · (intro w hSw; go_simp; try with_reducible rfl)
  try simp only [Act.put, List.setIfInBounds_toArray, List.set_cons_zero, List.set_cons_succ]
  refine wpAnyH_ready (rs := [2]) (by kernel_rfl) (by simp) ?_
  refine (AllReadyH.cons (o := { dst := some 27, op := _, type := _, pos := _, after := _, guard := _ }) rfl (fun Qc hQc => ?_) AllReadyH.nil)
  go_simp
  go_at_call 65; refine (CE.out _ Gx0.out.bl).mono ?_; rintro e wq ⟨rfl, rfl⟩
  go_wp2_with fail
  refine hQc.out _ _ Gx0 (fun hHeld => ?_)
  clear hQc Qc
  try simp only [Act.put, List.setIfInBounds_toArray, List.set_cons_zero, List.set_cons_succ]
  refine wpAnyH_take (i := 3) (oi := { dst := some 28, op := _, type := _, pos := _, after := _, guard := _ }) (v := .int .i64 (i : Nat)) rfl (by kernel_rfl) (by kernel_rfl) (by kernel_rfl) (fun _ _ _ h => h) (Or.inl ⟨by kernel_rfl, ?_⟩) (by assumption) ?_
  · (intro w hSw; have hdv := HTDV.out; have hdv2 := HDV.out; go_simp; (try with_reducible rfl); (try simp_all))
  try simp only [Act.put, List.setIfInBounds_toArray, List.set_cons_zero, List.set_cons_succ]
  refine wpAnyH_ready (rs := [6]) (by kernel_rfl) (by simp) ?_
  refine (AllReadyH.cons (o := { dst := some 31, op := _, type := _, pos := _, after := _, guard := _ }) rfl (fun Qc hQc => ?_) AllReadyH.nil)
  go_simp
  go_at_call 65; refine (CE.out _ Gx0.out.bl).mono ?_; rintro e wq ⟨rfl, rfl⟩
  go_wp2_with fail
  refine hQc.out _ _ Gx0 (fun hHeld => ?_)
  clear hQc Qc
  try simp only [Act.put, List.setIfInBounds_toArray, List.set_cons_zero, List.set_cons_succ]
  refine wpAnyH_take (i := 7) (oi := { dst := some 32, op := _, type := _, pos := _, after := _, guard := _ }) (v := .int .i64 (q : Nat)) rfl (by kernel_rfl) (by kernel_rfl) (by kernel_rfl) (fun _ _ _ h => h) (Or.inl ⟨by kernel_rfl, ?_⟩) (by assumption) ?_
  · (intro w hSw; have hdv := HTMD.out; have hdv2 := HMD.out; go_simp; (try with_reducible rfl); (try simp_all))
  try simp only [Act.put, List.setIfInBounds_toArray, List.set_cons_zero, List.set_cons_succ]
  refine wpAnyH_take (i := 8) (oi := { dst := some 8, op := _, type := _, pos := _, after := _, guard := _ }) (v := ?_) rfl (by kernel_rfl) (by kernel_rfl) (by kernel_rfl) (fun _ _ _ h => h) (Or.inl ⟨by kernel_rfl, ?_⟩) (by assumption) ?_
  rotate_left
  · (intro w hSw; go_simp; try with_reducible rfl)
  try simp only [Act.put, List.setIfInBounds_toArray, List.set_cons_zero, List.set_cons_succ]
  refine wpAnyH_take (i := 9) (oi := { dst := some 9, op := _, type := _, pos := _, after := _, guard := _ }) (v := ?_) rfl (by kernel_rfl) (by kernel_rfl) (by kernel_rfl) (fun _ _ _ h => h) (Or.inl ⟨by kernel_rfl, ?_⟩) (by assumption) ?_
  rotate_left
  · (intro w hSw; go_simp; try with_reducible rfl)
  try simp only [Act.put, List.setIfInBounds_toArray, List.set_cons_zero, List.set_cons_succ]
  refine wpAnyH_done (by kernel_rfl) ?_ _
  try simp only [Act.put, List.setIfInBounds_toArray, List.set_cons_zero, List.set_cons_succ]
  have G0 := hid Gx0.out
  have CBX : Hid (∀ wz, Below w.heap.size w wz → Calls Tryd.prog 68 #[.pointer (some ⟨s, 0, none⟩), .int .i64 (i : Nat)] wz fun e w' => ∃ l, e = .returned (.tuple #[.pointer (some ⟨l, 0, none⟩), .int .i64 0]) ∧ TreeAt w' l b k (cid sd (.some i)) (csd sd (.some i)) ∧ SignAt w' s t b k sd ∧ OnlyS (Of (some ⟨s, 0, none⟩)) w w') := CBZ.out
  generalize x0 = wx at G0 ⊢
  clear Gx0 GT CK CE
  go_upto_region 9 with (go_at_call 68; refine (CBX.out _ G0.out.bl).mono ?_; rintro e w1 ⟨l, rfl, htl, hsg1, ho1⟩; have TL1 := hid htl; have HS1 := hid hsg1; have O1 := hid ho1; have B1 := hid (HWO.out _ ho1); clear htl hsg1 ho1)
  obtain ⟨g, la, p, hbs, htr1, _⟩ := HS1.out
  have TG1 := hid htr1
  obtain ⟨C1, hC1⟩ : ∃ C1, C1 = signC b k sd g la p := ⟨_, rfl⟩
  have HC34 : Hid (∀ w', Blk w' s 100 C1 → w'.cell? ⟨s, 34, none⟩ = some (.pointer (some ⟨g, 0, none⟩))) := fun w' h => by rw [h.cell, hC1]; exact signC_t _ _ HHS.out ..
  rw [← hC1] at hbs
  have GV : Hid (Sv C1 s w1 w1) := ⟨hbs, Below.refl _ _⟩
  clear hC1 hbs htr1
  refine wp_region_held (S := fun w' => Hid (Sv C1 s w1 w')) (by kernel_rfl) ?_
  change wpAnyH _ _ _ _ _ _ _ _ w1.drew
  have Gx0 : Hid (Sv C1 s w1 w1.drew) := GV.out.drew
  have HBx0 : Below w1.heap.size w1 w1.drew := (Below.refl _ _).drew
  clear HBx0
  generalize w1.drew = x0 at Gx0  ⊢
  refine wpAnyH_take (i := 0) (oi := { dst := some 43, op := _, type := _, pos := _, after := _, guard := _ }) (v := ?_) rfl (by kernel_rfl) (by kernel_rfl) (by kernel_rfl) (fun _ _ _ h => h) (Or.inl ⟨by kernel_rfl, ?_⟩) (by assumption) ?_
  rotate_left
  · (intro w hSw; go_simp; try with_reducible rfl)
  try simp only [Act.put, List.setIfInBounds_toArray, List.set_cons_zero, List.set_cons_succ]
  refine wpAnyH_take (i := 1) (oi := { dst := some 44, op := _, type := _, pos := _, after := _, guard := _ }) (v := ?_) rfl (by kernel_rfl) (by kernel_rfl) (by kernel_rfl) (fun _ _ _ h => h) (Or.inl ⟨by kernel_rfl, ?_⟩) (by assumption) ?_
  rotate_left
  · (intro w hSw; go_simp; try with_reducible rfl)
  try simp only [Act.put, List.setIfInBounds_toArray, List.set_cons_zero, List.set_cons_succ]
  refine wpAnyH_take (i := 2) (oi := { dst := some 45, op := _, type := _, pos := _, after := _, guard := _ }) (v := ?_) rfl (by kernel_rfl) (by kernel_rfl) (by kernel_rfl) (fun _ _ _ h => h) (Or.inl ⟨by kernel_rfl, ?_⟩) (by assumption) ?_
  rotate_left
  · (intro w hSw; go_simp; try with_reducible rfl)
  try simp only [Act.put, List.setIfInBounds_toArray, List.set_cons_zero, List.set_cons_succ]
  refine wpAnyH_take (i := 3) (oi := { dst := some 46, op := _, type := _, pos := _, after := _, guard := _ }) (v := ?_) rfl (by kernel_rfl) (by kernel_rfl) (by kernel_rfl) (fun _ _ _ h => h) (Or.inl ⟨by kernel_rfl, ?_⟩) (by assumption) ?_
  rotate_left
  · (intro w hSw; have c34 := HC34.out _ (Hid.out hSw).b0; go_simp; try with_reducible rfl)
  try simp only [Act.put, List.setIfInBounds_toArray, List.set_cons_zero, List.set_cons_succ]
  refine wpAnyH_take (i := 4) (oi := { dst := some 47, op := _, type := _, pos := _, after := _, guard := _ }) (v := ?_) rfl (by kernel_rfl) (by kernel_rfl) (by kernel_rfl) (fun _ _ _ h => h) (Or.inl ⟨by kernel_rfl, ?_⟩) (by assumption) ?_
  rotate_left
  · (intro w hSw; go_simp; try with_reducible rfl)
  try simp only [Act.put, List.setIfInBounds_toArray, List.set_cons_zero, List.set_cons_succ]
  refine wpAnyH_take (i := 5) (oi := { dst := some 48, op := _, type := _, pos := _, after := _, guard := _ }) (v := ?_) rfl (by kernel_rfl) (by kernel_rfl) (by kernel_rfl) (fun _ _ _ h => h) (Or.inl ⟨by kernel_rfl, ?_⟩) (by assumption) ?_
  rotate_left
  · (intro w hSw; go_simp; try with_reducible rfl)
  try simp only [Act.put, List.setIfInBounds_toArray, List.set_cons_zero, List.set_cons_succ]
  refine wpAnyH_ready (rs := [6]) (by kernel_rfl) (by simp) ?_
  refine (AllReadyH.cons (o := { dst := some 49, op := _, type := _, pos := _, after := _, guard := _ }) rfl (fun Qc hQc => ?_) AllReadyH.nil)
  go_simp
  go_at_call 20; refine (CPB.out _ _ (TL1.out.below (by have := Gx0.out.bl; exact this))).mono ?_; rintro e x1 ⟨gp, rfl, _, hkp, hbx1⟩; have KP := hid hkp; clear hkp
  have Gx1 := hid (Gx0.out.below hbx1)
  clear hbx1
  go_wp2_with fail
  refine hQc.out _ _ Gx1 (fun hHeld => ?_)
  clear hQc Qc Gx0
  try simp only [Act.put, List.setIfInBounds_toArray, List.set_cons_zero, List.set_cons_succ]
  refine wpAnyH_ready (rs := [7]) (by kernel_rfl) (by simp) ?_
  refine (AllReadyH.cons (o := { dst := some 50, op := _, type := _, pos := _, after := _, guard := _ }) rfl (fun Qc hQc => ?_) AllReadyH.nil)
  go_simp
  go_at_call 19; refine (CST.out _ _ _ (TG1.out.below Gx1.out.bl) KP.out (B1.out.trans (Gx1.out.bl.mono B1.out.size))).mono ?_; rintro e x2 ⟨gh, rfl, _, hkh, hbx2⟩; have KH := hid hkh; clear hkh
  have Gx2 := hid (Gx1.out.below hbx2)
  have KP := hid (KP.out.below hbx2)
  clear hbx2
  go_wp2_with fail
  refine hQc.out _ _ Gx2 (fun hHeld => ?_)
  clear hQc Qc Gx1
  try simp only [Act.put, List.setIfInBounds_toArray, List.set_cons_zero, List.set_cons_succ]
  refine wpAnyH_take (i := 8) (oi := { dst := some 42, op := _, type := _, pos := _, after := _, guard := _ }) (v := ?_) rfl (by kernel_rfl) (by kernel_rfl) (by kernel_rfl) (fun _ _ _ h => h) (Or.inl ⟨by kernel_rfl, ?_⟩) (by assumption) ?_
  rotate_left
  · (intro w hSw; go_simp; try with_reducible rfl)
  try simp only [Act.put, List.setIfInBounds_toArray, List.set_cons_zero, List.set_cons_succ]
  refine wpAnyH_take (i := 9) (oi := { dst := some 51, op := _, type := _, pos := _, after := _, guard := _ }) (v := ?_) rfl (by kernel_rfl) (by kernel_rfl) (by kernel_rfl) (fun _ _ _ h => h) (Or.inl ⟨by kernel_rfl, ?_⟩) (by assumption) ?_
  rotate_left
  · (intro w hSw; go_simp; try with_reducible rfl)
  try simp only [Act.put, List.setIfInBounds_toArray, List.set_cons_zero, List.set_cons_succ]
  refine wpAnyH_take (i := 10) (oi := { dst := some 52, op := _, type := _, pos := _, after := _, guard := _ }) (v := ?_) rfl (by kernel_rfl) (by kernel_rfl) (by kernel_rfl) (fun _ _ _ h => h) (Or.inl ⟨by kernel_rfl, ?_⟩) (by assumption) ?_
  rotate_left
  · (intro w hSw; go_simp; try with_reducible rfl)
  try simp only [Act.put, List.setIfInBounds_toArray, List.set_cons_zero, List.set_cons_succ]
  refine wpAnyH_take (i := 11) (oi := { dst := some 12, op := _, type := _, pos := _, after := _, guard := _ }) (v := ?_) rfl (by kernel_rfl) (by kernel_rfl) (by kernel_rfl) (fun _ _ _ h => h) (Or.inl ⟨by kernel_rfl, ?_⟩) (by assumption) ?_
  rotate_left
  · (intro w hSw; go_simp; try with_reducible rfl)
  try simp only [Act.put, List.setIfInBounds_toArray, List.set_cons_zero, List.set_cons_succ]
  refine wpAnyH_take (i := 12) (oi := { dst := some 11, op := _, type := _, pos := _, after := _, guard := _ }) (v := ?_) rfl (by kernel_rfl) (by kernel_rfl) (by kernel_rfl) (fun _ _ _ h => h) (Or.inl ⟨by kernel_rfl, ?_⟩) (by assumption) ?_
  rotate_left
  · (intro w hSw; go_simp; try with_reducible rfl)
  try simp only [Act.put, List.setIfInBounds_toArray, List.set_cons_zero, List.set_cons_succ]
  refine wpAnyH_done (by kernel_rfl) ?_ _
  try simp only [Act.put, List.setIfInBounds_toArray, List.set_cons_zero, List.set_cons_succ]
  have G2 := hid Gx2.out
  have KH2 := hid KH.out
  generalize x2 = w2 at G2 KH2 ⊢
  clear Gx2 KH KP HC34
  go_wp2_with (first
    | (go_at_call 19; refine (CSB.out _ _ (TL1.out.below G2.out.bl) (B1.out.trans (G2.out.bl.mono B1.out.size))).mono ?_; rintro e w3 ⟨gl, rfl, _, hkl, hb3⟩; have KL3 := hid hkl; have KH3 := hid (KH2.out.below hb3); have B3 := hid (G2.out.bl.trans (hb3.mono G2.out.bl.size)); have L3 := hid (KL3.out.lt); have H3 := hid (KH3.out.lt); clear hkl hb3)
    | (go_at_call 37; refine (WU32_any (some ⟨w3.heap.size, 0, none⟩) (.good []) 1 _ (HNW.out w3) (by decide) (by simp [WS.len])).mono ?_; rintro e w4 ⟨rfl, hw4, ho4⟩; have W4 : Hid (WRep w4 (some ⟨w3.heap.size, 0, none⟩) (.good (be 1 4))) := hw4; have KL4 := hid ((KL3.out.alloc _).only ho4 (not_of (Nat.ne_of_lt L3.out))); have KH4 := hid ((KH3.out.alloc _).only ho4 (not_of (Nat.ne_of_lt H3.out))); have S4 : Hid (w3.heap.size < w4.heap.size) := (by have := ho4.size; simp at this; show _ < _; omega); have B4 := hid (HRD.out w1 w3.heap.size _ _ B3.out.size (B3.out.alloc B3.out.size _) ho4); clear hw4 ho4)
    | (go_at_call 38; (with_reducible refine (WPlain_n (some ⟨w3.heap.size, 0, none⟩) (be 1 4) (some ⟨gh, 0, none⟩) TS TS TG w4 HTL.out.symm W4.out (rp_new KH4.out (Nat.ne_of_lt H3.out)) (by rw [be_length, HTL.out]; have := LTS.out; omega)).mono ?_); rintro e w5 ⟨rfl, hw5, ho5⟩; have W5 := hid hw5; have KL5 := hid (KL4.out.only ho5 (not_of (Nat.ne_of_lt L3.out))); have S5 := hid (Nat.lt_of_lt_of_le S4.out ho5.size); have B5 := hid (HRD.out w1 w3.heap.size _ _ B3.out.size B4.out ho5); clear hw5 ho5)
    | (go_at_call 20; refine (CPB.out _ _ (TL1.out.below B5.out)).mono ?_; rintro e w6 ⟨gq, rfl, hgq, hkq, hb6⟩; have KQ6 := hid hkq; have NQ6 : Hid (gq ≠ w3.heap.size) := (by have := S5.out; show _ ≠ _; omega); have W6 := hid (W5.out.below hb6); have KL6 := hid (KL5.out.below hb6); have B6 := hid (B5.out.trans (hb6.mono B5.out.size)); clear hgq hkq hb6)
    | (go_at_call 38; (with_reducible refine (WPlain_n (some ⟨w3.heap.size, 0, none⟩) (be 1 4 ++ TG) (some ⟨gq, 0, none⟩) 56 56 PB w6 HPL.out.symm W6.out (rp_new KQ6.out NQ6.out) (by rw [List.length_append, be_length, HTL.out, HPL.out]; have := LTS.out; omega)).mono ?_); rintro e w7 ⟨rfl, hw7, ho7⟩; have W7 := hid hw7; have KL7 := hid (KL6.out.only ho7 (not_of (Nat.ne_of_lt L3.out))); have B7 := hid (HRD.out w1 w3.heap.size _ _ B3.out.size B6.out ho7); clear hw7 ho7)
    | (go_at_call 38; refine (WPlain_n (some ⟨w3.heap.size, 0, none⟩) (be 1 4 ++ TG ++ PB) (some ⟨gl, 0, none⟩) BS BS BG w7 HBL.out.symm W7.out (rp_new KL7.out (Nat.ne_of_lt L3.out)) (by rw [List.length_append, List.length_append, be_length, HTL.out, HPL.out, HBL.out]; have := LTS.out; have := LBS.out; omega)).mono ?_; rintro e w8 ⟨rfl, hw8, ho8⟩; have W8 : Hid (WRep w8 (some ⟨w3.heap.size, 0, none⟩) (.good SG)) := (by rw [HSGE.out]; exact hw8); have B8 := hid (HRD.out w1 w3.heap.size _ _ B3.out.size B7.out ho8); have H9 := Out_good (some ⟨w3.heap.size, 0, none⟩) SG w8 W8.out (by rw [HSGE.out, List.length_append, List.length_append, List.length_append, be_length, HTL.out, HPL.out, HBL.out]; have := LTS.out; have := LBS.out; omega); rw [HLEN.out] at H9; have H9 := hid H9; clear hw8 ho8)
    | (go_at_call 42; refine H9.out.mono ?_; rintro e w9 ⟨rfl, hk9, hb9⟩; have K9 := hid hk9; have B9 := hid (B8.out.trans (hb9.mono B8.out.size)); clear hk9 hb9))
  go_ret2
  exact ⟨w8.heap.size, rfl, Nat.le_trans O1.out.size B8.out.size, K9.out, HS1.out.below B9.out, O1.out.trans (OnlyS.of_below B9.out (Nat.le_refl _))⟩
end Go.Proofs.YtobceieadjpaaaaDoor
