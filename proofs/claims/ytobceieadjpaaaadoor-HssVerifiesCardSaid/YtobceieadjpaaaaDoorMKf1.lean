/-
  What is proved here: a key of the code, built; a piece of code whose end is said by a word of one's own; no more than what is new has turned.
-/
import Derived.Test.YtobceieadjpaaaaDoorMKe1
import Derived.Test.YtobceieadjpaaaaDoorMKd1
import Derived.Test.YtobceieadjpaaaaDoorMKa2
import Derived.Laws.Tables
set_option linter.unusedSimpArgs false
set_option linter.unusedVariables false
namespace Go.Proofs.YtobceieadjpaaaaDoor
open Go.ChangeShapes Go.WideShapes Go.ChangeAt Go.RowKit
set_option linter.unusedVariables false
set_option maxRecDepth 20000

theorem built_lit : ∀ (a b c b0 b1 b2 b3 b4 b5 b6 b7 b8 b9 b10 b11 b12 b13 b14 b15 q : Int), Tryd.prog.built 64 [(0, .agg #[.int .i64 a, .int .i64 b, .int .i64 c]), (1, .agg (u8s [b0, b1, b2, b3, b4, b5, b6, b7, b8, b9, b10, b11, b12, b13, b14, b15]).toArray), (2, .int .u32 q)] =
    some (#[.int .i64 a, .int .i64 b, .int .i64 c] ++ (u8s [b0, b1, b2, b3, b4, b5, b6, b7, b8, b9, b10, b11, b12, b13, b14, b15] ++ [Value.int .u32 q]).toArray) := by
  intro a b c b0 b1 b2 b3 b4 b5 b6 b7 b8 b9 b10 b11 b12 b13 b14 b15 q
  kernel_rfl
theorem len_16 (B : List Int) (h : B.length = 16) : ∃ b0 b1 b2 b3 b4 b5 b6 b7 b8 b9 b10 b11 b12 b13 b14 b15 : Int, B = [b0, b1, b2, b3, b4, b5, b6, b7, b8, b9, b10, b11, b12, b13, b14, b15] := by
  match B, h with
  | [b0, b1, b2, b3, b4, b5, b6, b7, b8, b9, b10, b11, b12, b13, b14, b15], _ => exact ⟨b0, b1, b2, b3, b4, b5, b6, b7, b8, b9, b10, b11, b12, b13, b14, b15, rfl⟩
theorem built_key (k : Int) (id : List Int) (q : Int) (hi : Idn id) : Tryd.prog.built 64 [(0, .agg (shp k)), (1, .agg (u8s id).toArray), (2, .int .u32 q)] = some (keyC k id q) := by
  obtain ⟨b0, b1, b2, b3, b4, b5, b6, b7, b8, b9, b10, b11, b12, b13, b14, b15, rfl⟩ := len_16 id hi.len
  have h := built_lit (kbits k : Nat) (kchains k : Nat) (kshift k : Nat) b0 b1 b2 b3 b4 b5 b6 b7 b8 b9 b10 b11 b12 b13 b14 b15 q
  have e : shp k = #[.int .i64 (kbits k : Nat), .int .i64 (kchains k : Nat), .int .i64 (kshift k : Nat)] := rfl
  rw [e, h]
  unfold keyC
  rw [e]
  simp
theorem yieldsIf_build {P : Program} {ops : Array Oper} {S : World → Prop} {o : Oper} {a : Act} (hw : Region.wanted o (yielded ops a.tmps) = true) (ty : TypeId) (xs : Array (Nat × Operand)) (ho : o.op = .build ty xs) (cs : Array Value)
    (hv : P.built ty (xs.map fun (i, x) => (i, a.eval x)).toList = some cs) : YieldsIf P ops S o (.agg cs) a :=
  .inl ⟨hw, fun w _ => by
    unfold execOp
    simp only [ho]
    have := run_build (P := P) w ty (xs.map fun (i, x) => (i, a.eval x)) cs hv
    simp [this, Result.andThen]⟩
theorem yieldsIf_key {ops : Array Oper} {S : World → Prop} {o : Oper} {a : Act} (hw : Region.wanted o (yielded ops a.tmps) = true) (x y z : Operand) (ho : o.op = .build 64 #[(0, x), (1, y), (2, z)]) (k : Int) (id : List Int) (q : Int) (hi : Idn id)
    (hx : a.eval x = .agg (shp k)) (hy : a.eval y = .agg (u8s id).toArray) (hz : a.eval z = .int .u32 q) : YieldsIf Tryd.prog ops S o (.agg (keyC k id q)) a :=
  yieldsIf_build hw 64 #[(0, x), (1, y), (2, z)] ho _ (by
    have e : (Array.map (fun (i, x) => (i, a.eval x)) #[((0 : Nat), x), (1, y), (2, z)]).toList = [(0, .agg (shp k)), (1, .agg (u8s id).toArray), (2, .int .u32 q)] := by simp [hx, hy, hz]
    rw [e]
    exact built_key k id q hi)
theorem key_ch (k : Int) (id : List Int) (q : Int) : (keyC k id q)[1]? = some (.int .i64 (kchains k : Nat)) := by
  unfold keyC
  rw [List.getElem?_toArray]
  rfl
theorem key_shape {w : World} {g : Nat} {k : Int} {id : List Int} {q : Int} (h : Blk w g 64 (keyC k id q)) : w.rangeAt g 0 (shp k).toList := fun j v hv => by
  rw [h.cell, Nat.zero_add]
  unfold keyC
  have hj : j < (shp k).toList.length := by
    rcases Nat.lt_or_ge j (shp k).toList.length with h1 | h1
    · exact h1
    · rw [List.getElem?_eq_none h1] at hv; cases hv
  rw [List.getElem?_toArray, List.getElem?_append_left hj]
  exact hv
theorem key_cinfo (k : Int) {id : List Int} (hi : Idn id) (q : Int) : (Tryd.prog.info? 64).map (·.size) = some (keyC k id q).size := by
  rw [keyC_size k hi q]; exact key_info0
theorem keyC_all (k : Int) (id : List Int) (q : Int) : (keyC k id q).all (·.oneCell') = true := by
  unfold keyC
  rw [List.all_toArray, List.all_append, List.all_append]
  have h : (u8s id).all (·.oneCell') = true := by rw [List.all_eq_true]; exact u8s_one id
  rw [h]
  rfl
theorem zero_key : ∃ Z : Array Value, Z.size = 20 ∧ (¬ Z = #[]) ∧ ∀ w : World, Sem.run Tryd.prog (zeroValue 64) w = Result.ok (.agg Z) w := by
  refine ⟨(.int .i64 0 :: .int .i64 0 :: .int .i64 0 :: (List.replicate 16 (.int .u8 0) ++ [.int .u32 0])).toArray, by simp, ?_, fun w => by kernel_rfl⟩
  intro h
  have := congrArg Array.size h
  simp at this
/-- behind a piece of code: R -/
def Qr (R : Act → World → Prop) : Exit → Act → World → Prop
  | .normal, a, w => R a w
  | _, _, _ => False
theorem wp_cut {P : Program} {c : Code} {Q : Exit → Act → World → Prop} {a : Act} {w : World} (R : Act → World → Prop) (h : c.wp P (Qr R) a w) (hR : ∀ a w, R a w → Q .normal a w) : c.wp P Q a w :=
  wp_mono h fun e a w hq => by cases e <;> first | exact hR _ _ hq | exact hq.elim
/-- what lay lies as it lay -/
structure Bw (w w' : World) : Prop where
  bl : Below w.heap.size w w'
section
variable {w w' w2 : World}
theorem Bw.below (h : Bw w w') (hb : Below w'.heap.size w' w2) : Bw w w2 := ⟨h.bl.trans (hb.mono h.bl.size)⟩
theorem Bw.drew (h : Bw w w') : Bw w w'.drew := h.below ((Below.refl _ _).drew)
theorem Bw.alloc (h : Bw w w') (o : Obj) : Bw w (w'.alloc o) := h.below ((Below.refl _ _).alloc (Nat.le_refl _) _)
theorem Bw.row (h : Bw w w') {g : Nat} (hg : w.heap.size ≤ g) (cs : Array Value) : Bw w (w'.setRow g cs) := ⟨below_setRow h.bl hg cs⟩
end
/-- a key lies in a new block, and no more has turned -/
structure KeyAt (KC : Array Value) (w0 w : World) (g : Nat) : Prop where
  b : Blk w g 64 KC
  le : w0.heap.size ≤ g
  bw : Bw w0 w
theorem make_rows (n : Nat) (hn : n < 1000000) (u : World) : (Instr.makeSlice 29 (.int .i64 0) (.int .i64 (32 * (n : Int)))).run Tryd.prog u =
      .ok (.slice (some ⟨u.heap.size, 0, none⟩) 0 (32 * n)) (u.alloc (.cells (Array.replicate (32 * n) (Value.int .u8 0)) 5)) := by
  have h := make_cap (32 * n) (by omega) u
  rw [show ((32 * n : Nat) : Int) = 32 * (n : Int) by omega] at h
  exact h
end Go.Proofs.YtobceieadjpaaaaDoor
/-
  What is proved here: the code's own public key.
-/
namespace Go.Proofs.YtobceieadjpaaaaDoor
open Go.ChangeShapes Go.WideShapes Go.ChangeAt Go.RowKit
set_option linter.unusedVariables false
set_option maxRecDepth 20000

set_option maxHeartbeats 4000000 in
theorem lPublic_kd (k : Int) (id : List Int) (q : Int) (seed : List Int) (w : World) (hk : Kd k) (hi : Idn id) (hq : 0 ≤ q ∧ q < 4294967296) (hs : Ky seed) (ht : Tab w) :
    Calls Tryd.prog 61 #[.int .i64 k, .agg (u8s id).toArray, .int .u32 q, .agg (u8s seed).toArray] w fun e w' => e = .returned (.tuple #[.agg (u8s (pubK k id q seed)).toArray, .int .i64 0]) ∧ Below w.heap.size w w' := by
  obtain ⟨Z, HZ, hZ0, hZs⟩ := zero_Hash
  obtain ⟨ZK, hzk, hZK0, hZKs⟩ := zero_key
  have hz32 : Z.size = 32 := by rw [HZ.out, List.size_toArray, u8s_length]; simp
  obtain ⟨hk1, hk2, hk3, hb0⟩ := blks3 w (u8s id).toArray (u8s seed).toArray Z 23 26 26
  have K1 := hid hk1; have K2 := hid hk2; have K3 := hid hk3; have B0 := hid hb0
  have S0 : Hid ((((w.alloc (.cells (u8s id).toArray 23)).alloc (.cells (u8s seed).toArray 26)).alloc (.cells Z 26)).heap.size = w.heap.size + 1 + 1 + 1) := by show _ = _; simp
  have CSH := hid (shapeOf_any k)
  have IDI := hid (id_info hi); have HSI := hid (hash_info hs.len); have SHI := hid (shape_info k)
  have KSI := hid (key_cinfo k hi q); have KZS : Hid (ZK.size = (keyC k id q).size) := hzk.trans (keyC_size k hi q).symm
  have KLI := hid (key_info k hi q)
  have KALL := hid (keyC_all k id q); have KCH := hid (key_ch k id q)
  have HIDN := hid hi
  have hm0 : kmost k = (((kmost k).toNat : Nat) : Int) := by rcases hk with rfl | rfl | rfl | rfl <;> decide
  have hm1 : (kmost k).toNat < 256 := by rcases hk with rfl | rfl | rfl | rfl <;> decide
  have CGR := hid (fun w => greatest_any k w hk)
  rw [hm0] at CGR
  have hch : kchains k ≤ 265 := kchains_le k
  have hkz : ((kchains k : Nat) : Int) ≠ 0 := by rcases hk with rfl | rfl | rfl | rfl <;> decide
  have hkb : (((kchains k : Nat) : Int) == 0) = false := by simpa using hkz
  have hmk := make_rows (kchains k) (by omega)
  have HP : Hid (pubK k id q seed = under id q 32896 (rowsOf (kchains k) fun i => steps id q i (begn id q i seed) 0 (kmost k).toNat)) := rfl
  generalize pubK k id q seed = PK at HP ⊢
  generalize (kmost k).toNat = mm at CGR HP hm1
  generalize kchains k = ch at KCH hch hkz hkb hmk HP
  have CSE := hid (fun (i : Nat) (w1 : World) (h : i < ch) (hb : Below w.heap.size w w1) => secret_any k id q i seed w1 hi hq (by omega) hs (ht.below hb))
  have CWK : Hid (∀ (i : Nat) (w1 : World), i < ch → Below w.heap.size w w1 → Calls Tryd.prog 41 #[.agg (keyC k id q), .int .i64 i, .agg (u8s (begn id q i seed)).toArray, .int .i64 0, .int .i64 mm] w1 fun e w' => e = .returned (.agg (u8s (steps id q i (begn id q i seed) 0 mm)).toArray) ∧ Below w1.heap.size w1 w') :=
    fun i w1 h hb => walk_any k id q i (begn id q i seed) 0 mm w1 hi hq (by omega) (under_ky _ _ _ _) (by omega) hm1 (ht.below hb)
  obtain ⟨F, hF⟩ : ∃ F : Nat → List Int, F = fun (i : Nat) => steps id q i (begn id q i seed) 0 mm := ⟨_, rfl⟩
  rw [← hF] at HP
  have HFF : Hid (∀ i : Nat, steps id q i (begn id q i seed) 0 mm = F i) := fun i => by rw [hF]
  have FKY : Hid (∀ i, Ky (F i)) := fun i => by rw [hF]; exact steps_ky (under_ky _ _ _ _) _ _
  have F32 : Hid (∀ i, (F i).length = 32) := fun i => (FKY.out i).len
  have CSU := hid (fun (A : Option Addr) (w1 : World) (h : InR w1 A 1 [rowsOf ch F]) (hb : Below w.heap.size w w1) => ksum_any k id q 32896 A 1 1 [rowsOf ch F] w1 hi hq (by decide) h (by decide) (fun f hf => by
    simp only [List.mem_cons, List.not_mem_nil, or_false] at hf
    subst hf
    rw [rowsOf_length _ _ F32.out]; omega) (fun f hf => by
    simp only [List.mem_cons, List.not_mem_nil, or_false] at hf
    subst hf
    exact rowsOf_bs _ _ fun i => (FKY.out i).bs) (by simp only [List.flatten_cons, List.flatten_nil, List.append_nil]; rw [rowsOf_length _ _ F32.out]; omega) (ht.below hb))
  rw [show [rowsOf ch F].flatten = rowsOf ch F by simp, ← HP.out] at CSU
  have hPK : PK.length = 32 := by rw [HP.out]; exact (under_ky _ _ _ _).len
  have HPI := hid (info_hash PK hPK); have HPS := hid (hash_size hPK)
  have HZ32' := hid hz32
  clear hk1 hk2 hk3 hb0 hzk hF hPK hz32 hm0 hm1 hk hi hq hs ht
  go_enter Tryd.func61, Tryd.ntmps61
  go_wp2
  generalize ((w.alloc (.cells (u8s id).toArray 23)).alloc (.cells (u8s seed).toArray 26)).alloc (.cells Z 26) = w0 at K1 K2 K3 B0 S0 ⊢
  refine wp_cut (fun a' w' => ∃ g, a' = { tmps := #[.int .i64 k, .agg (u8s id).toArray, .int .u32 q, .agg (u8s seed).toArray, undef, .pointer (some ⟨w.heap.size, 0, none⟩), undef, .pointer (some ⟨w.heap.size + 1, 0, none⟩), .pointer (some ⟨w.heap.size + 1 + 1, 0, none⟩), .int .i64 0, .pointer (some ⟨g, 0, none⟩), undef, undef, undef, .int .i64 k, .agg (shp k), .agg (u8s id).toArray, .int .u32 q, .agg (keyC k id q), undef, undef, undef, undef, undef, undef, undef, undef, undef, undef, undef, undef, undef, undef, undef, undef, undef, undef, undef, undef, undef, undef, undef, undef, undef, undef, undef, undef, undef, undef, undef, undef, undef, undef], defers := [] } ∧ KeyAt (keyC k id q) w0 w' g) ?_ ?_
  · have hmk2 := hmk
    clear hmk2
    have GB0 : Hid (Bw w0 w0) := ⟨Below.refl _ _⟩
    refine wp_region_held (S := fun w' => Hid (Bw w0 w')) (by kernel_rfl) ?_
    change wpAnyH _ _ _ _ _ _ _ _ w0.drew
    have Gx0 : Hid (Bw w0 w0.drew) := GB0.out.drew
    have HBx0 : Below w0.heap.size w0 w0.drew := (Below.refl _ _).drew
    clear HBx0
    generalize w0.drew = x0 at Gx0  ⊢
    refine wpAnyH_take (i := 0) (oi := { dst := some 14, op := _, type := _, pos := _, after := _, guard := _ }) (v := ?_) rfl (by kernel_rfl) (by kernel_rfl) (by kernel_rfl) (fun _ _ _ h => h) (Or.inl ⟨by kernel_rfl, ?_⟩) (by assumption) ?_
    rotate_left
    · (intro w hSw; go_simp; try with_reducible rfl)
    try simp only [Act.put, List.setIfInBounds_toArray, List.set_cons_zero, List.set_cons_succ]
    refine wpAnyH_take (i := 2) (oi := { dst := some 16, op := _, type := _, pos := _, after := _, guard := _ }) (v := .agg ((u8s id).toArray)) rfl (by kernel_rfl) (by kernel_rfl) (by kernel_rfl) (fun _ _ _ h => h) (yieldsIf_load_mid (cs := u8s id) (by rfl) _ _ rfl _ _ rfl _ (fun w' hSw => blk_row (K1.out.below (Hid.out hSw).bl)) Tryd.underlying23 rfl IDI.out) (by assumption) ?_
    try simp only [Act.put, List.setIfInBounds_toArray, List.set_cons_zero, List.set_cons_succ]
    refine wpAnyH_take (i := 3) (oi := { dst := some 17, op := _, type := _, pos := _, after := _, guard := _ }) (v := ?_) rfl (by kernel_rfl) (by kernel_rfl) (by kernel_rfl) (fun _ _ _ h => h) (Or.inl ⟨by kernel_rfl, ?_⟩) (by assumption) ?_
    rotate_left
    · (intro w hSw; go_simp; try with_reducible rfl)
    try simp only [Act.put, List.setIfInBounds_toArray, List.set_cons_zero, List.set_cons_succ]
    refine wpAnyH_ready (rs := [1, 5]) (by kernel_rfl) (by simp) ?_
    refine (AllReadyH.cons (o := { dst := some 15, op := _, type := _, pos := _, after := _, guard := _ }) rfl (fun Qc hQc => ?_) (AllReadyH.cons (o := { dst := some 10, op := _, type := _, pos := _, after := _, guard := _ }) rfl (fun Qc hQc => ?_) AllReadyH.nil))
    ·
      go_simp
      go_at_call 35; refine (CSH.out _).mono ?_; rintro e x1 ⟨rfl, hbx1⟩
      have Gx1 := hid (Gx0.out.below hbx1)
      clear hbx1
      go_wp2_with fail
      refine hQc.out _ _ Gx1 (fun hHeld => ?_)
      clear hQc Qc Gx0
      try simp only [Act.put, List.setIfInBounds_toArray, List.set_cons_zero, List.set_cons_succ]
      refine wpAnyH_take (i := 4) (oi := { dst := some 18, op := _, type := _, pos := _, after := _, guard := _ }) (v := .agg (keyC k id q)) rfl (by kernel_rfl) (by kernel_rfl) (by kernel_rfl) (fun _ _ _ h => h) (yieldsIf_key (by rfl) (.tmp 15) (.tmp 16) (.tmp 17) rfl k id q HIDN.out rfl rfl rfl) (by assumption) ?_
      try simp only [Act.put, List.setIfInBounds_toArray, List.set_cons_zero, List.set_cons_succ]
      refine wpAnyH_ready (rs := [5]) (by kernel_rfl) (by simp) ?_
      refine (AllReadyH.cons (o := { dst := some 10, op := _, type := _, pos := _, after := _, guard := _ }) rfl (fun Qc hQc => ?_) AllReadyH.nil)
      go_simp
      have Gx2 := hid (Gx1.out.alloc (.cells ZK 64))
      have HBx2 : Below x1.heap.size x1 (x1.alloc (.cells ZK 64)) := (Below.refl _ _).alloc (Nat.le_refl _) _
      have A := hid (Blk.new x1 64 ZK)
      have LE : Hid (w0.heap.size ≤ x1.heap.size) := Gx1.out.bl.size
      clear HBx2
      refine hQc.out _ _ Gx2 (fun hHeld => ?_)
      clear hQc Qc Gx1
      generalize hgx2 : x1.heap.size = g at A LE  ⊢
      generalize x1.alloc (.cells ZK 64) = x2 at Gx2 A  hHeld ⊢
      clear hgx2
      try simp only [Act.put, List.setIfInBounds_toArray, List.set_cons_zero, List.set_cons_succ]
      refine wpAnyH_ready (rs := [6]) (by kernel_rfl) (by simp) ?_
      refine (AllReadyH.cons (o := { dst := none, op := _, type := _, pos := _, after := _, guard := _ }) rfl (fun Qc hQc => ?_) AllReadyH.nil)
      rw [if_pos (by rfl)]
      refine wp_store_row 64 (.tmp 10) (.tmp 18) rfl (g) (keyC k id q) rfl rfl 64 ZK A.out KSI.out KZS.out KALL.out ?_
      have Gx3 := hid (Gx2.out.row (g := g) LE.out (keyC k id q))
      have KWx3 := hid ((A.out).row (keyC k id q))
      refine hQc.out _ _ Gx3 (fun hHeld => ?_)
      clear hQc Qc Gx2
      generalize x2.setRow (g) (keyC k id q) = x3 at Gx3 KWx3 hHeld ⊢
      try simp only [Act.put, List.setIfInBounds_toArray, List.set_cons_zero, List.set_cons_succ]
      refine wpAnyH_done (by kernel_rfl) ?_ _
      try simp only [Act.put, List.setIfInBounds_toArray, List.set_cons_zero, List.set_cons_succ]
      exact ⟨g, rfl, ⟨KWx3.out, LE.out, Gx3.out⟩⟩
    ·
      go_simp
      have Gx4 := hid (Gx0.out.alloc (.cells ZK 64))
      have HBx4 : Below x0.heap.size x0 (x0.alloc (.cells ZK 64)) := (Below.refl _ _).alloc (Nat.le_refl _) _
      have A := hid (Blk.new x0 64 ZK)
      have LE : Hid (w0.heap.size ≤ x0.heap.size) := Gx0.out.bl.size
      clear HBx4
      refine hQc.out _ _ Gx4 (fun hHeld => ?_)
      clear hQc Qc Gx0
      generalize hgx4 : x0.heap.size = g at A LE  ⊢
      generalize x0.alloc (.cells ZK 64) = x4 at Gx4 A  hHeld ⊢
      clear hgx4
      try simp only [Act.put, List.setIfInBounds_toArray, List.set_cons_zero, List.set_cons_succ]
      refine wpAnyH_ready (rs := [1]) (by kernel_rfl) (by simp) ?_
      refine (AllReadyH.cons (o := { dst := some 15, op := _, type := _, pos := _, after := _, guard := _ }) rfl (fun Qc hQc => ?_) AllReadyH.nil)
      go_simp
      go_at_call 35; refine (CSH.out _).mono ?_; rintro e x5 ⟨rfl, hbx5⟩
      have Gx5 := hid (Gx4.out.below hbx5)
      have A := hid (A.out.below hbx5)
      clear hbx5
      go_wp2_with fail
      refine hQc.out _ _ Gx5 (fun hHeld => ?_)
      clear hQc Qc Gx4
      try simp only [Act.put, List.setIfInBounds_toArray, List.set_cons_zero, List.set_cons_succ]
      refine wpAnyH_take (i := 4) (oi := { dst := some 18, op := _, type := _, pos := _, after := _, guard := _ }) (v := .agg (keyC k id q)) rfl (by kernel_rfl) (by kernel_rfl) (by kernel_rfl) (fun _ _ _ h => h) (yieldsIf_key (by rfl) (.tmp 15) (.tmp 16) (.tmp 17) rfl k id q HIDN.out rfl rfl rfl) (by assumption) ?_
      try simp only [Act.put, List.setIfInBounds_toArray, List.set_cons_zero, List.set_cons_succ]
      refine wpAnyH_ready (rs := [6]) (by kernel_rfl) (by simp) ?_
      refine (AllReadyH.cons (o := { dst := none, op := _, type := _, pos := _, after := _, guard := _ }) rfl (fun Qc hQc => ?_) AllReadyH.nil)
      rw [if_pos (by rfl)]
      refine wp_store_row 64 (.tmp 10) (.tmp 18) rfl (g) (keyC k id q) rfl rfl 64 ZK A.out KSI.out KZS.out KALL.out ?_
      have Gx6 := hid (Gx5.out.row (g := g) LE.out (keyC k id q))
      have KWx6 := hid ((A.out).row (keyC k id q))
      refine hQc.out _ _ Gx6 (fun hHeld => ?_)
      clear hQc Qc Gx5
      generalize x5.setRow (g) (keyC k id q) = x6 at Gx6 KWx6 hHeld ⊢
      try simp only [Act.put, List.setIfInBounds_toArray, List.set_cons_zero, List.set_cons_succ]
      refine wpAnyH_done (by kernel_rfl) ?_ _
      try simp only [Act.put, List.setIfInBounds_toArray, List.set_cons_zero, List.set_cons_succ]
      exact ⟨g, rfl, ⟨KWx6.out, LE.out, Gx6.out⟩⟩

  · rintro a' w1 ⟨g, rfl, hka⟩
    have HKA := hid hka
    have KG1 : Hid (Blk w1 g 64 (keyC k id q)) := HKA.out.b
    have HGL : Hid (w.heap.size + 1 + 1 + 1 ≤ g) := by show _ ≤ _; have := HKA.out.le; rw [S0.out] at this; exact this
    have c1 : w1.cell? ⟨g, 1, none⟩ = some (.int .i64 (ch : Nat)) := by rw [KG1.out.cell]; exact KCH.out
    have K5 := hid (K2.out.below HKA.out.bw.bl); have K6 := hid (K3.out.below HKA.out.bw.bl)
    have B1 := hid (B0.out.trans (HKA.out.bw.bl.mono B0.out.size))
    have HGW : Hid (g < w1.heap.size) := KG1.out.lt
    have c2 : (w1.alloc (.cells (Array.replicate (32 * ch) (.int .u8 0)) 5)).cell? ⟨g, 1, none⟩ = some (.int .i64 (ch : Nat)) := by rw [(KG1.out.alloc _).cell]; exact KCH.out
    clear hka HKA K1 K2 K3 B0
    go_wp2
    obtain ⟨nb, hnb⟩ : ∃ nb, nb = w1.heap.size := ⟨_, rfl⟩
    have O1 : Hid ((w1.alloc (.cells (Array.replicate (32 * ch) (.int .u8 0)) 5)).ownsRow nb 5 1 (.slice (some ⟨w1.heap.size, 0, none⟩) 0 (32 * ch)) (rowsOf 0 F).length (u8s (rowsOf 0 F))) := own_made w1 (32 * ch) nb (by unfold maxLen; omega) (by omega)
    have KG2 := hid (KG1.out.alloc (.cells (Array.replicate (32 * ch) (.int .u8 0)) 5)); have K7 := hid (K5.out.alloc (.cells (Array.replicate (32 * ch) (.int .u8 0)) 5)); have K8 := hid (K6.out.alloc (.cells (Array.replicate (32 * ch) (.int .u8 0)) 5))
    have B2 := hid (B1.out.alloc B1.out.size (.cells (Array.replicate (32 * ch) (.int .u8 0)) 5))
    have N2 : Hid (nb ≤ (w1.alloc (.cells (Array.replicate (32 * ch) (.int .u8 0)) 5)).heap.size) := by show _ ≤ _; rw [World.size_alloc]; omega
    have HGK : Hid (g < nb) := by show _ < _; rw [hnb]; exact HGW.out
    have HNB : Hid (w.heap.size + 1 + 1 + 1 < nb) := by show _ < _; have := HGK.out; have := HGL.out; omega
    clear KG1 K5 K6 B1 c1 c2 hnb
    go_loopw [11, 32] (fun v i wr => ∃ j : Nat, j ≤ ch ∧ i = .int .i64 j ∧ Hid (wr.ownsRow nb 5 1 v (rowsOf j F).length (u8s (rowsOf j F))) ∧ Hid (Blk wr g 64 (keyC k id q)) ∧ Hid (Blk wr (w.heap.size + 1) 26 (u8s seed).toArray) ∧ Hid (Blk wr (w.heap.size + 1 + 1) 26 Z) ∧ Hid (Below w.heap.size w wr) ∧ Hid (nb ≤ wr.heap.size)) (fun _ i _ => ch - (intOf i).toNat)
    case atStart => exact ⟨0, Nat.zero_le _, rfl, O1.out, KG2.out, K7.out, K8.out, B2.out, N2.out⟩
    case round =>
      obtain ⟨j, hj, rfl, HO, L1, L2, L3, HBW, HNW⟩ := hrel
      by_cases hlt : j < ch
      · have CSE1 := hid (fun w1 hb => CSE.out j w1 hlt hb)
        have CWK1 := hid (fun w1 hb => CWK.out j w1 hlt hb)
        rw [HFF.out] at CWK1
        have FK := FKY.out j
        have HR1 : Hid (rowsOf (j + 1) F = rowsOf j F ++ F j) := rowsOf_succ _ _
        have HL : Hid ((rowsOf j F).length = 32 * j) := rowsOf_length _ _ F32.out
        generalize F j = R at CWK1 FK HR1
        generalize begn id q j seed = bg at CSE1 CWK1
        have HI := hid (info_hash R FK.len)
        have HZ32 : Hid (Z.size = (u8s R).toArray.size) := HZ32'.out.trans (hash_size FK.len).symm
        have H32 := hid FK.len
        have GB1 : Hid (Bw wr wr) := ⟨Below.refl _ _⟩
        clear FK
        have hji : (j : Int) < ch := by omega
        go_wp2
        refine wp_region_held (S := fun w' => Hid (Bw wr w')) (by kernel_rfl) ?_
        change wpAnyH _ _ _ _ _ _ _ _ wr.drew
        have Gx0 : Hid (Bw wr wr.drew) := GB1.out.drew
        have HBx0 : Below wr.heap.size wr wr.drew := (Below.refl _ _).drew
        clear HBx0
        generalize wr.drew = x0 at Gx0  ⊢
        refine wpAnyH_take (i := 0) (oi := { dst := some 35, op := _, type := _, pos := _, after := _, guard := _ }) (v := .agg (keyC k id q)) rfl (by kernel_rfl) (by kernel_rfl) (by kernel_rfl) (fun _ _ _ h => h) (yieldsIf_load_mid (cs := (keyC k id q).toList) (by rfl) _ _ rfl _ _ rfl _ (fun w' hSw => blk_rng (L1.out.below (Hid.out hSw).bl)) Tryd.underlying64 rfl KLI.out) (by assumption) ?_
        try simp only [Act.put, List.setIfInBounds_toArray, List.set_cons_zero, List.set_cons_succ]
        refine wpAnyH_take (i := 1) (oi := { dst := some 36, op := _, type := _, pos := _, after := _, guard := _ }) (v := ?_) rfl (by kernel_rfl) (by kernel_rfl) (by kernel_rfl) (fun _ _ _ h => h) (Or.inl ⟨by kernel_rfl, ?_⟩) (by assumption) ?_
        rotate_left
        · (intro w hSw; go_simp; try with_reducible rfl)
        try simp only [Act.put, List.setIfInBounds_toArray, List.set_cons_zero, List.set_cons_succ]
        refine wpAnyH_take (i := 2) (oi := { dst := some 37, op := _, type := _, pos := _, after := _, guard := _ }) (v := .agg (keyC k id q)) rfl (by kernel_rfl) (by kernel_rfl) (by kernel_rfl) (fun _ _ _ h => h) (yieldsIf_load_mid (cs := (keyC k id q).toList) (by rfl) _ _ rfl _ _ rfl _ (fun w' hSw => blk_rng (L1.out.below (Hid.out hSw).bl)) Tryd.underlying64 rfl KLI.out) (by assumption) ?_
        try simp only [Act.put, List.setIfInBounds_toArray, List.set_cons_zero, List.set_cons_succ]
        refine wpAnyH_take (i := 3) (oi := { dst := some 38, op := _, type := _, pos := _, after := _, guard := _ }) (v := ?_) rfl (by kernel_rfl) (by kernel_rfl) (by kernel_rfl) (fun _ _ _ h => h) (Or.inl ⟨by kernel_rfl, ?_⟩) (by assumption) ?_
        rotate_left
        · (intro w hSw; go_simp; try with_reducible rfl)
        try simp only [Act.put, List.setIfInBounds_toArray, List.set_cons_zero, List.set_cons_succ]
        refine wpAnyH_take (i := 4) (oi := { dst := some 39, op := _, type := _, pos := _, after := _, guard := _ }) (v := .agg ((u8s seed).toArray)) rfl (by kernel_rfl) (by kernel_rfl) (by kernel_rfl) (fun _ _ _ h => h) (yieldsIf_load_mid (cs := u8s seed) (by rfl) _ _ rfl _ _ rfl _ (fun w' hSw => blk_row (L2.out.below (Hid.out hSw).bl)) Tryd.underlying26 rfl HSI.out) (by assumption) ?_
        try simp only [Act.put, List.setIfInBounds_toArray, List.set_cons_zero, List.set_cons_succ]
        refine wpAnyH_take (i := 6) (oi := { dst := some 41, op := _, type := _, pos := _, after := _, guard := _ }) (v := ?_) rfl (by kernel_rfl) (by kernel_rfl) (by kernel_rfl) (fun _ _ _ h => h) (Or.inl ⟨by kernel_rfl, ?_⟩) (by assumption) ?_
        rotate_left
        · (intro w hSw; go_simp; try with_reducible rfl)
        try simp only [Act.put, List.setIfInBounds_toArray, List.set_cons_zero, List.set_cons_succ]
        refine wpAnyH_take (i := 7) (oi := { dst := some 42, op := _, type := _, pos := _, after := _, guard := _ }) (v := .agg (shp k)) rfl (by kernel_rfl) (by kernel_rfl) (by kernel_rfl) (fun _ _ _ h => h) (yieldsIf_load_mid (cs := (shp k).toList) (by rfl) _ _ rfl _ _ rfl _ (fun w' hSw => key_shape (L1.out.below (Hid.out hSw).bl)) Tryd.underlying61 rfl SHI.out) (by assumption) ?_
        try simp only [Act.put, List.setIfInBounds_toArray, List.set_cons_zero, List.set_cons_succ]
        refine wpAnyH_ready (rs := [5, 10]) (by kernel_rfl) (by simp) ?_
        refine (AllReadyH.cons (o := { dst := some 40, op := _, type := _, pos := _, after := _, guard := _ }) rfl (fun Qc hQc => ?_) (AllReadyH.cons (o := { dst := some 13, op := _, type := _, pos := _, after := _, guard := _ }) rfl (fun Qc hQc => ?_) AllReadyH.nil))
        ·
          go_simp
          go_at_call 36; refine (CSE1.out _ (HBW.out.trans (Gx0.out.bl.mono HBW.out.size))).mono ?_; rintro e x1 ⟨rfl, hbx1⟩
          have Gx1 := hid (Gx0.out.below hbx1)
          clear hbx1
          go_wp2_with fail
          refine hQc.out _ _ Gx1 (fun hHeld => ?_)
          clear hQc Qc Gx0
          try simp only [Act.put, List.setIfInBounds_toArray, List.set_cons_zero, List.set_cons_succ]
          refine wpAnyH_ready (rs := [8, 10]) (by kernel_rfl) (by simp) ?_
          refine (AllReadyH.cons (o := { dst := some 43, op := _, type := _, pos := _, after := _, guard := _ }) rfl (fun Qc hQc => ?_) (AllReadyH.cons (o := { dst := some 13, op := _, type := _, pos := _, after := _, guard := _ }) rfl (fun Qc hQc => ?_) AllReadyH.nil))
          ·
            go_simp
            go_at_call 49; refine (CGR.out _).mono ?_; rintro e x2 ⟨rfl, hbx2⟩
            have Gx2 := hid (Gx1.out.below hbx2)
            clear hbx2
            go_wp2_with fail
            refine hQc.out _ _ Gx2 (fun hHeld => ?_)
            clear hQc Qc Gx1
            try simp only [Act.put, List.setIfInBounds_toArray, List.set_cons_zero, List.set_cons_succ]
            refine wpAnyH_ready (rs := [9, 10]) (by kernel_rfl) (by simp) ?_
            refine (AllReadyH.cons (o := { dst := some 44, op := _, type := _, pos := _, after := _, guard := _ }) rfl (fun Qc hQc => ?_) (AllReadyH.cons (o := { dst := some 13, op := _, type := _, pos := _, after := _, guard := _ }) rfl (fun Qc hQc => ?_) AllReadyH.nil))
            ·
              go_simp
              go_at_call 41; refine (CWK1.out _ (HBW.out.trans (Gx2.out.bl.mono HBW.out.size))).mono ?_; rintro e x3 ⟨rfl, hbx3⟩
              have Gx3 := hid (Gx2.out.below hbx3)
              clear hbx3
              go_wp2_with fail
              refine hQc.out _ _ Gx3 (fun hHeld => ?_)
              clear hQc Qc Gx2
              try simp only [Act.put, List.setIfInBounds_toArray, List.set_cons_zero, List.set_cons_succ]
              refine wpAnyH_ready (rs := [10]) (by kernel_rfl) (by simp) ?_
              refine (AllReadyH.cons (o := { dst := some 13, op := _, type := _, pos := _, after := _, guard := _ }) rfl (fun Qc hQc => ?_) AllReadyH.nil)
              go_simp
              have Gx4 := hid (Gx3.out.alloc (.cells Z 26))
              have HBx4 : Below x3.heap.size x3 (x3.alloc (.cells Z 26)) := (Below.refl _ _).alloc (Nat.le_refl _) _
              have A := hid (Blk.new x3 26 Z)
              have LE : Hid (wr.heap.size ≤ x3.heap.size) := Gx3.out.bl.size
              clear HBx4
              refine hQc.out _ _ Gx4 (fun hHeld => ?_)
              clear hQc Qc Gx3
              generalize hgx4 : x3.heap.size = g2 at A LE  ⊢
              generalize x3.alloc (.cells Z 26) = x4 at Gx4 A  hHeld ⊢
              clear hgx4
              try simp only [Act.put, List.setIfInBounds_toArray, List.set_cons_zero, List.set_cons_succ]
              refine wpAnyH_ready (rs := [11]) (by kernel_rfl) (by simp) ?_
              refine (AllReadyH.cons (o := { dst := none, op := _, type := _, pos := _, after := _, guard := _ }) rfl (fun Qc hQc => ?_) AllReadyH.nil)
              rw [if_pos (by rfl)]
              refine wp_store_row 26 (.tmp 13) (.tmp 44) rfl (g2) (u8s R).toArray rfl rfl 26 Z A.out HI.out HZ32.out (u8s_all R) ?_
              have Gx5 := hid (Gx4.out.row (g := g2) LE.out (u8s R).toArray)
              have KWx5 := hid ((A.out).row (u8s R).toArray)
              refine hQc.out _ _ Gx5 (fun hHeld => ?_)
              clear hQc Qc Gx4
              generalize x4.setRow (g2) (u8s R).toArray = x5 at Gx5 KWx5 hHeld ⊢
              try simp only [Act.put, List.setIfInBounds_toArray, List.set_cons_zero, List.set_cons_succ]
              refine wpAnyH_done (by kernel_rfl) ?_ _
              try simp only [Act.put, List.setIfInBounds_toArray, List.set_cons_zero, List.set_cons_succ]
              have OX := hid (own_below HO.out Gx5.out.bl)
              have RX := hid (blk_rp KWx5.out)
              have BX := hid (HBW.out.trans (Gx5.out.bl.mono HBW.out.size))
              have KX := hid (L1.out.below Gx5.out.bl); have SX := hid (L2.out.below Gx5.out.bl); have ZX := hid (L3.out.below Gx5.out.bl)
              have NX := hid (Nat.le_trans HNW.out Gx5.out.bl.size)
              clear HO
              go_wp2_with (at_builtin; refine append_rpm rfl (.tmp 45) (.tmp 46) rfl nb nb _ (rowsOf j F) rfl OX.out (some ⟨g2, 0, none⟩) 32 32 R H32.out.symm rfl RX.out (by rw [HL.out, H32.out]; omega) NX.out (Nat.le_refl _) ?_; intro v9 w9 O9 B9)
              exact ⟨⟨j + 1, by omega, by go_num, by (show World.ownsRow _ _ _ _ _ _ _); rw [HR1.out]; exact O9.out, KX.out.same (B9.out.block _ HGK.out), SX.out.same (B9.out.block _ (by have := HNB.out; omega)), ZX.out.same (B9.out.block _ (by have := HNB.out; omega)), BX.out.trans (B9.out.mono (by have := HNB.out; omega)), Nat.le_trans NX.out B9.out.size⟩, by simp [intOf]; omega⟩
            ·
              go_simp
              have Gx6 := hid (Gx2.out.alloc (.cells Z 26))
              have HBx6 : Below x2.heap.size x2 (x2.alloc (.cells Z 26)) := (Below.refl _ _).alloc (Nat.le_refl _) _
              have A := hid (Blk.new x2 26 Z)
              have LE : Hid (wr.heap.size ≤ x2.heap.size) := Gx2.out.bl.size
              clear HBx6
              refine hQc.out _ _ Gx6 (fun hHeld => ?_)
              clear hQc Qc Gx2
              generalize hgx6 : x2.heap.size = g2 at A LE  ⊢
              generalize x2.alloc (.cells Z 26) = x6 at Gx6 A  hHeld ⊢
              clear hgx6
              try simp only [Act.put, List.setIfInBounds_toArray, List.set_cons_zero, List.set_cons_succ]
              refine wpAnyH_ready (rs := [9]) (by kernel_rfl) (by simp) ?_
              refine (AllReadyH.cons (o := { dst := some 44, op := _, type := _, pos := _, after := _, guard := _ }) rfl (fun Qc hQc => ?_) AllReadyH.nil)
              go_simp
              go_at_call 41; refine (CWK1.out _ (HBW.out.trans (Gx6.out.bl.mono HBW.out.size))).mono ?_; rintro e x7 ⟨rfl, hbx7⟩
              have Gx7 := hid (Gx6.out.below hbx7)
              have A := hid (A.out.below hbx7)
              clear hbx7
              go_wp2_with fail
              refine hQc.out _ _ Gx7 (fun hHeld => ?_)
              clear hQc Qc Gx6
              try simp only [Act.put, List.setIfInBounds_toArray, List.set_cons_zero, List.set_cons_succ]
              refine wpAnyH_ready (rs := [11]) (by kernel_rfl) (by simp) ?_
              refine (AllReadyH.cons (o := { dst := none, op := _, type := _, pos := _, after := _, guard := _ }) rfl (fun Qc hQc => ?_) AllReadyH.nil)
              rw [if_pos (by rfl)]
              refine wp_store_row 26 (.tmp 13) (.tmp 44) rfl (g2) (u8s R).toArray rfl rfl 26 Z A.out HI.out HZ32.out (u8s_all R) ?_
              have Gx8 := hid (Gx7.out.row (g := g2) LE.out (u8s R).toArray)
              have KWx8 := hid ((A.out).row (u8s R).toArray)
              refine hQc.out _ _ Gx8 (fun hHeld => ?_)
              clear hQc Qc Gx7
              generalize x7.setRow (g2) (u8s R).toArray = x8 at Gx8 KWx8 hHeld ⊢
              try simp only [Act.put, List.setIfInBounds_toArray, List.set_cons_zero, List.set_cons_succ]
              refine wpAnyH_done (by kernel_rfl) ?_ _
              try simp only [Act.put, List.setIfInBounds_toArray, List.set_cons_zero, List.set_cons_succ]
              have OX := hid (own_below HO.out Gx8.out.bl)
              have RX := hid (blk_rp KWx8.out)
              have BX := hid (HBW.out.trans (Gx8.out.bl.mono HBW.out.size))
              have KX := hid (L1.out.below Gx8.out.bl); have SX := hid (L2.out.below Gx8.out.bl); have ZX := hid (L3.out.below Gx8.out.bl)
              have NX := hid (Nat.le_trans HNW.out Gx8.out.bl.size)
              clear HO
              go_wp2_with (at_builtin; refine append_rpm rfl (.tmp 45) (.tmp 46) rfl nb nb _ (rowsOf j F) rfl OX.out (some ⟨g2, 0, none⟩) 32 32 R H32.out.symm rfl RX.out (by rw [HL.out, H32.out]; omega) NX.out (Nat.le_refl _) ?_; intro v9 w9 O9 B9)
              exact ⟨⟨j + 1, by omega, by go_num, by (show World.ownsRow _ _ _ _ _ _ _); rw [HR1.out]; exact O9.out, KX.out.same (B9.out.block _ HGK.out), SX.out.same (B9.out.block _ (by have := HNB.out; omega)), ZX.out.same (B9.out.block _ (by have := HNB.out; omega)), BX.out.trans (B9.out.mono (by have := HNB.out; omega)), Nat.le_trans NX.out B9.out.size⟩, by simp [intOf]; omega⟩
          ·
            go_simp
            have Gx9 := hid (Gx1.out.alloc (.cells Z 26))
            have HBx9 : Below x1.heap.size x1 (x1.alloc (.cells Z 26)) := (Below.refl _ _).alloc (Nat.le_refl _) _
            have A := hid (Blk.new x1 26 Z)
            have LE : Hid (wr.heap.size ≤ x1.heap.size) := Gx1.out.bl.size
            clear HBx9
            refine hQc.out _ _ Gx9 (fun hHeld => ?_)
            clear hQc Qc Gx1
            generalize hgx9 : x1.heap.size = g2 at A LE  ⊢
            generalize x1.alloc (.cells Z 26) = x9 at Gx9 A  hHeld ⊢
            clear hgx9
            try simp only [Act.put, List.setIfInBounds_toArray, List.set_cons_zero, List.set_cons_succ]
            refine wpAnyH_ready (rs := [8]) (by kernel_rfl) (by simp) ?_
            refine (AllReadyH.cons (o := { dst := some 43, op := _, type := _, pos := _, after := _, guard := _ }) rfl (fun Qc hQc => ?_) AllReadyH.nil)
            go_simp
            go_at_call 49; refine (CGR.out _).mono ?_; rintro e x10 ⟨rfl, hbx10⟩
            have Gx10 := hid (Gx9.out.below hbx10)
            have A := hid (A.out.below hbx10)
            clear hbx10
            go_wp2_with fail
            refine hQc.out _ _ Gx10 (fun hHeld => ?_)
            clear hQc Qc Gx9
            try simp only [Act.put, List.setIfInBounds_toArray, List.set_cons_zero, List.set_cons_succ]
            refine wpAnyH_ready (rs := [9]) (by kernel_rfl) (by simp) ?_
            refine (AllReadyH.cons (o := { dst := some 44, op := _, type := _, pos := _, after := _, guard := _ }) rfl (fun Qc hQc => ?_) AllReadyH.nil)
            go_simp
            go_at_call 41; refine (CWK1.out _ (HBW.out.trans (Gx10.out.bl.mono HBW.out.size))).mono ?_; rintro e x11 ⟨rfl, hbx11⟩
            have Gx11 := hid (Gx10.out.below hbx11)
            have A := hid (A.out.below hbx11)
            clear hbx11
            go_wp2_with fail
            refine hQc.out _ _ Gx11 (fun hHeld => ?_)
            clear hQc Qc Gx10
            try simp only [Act.put, List.setIfInBounds_toArray, List.set_cons_zero, List.set_cons_succ]
            refine wpAnyH_ready (rs := [11]) (by kernel_rfl) (by simp) ?_
            refine (AllReadyH.cons (o := { dst := none, op := _, type := _, pos := _, after := _, guard := _ }) rfl (fun Qc hQc => ?_) AllReadyH.nil)
            rw [if_pos (by rfl)]
            refine wp_store_row 26 (.tmp 13) (.tmp 44) rfl (g2) (u8s R).toArray rfl rfl 26 Z A.out HI.out HZ32.out (u8s_all R) ?_
            have Gx12 := hid (Gx11.out.row (g := g2) LE.out (u8s R).toArray)
            have KWx12 := hid ((A.out).row (u8s R).toArray)
            refine hQc.out _ _ Gx12 (fun hHeld => ?_)
            clear hQc Qc Gx11
            generalize x11.setRow (g2) (u8s R).toArray = x12 at Gx12 KWx12 hHeld ⊢
            try simp only [Act.put, List.setIfInBounds_toArray, List.set_cons_zero, List.set_cons_succ]
            refine wpAnyH_done (by kernel_rfl) ?_ _
            try simp only [Act.put, List.setIfInBounds_toArray, List.set_cons_zero, List.set_cons_succ]
            have OX := hid (own_below HO.out Gx12.out.bl)
            have RX := hid (blk_rp KWx12.out)
            have BX := hid (HBW.out.trans (Gx12.out.bl.mono HBW.out.size))
            have KX := hid (L1.out.below Gx12.out.bl); have SX := hid (L2.out.below Gx12.out.bl); have ZX := hid (L3.out.below Gx12.out.bl)
            have NX := hid (Nat.le_trans HNW.out Gx12.out.bl.size)
            clear HO
            go_wp2_with (at_builtin; refine append_rpm rfl (.tmp 45) (.tmp 46) rfl nb nb _ (rowsOf j F) rfl OX.out (some ⟨g2, 0, none⟩) 32 32 R H32.out.symm rfl RX.out (by rw [HL.out, H32.out]; omega) NX.out (Nat.le_refl _) ?_; intro v9 w9 O9 B9)
            exact ⟨⟨j + 1, by omega, by go_num, by (show World.ownsRow _ _ _ _ _ _ _); rw [HR1.out]; exact O9.out, KX.out.same (B9.out.block _ HGK.out), SX.out.same (B9.out.block _ (by have := HNB.out; omega)), ZX.out.same (B9.out.block _ (by have := HNB.out; omega)), BX.out.trans (B9.out.mono (by have := HNB.out; omega)), Nat.le_trans NX.out B9.out.size⟩, by simp [intOf]; omega⟩
        ·
          go_simp
          have Gx13 := hid (Gx0.out.alloc (.cells Z 26))
          have HBx13 : Below x0.heap.size x0 (x0.alloc (.cells Z 26)) := (Below.refl _ _).alloc (Nat.le_refl _) _
          have A := hid (Blk.new x0 26 Z)
          have LE : Hid (wr.heap.size ≤ x0.heap.size) := Gx0.out.bl.size
          clear HBx13
          refine hQc.out _ _ Gx13 (fun hHeld => ?_)
          clear hQc Qc Gx0
          generalize hgx13 : x0.heap.size = g2 at A LE  ⊢
          generalize x0.alloc (.cells Z 26) = x13 at Gx13 A  hHeld ⊢
          clear hgx13
          try simp only [Act.put, List.setIfInBounds_toArray, List.set_cons_zero, List.set_cons_succ]
          refine wpAnyH_ready (rs := [5]) (by kernel_rfl) (by simp) ?_
          refine (AllReadyH.cons (o := { dst := some 40, op := _, type := _, pos := _, after := _, guard := _ }) rfl (fun Qc hQc => ?_) AllReadyH.nil)
          go_simp
          go_at_call 36; refine (CSE1.out _ (HBW.out.trans (Gx13.out.bl.mono HBW.out.size))).mono ?_; rintro e x14 ⟨rfl, hbx14⟩
          have Gx14 := hid (Gx13.out.below hbx14)
          have A := hid (A.out.below hbx14)
          clear hbx14
          go_wp2_with fail
          refine hQc.out _ _ Gx14 (fun hHeld => ?_)
          clear hQc Qc Gx13
          try simp only [Act.put, List.setIfInBounds_toArray, List.set_cons_zero, List.set_cons_succ]
          refine wpAnyH_ready (rs := [8]) (by kernel_rfl) (by simp) ?_
          refine (AllReadyH.cons (o := { dst := some 43, op := _, type := _, pos := _, after := _, guard := _ }) rfl (fun Qc hQc => ?_) AllReadyH.nil)
          go_simp
          go_at_call 49; refine (CGR.out _).mono ?_; rintro e x15 ⟨rfl, hbx15⟩
          have Gx15 := hid (Gx14.out.below hbx15)
          have A := hid (A.out.below hbx15)
          clear hbx15
          go_wp2_with fail
          refine hQc.out _ _ Gx15 (fun hHeld => ?_)
          clear hQc Qc Gx14
          try simp only [Act.put, List.setIfInBounds_toArray, List.set_cons_zero, List.set_cons_succ]
          refine wpAnyH_ready (rs := [9]) (by kernel_rfl) (by simp) ?_
          refine (AllReadyH.cons (o := { dst := some 44, op := _, type := _, pos := _, after := _, guard := _ }) rfl (fun Qc hQc => ?_) AllReadyH.nil)
          go_simp
          go_at_call 41; refine (CWK1.out _ (HBW.out.trans (Gx15.out.bl.mono HBW.out.size))).mono ?_; rintro e x16 ⟨rfl, hbx16⟩
          have Gx16 := hid (Gx15.out.below hbx16)
          have A := hid (A.out.below hbx16)
          clear hbx16
          go_wp2_with fail
          refine hQc.out _ _ Gx16 (fun hHeld => ?_)
          clear hQc Qc Gx15
          try simp only [Act.put, List.setIfInBounds_toArray, List.set_cons_zero, List.set_cons_succ]
          refine wpAnyH_ready (rs := [11]) (by kernel_rfl) (by simp) ?_
          refine (AllReadyH.cons (o := { dst := none, op := _, type := _, pos := _, after := _, guard := _ }) rfl (fun Qc hQc => ?_) AllReadyH.nil)
          rw [if_pos (by rfl)]
          refine wp_store_row 26 (.tmp 13) (.tmp 44) rfl (g2) (u8s R).toArray rfl rfl 26 Z A.out HI.out HZ32.out (u8s_all R) ?_
          have Gx17 := hid (Gx16.out.row (g := g2) LE.out (u8s R).toArray)
          have KWx17 := hid ((A.out).row (u8s R).toArray)
          refine hQc.out _ _ Gx17 (fun hHeld => ?_)
          clear hQc Qc Gx16
          generalize x16.setRow (g2) (u8s R).toArray = x17 at Gx17 KWx17 hHeld ⊢
          try simp only [Act.put, List.setIfInBounds_toArray, List.set_cons_zero, List.set_cons_succ]
          refine wpAnyH_done (by kernel_rfl) ?_ _
          try simp only [Act.put, List.setIfInBounds_toArray, List.set_cons_zero, List.set_cons_succ]
          have OX := hid (own_below HO.out Gx17.out.bl)
          have RX := hid (blk_rp KWx17.out)
          have BX := hid (HBW.out.trans (Gx17.out.bl.mono HBW.out.size))
          have KX := hid (L1.out.below Gx17.out.bl); have SX := hid (L2.out.below Gx17.out.bl); have ZX := hid (L3.out.below Gx17.out.bl)
          have NX := hid (Nat.le_trans HNW.out Gx17.out.bl.size)
          clear HO
          go_wp2_with (at_builtin; refine append_rpm rfl (.tmp 45) (.tmp 46) rfl nb nb _ (rowsOf j F) rfl OX.out (some ⟨g2, 0, none⟩) 32 32 R H32.out.symm rfl RX.out (by rw [HL.out, H32.out]; omega) NX.out (Nat.le_refl _) ?_; intro v9 w9 O9 B9)
          exact ⟨⟨j + 1, by omega, by go_num, by (show World.ownsRow _ _ _ _ _ _ _); rw [HR1.out]; exact O9.out, KX.out.same (B9.out.block _ HGK.out), SX.out.same (B9.out.block _ (by have := HNB.out; omega)), ZX.out.same (B9.out.block _ (by have := HNB.out; omega)), BX.out.trans (B9.out.mono (by have := HNB.out; omega)), Nat.le_trans NX.out B9.out.size⟩, by simp [intOf]; omega⟩
      · obtain rfl : j = ch := by omega
        have hel := rowsOf_length j F F32.out
        have heb := rowsOf_bs j F (fun i => (FKY.out i).bs)
        have HEL : Hid ((rowsOf j F).length < 3000000) := by show _ < _; rw [hel]; omega
        have HEB := hid heb
        clear hel heb HP
        generalize rowsOf j F = E at HO CSU HEL HEB
        obtain ⟨A9, c9, rfl, _, hc9, hf9⟩ := fresh_of_own (w := w) HO.out (by have := HNB.out; omega)
        have HIN := hid (inR_one (n1 := E.length) (c1 := c9) rfl hf9.rp0 HEB.out hc9 HEL.out)
        have NB : Below wr.heap.size wr (wr.alloc (.cells #[.slice A9 E.length c9] 29)) := (Below.refl _ _).alloc (Nat.le_refl _) _
        have HBX := hid (HBW.out.trans (NB.mono HBW.out.size))
        have M3 := hid (L3.out.below NB)
        clear hc9 hf9 NB HO
        go_wp2_with (first
          | (refine load_at rfl 64 (.tmp 10) rfl g 0 rfl (keyC k id q).toList _ (blk_rng L1.out) Tryd.underlying64 rfl KLI.out (keyC k id q) rfl ?_)
          | (go_at_call 40; refine (CSU.out (some ⟨wr.heap.size, 0, none⟩) _ HIN.out HBX.out).mono ?_; rintro e w9 ⟨rfl, hb9⟩; have M9 := hid (M3.out.below hb9); have BB := hid (HBX.out.trans (hb9.mono HBX.out.size)); clear hb9)
          | (refine wpList_store_row rfl 26 (.tmp 8) (.tmp 52) rfl (w.heap.size + 1 + 1) (u8s PK).toArray rfl rfl 26 Z M9.out HPI.out (by rw [HZ32'.out, HPS.out]) (u8s_all PK) ?_))
        try go_frame
        refine bodyPost_ret (results_two Tryd.results61 _ _ (w.heap.size + 1 + 1) 26 (u8s PK).toArray (0, 0) _ rfl (M9.out.row _) Tryd.underlying26 rfl HPI.out) rfl ?_
        exact ⟨rfl, below_setRow BB.out (by omega) _⟩
set_option maxHeartbeats 4000000 in
theorem lPublic_no (k : Int) (id : List Int) (q : Int) (seed : List Int) (w : World) (hk : k ≠ 1 ∧ k ≠ 2 ∧ k ≠ 3 ∧ k ≠ 4) (hi : Idn id) (hq : 0 ≤ q ∧ q < 4294967296) (hs : Ky seed) :
    Calls Tryd.prog 61 #[.int .i64 k, .agg (u8s id).toArray, .int .u32 q, .agg (u8s seed).toArray] w fun e w' => e = .returned (.tuple #[.agg (u8s zeroK).toArray, .int .i64 1]) ∧ Below w.heap.size w w' := by
  obtain ⟨Z, HZ, hZ0, hZs⟩ := zero_Hash
  obtain ⟨ZK, hzk, hZK0, hZKs⟩ := zero_key
  have hz32 : Z.size = 32 := by rw [HZ.out, List.size_toArray, u8s_length]; simp
  have HZE : Hid (Z = (u8s zeroK).toArray) := HZ.out
  have HZI : Hid ((Tryd.prog.info? 26).map (·.size) = some Z.size) := by show _ = _; rw [hz32]; kernel_rfl
  have HZA : Hid (Z.all (·.oneCell') = true) := by show _ = _; rw [HZ.out]; exact u8s_all _
  obtain ⟨hk1, hk2, hk3, hb0⟩ := blks3 w (u8s id).toArray (u8s seed).toArray Z 23 26 26
  have K1 := hid hk1; have K2 := hid hk2; have K3 := hid hk3; have B0 := hid hb0
  have S0 : Hid ((((w.alloc (.cells (u8s id).toArray 23)).alloc (.cells (u8s seed).toArray 26)).alloc (.cells Z 26)).heap.size = w.heap.size + 1 + 1 + 1) := by show _ = _; simp
  have CSH := hid (shapeOf_any k)
  have IDI := hid (id_info hi)
  have KSI := hid (key_cinfo k hi q); have KZS : Hid (ZK.size = (keyC k id q).size) := hzk.trans (keyC_size k hi q).symm
  have KALL := hid (keyC_all k id q)
  have kch := key_ch k id q
  rw [kchains_no hk] at kch
  have KCH := hid kch
  have HIDN := hid hi
  clear hk1 hk2 hk3 hb0 hzk hk hi hq hs hz32 kch
  go_enter Tryd.func61, Tryd.ntmps61
  go_wp2
  generalize ((w.alloc (.cells (u8s id).toArray 23)).alloc (.cells (u8s seed).toArray 26)).alloc (.cells Z 26) = w0 at K1 K2 K3 B0 S0 ⊢
  refine wp_cut (fun a' w' => ∃ g, a' = { tmps := #[.int .i64 k, .agg (u8s id).toArray, .int .u32 q, .agg (u8s seed).toArray, undef, .pointer (some ⟨w.heap.size, 0, none⟩), undef, .pointer (some ⟨w.heap.size + 1, 0, none⟩), .pointer (some ⟨w.heap.size + 1 + 1, 0, none⟩), .int .i64 0, .pointer (some ⟨g, 0, none⟩), undef, undef, undef, .int .i64 k, .agg (shp k), .agg (u8s id).toArray, .int .u32 q, .agg (keyC k id q), undef, undef, undef, undef, undef, undef, undef, undef, undef, undef, undef, undef, undef, undef, undef, undef, undef, undef, undef, undef, undef, undef, undef, undef, undef, undef, undef, undef, undef, undef, undef, undef, undef, undef], defers := [] } ∧ KeyAt (keyC k id q) w0 w' g) ?_ ?_
  · skip
    have GB0 : Hid (Bw w0 w0) := ⟨Below.refl _ _⟩
    refine wp_region_held (S := fun w' => Hid (Bw w0 w')) (by kernel_rfl) ?_
    change wpAnyH _ _ _ _ _ _ _ _ w0.drew
    have Gx0 : Hid (Bw w0 w0.drew) := GB0.out.drew
    have HBx0 : Below w0.heap.size w0 w0.drew := (Below.refl _ _).drew
    clear HBx0
    generalize w0.drew = x0 at Gx0  ⊢
    refine wpAnyH_take (i := 0) (oi := { dst := some 14, op := _, type := _, pos := _, after := _, guard := _ }) (v := ?_) rfl (by kernel_rfl) (by kernel_rfl) (by kernel_rfl) (fun _ _ _ h => h) (Or.inl ⟨by kernel_rfl, ?_⟩) (by assumption) ?_
    rotate_left
    · (intro w hSw; go_simp; try with_reducible rfl)
    try simp only [Act.put, List.setIfInBounds_toArray, List.set_cons_zero, List.set_cons_succ]
    refine wpAnyH_take (i := 2) (oi := { dst := some 16, op := _, type := _, pos := _, after := _, guard := _ }) (v := .agg ((u8s id).toArray)) rfl (by kernel_rfl) (by kernel_rfl) (by kernel_rfl) (fun _ _ _ h => h) (yieldsIf_load_mid (cs := u8s id) (by rfl) _ _ rfl _ _ rfl _ (fun w' hSw => blk_row (K1.out.below (Hid.out hSw).bl)) Tryd.underlying23 rfl IDI.out) (by assumption) ?_
    try simp only [Act.put, List.setIfInBounds_toArray, List.set_cons_zero, List.set_cons_succ]
    refine wpAnyH_take (i := 3) (oi := { dst := some 17, op := _, type := _, pos := _, after := _, guard := _ }) (v := ?_) rfl (by kernel_rfl) (by kernel_rfl) (by kernel_rfl) (fun _ _ _ h => h) (Or.inl ⟨by kernel_rfl, ?_⟩) (by assumption) ?_
    rotate_left
    · (intro w hSw; go_simp; try with_reducible rfl)
    try simp only [Act.put, List.setIfInBounds_toArray, List.set_cons_zero, List.set_cons_succ]
    refine wpAnyH_ready (rs := [1, 5]) (by kernel_rfl) (by simp) ?_
    refine (AllReadyH.cons (o := { dst := some 15, op := _, type := _, pos := _, after := _, guard := _ }) rfl (fun Qc hQc => ?_) (AllReadyH.cons (o := { dst := some 10, op := _, type := _, pos := _, after := _, guard := _ }) rfl (fun Qc hQc => ?_) AllReadyH.nil))
    ·
      go_simp
      go_at_call 35; refine (CSH.out _).mono ?_; rintro e x1 ⟨rfl, hbx1⟩
      have Gx1 := hid (Gx0.out.below hbx1)
      clear hbx1
      go_wp2_with fail
      refine hQc.out _ _ Gx1 (fun hHeld => ?_)
      clear hQc Qc Gx0
      try simp only [Act.put, List.setIfInBounds_toArray, List.set_cons_zero, List.set_cons_succ]
      refine wpAnyH_take (i := 4) (oi := { dst := some 18, op := _, type := _, pos := _, after := _, guard := _ }) (v := .agg (keyC k id q)) rfl (by kernel_rfl) (by kernel_rfl) (by kernel_rfl) (fun _ _ _ h => h) (yieldsIf_key (by rfl) (.tmp 15) (.tmp 16) (.tmp 17) rfl k id q HIDN.out rfl rfl rfl) (by assumption) ?_
      try simp only [Act.put, List.setIfInBounds_toArray, List.set_cons_zero, List.set_cons_succ]
      refine wpAnyH_ready (rs := [5]) (by kernel_rfl) (by simp) ?_
      refine (AllReadyH.cons (o := { dst := some 10, op := _, type := _, pos := _, after := _, guard := _ }) rfl (fun Qc hQc => ?_) AllReadyH.nil)
      go_simp
      have Gx2 := hid (Gx1.out.alloc (.cells ZK 64))
      have HBx2 : Below x1.heap.size x1 (x1.alloc (.cells ZK 64)) := (Below.refl _ _).alloc (Nat.le_refl _) _
      have A := hid (Blk.new x1 64 ZK)
      have LE : Hid (w0.heap.size ≤ x1.heap.size) := Gx1.out.bl.size
      clear HBx2
      refine hQc.out _ _ Gx2 (fun hHeld => ?_)
      clear hQc Qc Gx1
      generalize hgx2 : x1.heap.size = g at A LE  ⊢
      generalize x1.alloc (.cells ZK 64) = x2 at Gx2 A  hHeld ⊢
      clear hgx2
      try simp only [Act.put, List.setIfInBounds_toArray, List.set_cons_zero, List.set_cons_succ]
      refine wpAnyH_ready (rs := [6]) (by kernel_rfl) (by simp) ?_
      refine (AllReadyH.cons (o := { dst := none, op := _, type := _, pos := _, after := _, guard := _ }) rfl (fun Qc hQc => ?_) AllReadyH.nil)
      rw [if_pos (by rfl)]
      refine wp_store_row 64 (.tmp 10) (.tmp 18) rfl (g) (keyC k id q) rfl rfl 64 ZK A.out KSI.out KZS.out KALL.out ?_
      have Gx3 := hid (Gx2.out.row (g := g) LE.out (keyC k id q))
      have KWx3 := hid ((A.out).row (keyC k id q))
      refine hQc.out _ _ Gx3 (fun hHeld => ?_)
      clear hQc Qc Gx2
      generalize x2.setRow (g) (keyC k id q) = x3 at Gx3 KWx3 hHeld ⊢
      try simp only [Act.put, List.setIfInBounds_toArray, List.set_cons_zero, List.set_cons_succ]
      refine wpAnyH_done (by kernel_rfl) ?_ _
      try simp only [Act.put, List.setIfInBounds_toArray, List.set_cons_zero, List.set_cons_succ]
      exact ⟨g, rfl, ⟨KWx3.out, LE.out, Gx3.out⟩⟩
    ·
      go_simp
      have Gx4 := hid (Gx0.out.alloc (.cells ZK 64))
      have HBx4 : Below x0.heap.size x0 (x0.alloc (.cells ZK 64)) := (Below.refl _ _).alloc (Nat.le_refl _) _
      have A := hid (Blk.new x0 64 ZK)
      have LE : Hid (w0.heap.size ≤ x0.heap.size) := Gx0.out.bl.size
      clear HBx4
      refine hQc.out _ _ Gx4 (fun hHeld => ?_)
      clear hQc Qc Gx0
      generalize hgx4 : x0.heap.size = g at A LE  ⊢
      generalize x0.alloc (.cells ZK 64) = x4 at Gx4 A  hHeld ⊢
      clear hgx4
      try simp only [Act.put, List.setIfInBounds_toArray, List.set_cons_zero, List.set_cons_succ]
      refine wpAnyH_ready (rs := [1]) (by kernel_rfl) (by simp) ?_
      refine (AllReadyH.cons (o := { dst := some 15, op := _, type := _, pos := _, after := _, guard := _ }) rfl (fun Qc hQc => ?_) AllReadyH.nil)
      go_simp
      go_at_call 35; refine (CSH.out _).mono ?_; rintro e x5 ⟨rfl, hbx5⟩
      have Gx5 := hid (Gx4.out.below hbx5)
      have A := hid (A.out.below hbx5)
      clear hbx5
      go_wp2_with fail
      refine hQc.out _ _ Gx5 (fun hHeld => ?_)
      clear hQc Qc Gx4
      try simp only [Act.put, List.setIfInBounds_toArray, List.set_cons_zero, List.set_cons_succ]
      refine wpAnyH_take (i := 4) (oi := { dst := some 18, op := _, type := _, pos := _, after := _, guard := _ }) (v := .agg (keyC k id q)) rfl (by kernel_rfl) (by kernel_rfl) (by kernel_rfl) (fun _ _ _ h => h) (yieldsIf_key (by rfl) (.tmp 15) (.tmp 16) (.tmp 17) rfl k id q HIDN.out rfl rfl rfl) (by assumption) ?_
      try simp only [Act.put, List.setIfInBounds_toArray, List.set_cons_zero, List.set_cons_succ]
      refine wpAnyH_ready (rs := [6]) (by kernel_rfl) (by simp) ?_
      refine (AllReadyH.cons (o := { dst := none, op := _, type := _, pos := _, after := _, guard := _ }) rfl (fun Qc hQc => ?_) AllReadyH.nil)
      rw [if_pos (by rfl)]
      refine wp_store_row 64 (.tmp 10) (.tmp 18) rfl (g) (keyC k id q) rfl rfl 64 ZK A.out KSI.out KZS.out KALL.out ?_
      have Gx6 := hid (Gx5.out.row (g := g) LE.out (keyC k id q))
      have KWx6 := hid ((A.out).row (keyC k id q))
      refine hQc.out _ _ Gx6 (fun hHeld => ?_)
      clear hQc Qc Gx5
      generalize x5.setRow (g) (keyC k id q) = x6 at Gx6 KWx6 hHeld ⊢
      try simp only [Act.put, List.setIfInBounds_toArray, List.set_cons_zero, List.set_cons_succ]
      refine wpAnyH_done (by kernel_rfl) ?_ _
      try simp only [Act.put, List.setIfInBounds_toArray, List.set_cons_zero, List.set_cons_succ]
      exact ⟨g, rfl, ⟨KWx6.out, LE.out, Gx6.out⟩⟩

  · rintro a' w1 ⟨g, rfl, hka⟩
    have HKA := hid hka
    have c1 : w1.cell? ⟨g, 1, none⟩ = some (.int .i64 0) := by rw [HKA.out.b.cell]; exact KCH.out
    have K6 := hid (K3.out.below HKA.out.bw.bl)
    have B1 := hid (B0.out.trans (HKA.out.bw.bl.mono B0.out.size))
    clear hka HKA K1 K2 K3 B0
    go_wp2_with (refine wpList_store_row rfl 26 (.tmp 8) (.tmp 23) rfl (w.heap.size + 1 + 1) Z rfl rfl 26 Z K6.out HZI.out rfl HZA.out ?_)
    try go_frame
    refine bodyPost_ret (results_two Tryd.results61 _ _ (w.heap.size + 1 + 1) 26 Z (0, 0) _ rfl (K6.out.row _) Tryd.underlying26 rfl HZI.out) rfl ?_
    exact ⟨by rw [HZE.out]; rfl, below_setRow B1.out (by omega) _⟩
end Go.Proofs.YtobceieadjpaaaaDoor
