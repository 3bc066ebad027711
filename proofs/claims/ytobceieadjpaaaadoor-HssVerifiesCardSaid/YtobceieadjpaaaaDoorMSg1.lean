/-
  What this file is for: a region that draws its order, within the round of a range over a function, walked as anywhere: its end is said by a word of one's own, and no panic comes. Nothing of the program is walked here.
-/
import Derived.Test.YtobceieadjpaaaaDoorMKf1
import Derived.OrdersIn
import Derived.OrdersHeld
set_option linter.unusedSimpArgs false
set_option linter.unusedVariables false
namespace Go.Proofs.YtobceieadjpaaaaDoor
open Go.ChangeShapes Go.WideShapes Go.ChangeAt Go.RowKit
set_option linter.unusedVariables false
set_option maxRecDepth 20000

section
variable {P : Program} {R : Act → World → Prop} {l n : Nat}
theorem oper_round {o : Oper} {a : Act} {w : World} {K K' : Act → World → Prop} (hd : ∀ c, o.op ≠ .defer c) (hK : ∀ a w, K a w → K' a w) (h : o.wp P a w K (Qr R)) : o.wpIn (Fence.wide.inRound l) n P a w K' (Qr R) := by
  unfold Oper.wpIn
  refine ⟨fun _ _ => trivial, ?_⟩
  rw [Oper.semAt_plain _ _ _ hd]
  unfold Oper.wp at h
  generalize (execOp a.eval o).run P w = r at h
  cases r with
  | ok x w' =>
    cases x <;> simp only [Oper.upon, Oper.uponIn] at h ⊢
    case value v => exact hK _ _ h
    case skip => exact hK _ _ h
    case defer d => exact hK _ _ h
    case enter f args =>
      refine ⟨fun hs => by simp [Fence.inRound, Fence.wide] at hs, CallsIn.inRound l (callsIn_wide.2 (h.mono ?_))⟩
      intro e w'' he
      cases e with
      | returned v => exact hK _ _ he
      | panicked c => exact he
      | outgrown => exact he
    case row row args =>
      refine ⟨fun hs => by simp [Fence.inRound, Fence.wide] at hs, ?_⟩
      intro c cs _
      obtain ⟨v, w'', hr, hs⟩ := h c cs
      exact ⟨v, w'', hK _ _ hr, stepsIn_wide.2 hs⟩
  | halt x w' =>
    cases x <;> simp only [Oper.upon, Oper.uponIn] at h ⊢
    case panic v => exact h
theorem any_round {md : Region.Mode} {ops : Array Oper} (hd : ∀ (i : Nat) o, ops[i]? = some o → ∀ c, o.op ≠ .defer c) : ∀ (fuel : Nat) (listed : Array Bool) (a : Act) (w : World), wpAny P md ops (Qr R) fuel listed a w → wpAnyIn (Fence.wide.inRound l) n P md ops (Qr R) fuel listed a w := by
  intro fuel
  induction fuel with
  | zero => intro listed a w h; exact h
  | succ fuel ih =>
    intro listed a w h
    refine ⟨h.1, fun i hi => ?_⟩
    have h1 := h.2 i hi
    unfold wpOp at h1
    unfold wpOpIn
    cases ho : ops[i]? with
    | none => rw [ho] at h1; exact ih _ _ _ h1
    | some o =>
      rw [ho] at h1
      simp only at h1 ⊢
      by_cases hw : Region.wanted o (yielded ops a.tmps) = true
      · rw [if_pos hw] at h1 ⊢
        rcases h1 with h1 | ⟨_, a0, w0, h1⟩
        · exact oper_round (hd i o ho) (fun a w h => ih _ _ _ h) h1
        · exact h1.elim
      · rw [if_neg hw] at h1 ⊢
        exact ⟨fun _ _ => trivial, ih _ _ _ h1⟩
theorem region_round {id : Nat} {ops : Array Oper} {S : World → Prop} {a : Act} {w : World} (hm : P.follows .mixedOrders = true) (hd : (ops.toList.all fun o => match o.op with | .defer _ => false | _ => true) = true)
    (h : wpAnyH P .any ops (Qr R) S ops.size (Array.replicate ops.size false) a { w with drawn := w.drawn + 1 }) : (Code.region id ops true).wpIn (Fence.wide.inRound l) n P (Qr R) a w :=
  wpIn_region_any hm (any_round (fun i o ho c hc => by
    rw [List.all_eq_true] at hd
    have := hd o (by rw [← Array.getElem?_toList] at ho; exact List.mem_of_getElem? ho)
    rw [hc] at this
    cases this) _ _ _ _ (wpAny_of_held _ _ _ _ h))
theorem wpIn_cut {F : Fence} {c : Code} {Q : Exit → Act → World → Prop} {a : Act} {w : World} (R : Act → World → Prop) (h : c.wpIn F n P (Qr R) a w) (hR : ∀ a w, R a w → Q .normal a w) : c.wpIn F n P Q a w :=
  wpIn_mono h fun e a w hq => by cases e <;> first | exact hR _ _ hq | exact hq.elim
end
end Go.Proofs.YtobceieadjpaaaaDoor
/-
  What is proved here: the code's own signature.
-/
namespace Go.Proofs.YtobceieadjpaaaaDoor
open Go.ChangeShapes Go.WideShapes Go.ChangeAt Go.RowKit
set_option linter.unusedVariables false
set_option maxRecDepth 20000

theorem results_tt {P : Program} {fn : Func} {p q : Tmp} (h : fn.results = #[.tmp p, .tmp q]) (tmps : Array Value) (w : World) : (results fn tmps).run P w = .ok (.tuple #[tmps.getD p undef, tmps.getD q undef]) w := by
  simp [results, h]
set_option maxHeartbeats 4000000 in
theorem lSign_no (k : Int) (id : List Int) (q : Int) (seed : List Int) (A : Option Addr) (m c : Nat) (w : World) (hk : k ≠ 1 ∧ k ≠ 2 ∧ k ≠ 3 ∧ k ≠ 4) (hi : Idn id) (hq : 0 ≤ q ∧ q < 4294967296) (hs : Ky seed) :
    Calls Tryd.prog 12 #[.int .i64 k, .agg (u8s id).toArray, .int .u32 q, .agg (u8s seed).toArray, .slice A m c] w fun e w' => e = .returned (.tuple #[.slice none 0 0, .int .i64 1]) ∧ Below w.heap.size w w' := by
  obtain ⟨Z, HZ, hZ0, hZs⟩ := zero_Hash
  obtain ⟨ZK, hzk, hZK0, hZKs⟩ := zero_key
  obtain ⟨hk1, hk2, hb0⟩ := blks2 w (u8s id).toArray (u8s seed).toArray 23 26
  have K1 := hid hk1; have K2 := hid hk2; have B0 := hid hb0
  have S0 : Hid (((w.alloc (.cells (u8s id).toArray 23)).alloc (.cells (u8s seed).toArray 26)).heap.size = w.heap.size + 1 + 1) := by show _ = _; simp
  have CSH := hid (shapeOf_any k)
  have IDI := hid (id_info hi); have HSI := hid (hash_info hs.len); have SHI := hid (shape_info k)
  have KSI := hid (key_cinfo k hi q); have KZS : Hid (ZK.size = (keyC k id q).size) := hzk.trans (keyC_size k hi q).symm
  have KLI := hid (key_info k hi q)
  have KALL := hid (keyC_all k id q)
  have HIDN := hid hi
  have kch := key_ch k id q
  rw [kchains_no hk] at kch
  have KCH := hid kch
  clear hk1 hk2 hb0 hzk hk hi hq hs kch
  refine (callsIn_wide (n := 2)).1 ?_
  refine callsIn_of_wp_marks Tryd.func12 rfl trivial ?_ rfl
  simp only [Tryd.ntmps12, List.size_toArray, List.length_cons, List.length_nil, Nat.reduceAdd, Nat.reduceSub, Array.replicate_succ, Array.replicate_zero, List.push_toArray, List.append_toArray, List.nil_append, List.cons_append]
  refine (wpIn_wide (n := 2)).2 ?_
  go_wp2
  generalize (w.alloc (.cells (u8s id).toArray 23)).alloc (.cells (u8s seed).toArray 26) = w0 at K1 K2 B0 S0 ⊢
  refine wp_cut (fun a' w' => ∃ g, a' = { tmps := #[.int .i64 k, .agg (u8s id).toArray, .int .u32 q, .agg (u8s seed).toArray, .slice A m c, undef, .pointer (some ⟨w.heap.size, 0, none⟩), undef, .pointer (some ⟨w.heap.size + 1, 0, none⟩), undef, .slice none 0 0, .int .i64 0, .pointer (some ⟨g, 0, none⟩), undef, undef, undef, undef, undef, .int .i64 k, .agg (shp k), .agg (u8s id).toArray, .int .u32 q, .agg (keyC k id q), undef, undef, undef, undef, undef, undef, undef, undef, undef, undef, undef, undef, undef, undef, undef, undef, undef, undef, undef, undef, undef, undef, undef, undef, undef, undef, undef, undef, undef, undef, undef, undef, undef, undef, undef], defers := [] } ∧ KeyAt (keyC k id q) w0 w' g) ?_ ?_
  · skip
    have GB0 : Hid (Bw w0 w0) := ⟨Below.refl _ _⟩
    refine wp_region_held (S := fun w' => Hid (Bw w0 w')) (by kernel_rfl) ?_
    change wpAnyH _ _ _ _ _ _ _ _ w0.drew
    have Gx0 : Hid (Bw w0 w0.drew) := GB0.out.drew
    have HBx0 : Below w0.heap.size w0 w0.drew := (Below.refl _ _).drew
    clear HBx0
    generalize w0.drew = x0 at Gx0  ⊢
    refine wpAnyH_take (i := 0) (oi := { dst := some 18, op := _, type := _, pos := _, after := _, guard := _ }) (v := ?_) rfl (by kernel_rfl) (by kernel_rfl) (by kernel_rfl) (fun _ _ _ h => h) (Or.inl ⟨by kernel_rfl, ?_⟩) (by assumption) ?_
    rotate_left
    · (intro w hSw; go_simp; try with_reducible rfl)
    try simp only [Act.put, List.setIfInBounds_toArray, List.set_cons_zero, List.set_cons_succ]
    refine wpAnyH_take (i := 2) (oi := { dst := some 20, op := _, type := _, pos := _, after := _, guard := _ }) (v := .agg ((u8s id).toArray)) rfl (by kernel_rfl) (by kernel_rfl) (by kernel_rfl) (fun _ _ _ h => h) (yieldsIf_load_mid (cs := u8s id) (by rfl) _ _ rfl _ _ rfl _ (fun w' hSw => blk_row (K1.out.below (Hid.out hSw).bl)) Tryd.underlying23 rfl IDI.out) (by assumption) ?_
    try simp only [Act.put, List.setIfInBounds_toArray, List.set_cons_zero, List.set_cons_succ]
    refine wpAnyH_take (i := 3) (oi := { dst := some 21, op := _, type := _, pos := _, after := _, guard := _ }) (v := ?_) rfl (by kernel_rfl) (by kernel_rfl) (by kernel_rfl) (fun _ _ _ h => h) (Or.inl ⟨by kernel_rfl, ?_⟩) (by assumption) ?_
    rotate_left
    · (intro w hSw; go_simp; try with_reducible rfl)
    try simp only [Act.put, List.setIfInBounds_toArray, List.set_cons_zero, List.set_cons_succ]
    refine wpAnyH_ready (rs := [1, 5]) (by kernel_rfl) (by simp) ?_
    refine (AllReadyH.cons (o := { dst := some 19, op := _, type := _, pos := _, after := _, guard := _ }) rfl (fun Qc hQc => ?_) (AllReadyH.cons (o := { dst := some 12, op := _, type := _, pos := _, after := _, guard := _ }) rfl (fun Qc hQc => ?_) AllReadyH.nil))
    ·
      go_simp
      go_at_call 35; refine (CSH.out _).mono ?_; rintro e x1 ⟨rfl, hbx1⟩
      have Gx1 := hid (Gx0.out.below hbx1)
      clear hbx1
      go_wp2_with fail
      refine hQc.out _ _ Gx1 (fun hHeld => ?_)
      clear hQc Qc Gx0
      try simp only [Act.put, List.setIfInBounds_toArray, List.set_cons_zero, List.set_cons_succ]
      refine wpAnyH_take (i := 4) (oi := { dst := some 22, op := _, type := _, pos := _, after := _, guard := _ }) (v := .agg (keyC k id q)) rfl (by kernel_rfl) (by kernel_rfl) (by kernel_rfl) (fun _ _ _ h => h) (yieldsIf_key (by rfl) (.tmp 19) (.tmp 20) (.tmp 21) rfl k id q HIDN.out rfl rfl rfl) (by assumption) ?_
      try simp only [Act.put, List.setIfInBounds_toArray, List.set_cons_zero, List.set_cons_succ]
      refine wpAnyH_ready (rs := [5]) (by kernel_rfl) (by simp) ?_
      refine (AllReadyH.cons (o := { dst := some 12, op := _, type := _, pos := _, after := _, guard := _ }) rfl (fun Qc hQc => ?_) AllReadyH.nil)
      go_simp
      have Gx2 := hid (Gx1.out.alloc (.cells ZK 64))
      have HBx2 : Below x1.heap.size x1 (x1.alloc (.cells ZK 64)) := (Below.refl _ _).alloc (Nat.le_refl _) _
      have A := hid (Blk.new x1 64 ZK)
      have LE : Hid (w0.heap.size ≤ x1.heap.size) := Gx1.out.bl.size
      clear HBx2
      refine hQc.out _ _ Gx2 (fun hHeld => ?_)
      clear hQc Qc Gx1
      generalize hgx2 : x1.heap.size = g at A LE  ⊢
      generalize x1.alloc (.cells ZK 64) = x2 at Gx2 A  hHeld ⊢
      clear hgx2
      try simp only [Act.put, List.setIfInBounds_toArray, List.set_cons_zero, List.set_cons_succ]
      refine wpAnyH_ready (rs := [6]) (by kernel_rfl) (by simp) ?_
      refine (AllReadyH.cons (o := { dst := none, op := _, type := _, pos := _, after := _, guard := _ }) rfl (fun Qc hQc => ?_) AllReadyH.nil)
      rw [if_pos (by rfl)]
      refine wp_store_row 64 (.tmp 12) (.tmp 22) rfl (g) (keyC k id q) rfl rfl 64 ZK A.out KSI.out KZS.out KALL.out ?_
      have Gx3 := hid (Gx2.out.row (g := g) LE.out (keyC k id q))
      have KWx3 := hid ((A.out).row (keyC k id q))
      refine hQc.out _ _ Gx3 (fun hHeld => ?_)
      clear hQc Qc Gx2
      generalize x2.setRow (g) (keyC k id q) = x3 at Gx3 KWx3 hHeld ⊢
      try simp only [Act.put, List.setIfInBounds_toArray, List.set_cons_zero, List.set_cons_succ]
      refine wpAnyH_done (by kernel_rfl) ?_ _
      try simp only [Act.put, List.setIfInBounds_toArray, List.set_cons_zero, List.set_cons_succ]
      exact ⟨g, rfl, ⟨KWx3.out, LE.out, Gx3.out⟩⟩
    ·
      go_simp
      have Gx4 := hid (Gx0.out.alloc (.cells ZK 64))
      have HBx4 : Below x0.heap.size x0 (x0.alloc (.cells ZK 64)) := (Below.refl _ _).alloc (Nat.le_refl _) _
      have A := hid (Blk.new x0 64 ZK)
      have LE : Hid (w0.heap.size ≤ x0.heap.size) := Gx0.out.bl.size
      clear HBx4
      refine hQc.out _ _ Gx4 (fun hHeld => ?_)
      clear hQc Qc Gx0
      generalize hgx4 : x0.heap.size = g at A LE  ⊢
      generalize x0.alloc (.cells ZK 64) = x4 at Gx4 A  hHeld ⊢
      clear hgx4
      try simp only [Act.put, List.setIfInBounds_toArray, List.set_cons_zero, List.set_cons_succ]
      refine wpAnyH_ready (rs := [1]) (by kernel_rfl) (by simp) ?_
      refine (AllReadyH.cons (o := { dst := some 19, op := _, type := _, pos := _, after := _, guard := _ }) rfl (fun Qc hQc => ?_) AllReadyH.nil)
      go_simp
      go_at_call 35; refine (CSH.out _).mono ?_; rintro e x5 ⟨rfl, hbx5⟩
      have Gx5 := hid (Gx4.out.below hbx5)
      have A := hid (A.out.below hbx5)
      clear hbx5
      go_wp2_with fail
      refine hQc.out _ _ Gx5 (fun hHeld => ?_)
      clear hQc Qc Gx4
      try simp only [Act.put, List.setIfInBounds_toArray, List.set_cons_zero, List.set_cons_succ]
      refine wpAnyH_take (i := 4) (oi := { dst := some 22, op := _, type := _, pos := _, after := _, guard := _ }) (v := .agg (keyC k id q)) rfl (by kernel_rfl) (by kernel_rfl) (by kernel_rfl) (fun _ _ _ h => h) (yieldsIf_key (by rfl) (.tmp 19) (.tmp 20) (.tmp 21) rfl k id q HIDN.out rfl rfl rfl) (by assumption) ?_
      try simp only [Act.put, List.setIfInBounds_toArray, List.set_cons_zero, List.set_cons_succ]
      refine wpAnyH_ready (rs := [6]) (by kernel_rfl) (by simp) ?_
      refine (AllReadyH.cons (o := { dst := none, op := _, type := _, pos := _, after := _, guard := _ }) rfl (fun Qc hQc => ?_) AllReadyH.nil)
      rw [if_pos (by rfl)]
      refine wp_store_row 64 (.tmp 12) (.tmp 22) rfl (g) (keyC k id q) rfl rfl 64 ZK A.out KSI.out KZS.out KALL.out ?_
      have Gx6 := hid (Gx5.out.row (g := g) LE.out (keyC k id q))
      have KWx6 := hid ((A.out).row (keyC k id q))
      refine hQc.out _ _ Gx6 (fun hHeld => ?_)
      clear hQc Qc Gx5
      generalize x5.setRow (g) (keyC k id q) = x6 at Gx6 KWx6 hHeld ⊢
      try simp only [Act.put, List.setIfInBounds_toArray, List.set_cons_zero, List.set_cons_succ]
      refine wpAnyH_done (by kernel_rfl) ?_ _
      try simp only [Act.put, List.setIfInBounds_toArray, List.set_cons_zero, List.set_cons_succ]
      exact ⟨g, rfl, ⟨KWx6.out, LE.out, Gx6.out⟩⟩

  · rintro a' w1 ⟨g, rfl, hka⟩
    have HKA := hid hka
    have c1 : w1.cell? ⟨g, 1, none⟩ = some (.int .i64 0) := by rw [HKA.out.b.cell]; exact KCH.out
    have B1 := hid (B0.out.trans (HKA.out.bw.bl.mono B0.out.size))
    clear hka HKA K1 K2 B0
    go_wp2
    refine ⟨_, results_tt rfl _ _, rfl, B1.out⟩
end Go.Proofs.YtobceieadjpaaaaDoor
/-
  What is proved here: the code's own signature.
-/
namespace Go.Proofs.YtobceieadjpaaaaDoor
open Go.ChangeShapes Go.WideShapes Go.ChangeAt Go.RowKit
set_option linter.unusedVariables false
set_option maxRecDepth 20000

/-- what the code answers of a signature -/
def SgPost (k : Int) (id : List Int) (q : Int) (seed msg : List Int) (w : World) (e : Ending) (w' : World) : Prop :=
  ∃ g, e = .returned (.tuple #[.slice (some ⟨g, 0, none⟩) (ksize k) (ksize k), .int .i64 0]) ∧ w.heap.size ≤ g ∧ Blk w' g 5 (u8s (signK k id q seed msg)).toArray ∧ Below w.heap.size w w'
/-- the digits that have come, as chains' hashes -/
def rowsD (id : List Int) (q : Int) (seed : List Int) (pre : List Dg) : List Int := pre.flatMap fun x => steps id q (x.1.val : Int) (begn id q (x.1.val : Int) seed) 0 x.2.val
theorem rowsD_snoc (id : List Int) (q : Int) (seed : List Int) (pre : List Dg) (x : Dg) : rowsD id q seed (pre ++ [x]) = rowsD id q seed pre ++ steps id q (x.1.val : Int) (begn id q (x.1.val : Int) seed) 0 x.2.val := by
  unfold rowsD
  rw [List.flatMap_append, List.flatMap_cons, List.flatMap_nil, List.append_nil]
theorem flat_congr {L : List Nat} {f g : Nat → List Int} (h : ∀ i ∈ L, f i = g i) : L.flatMap f = L.flatMap g := by
  induction L with
  | nil => rfl
  | cons x L ih => rw [List.flatMap_cons, List.flatMap_cons, ih (fun i hi => h i (List.mem_cons_of_mem _ hi)), h x (List.mem_cons_self ..)]
theorem flat_length {f : Dg → List Int} {n : Nat} (pre : List Dg) (h : ∀ x, (f x).length = n) : (pre.flatMap f).length = n * pre.length := by
  induction pre with
  | nil => simp
  | cons x pre ih => rw [List.flatMap_cons, List.length_append, h, ih, List.length_cons, Nat.mul_add]; omega
theorem rowsD_length (id : List Int) (q : Int) (seed : List Int) (pre : List Dg) : (rowsD id q seed pre).length = 32 * pre.length := flat_length pre fun x => (steps_ky (under_ky _ _ _ _) _ _).len
theorem dgs_fst (B E : Nat) (xs : List Int) (j : Nat) (h : j < 265) : ((dgs B E xs j).1.val) = j := Nat.mod_eq_of_lt h
theorem dgs_snd (k : Int) (H : List Int) (i : Nat) (hi : i < kchains k) : (dgs (kbits k) (8 / kbits k) (kall k H) i).2.val = dgt k H i := by
  have l := dig_lo (kall k H) i (kbits k) (8 / kbits k)
  have g := dig_hi (kall k H) i (kbits k) (8 / kbits k)
  have p := pow_le8 (kbits k) (kbits_le k)
  unfold dgt digits
  rw [List.getElem?_map, List.getElem?_range hi]
  exact Nat.mod_eq_of_lt (by omega)
theorem rowsD_upto (k : Int) (id : List Int) (q : Int) (seed H : List Int) : rowsD id q seed (upto (dgs (kbits k) (8 / kbits k) (kall k H)) (kchains k)) = rowsOf (kchains k) fun i => steps id q i (begn id q i seed) 0 (dgt k H i) := by
  unfold rowsD upto rowsOf
  rw [List.flatMap_map]
  refine flat_congr fun i hi => ?_
  have hi2 : i < kchains k := by simpa using hi
  rw [dgs_fst _ _ _ _ (Nat.lt_of_lt_of_le hi2 (kchains_le k)), dgs_snd k H i hi2]
theorem Blk.only {S : Nat → Prop} {w w' : World} {b : Nat} {t : TypeId} {cs : Array Value} (h : Blk w b t cs) (ho : OnlyS S w w') (hn : ¬ S b) : Blk w' b t cs := h.same (ho.block b h.lt hn)
theorem not_of {wb b : Nat} (h : b ≠ wb) : ¬ Of (some ⟨wb, 0, none⟩) b := fun ⟨a, e, hb⟩ => by injection e with e; subst e; exact h hb
theorem rp_off {w : World} {b wb : Nat} {xs : List Int} {t : TypeId} (h : Blk w b t (u8s xs).toArray) (hn : b ≠ wb) : Rp w (some ⟨wb, 0, none⟩) (some ⟨b, 0, none⟩) xs := fun hx => by
  obtain ⟨ad, e, _, hc⟩ := (blk_rp h) hx
  injection e with e
  subst e
  exact ⟨_, rfl, not_of hn, hc⟩
theorem WPlain32 (p : Option Addr) (bs : List Int) (A : Option Addr) (cap : Nat) (xs : List Int) (w : World) (h32 : xs.length = 32) (h : WRep w p (.good bs)) (hr : Rp w p A xs) (hl : bs.length + xs.length < 1000000000000) :
    Calls Tryd.prog 38 #[.pointer p, .slice A 32 cap] w fun e w' => e = .returned (.tuple #[]) ∧ WRep w' p (.good (bs ++ xs)) ∧ OnlyS (Of p) w w' := by
  have := WPlain_any p (.good bs) A cap xs w h hr hl
  rw [h32] at this
  exact this
/-- between two rounds of the signature -/
structure SnI (KC : Array Value) (id : List Int) (q : Int) (seed X0 : List Int) (n0 g sd wb : Nat) (w : World) (pre : List Dg) (W : World) : Prop where
  b0 : Blk W g 64 KC
  b1 : Blk W sd 26 (u8s seed).toArray
  wr : WRep W (some ⟨wb, 0, none⟩) (.good (X0 ++ rowsD id q seed pre))
  bl : Below n0 w W
theorem WRep.own {W W' : World} {wb : Nat} {xs : List Int} {row : Option Nat} (h : WRep W (some ⟨wb, 0, none⟩) (.good xs)) (hg : W.grownBy W' row) (hr : ∀ r, row = some r → ∃ o : Obj, W.heap[r]? = some o ∧ o.isCells = false) : WRep W' (some ⟨wb, 0, none⟩) (.good xs) := by
  obtain ⟨b, e, c, full, h1, h2⟩ := id h
  injection e with e
  injection e with e
  subst e
  exact h.keep (fun k hk => by
    obtain ⟨a, e, rfl⟩ := hk
    injection e with e
    subst e
    exact (h1.own hg hr).trans h1.symm) (fun g cs hb => (Blk.own hb hg hr).trans hb.symm)
theorem SnI.own {KC : Array Value} {id : List Int} {q : Int} {seed X0 : List Int} {n0 g sd wb B : Nat} {w : World} (hn : n0 ≤ w.heap.size) (hB : n0 ≤ B) : OwnFrom B (SnI KC id q seed X0 n0 g sd wb w) := fun pre W W' row hs hg hr =>
  ⟨hs.b0.own hg (fun r e => (hr r e).2), hs.b1.own hg (fun r e => (hr r e).2), hs.wr.own hg (fun r e => (hr r e).2), hs.bl.grown hg (Nat.le_trans hn hs.bl.size) (fun r e => Nat.le_trans hB (hr r e).1)⟩
theorem only_others {wb : Nat} {W W' : World} {cs : Array Value} (hb : Blk W wb 69 cs) (ho : OnlyS (Of (some ⟨wb, 0, none⟩)) W W') : KeepsOthers W W' := by
  refine ⟨ho.size, fun k o hk hn => ?_⟩
  by_cases he : k = wb
  · subst he
    unfold Blk at hb
    rw [hb] at hk
    injection hk with hk
    subst hk
    cases hn
  · exact (ho.block k (by
      rcases Nat.lt_or_ge k W.heap.size with h | h
      · exact h
      · rw [Array.getElem?_eq_none h] at hk; cases hk) (not_of he)).trans hk
end Go.Proofs.YtobceieadjpaaaaDoor
/-
  What is proved here: the code's own signature.
-/
namespace Go.Proofs.YtobceieadjpaaaaDoor
open Go.ChangeShapes Go.WideShapes Go.ChangeAt Go.RowKit
set_option linter.unusedVariables false
set_option maxRecDepth 20000

attribute [local go_sem] Oper.semAt_some
set_option maxHeartbeats 8000000 in
theorem lSign_kd (k : Int) (id : List Int) (q : Int) (seed : List Int) (A : Option Addr) (m c : Nat) (msg : List Int) (w : World) (hk : Kd k) (hi : Idn id) (hq : 0 ≤ q ∧ q < 4294967296) (hs : Ky seed) (hm : m = msg.length) (hr : Rp w none A msg) (hb : Bs msg) (hl : msg.length < 2000000) (hc : m ≤ c) (ht : Tab w) :
    Calls Tryd.prog 12 #[.int .i64 k, .agg (u8s id).toArray, .int .u32 q, .agg (u8s seed).toArray, .slice A m c] w (SgPost k id q seed msg w) := by
  obtain ⟨Z, HZ, hZ0, hZs⟩ := zero_Hash
  obtain ⟨ZK, hzk, hZK0, hZKs⟩ := zero_key
  obtain ⟨hk1, hk2, hb0⟩ := blks2 w (u8s id).toArray (u8s seed).toArray 23 26
  have K1 := hid hk1; have K2 := hid hk2; have B0 := hid hb0
  have S0 : Hid (((w.alloc (.cells (u8s id).toArray 23)).alloc (.cells (u8s seed).toArray 26)).heap.size = w.heap.size + 1 + 1) := by show _ = _; simp
  have CSH := hid (shapeOf_any k)
  have IDI := hid (id_info hi); have HSI := hid (hash_info hs.len); have SHI := hid (shape_info k)
  have KSI := hid (key_cinfo k hi q); have KZS : Hid (ZK.size = (keyC k id q).size) := hzk.trans (keyC_size k hi q).symm
  have KLI := hid (key_info k hi q)
  have KALL := hid (keyC_all k id q)
  have HIDN := hid hi
  have KCH := hid (key_ch k id q)
  have hkz : ((kchains k : Nat) : Int) ≠ 0 := by rcases hk with rfl | rfl | rfl | rfl <;> decide
  have hkb : (((kchains k : Nat) : Int) == 0) = false := by simpa using hkz
  have hku : IntKind.u32.wrap k = k := by rcases hk with rfl | rfl | rfl | rfl <;> decide
  have HK := hid hk; have HQ := hid hq; have HS := hid hs; have HM := hid hm; have HL := hid hl; have HC := hid hc
  have HR := hid (fun (w1 : World) (hb : Below w.heap.size w w1) => hr.belowN hb)
  have HB := hid hb
  have HT := hid (fun (w1 : World) (hb : Below w.heap.size w w1) => ht.below hb)
  have HZS : Hid (Z.size = 32) := by show _ = _; rw [HZ.out, List.size_toArray, u8s_length]; simp
  obtain ⟨salt, hsalt⟩ : ∃ salt, salt = saltOf id q seed := ⟨_, rfl⟩
  have hsky : Ky salt := by rw [hsalt]; exact under_ky _ _ _ _
  have CSA : Hid (∀ w1, Below w.heap.size w w1 → Calls Tryd.prog 36 #[.agg (keyC k id q), .int .i64 65533, .agg (u8s seed).toArray] w1 fun e w' => e = .returned (.agg (u8s salt).toArray) ∧ Below w1.heap.size w1 w') := by
    rw [hsalt]
    exact fun w1 hb => secret_any k id q 65533 seed w1 hi hq (by decide) hs (ht.below hb)
  obtain ⟨H, hH⟩ : ∃ H, H = under id q 33153 (salt ++ msg) := ⟨_, rfl⟩
  have hhk : Ky H := by rw [hH]; exact under_ky _ _ _ _
  have HHK := hid hhk
  have CSU : Hid (∀ (A1 : Option Addr) (w1 : World), InR w1 A1 2 [salt, msg] → Below w.heap.size w w1 → Calls Tryd.prog 40 #[.agg (keyC k id q), .int .i64 33153, .slice A1 2 2] w1 fun e w' => e = .returned (.agg (u8s H).toArray) ∧ Below w1.heap.size w1 w') := fun A1 w1 h hb1 => by
    have := ksum_any k id q 33153 A1 2 2 [salt, msg] w1 hi hq (by decide) h (by decide) (fun f hf => by
      simp only [List.mem_cons, List.not_mem_nil, or_false] at hf
      rcases hf with rfl | rfl
      · rw [hsky.len]; decide
      · omega) (fun f hf => by
      simp only [List.mem_cons, List.not_mem_nil, or_false] at hf
      rcases hf with rfl | rfl
      · exact hsky.bs
      · exact hb) (by simp only [List.flatten_cons, List.flatten_nil, List.append_nil, List.length_append]; rw [hsky.len]; omega) (ht.below hb1)
    rw [show [salt, msg].flatten = salt ++ msg by simp, ← hH] at this
    exact this
  have CSD := hid (fun w1 => sdigits_any k H hk hhk w1)
  have HH2 := hid hH
  have HSI2 := hid (info_hash salt hsky.len); have HSZ2 := hid (hash_size hsky.len)
  have HSK := hid hsky; have HSALT := hid hsalt
  obtain ⟨ZW, hz, hz0, z0, z1, z2, z3, z4, hZWs⟩ := zero_writer
  have NW := hid (fun (w1 : World) => new_writer (Blk.new w1 69 ZW) hz z0.out z1.out z2.out z3.out)
  clear hk1 hk2 hb0 hzk hk hi hq hs hm hr hb hl hc ht hsalt hsky hH hhk z0 z1 z2 z3 z4
  refine (callsIn_wide (n := 2)).1 ?_
  refine callsIn_of_wp_marks Tryd.func12 rfl trivial ?_ rfl
  simp only [Tryd.ntmps12, List.size_toArray, List.length_cons, List.length_nil, Nat.reduceAdd, Nat.reduceSub, Array.replicate_succ, Array.replicate_zero, List.push_toArray, List.append_toArray, List.nil_append, List.cons_append]
  refine (wpIn_wide (n := 2)).2 ?_
  go_wp2
  generalize (w.alloc (.cells (u8s id).toArray 23)).alloc (.cells (u8s seed).toArray 26) = w0 at K1 K2 B0 S0 ⊢
  refine wp_cut (fun a' w' => ∃ g, a' = { tmps := #[.int .i64 k, .agg (u8s id).toArray, .int .u32 q, .agg (u8s seed).toArray, .slice A m c, undef, .pointer (some ⟨w.heap.size, 0, none⟩), undef, .pointer (some ⟨w.heap.size + 1, 0, none⟩), undef, .slice none 0 0, .int .i64 0, .pointer (some ⟨g, 0, none⟩), undef, undef, undef, undef, undef, .int .i64 k, .agg (shp k), .agg (u8s id).toArray, .int .u32 q, .agg (keyC k id q), undef, undef, undef, undef, undef, undef, undef, undef, undef, undef, undef, undef, undef, undef, undef, undef, undef, undef, undef, undef, undef, undef, undef, undef, undef, undef, undef, undef, undef, undef, undef, undef, undef, undef, undef], defers := [] } ∧ KeyAt (keyC k id q) w0 w' g) ?_ ?_
  · skip
    have GB0 : Hid (Bw w0 w0) := ⟨Below.refl _ _⟩
    refine wp_region_held (S := fun w' => Hid (Bw w0 w')) (by kernel_rfl) ?_
    change wpAnyH _ _ _ _ _ _ _ _ w0.drew
    have Gx0 : Hid (Bw w0 w0.drew) := GB0.out.drew
    have HBx0 : Below w0.heap.size w0 w0.drew := (Below.refl _ _).drew
    clear HBx0
    generalize w0.drew = x0 at Gx0  ⊢
    refine wpAnyH_take (i := 0) (oi := { dst := some 18, op := _, type := _, pos := _, after := _, guard := _ }) (v := ?_) rfl (by kernel_rfl) (by kernel_rfl) (by kernel_rfl) (fun _ _ _ h => h) (Or.inl ⟨by kernel_rfl, ?_⟩) (by assumption) ?_
    rotate_left
    · (intro w hSw; go_simp; try with_reducible rfl)
    try simp only [Act.put, List.setIfInBounds_toArray, List.set_cons_zero, List.set_cons_succ]
    refine wpAnyH_take (i := 2) (oi := { dst := some 20, op := _, type := _, pos := _, after := _, guard := _ }) (v := .agg ((u8s id).toArray)) rfl (by kernel_rfl) (by kernel_rfl) (by kernel_rfl) (fun _ _ _ h => h) (yieldsIf_load_mid (cs := u8s id) (by rfl) _ _ rfl _ _ rfl _ (fun w' hSw => blk_row (K1.out.below (Hid.out hSw).bl)) Tryd.underlying23 rfl IDI.out) (by assumption) ?_
    try simp only [Act.put, List.setIfInBounds_toArray, List.set_cons_zero, List.set_cons_succ]
    refine wpAnyH_take (i := 3) (oi := { dst := some 21, op := _, type := _, pos := _, after := _, guard := _ }) (v := ?_) rfl (by kernel_rfl) (by kernel_rfl) (by kernel_rfl) (fun _ _ _ h => h) (Or.inl ⟨by kernel_rfl, ?_⟩) (by assumption) ?_
    rotate_left
    · (intro w hSw; go_simp; try with_reducible rfl)
    try simp only [Act.put, List.setIfInBounds_toArray, List.set_cons_zero, List.set_cons_succ]
    refine wpAnyH_ready (rs := [1, 5]) (by kernel_rfl) (by simp) ?_
    refine (AllReadyH.cons (o := { dst := some 19, op := _, type := _, pos := _, after := _, guard := _ }) rfl (fun Qc hQc => ?_) (AllReadyH.cons (o := { dst := some 12, op := _, type := _, pos := _, after := _, guard := _ }) rfl (fun Qc hQc => ?_) AllReadyH.nil))
    ·
      go_simp
      go_at_call 35; refine (CSH.out _).mono ?_; rintro e x1 ⟨rfl, hbx1⟩
      have Gx1 := hid (Gx0.out.below hbx1)
      clear hbx1
      go_wp2_with fail
      refine hQc.out _ _ Gx1 (fun hHeld => ?_)
      clear hQc Qc Gx0
      try simp only [Act.put, List.setIfInBounds_toArray, List.set_cons_zero, List.set_cons_succ]
      refine wpAnyH_take (i := 4) (oi := { dst := some 22, op := _, type := _, pos := _, after := _, guard := _ }) (v := .agg (keyC k id q)) rfl (by kernel_rfl) (by kernel_rfl) (by kernel_rfl) (fun _ _ _ h => h) (yieldsIf_key (by rfl) (.tmp 19) (.tmp 20) (.tmp 21) rfl k id q HIDN.out rfl rfl rfl) (by assumption) ?_
      try simp only [Act.put, List.setIfInBounds_toArray, List.set_cons_zero, List.set_cons_succ]
      refine wpAnyH_ready (rs := [5]) (by kernel_rfl) (by simp) ?_
      refine (AllReadyH.cons (o := { dst := some 12, op := _, type := _, pos := _, after := _, guard := _ }) rfl (fun Qc hQc => ?_) AllReadyH.nil)
      go_simp
      have Gx2 := hid (Gx1.out.alloc (.cells ZK 64))
      have HBx2 : Below x1.heap.size x1 (x1.alloc (.cells ZK 64)) := (Below.refl _ _).alloc (Nat.le_refl _) _
      have A := hid (Blk.new x1 64 ZK)
      have LE : Hid (w0.heap.size ≤ x1.heap.size) := Gx1.out.bl.size
      clear HBx2
      refine hQc.out _ _ Gx2 (fun hHeld => ?_)
      clear hQc Qc Gx1
      generalize hgx2 : x1.heap.size = g at A LE  ⊢
      generalize x1.alloc (.cells ZK 64) = x2 at Gx2 A  hHeld ⊢
      clear hgx2
      try simp only [Act.put, List.setIfInBounds_toArray, List.set_cons_zero, List.set_cons_succ]
      refine wpAnyH_ready (rs := [6]) (by kernel_rfl) (by simp) ?_
      refine (AllReadyH.cons (o := { dst := none, op := _, type := _, pos := _, after := _, guard := _ }) rfl (fun Qc hQc => ?_) AllReadyH.nil)
      rw [if_pos (by rfl)]
      refine wp_store_row 64 (.tmp 12) (.tmp 22) rfl (g) (keyC k id q) rfl rfl 64 ZK A.out KSI.out KZS.out KALL.out ?_
      have Gx3 := hid (Gx2.out.row (g := g) LE.out (keyC k id q))
      have KWx3 := hid ((A.out).row (keyC k id q))
      refine hQc.out _ _ Gx3 (fun hHeld => ?_)
      clear hQc Qc Gx2
      generalize x2.setRow (g) (keyC k id q) = x3 at Gx3 KWx3 hHeld ⊢
      try simp only [Act.put, List.setIfInBounds_toArray, List.set_cons_zero, List.set_cons_succ]
      refine wpAnyH_done (by kernel_rfl) ?_ _
      try simp only [Act.put, List.setIfInBounds_toArray, List.set_cons_zero, List.set_cons_succ]
      exact ⟨g, rfl, ⟨KWx3.out, LE.out, Gx3.out⟩⟩
    ·
      go_simp
      have Gx4 := hid (Gx0.out.alloc (.cells ZK 64))
      have HBx4 : Below x0.heap.size x0 (x0.alloc (.cells ZK 64)) := (Below.refl _ _).alloc (Nat.le_refl _) _
      have A := hid (Blk.new x0 64 ZK)
      have LE : Hid (w0.heap.size ≤ x0.heap.size) := Gx0.out.bl.size
      clear HBx4
      refine hQc.out _ _ Gx4 (fun hHeld => ?_)
      clear hQc Qc Gx0
      generalize hgx4 : x0.heap.size = g at A LE  ⊢
      generalize x0.alloc (.cells ZK 64) = x4 at Gx4 A  hHeld ⊢
      clear hgx4
      try simp only [Act.put, List.setIfInBounds_toArray, List.set_cons_zero, List.set_cons_succ]
      refine wpAnyH_ready (rs := [1]) (by kernel_rfl) (by simp) ?_
      refine (AllReadyH.cons (o := { dst := some 19, op := _, type := _, pos := _, after := _, guard := _ }) rfl (fun Qc hQc => ?_) AllReadyH.nil)
      go_simp
      go_at_call 35; refine (CSH.out _).mono ?_; rintro e x5 ⟨rfl, hbx5⟩
      have Gx5 := hid (Gx4.out.below hbx5)
      have A := hid (A.out.below hbx5)
      clear hbx5
      go_wp2_with fail
      refine hQc.out _ _ Gx5 (fun hHeld => ?_)
      clear hQc Qc Gx4
      try simp only [Act.put, List.setIfInBounds_toArray, List.set_cons_zero, List.set_cons_succ]
      refine wpAnyH_take (i := 4) (oi := { dst := some 22, op := _, type := _, pos := _, after := _, guard := _ }) (v := .agg (keyC k id q)) rfl (by kernel_rfl) (by kernel_rfl) (by kernel_rfl) (fun _ _ _ h => h) (yieldsIf_key (by rfl) (.tmp 19) (.tmp 20) (.tmp 21) rfl k id q HIDN.out rfl rfl rfl) (by assumption) ?_
      try simp only [Act.put, List.setIfInBounds_toArray, List.set_cons_zero, List.set_cons_succ]
      refine wpAnyH_ready (rs := [6]) (by kernel_rfl) (by simp) ?_
      refine (AllReadyH.cons (o := { dst := none, op := _, type := _, pos := _, after := _, guard := _ }) rfl (fun Qc hQc => ?_) AllReadyH.nil)
      rw [if_pos (by rfl)]
      refine wp_store_row 64 (.tmp 12) (.tmp 22) rfl (g) (keyC k id q) rfl rfl 64 ZK A.out KSI.out KZS.out KALL.out ?_
      have Gx6 := hid (Gx5.out.row (g := g) LE.out (keyC k id q))
      have KWx6 := hid ((A.out).row (keyC k id q))
      refine hQc.out _ _ Gx6 (fun hHeld => ?_)
      clear hQc Qc Gx5
      generalize x5.setRow (g) (keyC k id q) = x6 at Gx6 KWx6 hHeld ⊢
      try simp only [Act.put, List.setIfInBounds_toArray, List.set_cons_zero, List.set_cons_succ]
      refine wpAnyH_done (by kernel_rfl) ?_ _
      try simp only [Act.put, List.setIfInBounds_toArray, List.set_cons_zero, List.set_cons_succ]
      exact ⟨g, rfl, ⟨KWx6.out, LE.out, Gx6.out⟩⟩

  · rintro a' w1 ⟨g, rfl, hka⟩
    have HKA := hid hka
    have c1 : w1.cell? ⟨g, 1, none⟩ = some (.int .i64 (kchains k : Nat)) := by rw [HKA.out.b.cell]; exact KCH.out
    have G1 : Hid (Blk w1 g 64 (keyC k id q)) := HKA.out.b
    have HGL : Hid (w.heap.size + 1 + 1 ≤ g) := by show _ ≤ _; rw [← S0.out]; exact HKA.out.le
    have D1 := hid (K2.out.below HKA.out.bw.bl)
    have B1 := hid (B0.out.trans (HKA.out.bw.bl.mono B0.out.size))
    clear hka HKA K1 K2 B0
    go_wp2_with (first
      | (refine load_at rfl 64 (.tmp 12) rfl g 0 rfl (keyC k id q).toList _ (blk_rng G1.out) Tryd.underlying64 rfl KLI.out (keyC k id q) rfl ?_)
      | (refine load_at rfl 26 (.tmp 8) rfl (w.heap.size + 1) 0 rfl (u8s seed) _ (blk_row D1.out) Tryd.underlying26 rfl HSI.out (u8s seed).toArray rfl ?_)
      | (go_at_call 36; refine (CSA.out _ B1.out).mono ?_; rintro e w2 ⟨rfl, hb2⟩; have G2 := hid (G1.out.below hb2); have D2 := hid (D1.out.below hb2); have B2 := hid (B1.out.trans (hb2.mono B1.out.size)); clear hb2)
      | (refine wpList_store_row rfl 26 (.tmp 13) (.tmp 29) rfl w2.heap.size (u8s salt).toArray rfl rfl 26 Z (Blk.new w2 26 Z) HSI2.out (by rw [HZS.out, HSZ2.out]) (u8s_all salt) ?_; have A3 := hid ((Blk.new w2 26 Z).row (u8s salt).toArray); have G3 := hid ((G2.out.alloc (.cells Z 26)).rowFar (Nat.ne_of_lt G2.out.lt) (u8s salt).toArray); have D3 := hid ((D2.out.alloc (.cells Z 26)).rowFar (Nat.ne_of_lt D2.out.lt) (u8s salt).toArray); have B3 := hid (below_setRow (B2.out.alloc B2.out.size (.cells Z 26)) B2.out.size (u8s salt).toArray); generalize (w2.alloc (.cells Z 26)).setRow w2.heap.size (u8s salt).toArray = w3 at A3 G3 D3 B3 ⊢)
      | (go_at_call 37; have W4 : WRep (w3.alloc (.cells ZW 69)) (some ⟨w3.heap.size, 0, none⟩) (.good []) := ⟨_, rfl, NW.out w3⟩; refine (WU32_any (some ⟨w3.heap.size, 0, none⟩) (.good []) k _ W4 (by rcases HK.out with rfl | rfl | rfl | rfl <;> decide) (by simp [WS.len])).mono ?_; clear W4; rintro e w5 ⟨rfl, hw5, ho5⟩; have W5 : Hid (WRep w5 (some ⟨w3.heap.size, 0, none⟩) (.good (be k 4))) := hw5; have O5 := hid ho5; clear hw5 ho5)
      | (go_at_call 38; refine (WPlain32 (some ⟨w3.heap.size, 0, none⟩) (be k 4) (some ⟨w2.heap.size, 0, none⟩) 32 salt w5 HSK.out.len W5.out (rp_off (Blk.only (A3.out.alloc (.cells ZW 69)) O5.out (not_of (Nat.ne_of_lt A3.out.lt))) (Nat.ne_of_lt A3.out.lt)) (by rw [be_length, HSK.out.len]; decide)).mono ?_; rintro e w6 ⟨rfl, hw6, ho6⟩; have W6 := hid hw6; have O6 := hid (O5.out.trans ho6); clear hw6 ho6 O5 W5))
    have LT1 : Hid (w.heap.size + 1 < w3.heap.size) := by show _ < _; have := D3.out.lt; omega
    have LT2 : Hid (g < w3.heap.size) := G3.out.lt
    have LT3 : Hid (w2.heap.size < w3.heap.size) := A3.out.lt
    have LT4 : Hid (w3.heap.size < w6.heap.size) := by show _ < _; have := O6.out.size; rw [World.size_alloc] at this; omega
    have G6 := hid (Blk.only (G3.out.alloc (.cells ZW 69)) O6.out (not_of (Nat.ne_of_lt LT2.out)))
    have D6 := hid (Blk.only (D3.out.alloc (.cells ZW 69)) O6.out (not_of (Nat.ne_of_lt LT1.out)))
    have A6 := hid (Blk.only (A3.out.alloc (.cells ZW 69)) O6.out (not_of (Nat.ne_of_lt LT3.out)))
    have B6 : Hid (Below w.heap.size w w6) := (B3.out.alloc B3.out.size (.cells ZW 69)).trans (O6.out.below (by rw [World.size_alloc]; have := B3.out.size; omega) (fun k hk => by obtain ⟨a, e, rfl⟩ := hk; injection e with e; subst e; exact B3.out.size))
    generalize w2.heap.size = sb at LT3 A6 ⊢
    generalize w3.heap.size = wb at W6 LT1 LT2 LT3 LT4 ⊢
    clear O6 G1 G2 G3 D1 D2 D3 A3 B1 B2 B3 c1
    refine wp_cut (fun a' w' => ∃ rb bs sc A2 c2, a' = { tmps := #[.int .i64 k, .agg (u8s id).toArray, .int .u32 q, .agg (u8s seed).toArray, .slice A m c, undef, .pointer (some ⟨w.heap.size, 0, none⟩), undef, .pointer (some ⟨w.heap.size + 1, 0, none⟩), undef, .slice none 0 0, .int .i64 0, .pointer (some ⟨g, 0, none⟩), .pointer (some ⟨sb, 0, none⟩), .pointer (some ⟨wb, 0, none⟩), undef, undef, undef, .int .i64 k, .agg (shp k), .agg (u8s id).toArray, .int .u32 q, .agg (keyC k id q), .pointer (some ⟨g, 0, none⟩), .pointer (some ⟨g, 1, none⟩), .int .i64 (kchains k : Nat), .bool false, .agg (keyC k id q), .agg (u8s seed).toArray, .agg (u8s salt).toArray, .int .i64 k, .int .u32 k, .tuple #[], .slice (some ⟨sb, 0, none⟩) 32 32, .tuple #[], .pointer (some ⟨g, 0, none⟩), .agg (shp k), .agg (keyC k id q), .slice (some ⟨sb, 0, none⟩) 32 32, .slice A m c, .slice (some ⟨rb, 0, none⟩) 2 2, .agg (u8s H).toArray, .func (.func 97) #[] #[.pointer (some ⟨bs, 0, none⟩), .pointer (some ⟨sc, 0, none⟩)], undef, undef, undef, undef, undef, undef, undef, undef, undef, undef, undef, undef, undef, undef, undef], defers := [] } ∧ Cb k bs sc A2 34 c2 (kall k H) w' ∧ (∀ g, CbS bs sc A2 g → w6.heap.size ≤ g) ∧ (∀ g, CbS bs sc A2 g → NotInt w' g) ∧ Bw w6 w') ?_ ?_
    · have GB6 : Hid (Bw w6 w6) := ⟨Below.refl _ _⟩
      refine wp_region_held (S := fun w' => Hid (Bw w6 w')) (by kernel_rfl) ?_
      change wpAnyH _ _ _ _ _ _ _ _ w6.drew
      have Gx0 : Hid (Bw w6 w6.drew) := GB6.out.drew
      have HBx0 : Below w6.heap.size w6 w6.drew := (Below.refl _ _).drew
      clear HBx0
      generalize w6.drew = x0 at Gx0  ⊢
      refine wpAnyH_take (i := 0) (oi := { dst := some 35, op := _, type := _, pos := _, after := _, guard := _ }) (v := ?_) rfl (by kernel_rfl) (by kernel_rfl) (by kernel_rfl) (fun _ _ _ h => h) (Or.inl ⟨by kernel_rfl, ?_⟩) (by assumption) ?_
      rotate_left
      · (intro w hSw; go_simp; try with_reducible rfl)
      try simp only [Act.put, List.setIfInBounds_toArray, List.set_cons_zero, List.set_cons_succ]
      refine wpAnyH_take (i := 1) (oi := { dst := some 36, op := _, type := _, pos := _, after := _, guard := _ }) (v := .agg (shp k)) rfl (by kernel_rfl) (by kernel_rfl) (by kernel_rfl) (fun _ _ _ h => h) (yieldsIf_load_mid (cs := (shp k).toList) (by rfl) _ _ rfl _ _ rfl _ (fun w' hSw => key_shape (G6.out.below (Hid.out hSw).bl)) Tryd.underlying61 rfl SHI.out) (by assumption) ?_
      try simp only [Act.put, List.setIfInBounds_toArray, List.set_cons_zero, List.set_cons_succ]
      refine wpAnyH_take (i := 2) (oi := { dst := some 37, op := _, type := _, pos := _, after := _, guard := _ }) (v := .agg (keyC k id q)) rfl (by kernel_rfl) (by kernel_rfl) (by kernel_rfl) (fun _ _ _ h => h) (yieldsIf_load_mid (cs := (keyC k id q).toList) (by rfl) _ _ rfl _ _ rfl _ (fun w' hSw => blk_rng (G6.out.below (Hid.out hSw).bl)) Tryd.underlying64 rfl KLI.out) (by assumption) ?_
      try simp only [Act.put, List.setIfInBounds_toArray, List.set_cons_zero, List.set_cons_succ]
      refine wpAnyH_take (i := 3) (oi := { dst := some 38, op := _, type := _, pos := _, after := _, guard := _ }) (v := ?_) rfl (by kernel_rfl) (by kernel_rfl) (by kernel_rfl) (fun _ _ _ h => h) (Or.inl ⟨by kernel_rfl, ?_⟩) (by assumption) ?_
      rotate_left
      · (intro w hSw; go_simp; try with_reducible rfl)
      try simp only [Act.put, List.setIfInBounds_toArray, List.set_cons_zero, List.set_cons_succ]
      refine wpAnyH_take (i := 4) (oi := { dst := some 39, op := _, type := _, pos := _, after := _, guard := _ }) (v := ?_) rfl (by kernel_rfl) (by kernel_rfl) (by kernel_rfl) (fun _ _ _ h => h) (Or.inl ⟨by kernel_rfl, ?_⟩) (by assumption) ?_
      rotate_left
      · (intro w hSw; go_simp; try with_reducible rfl)
      try simp only [Act.put, List.setIfInBounds_toArray, List.set_cons_zero, List.set_cons_succ]
      refine wpAnyH_ready (rs := [5]) (by kernel_rfl) (by simp) ?_
      refine (AllReadyH.cons (o := { dst := some 40, op := _, type := _, pos := _, after := _, guard := _ }) rfl (fun Qc hQc => ?_) AllReadyH.nil)
      go_simp
      have Gx1 := hid (Gx0.out.alloc (.cells #[.slice (some ⟨sb, 0, none⟩) 32 32, .slice A m c] 29))
      have HBx1 : Below x0.heap.size x0 (x0.alloc (.cells #[.slice (some ⟨sb, 0, none⟩) 32 32, .slice A m c] 29)) := (Below.refl _ _).alloc (Nat.le_refl _) _
      have NR : Hid (InR (x0.alloc (.cells #[.slice (some ⟨sb, 0, none⟩) 32 32, .slice A m c] 29)) (some ⟨x0.heap.size, 0, none⟩) 2 [salt, msg]) := inR_two HSK.out.len.symm HM.out (blk_rp (A6.out.below Gx0.out.bl)) (HR.out _ (B6.out.trans (Gx0.out.bl.mono B6.out.size))) HSK.out.bs HB.out (Nat.le_of_eq HSK.out.len) (by have := HM.out; have := HC.out; omega) (by rw [HSK.out.len]; decide) (by have := HL.out; omega)
      clear HBx1
      refine hQc.out _ _ Gx1 (fun hHeld => ?_)
      clear hQc Qc Gx0
      generalize x0.alloc (.cells #[.slice (some ⟨sb, 0, none⟩) 32 32, .slice A m c] 29) = x1 at Gx1 NR hHeld ⊢
      try simp only [Act.put, List.setIfInBounds_toArray, List.set_cons_zero, List.set_cons_succ]
      refine wpAnyH_ready (rs := [6]) (by kernel_rfl) (by simp) ?_
      refine (AllReadyH.cons (o := { dst := some 41, op := _, type := _, pos := _, after := _, guard := _ }) rfl (fun Qc hQc => ?_) AllReadyH.nil)
      go_simp
      go_at_call 40; refine (CSU.out _ _ NR.out (B6.out.trans (Gx1.out.bl.mono B6.out.size))).mono ?_; rintro e x2 ⟨rfl, hbx2⟩
      have Gx2 := hid (Gx1.out.below hbx2)
      have NR := hid (NR.out.below hbx2)
      clear hbx2
      go_wp2_with fail
      refine hQc.out _ _ Gx2 (fun hHeld => ?_)
      clear hQc Qc Gx1
      try simp only [Act.put, List.setIfInBounds_toArray, List.set_cons_zero, List.set_cons_succ]
      refine wpAnyH_ready (rs := [7]) (by kernel_rfl) (by simp) ?_
      refine (AllReadyH.cons (o := { dst := some 42, op := _, type := _, pos := _, after := _, guard := _ }) rfl (fun Qc hQc => ?_) AllReadyH.nil)
      go_simp
      go_at_call 39; refine (CSD.out _).mono ?_; rintro e x3 ⟨bs, sc, A2, c2, rfl, hcb, hge, hni, hbx3⟩; have CBX := hid hcb; have GEX := hid hge; have NIX := hid hni; have LEX := hid (Gx2.out.bl.size); clear hcb hge hni
      have Gx3 := hid (Gx2.out.below hbx3)
      have NR := hid (NR.out.below hbx3)
      clear hbx3
      go_wp2_with fail
      refine hQc.out _ _ Gx3 (fun hHeld => ?_)
      clear hQc Qc Gx2
      try simp only [Act.put, List.setIfInBounds_toArray, List.set_cons_zero, List.set_cons_succ]
      refine wpAnyH_done (by kernel_rfl) ?_ _
      try simp only [Act.put, List.setIfInBounds_toArray, List.set_cons_zero, List.set_cons_succ]
      exact ⟨_, bs, sc, A2, c2, rfl, CBX.out, fun g hg => Nat.le_trans LEX.out (GEX.out g hg), NIX.out, Gx3.out⟩

    · rintro a' w7 ⟨rb, bs, sc, A2, c2, rfl, hcb, hge, hni, hbw⟩
      have CB7 := hid hcb; have GE7 := hid hge; have NI7 := hid hni
      have LT7 : Hid (w6.heap.size ≤ w7.heap.size) := hbw.bl.size
      have B7 := hid (B6.out.trans (hbw.bl.mono B6.out.size))
      have I0 : SnI (keyC k id q) id q seed (be k 4 ++ salt) w.heap.size g (w.heap.size + 1) wb w [] w7 := ⟨G6.out.below hbw.bl, D6.out.below hbw.bl, by have := W6.out.below hbw.bl; simpa [rowsD] using this, B7.out⟩
      have HI0 := hid I0
      clear hcb hge hni hbw G6 D6 A6 W6 B6 I0
      go_wp2
      refine (wpIn_wide (n := 2)).1 ?_
      refine wpIn_rangeFunc_ownF (n := 2) rfl (by omega) (gf := 97) (lb := #[.pointer (some ⟨bs, 0, none⟩), .pointer (some ⟨sc, 0, none⟩)]) rfl trivial (enters_of Tryd.func97 (by kernel_rfl) rfl)
        (cut_stops k HK.out 34 (.inr rfl) bs sc A2 c2 (kall k H) (kall_bs HK.out HHK.out) (kall_length HHK.out) w7 CB7.out) KpS.t (KpS.b (fun g hg => by
          obtain ⟨cs, t, h1, _⟩ := NI7.out g hg
          exact Blk.lt (cs := cs) h1)) (Below.refl _ _) (fun _ => rfl) (SnI (keyC k id q) id q seed (be k 4 ++ salt) w.heap.size g (w.heap.size + 1) wb w) (fun _ _ _ => False) (SnI.own (Nat.le_refl _) B7.out.size) (fun _ _ _ _ _ hs _ _ => hs) HI0.out
        (fun x => { tmps := #[.int .i64 k, .agg (u8s id).toArray, .int .u32 q, .agg (u8s seed).toArray, .slice A m c, undef, .pointer (some ⟨w.heap.size, 0, none⟩), undef, .pointer (some ⟨w.heap.size + 1, 0, none⟩), undef, .slice none 0 0, .int .i64 0, .pointer (some ⟨g, 0, none⟩), .pointer (some ⟨sb, 0, none⟩), .pointer (some ⟨wb, 0, none⟩), .int .i64 (x.1.val : Int), .int .i64 (x.2.val : Int), undef, .int .i64 k, .agg (shp k), .agg (u8s id).toArray, .int .u32 q, .agg (keyC k id q), .pointer (some ⟨g, 0, none⟩), .pointer (some ⟨g, 1, none⟩), .int .i64 (kchains k : Nat), .bool false, .agg (keyC k id q), .agg (u8s seed).toArray, .agg (u8s salt).toArray, .int .i64 k, .int .u32 k, .tuple #[], .slice (some ⟨sb, 0, none⟩) 32 32, .tuple #[], .pointer (some ⟨g, 0, none⟩), .agg (shp k), .agg (keyC k id q), .slice (some ⟨sb, 0, none⟩) 32 32, .slice A m c, .slice (some ⟨rb, 0, none⟩) 2 2, .agg (u8s H).toArray, .func (.func 97) #[] #[.pointer (some ⟨bs, 0, none⟩), .pointer (some ⟨sc, 0, none⟩)], .int .i64 (x.1.val : Int), .int .i64 (x.2.val : Int), undef, undef, undef, undef, undef, undef, undef, undef, undef, undef, undef, undef, undef], defers := [] }) ?assign ?body ?done ?stop
      case assign =>
        intro l x W K hK
        dsimp only [encD]
        gi_wp2
        exact hK
      case body =>
        rintro l pre x W hI hlen
        have G8 := hid hI.b0; have D8 := hid hI.b1; have W8 := hid hI.wr; have B8 := hid hI.bl
        have hx1 : x.1.val < 265 := x.1.isLt
        have hx2 : x.2.val < 256 := x.2.isLt
        have HRD := hid (rowsD_snoc id q seed pre x)
        obtain ⟨d, hd⟩ : ∃ d : Nat, d = x.1.val := ⟨_, rfl⟩
        obtain ⟨t, ht⟩ : ∃ t : Nat, t = x.2.val := ⟨_, rfl⟩
        rw [← hd] at hx1
        rw [← ht] at hx2
        rw [← hd, ← ht] at HRD ⊢
        obtain ⟨s1, hs1⟩ : ∃ s1, s1 = begn id q (d : Int) seed := ⟨_, rfl⟩
        rw [← hs1] at HRD
        obtain ⟨R, hR⟩ : ∃ R, R = steps id q (d : Int) s1 0 t := ⟨_, rfl⟩
        rw [← hR] at HRD
        have hk1 : Ky s1 := by rw [hs1]; exact under_ky _ _ _ _
        have hky : Ky R := by rw [hR]; exact steps_ky hk1 _ _
        have CS1 : Hid (∀ w1, Below w.heap.size w w1 → Calls Tryd.prog 36 #[.agg (keyC k id q), .int .i64 (d : Int), .agg (u8s seed).toArray] w1 fun e w' => e = .returned (.agg (u8s s1).toArray) ∧ Below w1.heap.size w1 w') := fun w1 hb => by
          rw [hs1]
          exact secret_any k id q d seed w1 HIDN.out HQ.out (by omega) HS.out (HT.out w1 hb)
        have CW1 : Hid (∀ w1, Below w.heap.size w w1 → Calls Tryd.prog 41 #[.agg (keyC k id q), .int .i64 (d : Int), .agg (u8s s1).toArray, .int .i64 0, .int .i64 (t : Int)] w1 fun e w' => e = .returned (.agg (u8s R).toArray) ∧ Below w1.heap.size w1 w') := fun w1 hb => by
          rw [hR]
          exact walk_any k id q d s1 0 t w1 HIDN.out HQ.out (by omega) hk1 (by omega) hx2 (HT.out w1 hb)
        have RI := hid (info_hash R hky.len)
        have RZ : Hid (Z.size = (u8s R).toArray.size) := by show _ = _; rw [HZS.out, hash_size hky.len]
        have HKR := hid hky
        have LTW : Hid (wb < W.heap.size) := W8.out.lt ⟨_, rfl, rfl⟩
        have HPL : Hid (pre.length < 265) := Nat.lt_of_lt_of_le hlen (kchains_le k)
        clear hI hlen hR hky hs1 hk1 hx1 hx2 hd ht
        gi_wp2
        refine wpIn_cut (fun a' w' => ∃ g2, a' = { tmps := #[.int .i64 k, .agg (u8s id).toArray, .int .u32 q, .agg (u8s seed).toArray, .slice A m c, undef, .pointer (some ⟨w.heap.size, 0, none⟩), undef, .pointer (some ⟨w.heap.size + 1, 0, none⟩), undef, .slice none 0 0, .int .i64 0, .pointer (some ⟨g, 0, none⟩), .pointer (some ⟨sb, 0, none⟩), .pointer (some ⟨wb, 0, none⟩), .int .i64 (d : Int), .int .i64 (t : Int), .pointer (some ⟨g2, 0, none⟩), .int .i64 k, .agg (shp k), .agg (u8s id).toArray, .int .u32 q, .agg (keyC k id q), .pointer (some ⟨g, 0, none⟩), .pointer (some ⟨g, 1, none⟩), .int .i64 (kchains k : Nat), .bool false, .agg (keyC k id q), .agg (u8s seed).toArray, .agg (u8s salt).toArray, .int .i64 k, .int .u32 k, .tuple #[], .slice (some ⟨sb, 0, none⟩) 32 32, .tuple #[], .pointer (some ⟨g, 0, none⟩), .agg (shp k), .agg (keyC k id q), .slice (some ⟨sb, 0, none⟩) 32 32, .slice A m c, .slice (some ⟨rb, 0, none⟩) 2 2, .agg (u8s H).toArray, .func (.func 97) #[] #[.pointer (some ⟨bs, 0, none⟩), .pointer (some ⟨sc, 0, none⟩)], .int .i64 (d : Int), .int .i64 (t : Int), .agg (keyC k id q), .int .i64 (d : Int), .agg (keyC k id q), .int .i64 (d : Int), .agg (u8s seed).toArray, .agg (u8s s1).toArray, .int .i64 (t : Int), .agg (u8s R).toArray, undef, undef, undef, undef, undef], defers := [] } ∧ Blk w' g2 26 (u8s R).toArray ∧ W.heap.size ≤ g2 ∧ Bw W w') ?_ ?_
        · have GBW : Hid (Bw W W) := ⟨Below.refl _ _⟩
          refine region_round (S := fun w' => Hid (Bw W w')) (by kernel_rfl) (by rfl) ?_
          change wpAnyH _ _ _ _ _ _ _ _ W.drew
          have Gx0 : Hid (Bw W W.drew) := GBW.out.drew
          have HBx0 : Below W.heap.size W W.drew := (Below.refl _ _).drew
          clear HBx0
          generalize W.drew = x0 at Gx0  ⊢
          refine wpAnyH_take (i := 0) (oi := { dst := some 45, op := _, type := _, pos := _, after := _, guard := _ }) (v := .agg (keyC k id q)) rfl (by kernel_rfl) (by kernel_rfl) (by kernel_rfl) (fun _ _ _ h => h) (yieldsIf_load_mid (cs := (keyC k id q).toList) (by rfl) _ _ rfl _ _ rfl _ (fun w' hSw => blk_rng (G8.out.below (Hid.out hSw).bl)) Tryd.underlying64 rfl KLI.out) (by assumption) ?_
          try simp only [Act.put, List.setIfInBounds_toArray, List.set_cons_zero, List.set_cons_succ]
          refine wpAnyH_take (i := 1) (oi := { dst := some 46, op := _, type := _, pos := _, after := _, guard := _ }) (v := ?_) rfl (by kernel_rfl) (by kernel_rfl) (by kernel_rfl) (fun _ _ _ h => h) (Or.inl ⟨by kernel_rfl, ?_⟩) (by assumption) ?_
          rotate_left
          · (intro w hSw; go_simp; try with_reducible rfl)
          try simp only [Act.put, List.setIfInBounds_toArray, List.set_cons_zero, List.set_cons_succ]
          refine wpAnyH_take (i := 2) (oi := { dst := some 47, op := _, type := _, pos := _, after := _, guard := _ }) (v := .agg (keyC k id q)) rfl (by kernel_rfl) (by kernel_rfl) (by kernel_rfl) (fun _ _ _ h => h) (yieldsIf_load_mid (cs := (keyC k id q).toList) (by rfl) _ _ rfl _ _ rfl _ (fun w' hSw => blk_rng (G8.out.below (Hid.out hSw).bl)) Tryd.underlying64 rfl KLI.out) (by assumption) ?_
          try simp only [Act.put, List.setIfInBounds_toArray, List.set_cons_zero, List.set_cons_succ]
          refine wpAnyH_take (i := 3) (oi := { dst := some 48, op := _, type := _, pos := _, after := _, guard := _ }) (v := ?_) rfl (by kernel_rfl) (by kernel_rfl) (by kernel_rfl) (fun _ _ _ h => h) (Or.inl ⟨by kernel_rfl, ?_⟩) (by assumption) ?_
          rotate_left
          · (intro w hSw; go_simp; try with_reducible rfl)
          try simp only [Act.put, List.setIfInBounds_toArray, List.set_cons_zero, List.set_cons_succ]
          refine wpAnyH_take (i := 4) (oi := { dst := some 49, op := _, type := _, pos := _, after := _, guard := _ }) (v := .agg ((u8s seed).toArray)) rfl (by kernel_rfl) (by kernel_rfl) (by kernel_rfl) (fun _ _ _ h => h) (yieldsIf_load_mid (cs := u8s seed) (by rfl) _ _ rfl _ _ rfl _ (fun w' hSw => blk_row (D8.out.below (Hid.out hSw).bl)) Tryd.underlying26 rfl HSI.out) (by assumption) ?_
          try simp only [Act.put, List.setIfInBounds_toArray, List.set_cons_zero, List.set_cons_succ]
          refine wpAnyH_take (i := 6) (oi := { dst := some 51, op := _, type := _, pos := _, after := _, guard := _ }) (v := ?_) rfl (by kernel_rfl) (by kernel_rfl) (by kernel_rfl) (fun _ _ _ h => h) (Or.inl ⟨by kernel_rfl, ?_⟩) (by assumption) ?_
          rotate_left
          · (intro w hSw; go_simp; try with_reducible rfl)
          try simp only [Act.put, List.setIfInBounds_toArray, List.set_cons_zero, List.set_cons_succ]
          refine wpAnyH_ready (rs := [5, 8]) (by kernel_rfl) (by simp) ?_
          refine (AllReadyH.cons (o := { dst := some 50, op := _, type := _, pos := _, after := _, guard := _ }) rfl (fun Qc hQc => ?_) (AllReadyH.cons (o := { dst := some 17, op := _, type := _, pos := _, after := _, guard := _ }) rfl (fun Qc hQc => ?_) AllReadyH.nil))
          ·
            go_simp
            go_at_call 36; refine (CS1.out _ (B8.out.trans (Gx0.out.bl.mono B8.out.size))).mono ?_; rintro e x1 ⟨rfl, hbx1⟩
            have Gx1 := hid (Gx0.out.below hbx1)
            clear hbx1
            go_wp2_with fail
            refine hQc.out _ _ Gx1 (fun hHeld => ?_)
            clear hQc Qc Gx0
            try simp only [Act.put, List.setIfInBounds_toArray, List.set_cons_zero, List.set_cons_succ]
            refine wpAnyH_ready (rs := [7, 8]) (by kernel_rfl) (by simp) ?_
            refine (AllReadyH.cons (o := { dst := some 52, op := _, type := _, pos := _, after := _, guard := _ }) rfl (fun Qc hQc => ?_) (AllReadyH.cons (o := { dst := some 17, op := _, type := _, pos := _, after := _, guard := _ }) rfl (fun Qc hQc => ?_) AllReadyH.nil))
            ·
              go_simp
              go_at_call 41; refine (CW1.out _ (B8.out.trans (Gx1.out.bl.mono B8.out.size))).mono ?_; rintro e x2 ⟨rfl, hbx2⟩
              have Gx2 := hid (Gx1.out.below hbx2)
              clear hbx2
              go_wp2_with fail
              refine hQc.out _ _ Gx2 (fun hHeld => ?_)
              clear hQc Qc Gx1
              try simp only [Act.put, List.setIfInBounds_toArray, List.set_cons_zero, List.set_cons_succ]
              refine wpAnyH_ready (rs := [8]) (by kernel_rfl) (by simp) ?_
              refine (AllReadyH.cons (o := { dst := some 17, op := _, type := _, pos := _, after := _, guard := _ }) rfl (fun Qc hQc => ?_) AllReadyH.nil)
              go_simp
              have Gx3 := hid (Gx2.out.alloc (.cells Z 26))
              have HBx3 : Below x2.heap.size x2 (x2.alloc (.cells Z 26)) := (Below.refl _ _).alloc (Nat.le_refl _) _
              have A := hid (Blk.new x2 26 Z)
              have LE : Hid (W.heap.size ≤ x2.heap.size) := Gx2.out.bl.size
              clear HBx3
              refine hQc.out _ _ Gx3 (fun hHeld => ?_)
              clear hQc Qc Gx2
              generalize hgx3 : x2.heap.size = g2 at A LE  ⊢
              generalize x2.alloc (.cells Z 26) = x3 at Gx3 A  hHeld ⊢
              clear hgx3
              try simp only [Act.put, List.setIfInBounds_toArray, List.set_cons_zero, List.set_cons_succ]
              refine wpAnyH_ready (rs := [9]) (by kernel_rfl) (by simp) ?_
              refine (AllReadyH.cons (o := { dst := none, op := _, type := _, pos := _, after := _, guard := _ }) rfl (fun Qc hQc => ?_) AllReadyH.nil)
              rw [if_pos (by rfl)]
              refine wp_store_row 26 (.tmp 17) (.tmp 52) rfl (g2) (u8s R).toArray rfl rfl 26 Z A.out RI.out RZ.out (u8s_all R) ?_
              have Gx4 := hid (Gx3.out.row (g := g2) LE.out (u8s R).toArray)
              have KWx4 := hid ((A.out).row (u8s R).toArray)
              refine hQc.out _ _ Gx4 (fun hHeld => ?_)
              clear hQc Qc Gx3
              generalize x3.setRow (g2) (u8s R).toArray = x4 at Gx4 KWx4 hHeld ⊢
              try simp only [Act.put, List.setIfInBounds_toArray, List.set_cons_zero, List.set_cons_succ]
              refine wpAnyH_done (by kernel_rfl) ?_ _
              try simp only [Act.put, List.setIfInBounds_toArray, List.set_cons_zero, List.set_cons_succ]
              exact ⟨g2, rfl, KWx4.out, LE.out, Gx4.out⟩
            ·
              go_simp
              have Gx5 := hid (Gx1.out.alloc (.cells Z 26))
              have HBx5 : Below x1.heap.size x1 (x1.alloc (.cells Z 26)) := (Below.refl _ _).alloc (Nat.le_refl _) _
              have A := hid (Blk.new x1 26 Z)
              have LE : Hid (W.heap.size ≤ x1.heap.size) := Gx1.out.bl.size
              clear HBx5
              refine hQc.out _ _ Gx5 (fun hHeld => ?_)
              clear hQc Qc Gx1
              generalize hgx5 : x1.heap.size = g2 at A LE  ⊢
              generalize x1.alloc (.cells Z 26) = x5 at Gx5 A  hHeld ⊢
              clear hgx5
              try simp only [Act.put, List.setIfInBounds_toArray, List.set_cons_zero, List.set_cons_succ]
              refine wpAnyH_ready (rs := [7]) (by kernel_rfl) (by simp) ?_
              refine (AllReadyH.cons (o := { dst := some 52, op := _, type := _, pos := _, after := _, guard := _ }) rfl (fun Qc hQc => ?_) AllReadyH.nil)
              go_simp
              go_at_call 41; refine (CW1.out _ (B8.out.trans (Gx5.out.bl.mono B8.out.size))).mono ?_; rintro e x6 ⟨rfl, hbx6⟩
              have Gx6 := hid (Gx5.out.below hbx6)
              have A := hid (A.out.below hbx6)
              clear hbx6
              go_wp2_with fail
              refine hQc.out _ _ Gx6 (fun hHeld => ?_)
              clear hQc Qc Gx5
              try simp only [Act.put, List.setIfInBounds_toArray, List.set_cons_zero, List.set_cons_succ]
              refine wpAnyH_ready (rs := [9]) (by kernel_rfl) (by simp) ?_
              refine (AllReadyH.cons (o := { dst := none, op := _, type := _, pos := _, after := _, guard := _ }) rfl (fun Qc hQc => ?_) AllReadyH.nil)
              rw [if_pos (by rfl)]
              refine wp_store_row 26 (.tmp 17) (.tmp 52) rfl (g2) (u8s R).toArray rfl rfl 26 Z A.out RI.out RZ.out (u8s_all R) ?_
              have Gx7 := hid (Gx6.out.row (g := g2) LE.out (u8s R).toArray)
              have KWx7 := hid ((A.out).row (u8s R).toArray)
              refine hQc.out _ _ Gx7 (fun hHeld => ?_)
              clear hQc Qc Gx6
              generalize x6.setRow (g2) (u8s R).toArray = x7 at Gx7 KWx7 hHeld ⊢
              try simp only [Act.put, List.setIfInBounds_toArray, List.set_cons_zero, List.set_cons_succ]
              refine wpAnyH_done (by kernel_rfl) ?_ _
              try simp only [Act.put, List.setIfInBounds_toArray, List.set_cons_zero, List.set_cons_succ]
              exact ⟨g2, rfl, KWx7.out, LE.out, Gx7.out⟩
          ·
            go_simp
            have Gx8 := hid (Gx0.out.alloc (.cells Z 26))
            have HBx8 : Below x0.heap.size x0 (x0.alloc (.cells Z 26)) := (Below.refl _ _).alloc (Nat.le_refl _) _
            have A := hid (Blk.new x0 26 Z)
            have LE : Hid (W.heap.size ≤ x0.heap.size) := Gx0.out.bl.size
            clear HBx8
            refine hQc.out _ _ Gx8 (fun hHeld => ?_)
            clear hQc Qc Gx0
            generalize hgx8 : x0.heap.size = g2 at A LE  ⊢
            generalize x0.alloc (.cells Z 26) = x8 at Gx8 A  hHeld ⊢
            clear hgx8
            try simp only [Act.put, List.setIfInBounds_toArray, List.set_cons_zero, List.set_cons_succ]
            refine wpAnyH_ready (rs := [5]) (by kernel_rfl) (by simp) ?_
            refine (AllReadyH.cons (o := { dst := some 50, op := _, type := _, pos := _, after := _, guard := _ }) rfl (fun Qc hQc => ?_) AllReadyH.nil)
            go_simp
            go_at_call 36; refine (CS1.out _ (B8.out.trans (Gx8.out.bl.mono B8.out.size))).mono ?_; rintro e x9 ⟨rfl, hbx9⟩
            have Gx9 := hid (Gx8.out.below hbx9)
            have A := hid (A.out.below hbx9)
            clear hbx9
            go_wp2_with fail
            refine hQc.out _ _ Gx9 (fun hHeld => ?_)
            clear hQc Qc Gx8
            try simp only [Act.put, List.setIfInBounds_toArray, List.set_cons_zero, List.set_cons_succ]
            refine wpAnyH_ready (rs := [7]) (by kernel_rfl) (by simp) ?_
            refine (AllReadyH.cons (o := { dst := some 52, op := _, type := _, pos := _, after := _, guard := _ }) rfl (fun Qc hQc => ?_) AllReadyH.nil)
            go_simp
            go_at_call 41; refine (CW1.out _ (B8.out.trans (Gx9.out.bl.mono B8.out.size))).mono ?_; rintro e x10 ⟨rfl, hbx10⟩
            have Gx10 := hid (Gx9.out.below hbx10)
            have A := hid (A.out.below hbx10)
            clear hbx10
            go_wp2_with fail
            refine hQc.out _ _ Gx10 (fun hHeld => ?_)
            clear hQc Qc Gx9
            try simp only [Act.put, List.setIfInBounds_toArray, List.set_cons_zero, List.set_cons_succ]
            refine wpAnyH_ready (rs := [9]) (by kernel_rfl) (by simp) ?_
            refine (AllReadyH.cons (o := { dst := none, op := _, type := _, pos := _, after := _, guard := _ }) rfl (fun Qc hQc => ?_) AllReadyH.nil)
            rw [if_pos (by rfl)]
            refine wp_store_row 26 (.tmp 17) (.tmp 52) rfl (g2) (u8s R).toArray rfl rfl 26 Z A.out RI.out RZ.out (u8s_all R) ?_
            have Gx11 := hid (Gx10.out.row (g := g2) LE.out (u8s R).toArray)
            have KWx11 := hid ((A.out).row (u8s R).toArray)
            refine hQc.out _ _ Gx11 (fun hHeld => ?_)
            clear hQc Qc Gx10
            generalize x10.setRow (g2) (u8s R).toArray = x11 at Gx11 KWx11 hHeld ⊢
            try simp only [Act.put, List.setIfInBounds_toArray, List.set_cons_zero, List.set_cons_succ]
            refine wpAnyH_done (by kernel_rfl) ?_ _
            try simp only [Act.put, List.setIfInBounds_toArray, List.set_cons_zero, List.set_cons_succ]
            exact ⟨g2, rfl, KWx11.out, LE.out, Gx11.out⟩

        · rintro a' w8 ⟨g2, rfl, hb2, hle2, hbw⟩
          have X9 := hid hb2; have LE9 := hid hle2; have BW9 := hid hbw.bl
          have W9 := hid (W8.out.below hbw.bl)
          clear hb2 hle2 hbw
          gi_wp2_with (refine ⟨trivial, rfl, ?_⟩; gi_at_call 38; refine (CallsIn.inRound l (callsIn_wide.2 (WPlain32 (some ⟨wb, 0, none⟩) (be k 4 ++ salt ++ rowsD id q seed pre) (some ⟨g2, 0, none⟩) 32 R w8 HKR.out.len W9.out (rp_off X9.out (by have := LTW.out; have := LE9.out; omega)) (by have := HPL.out; rw [List.length_append, List.length_append, be_length, HSK.out.len, rowsD_length, HKR.out.len]; omega)))).mono ?_; rintro e w9 ⟨rfl, hw9, ho9⟩; have W10 := hid hw9; have O10 := hid ho9; clear hw9 ho9)
          have hwb : ∃ cs, Blk w8 wb 69 cs := by
            obtain ⟨b, e, cs, full, h1, _⟩ := W9.out
            injection e with e
            injection e with e
            subst e
            exact ⟨cs, h1⟩
          obtain ⟨cs, hcs⟩ := hwb
          exact ⟨(KeepsOthers.of_grownBy (below_grown BW9.out) (fun j o e => by cases e)).trans (only_others hcs O10.out), (KpS.below BW9.out).t (KpS.only O10.out (fun g hg => not_of (by have := GE7.out g hg; have := LT4.out; omega))), ⟨(G8.out.below BW9.out).only O10.out (not_of (by have := LT2.out; omega)), (D8.out.below BW9.out).only O10.out (not_of (by have := LT1.out; omega)), by rw [HRD.out, ← List.append_assoc]; exact W10.out, (B8.out.trans (BW9.out.mono B8.out.size)).trans (O10.out.below (Nat.le_trans B8.out.size BW9.out.size) (fun k hk => by obtain ⟨a, e, rfl⟩ := hk; injection e with e; subst e; show _ ≤ wb; have := LT1.out; omega))⟩⟩
      case done =>
        rintro D ys W hD rfl hI hK
        have hm : ndig k 34 = kchains k := rfl
        have hw := hI.wr
        rw [hm] at hw
        have hsg : be k 4 ++ salt ++ rowsD id q seed (upto (dgs (kbits k) (8 / kbits k) (kall k H)) (kchains k)) = signK k id q seed msg := by
          rw [rowsD_upto, HH2.out, HSALT.out, List.append_assoc]
          rfl
        have hlen : (signK k id q seed msg).length = ksize k := by
          rw [← hsg, List.length_append, List.length_append, be_length, HSK.out.len, rowsD_length, upto_length]
          rcases HK.out with rfl | rfl | rfl | rfl <;> decide
        rw [hsg] at hw
        have CO := Out_good (some ⟨wb, 0, none⟩) (signK k id q seed msg) W hw (by rw [hlen]; have := kchains_le k; unfold ksize; split <;> omega)
        rw [hlen] at CO
        have COH := hid CO; have HBL := hid hI.bl; have HKD := hid hK
        have HD : Hid (w.heap.size ≤ D) := Nat.le_trans B7.out.size hD
        clear CO hw hlen hsg hI hK hm
        go_wp2_with (go_at_call 42; refine COH.out.mono ?_; rintro e w9 ⟨rfl, hb9, hbl9⟩; have X9 := hid hb9; have B9 := hid hbl9; clear hb9 hbl9)
        have hDW : D < W.heap.size := by
          rcases Nat.lt_or_ge D W.heap.size with h | h
          · exact h
          · have := HKD.out; rw [Array.getElem?_eq_none h] at this; cases this
        have hK9 : w9.heap[D]? = some (.deferred (some [])) := (B9.out.block D hDW).trans HKD.out
        refine ⟨by simp, .inl ⟨_, _, rfl, run_takeDeferred hK9, ?_⟩⟩
        exact ⟨_, results_tt rfl _ _, W.heap.size, rfl, HBL.out.size, X9.out.same ((grownBy_putObj' w9 D (.deferred none)).block _ (Blk.lt X9.out) (fun e => by injection e with e; omega)), (HBL.out.trans (B9.out.mono HBL.out.size)).trans (belowK_b (w := w) (Nat.le_refl _) w9 D _ _ HD.out hK9 rfl rfl)⟩
      case stop =>
        rintro D c pre W _ _ h _
        exact h.elim
end Go.Proofs.YtobceieadjpaaaaDoor
