/-
  What is proved here: what no forest answers, and numbers that are no tree's.
-/
import Derived.Test.YtdeohkgdmbfocaaDoorMXA
set_option linter.unusedSimpArgs false
set_option linter.unusedVariables false
namespace Go.Proofs.YtdeohkgdmbfocaaDoor
open Go.ChangeShapes Go.WideShapes Go.ChangeAt Go.RowKit Go.Shelf
set_option linter.unusedVariables false
set_option linter.unusedSimpArgs false
set_option maxRecDepth 20000
attribute [local go_sem] Oper.semAt_some

set_option maxHeartbeats 4000000 in
theorem xPut_bad {w : World} {p : Option Addr} {i : Int} {K V : List Int} (hK : Ky K) (hV : Ky V) (CI0 : ∀ w1, Below w.heap.size w w1 → Calls Tryd.prog 34 #[.pointer p, .int .i64 i] w1 fun e w' => e = .returned (.bool false) ∧ w1 = w') :
    Calls Tryd.prog 10 #[.pointer p, .int .i64 i, .agg (kc K), .agg (kc V)] w fun e w' => e = .returned (.tuple #[.int .i64 0, .int .i64 1]) ∧ Below w.heap.size w w' := by
  obtain ⟨hk1, hk2, hk3, hb0⟩ := three_blks w #[.pointer p] (kc K) (kc V) 26 24 24
  have B0 := hid hb0
  have CI := hid (CI0 _ hb0)
  have c4 : (((w.alloc (.cells #[.pointer p] 26)).alloc (.cells (kc K) 24)).alloc (.cells (kc V) 24)).cell? ⟨w.heap.size, 0, none⟩ = some (.pointer p) := hk1.cell 0
  clear hk1 hk2 hk3 hb0 CI0 hK hV
  go_enter Tryd.func10, Tryd.ntmps10
  go_wp2_with (go_at_call 34; refine CI.out.mono ?_; rintro e w1 ⟨rfl, rfl⟩)
  go_ret2
  exact ⟨rfl, B0.out⟩
theorem built_hash0 : Tryd.prog.built 24 [] = some (kc zk) := by kernel_rfl
theorem build_h0 {ops : Array Oper} {rest : List Oper} {o : Oper} {a : Act} {w : World} {Q : Exit → Act → World → Prop} (hg : o.guard = none) (ho : o.op = .build 24 #[])
    (h : wpList Tryd.prog ops Q rest (a.put o.dst (.agg (kc zk))) w) : wpList Tryd.prog ops Q (o :: rest) a w := by
  have e : (Array.map (fun (i, x) => (i, a.eval x)) (#[] : Array (Nat × Operand))).toList = [] := by simp
  refine wpList_build hg 24 #[] ho (by rw [e, built_hash0]; rfl) ?_
  rw [e, built_hash0]
  exact h
def hV (K : List Int) (v : Value) : Value := .tuple #[.agg (kc K), v]
set_option maxHeartbeats 4000000 in
theorem xRoot_bad {w : World} {p : Option Addr} {i : Int} (CI0 : ∀ w1, Below w.heap.size w w1 → Calls Tryd.prog 34 #[.pointer p, .int .i64 i] w1 fun e w' => e = .returned (.bool false) ∧ w1 = w') :
    Calls Tryd.prog 12 #[.pointer p, .int .i64 i] w fun e w' => e = .returned (hV zk (.int .i64 1)) ∧ Below w.heap.size w w' := by
  obtain ⟨Z, HZ, hZ0, hZs⟩ := zero_key
  have KZ : Hid (Blk (w.alloc (.cells Z 24)) w.heap.size 24 Z) := Blk.new w 24 Z
  have B0 : Hid (Below w.heap.size w (w.alloc (.cells Z 24))) := (Below.refl _ _).alloc (Nat.le_refl _) _
  have CI := hid (CI0 _ B0.out)
  have HI := hid (kc_info zk_ky)
  have hzs : Hid (Z.size = (kc zk).size) := by show _ = _; rw [HZ.out]
  clear CI0
  go_enter Tryd.func12, Tryd.ntmps12
  go_wp2_with (first
    | (go_at_call 34; refine CI.out.mono ?_; rintro e w1 ⟨rfl, rfl⟩)
    | (refine build_h0 rfl rfl ?_)
    | (refine wpList_store_row rfl 24 (.tmp 4) (.tmp 10) rfl w.heap.size (kc zk) rfl rfl 24 Z KZ.out HI.out hzs.out (kc_one _) ?_))
  try go_frame
  refine bodyPost_ret (results_cell_slot Tryd.results12 _ _ w.heap.size 24 (kc zk) (0, 0) _ rfl (KZ.out.row _) Tryd.underlying24 rfl HI.out) rfl ?_
  exact ⟨rfl, below_setRow B0.out (Nat.le_refl _) _⟩
set_option maxHeartbeats 4000000 in
theorem xRoot_none {w : World} {p : Option Addr} (ht : Tab w) (CI0 : ∀ w1, Below w.heap.size w w1 → Calls Tryd.prog 34 #[.pointer p, .int .i64 (-1)] w1 fun e w' => e = .returned (.bool true) ∧ w1 = w') :
    Calls Tryd.prog 12 #[.pointer p, .int .i64 (-1)] w fun e w' => e = .returned (hV emptyH (.int .i64 0)) ∧ Below w.heap.size w w' := by
  obtain ⟨Z, HZ, hZ0, hZs⟩ := zero_key
  have KZ : Hid (Blk (w.alloc (.cells Z 24)) w.heap.size 24 Z) := Blk.new w 24 Z
  have B0 : Hid (Below w.heap.size w (w.alloc (.cells Z 24))) := (Below.refl _ _).alloc (Nat.le_refl _) _
  have CI := hid (CI0 _ B0.out)
  have CE := hid (xEmpty_any _ (ht.below B0.out))
  have HI := hid (kc_info emptyH_ky)
  have hzs : Hid (Z.size = (kc emptyH).size) := by show _ = _; rw [HZ.out, kc_size zk_ky, kc_size emptyH_ky]
  generalize emptyH = E at CE HI hzs ⊢
  clear CI0 ht
  go_enter Tryd.func12, Tryd.ntmps12
  go_wp2_with (first
    | (go_at_call 34; refine CI.out.mono ?_; rintro e w1 ⟨rfl, rfl⟩)
    | (go_at_call 24; refine CE.out.mono ?_; rintro e w2 ⟨rfl, hb⟩; have L2 := hid (KZ.out.below hb); have B2 := hid (B0.out.trans (hb.mono B0.out.size)); clear hb)
    | (refine wpList_store_row rfl 24 (.tmp 4) (.tmp 13) rfl w.heap.size (kc E) rfl rfl 24 Z L2.out HI.out hzs.out (kc_one _) ?_))
  try go_frame
  refine bodyPost_ret (results_cell_slot Tryd.results12 _ _ w.heap.size 24 (kc E) (0, 0) _ rfl (L2.out.row _) Tryd.underlying24 rfl HI.out) rfl ?_
  exact ⟨rfl, below_setRow B2.out (Nat.le_refl _) _⟩
set_option maxHeartbeats 4000000 in
theorem xGet_bad {w : World} {p : Option Addr} {i : Int} {K : List Int} (hK : Ky K) (CI0 : ∀ w1, Below w.heap.size w w1 → Calls Tryd.prog 34 #[.pointer p, .int .i64 i] w1 fun e w' => e = .returned (.bool false) ∧ w1 = w') :
    Calls Tryd.prog 13 #[.pointer p, .int .i64 i, .agg (kc K)] w fun e w' => e = .returned (hV zk (.bool false)) ∧ Below w.heap.size w w' := by
  obtain ⟨Z, HZ, hZ0, hZs⟩ := zero_key
  obtain ⟨hk1, hk2, hb0⟩ := one_blks w (kc K) Z 24 24
  have KZ := hid hk2
  have B0 := hid hb0
  have CI := hid (CI0 _ B0.out)
  have HI := hid (kc_info zk_ky)
  have hzs : Hid (Z.size = (kc zk).size) := by show _ = _; rw [HZ.out]
  clear CI0 hk1 hk2 hb0 hK
  go_enter Tryd.func13, Tryd.ntmps13
  go_wp2_with (first
    | (go_at_call 34; refine CI.out.mono ?_; rintro e w1 ⟨rfl, rfl⟩)
    | (refine build_h0 rfl rfl ?_)
    | (refine wpList_store_row rfl 24 (.tmp 6) (.tmp 14) rfl (w.heap.size + 1) (kc zk) rfl rfl 24 Z KZ.out HI.out hzs.out (kc_one _) ?_))
  try go_frame
  refine bodyPost_ret (results_cell_slot Tryd.results13 _ _ (w.heap.size + 1) 24 (kc zk) (0, 0) _ rfl (KZ.out.row _) Tryd.underlying24 rfl HI.out) rfl ?_
  exact ⟨rfl, below_setRow B0.out (by omega) _⟩
set_option maxHeartbeats 4000000 in
theorem xAdd_nil (q : Nd) (w : World) (hq : NdOk q) : Calls Tryd.prog 28 #[.pointer none, .agg (nc q).toArray] w fun e w' => e = .returned (.tuple #[.int .i64 0, .int .i64 1]) ∧ Below w.heap.size w w' := by
  have B0 : Hid (Below w.heap.size w (w.alloc (.cells (nc q).toArray 56))) := (Below.refl _ _).alloc (Nat.le_refl _) _
  go_enter Tryd.func28, Tryd.ntmps28
  go_wp2
  go_ret2
  exact ⟨rfl, B0.out⟩
/-- the iterator of no forest -/
theorem pairsf_nil (A : Nat) (B : Nat) (l : Nat) (i : Int) (W : World) (h1 : W.cell? ⟨A, 0, none⟩ = some (.pointer none)) (h2 : W.cell? ⟨B, 0, none⟩ = some (.int .i64 i)) :
    CallsIn Fence.wide 1 Tryd.prog 70 #[.func (.yield l) #[] #[], .pointer (some ⟨A, 0, none⟩), .pointer (some ⟨B, 0, none⟩)] W fun e W' => (∃ v, e = .returned v) ∧ W' = W := by
  have CI := hid (xisNode_nil i W)
  refine callsIn_of_wp Tryd.func70 rfl trivial ?_ rfl
  simp only [Tryd.ntmps70, List.size_toArray, List.length_cons, List.length_nil, Nat.reduceAdd, Nat.reduceSub, Array.replicate_succ, Array.replicate_zero, List.push_toArray, List.append_toArray, List.nil_append, List.cons_append]
  gi_wp2_with (first
    | (refine ⟨trivial, ?_⟩; gi_at_call 51; refine (callsIn_wide.2 CI.out).mono ?_; rintro e w1 ⟨rfl, rfl⟩)
    | (gi_at_call 51; refine (callsIn_wide.2 CI.out).mono ?_; rintro e w1 ⟨rfl, rfl⟩))
  go_end0
  exact ⟨⟨_, rfl⟩, rfl⟩
end Go.Proofs.YtdeohkgdmbfocaaDoor
