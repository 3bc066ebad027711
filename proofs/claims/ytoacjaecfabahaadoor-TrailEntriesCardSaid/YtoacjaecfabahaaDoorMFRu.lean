/-
  What is proved here: a range's root where there is no hash, and where the range isn't one, or doesn't begin at 0.
-/
import Derived.Test.YtoacjaecfabahaaDoorMFRt
set_option linter.unusedSimpArgs false
set_option linter.unusedVariables false
namespace Go.Proofs.YtoacjaecfabahaaDoor
open Go.ChangeShapes Go.WideShapes Go.ChangeAt Go.RowKit Go.Shelf
set_option linter.unusedVariables false
set_option linter.unusedSimpArgs false
set_option maxRecDepth 20000
attribute [local go_sem] Oper.semAt_some
/-- the zero hash -/
def z32 : List Int := List.replicate 32 0
theorem fbuilt_h0 : Tryd.prog.built 33 [] = some (hc32 z32) := by kernel_rfl
theorem fbuild_h0 {ops : Array Oper} {rest : List Oper} {o : Oper} {a : Act} {w : World} {Q : Exit → Act → World → Prop} (hg : o.guard = none) (ho : o.op = .build 33 #[])
    (h : wpList Tryd.prog ops Q rest (a.put o.dst (.agg (hc32 z32))) w) : wpList Tryd.prog ops Q (o :: rest) a w := by
  have e : (Array.map (fun (i, x) => (i, a.eval x)) (#[] : Array (Nat × Operand))).toList = [] := by simp
  refine wpList_build hg 33 #[] ho (by rw [e, fbuilt_h0]; rfl) ?_
  rw [e, fbuilt_h0]
  exact h
theorem h0_ok : H32 z32 := ⟨by simp [z32], fun v hv => by rw [List.eq_of_mem_replicate hv]; omega⟩
set_option maxHeartbeats 16000000 in
theorem fRoot_bad {w : World} {x y : Int} {n c : Nat} {A : Option Addr} (hn : n < 1000000) (hTd : TabD w) (h : ¬ (frm x y n = true ∧ x = 0)) :
    Calls Tryd.prog 15 #[.agg (rgc x y (.slice A n c))] w fun e w' => e = .returned (.tuple #[hV z32, .int .i64 1]) ∧ Below w.heap.size w w' := by
  obtain ⟨Z, HZ, hZ0, hZs⟩ := zero_Hash
  have k1 := (Blk.new w 25 (rgc x y (.slice A n c))).alloc (.cells Z 33)
  have k2 := Blk.new (w.alloc (.cells (rgc x y (.slice A n c)) 25)) 33 Z
  rw [show (w.alloc (.cells (rgc x y (.slice A n c)) 25)).heap.size = w.heap.size + 1 by simp] at k2
  have b1 : Below w.heap.size w ((w.alloc (.cells (rgc x y (.slice A n c)) 25)).alloc (.cells Z 33)) := ((Below.refl _ _).alloc (Nat.le_refl _) _).alloc (by simp) _
  have K1 := hid k1; have K2 := hid k2; have B1 := hid b1
  have HI1 := hid (info_fRng x y (.slice A n c))
  have CF0 := fun (w1 : World) (hb : Below w.heap.size w w1) => fFormed_any x y A n c w1 (hTd.below hb) hn
  obtain ⟨v, hv⟩ : ∃ v, v = frm x y n := ⟨_, rfl⟩
  rw [← hv] at h
  simp only [← hv] at CF0
  have CF := hid CF0
  have HI0 := hid (info_hash z32 h0_ok.len); have HZ0 := hid (hz_size HZ h0_ok)
  clear k1 k2 b1 hv hn hTd CF0
  refine (callsIn_wide (n := 2)).1 ?_
  refine callsIn_of_wp_marks Tryd.func15 rfl trivial ?_ rfl
  simp only [Tryd.ntmps15, List.size_toArray, List.length_cons, List.length_nil, Nat.reduceAdd, Nat.reduceSub, Array.replicate_succ, Array.replicate_zero, List.push_toArray, List.append_toArray, List.nil_append, List.cons_append]
  refine (wpIn_wide (n := 2)).2 ?_
  cases v with
  | false =>
    go_wp2_with (first
      | (refine load_at rfl 25 (.tmp 1) rfl w.heap.size 0 rfl _ _ (fblk_rng K1.out) Tryd.underlying25 rfl HI1.out (rgc x y (.slice A n c)) rfl ?_)
      | (go_at_call 18; refine (CF.out _ B1.out).mono ?_; rintro e w2 ⟨rfl, hb⟩; have B2 := hid (B1.out.trans (hb.mono B1.out.size)); have J2 := hid (K2.out.below hb); clear hb)
      | (refine fbuild_h0 rfl rfl ?_)
      | (refine wpList_store_row rfl 33 (.tmp 2) _ rfl (w.heap.size + 1) (hc32 z32) rfl rfl 33 Z J2.out HI0.out HZ0.out (u8s_all _) ?_))
    have KF := hid (J2.out.row (hc32 z32))
    have BW := hid (below_setRow B2.out (Nat.le_succ w.heap.size) (hc32 z32))
    try go_frame
    first | rw [Exit.noGoto_ret] | skip
    exact ⟨_, results_cell_slot Tryd.results15 _ _ (w.heap.size + 1) 33 (hc32 z32) (0, 0) _ rfl KF.out Tryd.underlying33 rfl HI0.out, rfl, BW.out⟩
  | true =>
    have hx : ¬ x = 0 := fun e => h ⟨rfl, e⟩
    have hx2 : (x != 0) = true := by simpa using hx
    go_wp2_with (first
      | (refine load_at rfl 25 (.tmp 1) rfl w.heap.size 0 rfl _ _ (fblk_rng K1.out) Tryd.underlying25 rfl HI1.out (rgc x y (.slice A n c)) rfl ?_)
      | (go_at_call 18; refine (CF.out _ B1.out).mono ?_; rintro e w2 ⟨rfl, hb⟩; have B2 := hid (B1.out.trans (hb.mono B1.out.size)); have J1 := hid (K1.out.below hb); have J2 := hid (K2.out.below hb); have d0 : w2.cell? ⟨w.heap.size, 0, none⟩ = some (.int .i64 x) := J1.out.cell 0; clear hb)
      | (refine fbuild_h0 rfl rfl ?_)
      | (refine wpList_store_row rfl 33 (.tmp 2) _ rfl (w.heap.size + 1) (hc32 z32) rfl rfl 33 Z J2.out HI0.out HZ0.out (u8s_all _) ?_))
    have KF := hid (J2.out.row (hc32 z32))
    have BW := hid (below_setRow B2.out (Nat.le_succ w.heap.size) (hc32 z32))
    try go_frame
    first | rw [Exit.noGoto_ret] | skip
    exact ⟨_, results_cell_slot Tryd.results15 _ _ (w.heap.size + 1) 33 (hc32 z32) (0, 0) _ rfl KF.out Tryd.underlying33 rfl HI0.out, rfl, BW.out⟩
set_option maxHeartbeats 16000000 in
theorem fRoot_none {w : World} {y : Int} {c : Nat} {A : Option Addr} (hT : Tab w) (hTd : TabD w) (h : frm 0 y 0 = true) :
    Calls Tryd.prog 15 #[.agg (rgc 0 y (.slice A 0 c))] w fun e w' => e = .returned (.tuple #[hV emp, .int .i64 0]) ∧ Below w.heap.size w w' := by
  obtain ⟨Z, HZ, hZ0, hZs⟩ := zero_Hash
  have k1 := (Blk.new w 25 (rgc 0 y (.slice A 0 c))).alloc (.cells Z 33)
  have k2 := Blk.new (w.alloc (.cells (rgc 0 y (.slice A 0 c)) 25)) 33 Z
  rw [show (w.alloc (.cells (rgc 0 y (.slice A 0 c)) 25)).heap.size = w.heap.size + 1 by simp] at k2
  have b1 : Below w.heap.size w ((w.alloc (.cells (rgc 0 y (.slice A 0 c)) 25)).alloc (.cells Z 33)) := ((Below.refl _ _).alloc (Nat.le_refl _) _).alloc (by simp) _
  have K1 := hid k1; have K2 := hid k2; have B1 := hid b1
  have HI1 := hid (info_fRng 0 y (.slice A 0 c))
  have CF0 := fun (w1 : World) (hb : Below w.heap.size w w1) => fFormed_any 0 y A 0 c w1 (hTd.below hb) (by omega)
  simp only [h] at CF0
  have CF := hid CF0
  have CS0 := fun (w1 : World) (hb : Below w.heap.size w w1) => sum_at (A := none) (n := 0) (c := 0) (x := []) (w := w1) rfl (Rp.nil _ _ _) (fun v hv => by cases hv) (by simp) (Nat.le_refl _) (hT.below hb)
  obtain ⟨S, hS⟩ : ∃ S, S = emp := ⟨_, rfl⟩
  have hok : H32 S := by rw [hS]; exact emp_ok
  rw [← hS]
  rw [show sum [] = S by rw [hS]; rfl] at CS0
  have CS := hid CS0
  have HI0 := hid (info_hash S hok.len); have HZ0 := hid (hz_size HZ hok)
  clear k1 k2 b1 hTd CF0 CS0 h hS hok
  refine (callsIn_wide (n := 2)).1 ?_
  refine callsIn_of_wp_marks Tryd.func15 rfl trivial ?_ rfl
  simp only [Tryd.ntmps15, List.size_toArray, List.length_cons, List.length_nil, Nat.reduceAdd, Nat.reduceSub, Array.replicate_succ, Array.replicate_zero, List.push_toArray, List.append_toArray, List.nil_append, List.cons_append]
  refine (wpIn_wide (n := 2)).2 ?_
  go_wp2_with (first
    | (refine load_at rfl 25 (.tmp 1) rfl w.heap.size 0 rfl _ _ (fblk_rng K1.out) Tryd.underlying25 rfl HI1.out (rgc 0 y (.slice A 0 c)) rfl ?_)
    | (go_at_call 18; refine (CF.out _ B1.out).mono ?_; rintro e w2 ⟨rfl, hb⟩; have B2 := hid (B1.out.trans (hb.mono B1.out.size)); have J1 := hid (K1.out.below hb); have J2 := hid (K2.out.below hb); have d0 : w2.cell? ⟨w.heap.size, 0, none⟩ = some (.int .i64 0) := J1.out.cell 0; have d2 : w2.cell? ⟨w.heap.size, 2, none⟩ = some (.slice A 0 c) := J1.out.cell 2; clear hb)
    | (go_at_call 42; refine (CS.out _ B2.out).mono ?_; rintro e w3 ⟨rfl, hb⟩; have B3 := hid (B2.out.trans (hb.mono B2.out.size)); have J3 := hid (J2.out.below hb); clear hb)
    | (refine wpList_store_row rfl 33 (.tmp 2) _ rfl (w.heap.size + 1) (hc32 S) rfl rfl 33 Z J3.out HI0.out HZ0.out (u8s_all _) ?_))
  have KF := hid (J3.out.row (hc32 S))
  have BW := hid (below_setRow B3.out (Nat.le_succ w.heap.size) (hc32 S))
  try go_frame
  first | rw [Exit.noGoto_ret] | skip
  exact ⟨_, results_cell_slot Tryd.results15 _ _ (w.heap.size + 1) 33 (hc32 S) (0, 0) _ rfl KF.out Tryd.underlying33 rfl HI0.out, rfl, BW.out⟩
end Go.Proofs.YtoacjaecfabahaaDoor
