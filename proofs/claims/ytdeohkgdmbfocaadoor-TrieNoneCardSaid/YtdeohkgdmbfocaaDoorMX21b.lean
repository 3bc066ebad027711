/-
  What is proved here: no forest has no list.
-/
import Derived.Test.YtdeohkgdmbfocaaDoorMX21a
set_option linter.unusedSimpArgs false
set_option linter.unusedVariables false
namespace Go.Proofs.YtdeohkgdmbfocaaDoor
open Go.ChangeShapes Go.WideShapes Go.ChangeAt Go.RowKit Go.Shelf
set_option linter.unusedVariables false
set_option linter.unusedSimpArgs false
set_option maxRecDepth 20000
attribute [local go_sem] Oper.semAt_some

theorem xpairs_any (p : Option Addr) (i : Int) (w : World) : Calls Tryd.prog 43 #[.pointer p, .int .i64 i] w fun e w' => e = .returned (.func (.func 70) #[] #[.pointer (some ⟨w.heap.size, 0, none⟩), .pointer (some ⟨w.heap.size + 1, 0, none⟩)]) ∧ w' = (w.alloc (.cells #[.pointer p] 26)).alloc (.cells #[.int .i64 i] 3) := by
  go_enter Tryd.func43, Tryd.ntmps43
  go_wp2
  go_ret
  exact ⟨rfl, rfl⟩
structure LnI (e5 : Nat) (w : World) (pre : List (Fin 0)) (W : World) : Prop where
  k5 : Blk W e5 46 #[.slice none 0 0]
  bl : Below w.heap.size w W
theorem LnI.own {e5 B : Nat} {w : World} (hB : w.heap.size ≤ B) : OwnFrom B (LnI e5 w) := fun pre W W' row hs hg hr =>
  ⟨hs.k5.own hg (fun r e => (hr r e).2), hs.bl.grown hg hs.bl.size (fun r e => Nat.le_trans hB (hr r e).1)⟩
set_option maxHeartbeats 4000000 in
theorem xList_nil (i : Int) (w : World) : Calls Tryd.prog 18 #[.pointer none, .int .i64 i] w fun e w' => e = .returned (.slice none 0 0) ∧ Below w.heap.size w w' := by
  refine (callsIn_wide (n := 2)).1 ?_
  refine callsIn_of_wp_marks Tryd.func18 rfl trivial ?_ rfl
  simp only [Tryd.ntmps18, List.size_toArray, List.length_cons, List.length_nil, Nat.reduceAdd, Nat.reduceSub, Array.replicate_succ, Array.replicate_zero, List.push_toArray, List.append_toArray, List.nil_append, List.cons_append]
  refine (wpIn_wide (n := 2)).2 ?_
  have CP := hid (xpairs_any none i)
  go_wp2_with (go_at_call 43; refine (CP.out _).mono ?_; rintro e w2 ⟨rfl, hw2⟩; have HW2 := hid hw2; clear hw2)
  have K5 : Hid (Blk w2 w.heap.size 46 #[.slice none 0 0]) := by show Blk _ _ _ _; rw [HW2.out]; exact ((Blk.new w _ _).alloc _).alloc _
  have BL : Hid (Below w.heap.size w w2) := by show Below _ _ _; rw [HW2.out]; exact (((Below.refl _ _).alloc (Nat.le_refl _) _).alloc (by simp) _).alloc (by simp; omega) _
  have SZ : (w.alloc (.cells #[.slice none 0 0] 46)).heap.size = w.heap.size + 1 := by simp
  obtain ⟨j1, j2, _⟩ := two_blks (w.alloc (.cells #[.slice none 0 0] 46)) #[.pointer none] #[.int .i64 i] 26 3
  rw [← HW2.out, SZ] at j1 j2
  have J1 := hid j1; have J2 := hid j2
  have S2 : Hid (w2.heap.size = w.heap.size + 1 + 1 + 1) := by show _ = _; rw [HW2.out]; simp
  clear j1 j2 SZ HW2 CP
  refine (wpIn_wide (n := 2)).1 ?_
  refine wpIn_rangeFunc_ownF (n := 2) rfl (by omega) (gf := 70) (lb := #[.pointer (some ⟨w.heap.size + 1, 0, none⟩), .pointer (some ⟨w.heap.size + 1 + 1, 0, none⟩)]) rfl trivial (enters_of Tryd.func70 (by kernel_rfl) rfl)
    (show SeqStopsK Fence.wide 1 Tryd.prog 70 #[.pointer (some ⟨w.heap.size + 1, 0, none⟩), .pointer (some ⟨w.heap.size + 1 + 1, 0, none⟩)] (fun x : Fin 0 => #[undef]) (KpS fun _ => False) (fun ys => ys = []) (fun _ => True) 0 w2 from
      fun l J Jx W hW hJ hJx hY h0 => (pairsf_nil _ _ l i W ((J1.out.below hW).cell 0) ((J2.out.below hW).cell 0)).mono fun e W' ⟨h1, h2⟩ => ⟨h1, .inl ⟨[], rfl, by rw [h2]; exact h0⟩⟩)
    KpS.t (KpS.b (fun _ h => h.elim)) (Below.refl _ _) (fun _ => rfl) (LnI w.heap.size w) (fun _ _ _ => False) (LnI.own (by rw [S2.out]; omega)) (fun _ _ _ _ _ hs _ _ => hs) ⟨K5.out, BL.out⟩
    (fun x => x.elim0) ?assign ?body ?done ?stop
  case assign => intro l x; exact x.elim0
  case body => rintro l pre x; exact x.elim0
  case done =>
    rintro D' ys W hD hys hI hK
    have c5 : W.cell? ⟨w.heap.size, 0, none⟩ = some (.slice none 0 0) := hI.k5.cell 0
    have HS := hid hI; have HKD := hid hK
    have HD : Hid (w2.heap.size ≤ D') := hD
    clear hI hK hys hD
    go_wp2
    refine ⟨by simp, .inl ⟨_, _, rfl, run_takeDeferred HKD.out, ?_⟩⟩
    have hg := grownBy_putObj' W D' (.deferred none)
    exact ⟨_, results_tmp rfl _ _ _, rfl, HS.out.bl.grown hg HS.out.bl.size (fun k e => by cases e; have := HD.out; rw [S2.out] at this; omega)⟩
  case stop =>
    rintro D c pre W _ _ h _
    exact h.elim
end Go.Proofs.YtdeohkgdmbfocaaDoor
