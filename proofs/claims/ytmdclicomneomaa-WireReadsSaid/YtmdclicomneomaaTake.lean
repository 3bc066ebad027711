/-
  What is proved here: what the statements' own 'take' takes from a reader.
-/
import Derived.Test.YtmdclicomneomaaRd4
namespace Go.Proofs.Ytmdclicomneomaa
open Go.ChangeShapes Go.WideShapes Go.ChangeAt Go.RowKit
set_option linter.unusedVariables false

/-- what is taken: the number, the bytes, and the reader behind it -/
def tk (st : RS) (k most : Int) : Int × List Int × RS :=
  if k = 1 then ((st.num 1 255).1, [], (st.num 1 255).2) else
  if k = 2 then ((st.num 2 65535).1, [], (st.num 2 65535).2) else
  if k = 3 then ((st.num 4 4294967295).1, [], (st.num 4 4294967295).2) else
  if k = 4 then ((st.num 8 18446744073709551615).1, [], (st.num 8 18446744073709551615).2) else
  if k = 5 then (if (st.num 1 1).1 = 1 then 1 else 0, [], (st.num 1 1).2) else
  if k = 6 then (0, st.plain (wrap64 most)) else
  if k = 7 then (0, st.str (wrap64 most)) else
  if k = 8 then ((st.count (wrap64 most)).1, [], (st.count (wrap64 most)).2) else (0, [], st)

def TakePost (p : Option Addr) (st : RS) (k most : Int) (w : World) (e : Ending) (w' : World) : Prop :=
  ∃ A c, e = .returned (.agg #[.int .i64 k, .int .u64 (tk st k most).1, .slice A (tk st k most).2.1.length c]) ∧ (tk st k most).2.1.length ≤ c ∧ Fresh w w' A (tk st k most).2.1 ∧ RRep w' p (tk st k most).2.2 ∧ OnlyS (Of p) w w'

/-- the two variables of 'take', behind a call that turns the reader alone -/
theorem take_blocks {w w2 : World} {p : Option Addr} {z f : Array Value} (hp : ∀ k, Of p k → k < w.heap.size) (ho : OnlyS (Of p) ((w.alloc (.cells z 35)).alloc (.cells f 35)) w2) :
    Blk w2 w.heap.size 35 z ∧ Blk w2 (w.heap.size + 1) 35 f := by
  have h1 : Blk ((w.alloc (.cells z 35)).alloc (.cells f 35)) w.heap.size 35 z := (Blk.new w 35 z).alloc _
  have h2 : Blk ((w.alloc (.cells z 35)).alloc (.cells f 35)) (w.heap.size + 1) 35 f := by
    have := Blk.new (w.alloc (.cells z 35)) 35 f
    rwa [show (w.alloc (.cells z 35)).heap.size = w.heap.size + 1 by simp] at this
  exact ⟨h1.same (ho.block _ h1.lt (fun h => absurd (hp _ h) (by omega))), h2.same (ho.block _ h2.lt (fun h => absurd (hp _ h) (by omega)))⟩

theorem RRep.far {w w' : World} {p : Option Addr} {st : RS} (h : RRep w p st) {g : Nat} {t : TypeId} {cs : Array Value} (hg : Blk w g t cs) (hcs : ∀ (i : Nat) (x : Int), cs[i]? ≠ some (Value.int .u8 x)) (hp : ¬ Of p g)
    (ho : OnlyS (fun k => k = g) w w') : RRep w' p st := by
  cases st with
  | none => exact h
  | got f l =>
    obtain ⟨b, A, c, rfl, h1, h2, h3, h4, h5⟩ := h
    have hbg : b ≠ g := fun e => hp ⟨_, rfl, e.symm⟩
    refine ⟨b, A, c, rfl, h1.same (ho.block b h1.lt hbg), h2, h3, h4, fun hx => ?_⟩
    obtain ⟨ad, e, hne, hc⟩ := h5 hx
    obtain ⟨ad2, e2, hne2, _⟩ := (h5.off hg hcs) hx
    rw [e] at e2
    injection e2 with e2
    subst e2
    have hlt := block_lt_of_cell (hc 0 hx)
    rw [add_block] at hlt
    exact ⟨ad, e, hne, fun j hj => (World.cell?_of_block (w := w) (ho.block _ (by rw [add_block]; exact hlt) (by rw [add_block]; exact fun e => hne2 ⟨_, rfl, e⟩))).trans (hc j hj)⟩
theorem field_cells (k x : Int) (A : Option Addr) (n c : Nat) : ∀ (i : Nat) (y : Int), (#[Value.int .i64 k, Value.int .u64 x, Value.slice A n c] : Array Value)[i]? ≠ some (Value.int .u8 y) := by
  intro i x h
  match i, h with
  | 0, h => simp at h
  | 1, h => simp at h
  | 2, h => simp at h
  | i + 3, h => simp at h

def zF : Array Value := #[.int .i64 0, .int .u64 0, .slice none 0 0]
def kF (k : Int) : Array Value := #[.int .i64 k, .int .u64 0, .slice none 0 0]
theorem take_fin {p : Option Addr} {s' : RS} {k : Int} {w w2 w3 : World} {A : Option Addr} {xs : List Int} (hP : ∀ k, Of p k → k < w.heap.size)
    (ho2 : OnlyS (Of p) ((w.alloc (.cells zF 35)).alloc (.cells (kF k) 35)) w2) (hw2 : RRep w2 p s') (hf : Fresh ((w.alloc (.cells zF 35)).alloc (.cells (kF k) 35)) w2 A xs)
    (h3 : w3 = w2 ∨ ∃ o u, w3 = w2.setCell ⟨w.heap.size + 1, o, none⟩ u) (v0 v1 v2 : Value) :
    Blk (((w3.setCell ⟨w.heap.size, 0, none⟩ v0).setCell ⟨w.heap.size, 1, none⟩ v1).setCell ⟨w.heap.size, 2, none⟩ v2) w.heap.size 35 #[v0, v1, v2] ∧
    Fresh w (((w3.setCell ⟨w.heap.size, 0, none⟩ v0).setCell ⟨w.heap.size, 1, none⟩ v1).setCell ⟨w.heap.size, 2, none⟩ v2) A xs ∧
    RRep (((w3.setCell ⟨w.heap.size, 0, none⟩ v0).setCell ⟨w.heap.size, 1, none⟩ v1).setCell ⟨w.heap.size, 2, none⟩ v2) p s' ∧
    OnlyS (Of p) w (((w3.setCell ⟨w.heap.size, 0, none⟩ v0).setCell ⟨w.heap.size, 1, none⟩ v1).setCell ⟨w.heap.size, 2, none⟩ v2) := by
  have B0 : Below w.heap.size w ((w.alloc (.cells zF 35)).alloc (.cells (kF k) 35)) := ((Below.refl _ _).alloc (Nat.le_refl _) _).alloc (by simp) _
  obtain ⟨r, f⟩ := take_blocks hP ho2
  have hnr : ¬ Of p w.heap.size := fun h => absurd (hP _ h) (Nat.lt_irrefl _)
  have hnf : ¬ Of p (w.heap.size + 1) := fun h => absurd (hP _ h) (by omega)
  have o3 : OnlyS (fun k => k = w.heap.size + 1) w2 w3 := by
    rcases h3 with rfl | ⟨o, u, rfl⟩
    · exact OnlyS.refl _ _
    · exact OnlyS.setCell (S := fun k => k = w.heap.size + 1) (p := ⟨w.heap.size + 1, o, none⟩) (OnlyS.refl _ _) (.inl rfl) _
  have r3 : Blk w3 w.heap.size 35 zF := r.same (o3.block _ r.lt (by simp))
  have o4 : OnlyS (fun k => k = w.heap.size) w3 (((w3.setCell ⟨w.heap.size, 0, none⟩ v0).setCell ⟨w.heap.size, 1, none⟩ v1).setCell ⟨w.heap.size, 2, none⟩ v2) :=
    OnlyS.setCell (S := fun k => k = w.heap.size) (p := ⟨w.heap.size, 2, none⟩) (OnlyS.setCell (S := fun k => k = w.heap.size) (p := ⟨w.heap.size, 1, none⟩) (OnlyS.setCell (S := fun k => k = w.heap.size) (p := ⟨w.heap.size, 0, none⟩) (OnlyS.refl _ _) (.inl rfl) _) (.inl rfl) _) (.inl rfl) _
  have hs : w.heap.size + 2 ≤ ((w.alloc (.cells zF 35)).alloc (.cells (kF k) 35)).heap.size := by simp
  refine ⟨((r3.setd 0 v0).setd 1 v1).setd 2 v2, ?_, ?_, ?_⟩
  · refine ((hf.keep o3 (fun k hk _ e => by omega)).keep o4 (fun k hk _ e => by omega)).more (by simp; omega)
  · exact (hw2.far f (field_cells _ _ _ _ _) hnf o3).far r3 (field_cells _ _ _ _ _) hnr o4
  · have o5 := ((OnlyS.of_below (S := fun k => k = w.heap.size + 1) B0 (Nat.le_refl _)))
    refine ⟨?_, ?_, ?_, ?_, ?_⟩
    · exact o4.os.trans (o3.os.trans (ho2.os.trans B0.os))
    · exact o4.tape.trans (o3.tape.trans (ho2.tape.trans B0.tape))
    · exact o4.output.trans (o3.output.trans (ho2.output.trans B0.output))
    · exact Nat.le_trans B0.size (Nat.le_trans ho2.size (Nat.le_trans o3.size o4.size))
    · intro k hk hn
      have h1 := B0.block k hk
      have h2 := ho2.block k (Nat.lt_of_lt_of_le hk B0.size) hn
      have h3 := o3.block k (Nat.lt_of_lt_of_le hk (Nat.le_trans B0.size ho2.size)) (by omega)
      have h4 := o4.block k (Nat.lt_of_lt_of_le hk (Nat.le_trans B0.size (Nat.le_trans ho2.size o3.size))) (by omega)
      rw [h4, h3, h2, h1]

set_option maxHeartbeats 1000000 in
theorem take_1 (p : Option Addr) (st : RS) (most : Int) (w : World) (h : RRep w p st) :
    Calls Try.prog 17 #[.pointer p, .int .i64 1, .int .u64 most] w (TakePost p st 1 most w) := by
  have B0 : Below w.heap.size w ((w.alloc (.cells #[.int .i64 0, .int .u64 0, .slice none 0 0] 35)).alloc (.cells #[.int .i64 1, .int .u64 0, .slice none 0 0] 35)) :=
    ((Below.refl _ _).alloc (Nat.le_refl _) _).alloc (by simp) _
  obtain ⟨hb0, hb1⟩ := num_bound h 1 255 (by decide)
  have HC := RU8_any p st _ (h.below B0)
  have htk : tk st 1 most = ((st.num 1 255).1, [], (st.num 1 255).2) := rfl
  obtain ⟨R, hR⟩ : ∃ R, R = st.num 1 255 := ⟨_, rfl⟩
  rw [← hR] at HC hb0 hb1 htk
  obtain ⟨X, s'⟩ := R
  simp only at HC hb0 hb1 htk
  have HP := hid (fun k (hk : Of p k) => h.lt hk)
  have HC := hid HC
  have HT := hid htk
  clear hR h htk
  go_enter Try.func17, Try.ntmps17
  go_wp2_with (go_at_call 34; refine HC.out.mono ?_; rintro e w2 ⟨rfl, hw2, ho2⟩; obtain ⟨r, f⟩ := take_blocks HP.out ho2; have r0 := r.cell 0; have r1 := r.cell 1; have r2 := r.cell 2; have f0 := f.cell 0; have f1 := f.cell 1; have f2 := f.cell 2; have rz0 := r.frozen 0; have rz1 := r.frozen 1; have rz2 := r.frozen 2; have fz1 := f.frozen 1; have fz2 := f.frozen 2; simp only [List.getElem?_toArray, List.getElem?_cons_zero, List.getElem?_cons_succ] at r0 r1 r2 f0 f1 f2; have HW2 := hid hw2; have HO2 := hid ho2; clear hw2 ho2 r f)
  obtain ⟨hW, hF, hR, hO⟩ := take_fin HP.out HO2.out HW2.out (Fresh.nil _ _ none) (.inr ⟨1, .int .u64 X, rfl⟩) (.int .i64 1) (.int .u64 X) (.slice none 0 0)
  refine bodyPost_ret (results_cell_row Try.results17 _ _ w.heap.size 35 #[.int .i64 1, .int .u64 X, .slice none 0 0] (0, 0) _ rfl hW Try.underlying35 rfl (by kernel_rfl)) rfl ?_
  refine ⟨none, 0, ?_, ?_, ?_, ?_, hO⟩
  all_goals rw [HT.out]
  · rfl
  · simp
  · exact Fresh.nil _ _ _
  · exact hR

set_option maxHeartbeats 1000000 in
theorem take_2 (p : Option Addr) (st : RS) (most : Int) (w : World) (h : RRep w p st) :
    Calls Try.prog 17 #[.pointer p, .int .i64 2, .int .u64 most] w (TakePost p st 2 most w) := by
  have B0 : Below w.heap.size w ((w.alloc (.cells #[.int .i64 0, .int .u64 0, .slice none 0 0] 35)).alloc (.cells #[.int .i64 2, .int .u64 0, .slice none 0 0] 35)) :=
    ((Below.refl _ _).alloc (Nat.le_refl _) _).alloc (by simp) _
  obtain ⟨hb0, hb1⟩ := num_bound h 2 65535 (by decide)
  have HC := RU16_any p st _ (h.below B0)
  have htk : tk st 2 most = ((st.num 2 65535).1, [], (st.num 2 65535).2) := rfl
  obtain ⟨R, hR⟩ : ∃ R, R = st.num 2 65535 := ⟨_, rfl⟩
  rw [← hR] at HC hb0 hb1 htk
  obtain ⟨X, s'⟩ := R
  simp only at HC hb0 hb1 htk
  have HP := hid (fun k (hk : Of p k) => h.lt hk)
  have HC := hid HC
  have HT := hid htk
  clear hR h htk
  go_enter Try.func17, Try.ntmps17
  go_wp2_with (go_at_call 35; refine HC.out.mono ?_; rintro e w2 ⟨rfl, hw2, ho2⟩; obtain ⟨r, f⟩ := take_blocks HP.out ho2; have r0 := r.cell 0; have r1 := r.cell 1; have r2 := r.cell 2; have f0 := f.cell 0; have f1 := f.cell 1; have f2 := f.cell 2; have rz0 := r.frozen 0; have rz1 := r.frozen 1; have rz2 := r.frozen 2; have fz1 := f.frozen 1; have fz2 := f.frozen 2; simp only [List.getElem?_toArray, List.getElem?_cons_zero, List.getElem?_cons_succ] at r0 r1 r2 f0 f1 f2; have HW2 := hid hw2; have HO2 := hid ho2; clear hw2 ho2 r f)
  obtain ⟨hW, hF, hR, hO⟩ := take_fin HP.out HO2.out HW2.out (Fresh.nil _ _ none) (.inr ⟨1, .int .u64 X, rfl⟩) (.int .i64 2) (.int .u64 X) (.slice none 0 0)
  refine bodyPost_ret (results_cell_row Try.results17 _ _ w.heap.size 35 #[.int .i64 2, .int .u64 X, .slice none 0 0] (0, 0) _ rfl hW Try.underlying35 rfl (by kernel_rfl)) rfl ?_
  refine ⟨none, 0, ?_, ?_, ?_, ?_, hO⟩
  all_goals rw [HT.out]
  · rfl
  · simp
  · exact Fresh.nil _ _ _
  · exact hR

set_option maxHeartbeats 1000000 in
theorem take_3 (p : Option Addr) (st : RS) (most : Int) (w : World) (h : RRep w p st) :
    Calls Try.prog 17 #[.pointer p, .int .i64 3, .int .u64 most] w (TakePost p st 3 most w) := by
  have B0 : Below w.heap.size w ((w.alloc (.cells #[.int .i64 0, .int .u64 0, .slice none 0 0] 35)).alloc (.cells #[.int .i64 3, .int .u64 0, .slice none 0 0] 35)) :=
    ((Below.refl _ _).alloc (Nat.le_refl _) _).alloc (by simp) _
  obtain ⟨hb0, hb1⟩ := num_bound h 4 4294967295 (by decide)
  have HC := RU32_any p st _ (h.below B0)
  have htk : tk st 3 most = ((st.num 4 4294967295).1, [], (st.num 4 4294967295).2) := rfl
  obtain ⟨R, hR⟩ : ∃ R, R = st.num 4 4294967295 := ⟨_, rfl⟩
  rw [← hR] at HC hb0 hb1 htk
  obtain ⟨X, s'⟩ := R
  simp only at HC hb0 hb1 htk
  have HP := hid (fun k (hk : Of p k) => h.lt hk)
  have HC := hid HC
  have HT := hid htk
  clear hR h htk
  go_enter Try.func17, Try.ntmps17
  go_wp2_with (go_at_call 36; refine HC.out.mono ?_; rintro e w2 ⟨rfl, hw2, ho2⟩; obtain ⟨r, f⟩ := take_blocks HP.out ho2; have r0 := r.cell 0; have r1 := r.cell 1; have r2 := r.cell 2; have f0 := f.cell 0; have f1 := f.cell 1; have f2 := f.cell 2; have rz0 := r.frozen 0; have rz1 := r.frozen 1; have rz2 := r.frozen 2; have fz1 := f.frozen 1; have fz2 := f.frozen 2; simp only [List.getElem?_toArray, List.getElem?_cons_zero, List.getElem?_cons_succ] at r0 r1 r2 f0 f1 f2; have HW2 := hid hw2; have HO2 := hid ho2; clear hw2 ho2 r f)
  obtain ⟨hW, hF, hR, hO⟩ := take_fin HP.out HO2.out HW2.out (Fresh.nil _ _ none) (.inr ⟨1, .int .u64 X, rfl⟩) (.int .i64 3) (.int .u64 X) (.slice none 0 0)
  refine bodyPost_ret (results_cell_row Try.results17 _ _ w.heap.size 35 #[.int .i64 3, .int .u64 X, .slice none 0 0] (0, 0) _ rfl hW Try.underlying35 rfl (by kernel_rfl)) rfl ?_
  refine ⟨none, 0, ?_, ?_, ?_, ?_, hO⟩
  all_goals rw [HT.out]
  · rfl
  · simp
  · exact Fresh.nil _ _ _
  · exact hR

set_option maxHeartbeats 1000000 in
theorem take_4 (p : Option Addr) (st : RS) (most : Int) (w : World) (h : RRep w p st) :
    Calls Try.prog 17 #[.pointer p, .int .i64 4, .int .u64 most] w (TakePost p st 4 most w) := by
  have B0 : Below w.heap.size w ((w.alloc (.cells #[.int .i64 0, .int .u64 0, .slice none 0 0] 35)).alloc (.cells #[.int .i64 4, .int .u64 0, .slice none 0 0] 35)) :=
    ((Below.refl _ _).alloc (Nat.le_refl _) _).alloc (by simp) _
  obtain ⟨hb0, hb1⟩ := num_bound h 8 18446744073709551615 (by decide)
  have HC := RU64_any p st _ (h.below B0)
  have htk : tk st 4 most = ((st.num 8 18446744073709551615).1, [], (st.num 8 18446744073709551615).2) := rfl
  obtain ⟨R, hR⟩ : ∃ R, R = st.num 8 18446744073709551615 := ⟨_, rfl⟩
  rw [← hR] at HC hb0 hb1 htk
  obtain ⟨X, s'⟩ := R
  simp only at HC hb0 hb1 htk
  have HP := hid (fun k (hk : Of p k) => h.lt hk)
  have HC := hid HC
  have HT := hid htk
  clear hR h htk
  go_enter Try.func17, Try.ntmps17
  go_wp2_with (go_at_call 37; refine HC.out.mono ?_; rintro e w2 ⟨rfl, hw2, ho2⟩; obtain ⟨r, f⟩ := take_blocks HP.out ho2; have r0 := r.cell 0; have r1 := r.cell 1; have r2 := r.cell 2; have f0 := f.cell 0; have f1 := f.cell 1; have f2 := f.cell 2; have rz0 := r.frozen 0; have rz1 := r.frozen 1; have rz2 := r.frozen 2; have fz1 := f.frozen 1; have fz2 := f.frozen 2; simp only [List.getElem?_toArray, List.getElem?_cons_zero, List.getElem?_cons_succ] at r0 r1 r2 f0 f1 f2; have HW2 := hid hw2; have HO2 := hid ho2; clear hw2 ho2 r f)
  obtain ⟨hW, hF, hR, hO⟩ := take_fin HP.out HO2.out HW2.out (Fresh.nil _ _ none) (.inr ⟨1, .int .u64 X, rfl⟩) (.int .i64 4) (.int .u64 X) (.slice none 0 0)
  refine bodyPost_ret (results_cell_row Try.results17 _ _ w.heap.size 35 #[.int .i64 4, .int .u64 X, .slice none 0 0] (0, 0) _ rfl hW Try.underlying35 rfl (by kernel_rfl)) rfl ?_
  refine ⟨none, 0, ?_, ?_, ?_, ?_, hO⟩
  all_goals rw [HT.out]
  · rfl
  · simp
  · exact Fresh.nil _ _ _
  · exact hR

set_option maxHeartbeats 1000000 in
theorem take_6 (p : Option Addr) (st : RS) (most : Int) (w : World) (h : RRep w p st) :
    Calls Try.prog 17 #[.pointer p, .int .i64 6, .int .u64 most] w (TakePost p st 6 most w) := by
  have B0 : Below w.heap.size w ((w.alloc (.cells #[.int .i64 0, .int .u64 0, .slice none 0 0] 35)).alloc (.cells #[.int .i64 6, .int .u64 0, .slice none 0 0] 35)) :=
    ((Below.refl _ _).alloc (Nat.le_refl _) _).alloc (by simp) _
  have HC := RPlain_any p st (wrap64 most) _ (h.below B0)
  have htk : tk st 6 most = (0, st.plain (wrap64 most)) := rfl
  obtain ⟨R, hR⟩ : ∃ R, R = st.plain (wrap64 most) := ⟨_, rfl⟩
  rw [← hR] at HC htk
  obtain ⟨xs, s'⟩ := R
  simp only at HC htk
  have HP := hid (fun k (hk : Of p k) => h.lt hk)
  have HC := hid HC
  have HT := hid htk
  clear hR h htk
  go_enter Try.func17, Try.ntmps17
  go_wp2_with (go_at_call 28; refine HC.out.mono ?_; rintro e w2 ⟨A', c', rfl, hc', hf', hw2, ho2⟩; obtain ⟨r, f⟩ := take_blocks HP.out ho2; have r0 := r.cell 0; have r1 := r.cell 1; have r2 := r.cell 2; have f0 := f.cell 0; have f1 := f.cell 1; have f2 := f.cell 2; have rz0 := r.frozen 0; have rz1 := r.frozen 1; have rz2 := r.frozen 2; have fz1 := f.frozen 1; have fz2 := f.frozen 2; simp only [List.getElem?_toArray, List.getElem?_cons_zero, List.getElem?_cons_succ] at r0 r1 r2 f0 f1 f2; have HC' := hid hc'; have HF' := hid hf'; clear hc' hf'; have HW2 := hid hw2; have HO2 := hid ho2; clear hw2 ho2 r f)
  obtain ⟨hW, hF, hR, hO⟩ := take_fin HP.out HO2.out HW2.out HF'.out (.inr ⟨2, .slice A' xs.length c', rfl⟩) (.int .i64 6) (.int .u64 0) (.slice A' xs.length c')
  refine bodyPost_ret (results_cell_row Try.results17 _ _ w.heap.size 35 #[.int .i64 6, .int .u64 0, .slice A' xs.length c'] (0, 0) _ rfl hW Try.underlying35 rfl (by kernel_rfl)) rfl ?_
  refine ⟨A', c', (by rw [HT.out]), ?_, ?_, ?_, hO⟩
  all_goals rw [HT.out]
  · exact HC'.out
  · exact hF
  · exact hR

set_option maxHeartbeats 1000000 in
theorem take_7 (p : Option Addr) (st : RS) (most : Int) (w : World) (h : RRep w p st) :
    Calls Try.prog 17 #[.pointer p, .int .i64 7, .int .u64 most] w (TakePost p st 7 most w) := by
  have B0 : Below w.heap.size w ((w.alloc (.cells #[.int .i64 0, .int .u64 0, .slice none 0 0] 35)).alloc (.cells #[.int .i64 7, .int .u64 0, .slice none 0 0] 35)) :=
    ((Below.refl _ _).alloc (Nat.le_refl _) _).alloc (by simp) _
  have HC := RString_any p st (wrap64 most) _ (h.below B0)
  have htk : tk st 7 most = (0, st.str (wrap64 most)) := rfl
  obtain ⟨R, hR⟩ : ∃ R, R = st.str (wrap64 most) := ⟨_, rfl⟩
  rw [← hR] at HC htk
  obtain ⟨xs, s'⟩ := R
  simp only at HC htk
  have HP := hid (fun k (hk : Of p k) => h.lt hk)
  have HC := hid HC
  have HT := hid htk
  clear hR h htk
  go_enter Try.func17, Try.ntmps17
  go_wp2_with (go_at_call 39; refine HC.out.mono ?_; rintro e w2 ⟨A', c', rfl, hc', hf', hw2, ho2⟩; obtain ⟨r, f⟩ := take_blocks HP.out ho2; have r0 := r.cell 0; have r1 := r.cell 1; have r2 := r.cell 2; have f0 := f.cell 0; have f1 := f.cell 1; have f2 := f.cell 2; have rz0 := r.frozen 0; have rz1 := r.frozen 1; have rz2 := r.frozen 2; have fz1 := f.frozen 1; have fz2 := f.frozen 2; simp only [List.getElem?_toArray, List.getElem?_cons_zero, List.getElem?_cons_succ] at r0 r1 r2 f0 f1 f2; have HC' := hid hc'; have HF' := hid hf'; clear hc' hf'; have HW2 := hid hw2; have HO2 := hid ho2; clear hw2 ho2 r f)
  obtain ⟨hW, hF, hR, hO⟩ := take_fin HP.out HO2.out HW2.out HF'.out (.inr ⟨2, .slice A' xs.length c', rfl⟩) (.int .i64 7) (.int .u64 0) (.slice A' xs.length c')
  refine bodyPost_ret (results_cell_row Try.results17 _ _ w.heap.size 35 #[.int .i64 7, .int .u64 0, .slice A' xs.length c'] (0, 0) _ rfl hW Try.underlying35 rfl (by kernel_rfl)) rfl ?_
  refine ⟨A', c', (by rw [HT.out]), ?_, ?_, ?_, hO⟩
  all_goals rw [HT.out]
  · exact HC'.out
  · exact hF
  · exact hR

set_option maxHeartbeats 1000000 in
theorem take_5 (p : Option Addr) (st : RS) (most : Int) (w : World) (h : RRep w p st) :
    Calls Try.prog 17 #[.pointer p, .int .i64 5, .int .u64 most] w (TakePost p st 5 most w) := by
  have B0 : Below w.heap.size w ((w.alloc (.cells #[.int .i64 0, .int .u64 0, .slice none 0 0] 35)).alloc (.cells #[.int .i64 5, .int .u64 0, .slice none 0 0] 35)) :=
    ((Below.refl _ _).alloc (Nat.le_refl _) _).alloc (by simp) _
  have HC := RFlag_any p st _ (h.below B0)
  have htk : tk st 5 most = (if (st.num 1 1).1 = 1 then 1 else 0, [], (st.num 1 1).2) := rfl
  obtain ⟨R, hR⟩ : ∃ R, R = st.num 1 1 := ⟨_, rfl⟩
  rw [← hR] at HC htk
  obtain ⟨X, s'⟩ := R
  simp only at HC htk
  have HP := hid (fun k (hk : Of p k) => h.lt hk)
  have HC := hid HC
  by_cases hx : X = 1
  · rw [if_pos hx] at htk
    have HT := hid htk
    have hx1 : (X == 1) = true := by simpa using hx
    clear hR h htk hx
    go_enter Try.func17, Try.ntmps17
    go_wp2_with (go_at_call 38; refine HC.out.mono ?_; rintro e w2 ⟨rfl, hw2, ho2⟩; obtain ⟨r, f⟩ := take_blocks HP.out ho2; have r0 := r.cell 0; have r1 := r.cell 1; have r2 := r.cell 2; have f0 := f.cell 0; have f1 := f.cell 1; have f2 := f.cell 2; have rz0 := r.frozen 0; have rz1 := r.frozen 1; have rz2 := r.frozen 2; have fz1 := f.frozen 1; have fz2 := f.frozen 2; simp only [List.getElem?_toArray, List.getElem?_cons_zero, List.getElem?_cons_succ] at r0 r1 r2 f0 f1 f2; have HW2 := hid hw2; have HO2 := hid ho2; clear hw2 ho2 r f)
    obtain ⟨hW, hF, hR, hO⟩ := take_fin HP.out HO2.out HW2.out (Fresh.nil _ _ none) (.inr ⟨1, .int .u64 1, rfl⟩) (.int .i64 5) (.int .u64 1) (.slice none 0 0)
    refine bodyPost_ret (results_cell_row Try.results17 _ _ w.heap.size 35 #[.int .i64 5, .int .u64 1, .slice none 0 0] (0, 0) _ rfl hW Try.underlying35 rfl (by kernel_rfl)) rfl ?_
    refine ⟨none, 0, ?_, ?_, ?_, ?_, hO⟩
    all_goals rw [HT.out]
    · rfl
    · simp
    · exact Fresh.nil _ _ _
    · exact hR
  · rw [if_neg hx] at htk
    have HT := hid htk
    have hx1 : (X == 1) = false := by simpa using hx
    clear hR h htk hx
    go_enter Try.func17, Try.ntmps17
    go_wp2_with (go_at_call 38; refine HC.out.mono ?_; rintro e w2 ⟨rfl, hw2, ho2⟩; obtain ⟨r, f⟩ := take_blocks HP.out ho2; have r0 := r.cell 0; have r1 := r.cell 1; have r2 := r.cell 2; have f0 := f.cell 0; have f1 := f.cell 1; have f2 := f.cell 2; have rz0 := r.frozen 0; have rz1 := r.frozen 1; have rz2 := r.frozen 2; have fz1 := f.frozen 1; have fz2 := f.frozen 2; simp only [List.getElem?_toArray, List.getElem?_cons_zero, List.getElem?_cons_succ] at r0 r1 r2 f0 f1 f2; have HW2 := hid hw2; have HO2 := hid ho2; clear hw2 ho2 r f)
    obtain ⟨hW, hF, hR, hO⟩ := take_fin HP.out HO2.out HW2.out (Fresh.nil _ _ none) (.inl rfl) (.int .i64 5) (.int .u64 0) (.slice none 0 0)
    refine bodyPost_ret (results_cell_row Try.results17 _ _ w.heap.size 35 #[.int .i64 5, .int .u64 0, .slice none 0 0] (0, 0) _ rfl hW Try.underlying35 rfl (by kernel_rfl)) rfl ?_
    refine ⟨none, 0, ?_, ?_, ?_, ?_, hO⟩
    all_goals rw [HT.out]
    · rfl
    · simp
    · exact Fresh.nil _ _ _
    · exact hR

theorem wrap64_lt (x : Int) : wrap64 x < 9223372036854775808 := by unfold wrap64; omega
theorem count_bound {w : World} {p : Option Addr} {st : RS} (h : RRep w p st) (most : Int) : 0 ≤ (st.count most).1 ∧ (st.count most).1 ≤ 4096 := by
  unfold RS.count
  split
  · simp
  · have := num_bound h 2 (min most 4096) (by omega)
    omega

set_option maxHeartbeats 1000000 in
theorem take_8 (p : Option Addr) (st : RS) (most : Int) (w : World) (h : RRep w p st) :
    Calls Try.prog 17 #[.pointer p, .int .i64 8, .int .u64 most] w (TakePost p st 8 most w) := by
  have B0 : Below w.heap.size w ((w.alloc (.cells #[.int .i64 0, .int .u64 0, .slice none 0 0] 35)).alloc (.cells #[.int .i64 8, .int .u64 0, .slice none 0 0] 35)) :=
    ((Below.refl _ _).alloc (Nat.le_refl _) _).alloc (by simp) _
  obtain ⟨hb0, hb1⟩ := count_bound h (wrap64 most)
  have HC := RCount_any p st (wrap64 most) _ (h.below B0) (wrap64_lt most)
  have htk : tk st 8 most = ((st.count (wrap64 most)).1, [], (st.count (wrap64 most)).2) := rfl
  obtain ⟨R, hR⟩ : ∃ R, R = st.count (wrap64 most) := ⟨_, rfl⟩
  rw [← hR] at HC hb0 hb1 htk
  obtain ⟨X, s'⟩ := R
  simp only at HC hb0 hb1 htk
  have HP := hid (fun k (hk : Of p k) => h.lt hk)
  have HC := hid HC
  have HT := hid htk
  clear hR h htk
  go_enter Try.func17, Try.ntmps17
  go_wp2_with (go_at_call 40; refine HC.out.mono ?_; rintro e w2 ⟨rfl, hw2, ho2⟩; obtain ⟨r, f⟩ := take_blocks HP.out ho2; have r0 := r.cell 0; have r1 := r.cell 1; have r2 := r.cell 2; have f0 := f.cell 0; have f1 := f.cell 1; have f2 := f.cell 2; have rz0 := r.frozen 0; have rz1 := r.frozen 1; have rz2 := r.frozen 2; have fz1 := f.frozen 1; have fz2 := f.frozen 2; simp only [List.getElem?_toArray, List.getElem?_cons_zero, List.getElem?_cons_succ] at r0 r1 r2 f0 f1 f2; have HW2 := hid hw2; have HO2 := hid ho2; clear hw2 ho2 r f)
  obtain ⟨hW, hF, hR, hO⟩ := take_fin HP.out HO2.out HW2.out (Fresh.nil _ _ none) (.inr ⟨1, .int .u64 X, rfl⟩) (.int .i64 8) (.int .u64 X) (.slice none 0 0)
  refine bodyPost_ret (results_cell_row Try.results17 _ _ w.heap.size 35 #[.int .i64 8, .int .u64 X, .slice none 0 0] (0, 0) _ rfl hW Try.underlying35 rfl (by kernel_rfl)) rfl ?_
  refine ⟨none, 0, ?_, ?_, ?_, ?_, hO⟩
  all_goals rw [HT.out]
  · rfl
  · simp
  · exact Fresh.nil _ _ _
  · exact hR

set_option maxHeartbeats 1000000 in
theorem take_any (p : Option Addr) (st : RS) (k most : Int) (w : World) (h : RRep w p st) :
    Calls Try.prog 17 #[.pointer p, .int .i64 k, .int .u64 most] w (TakePost p st k most w) := by
  by_cases h1 : k = 1
  · subst h1; exact take_1 p st most w h
  by_cases h2 : k = 2
  · subst h2; exact take_2 p st most w h
  by_cases h3 : k = 3
  · subst h3; exact take_3 p st most w h
  by_cases h4 : k = 4
  · subst h4; exact take_4 p st most w h
  by_cases h5 : k = 5
  · subst h5; exact take_5 p st most w h
  by_cases h6 : k = 6
  · subst h6; exact take_6 p st most w h
  by_cases h7 : k = 7
  · subst h7; exact take_7 p st most w h
  by_cases h8 : k = 8
  · subst h8; exact take_8 p st most w h
  have htk : tk st k most = (0, [], st) := by unfold tk; rw [if_neg h1, if_neg h2, if_neg h3, if_neg h4, if_neg h5, if_neg h6, if_neg h7, if_neg h8]
  have B0 : Below w.heap.size w ((w.alloc (.cells #[.int .i64 k, .int .u64 0, .slice none 0 0] 35)).alloc (.cells #[.int .i64 k, .int .u64 0, .slice none 0 0] 35)) :=
    ((Below.refl _ _).alloc (Nat.le_refl _) _).alloc (by simp) _
  have HT := hid htk
  have HW2 := hid (h.below B0)
  have b1 : (k == 1) = false := by simpa using h1
  have b2 : (k == 2) = false := by simpa using h2
  have b3 : (k == 3) = false := by simpa using h3
  have b4 : (k == 4) = false := by simpa using h4
  have b5 : (k == 5) = false := by simpa using h5
  have b6 : (k == 6) = false := by simpa using h6
  have b7 : (k == 7) = false := by simpa using h7
  have b8 : (k == 8) = false := by simpa using h8
  clear h htk h1 h2 h3 h4 h5 h6 h7 h8
  go_enter Try.func17, Try.ntmps17
  go_wp2
  refine bodyPost_ret (results_cell_row Try.results17 _ _ w.heap.size 35 #[.int .i64 k, .int .u64 0, .slice none 0 0] (0, 0) _ rfl ((Blk.new w 35 _).alloc _) Try.underlying35 rfl (by kernel_rfl)) rfl ?_
  refine ⟨none, 0, ?_, ?_, ?_, ?_, OnlyS.of_below B0 (Nat.le_refl _)⟩
  all_goals rw [HT.out]
  · rfl
  · simp
  · exact Fresh.nil _ _ _
  · exact HW2.out
end Go.Proofs.Ytmdclicomneomaa
