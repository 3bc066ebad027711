/-
  What is proved here: the last block, or two, of a message.
-/
import Derived.Test.YtpponjmhgfikiaaDoorJoined
namespace Go.Proofs.YtpponjmhgfikiaaDoor
open Go.ChangeShapes Go.WideShapes Go.ChangeAt Go.RowKit
set_option linter.unusedVariables false

/-- the last blocks' bytes: the rest, a byte 128, noughts, and the last k bytes of the eight of M, up to size -/
def endAt (rest : List Int) (M : Int) (size k j : Nat) : Int :=
  if j < rest.length then rest[j]?.getD 0 else if j = rest.length then 128 else if size - k ≤ j ∧ j < size then M / 256 ^ (size - 1 - j) % 256 else 0
theorem zero_A128 : ∃ Z : Array Value, Hid (Z = (u8s (List.replicate 128 0)).toArray) ∧ (¬ Z = #[]) ∧ ∀ w : World, Sem.run Tryd.prog (zeroValue 43) w = Result.ok (.agg Z) w := by
  refine ⟨(List.replicate 128 (.int .u8 0)).toArray, ?_, ?_, fun w => by kernel_rfl⟩
  · show _ = _
    unfold u8s
    rw [List.map_replicate]
  · intro h
    have := congrArg Array.size h
    simp at this
theorem splice_zero (rest : List Int) (h : rest.length ≤ 128) : splice (u8s (List.replicate 128 0)) 0 (u8s rest) = u8s (rest ++ List.replicate (128 - rest.length) 0) := by
  apply List.ext_getElem?
  intro i
  rw [get_splice _ _ _ (by rw [u8s_length, u8s_length, List.length_replicate]; omega), if_neg (by omega), u8s_length, Nat.zero_add, Nat.sub_zero]
  by_cases h1 : i < rest.length
  · rw [if_pos h1, u8s_get _ _ h1, u8s_get _ _ (by simp; omega), List.getElem?_append_left h1]
  · rw [if_neg h1]
    by_cases h2 : i < 128
    · rw [u8s_get _ _ (by simpa using h2), u8s_get _ _ (by simp; omega), List.getElem?_append_right (by omega), List.getElem?_replicate, List.getElem?_replicate, if_pos h2, if_pos (by omega)]
    · rw [List.getElem?_eq_none (by simp [u8s]; omega), List.getElem?_eq_none (by simp [u8s]; omega)]
theorem results_cell_slot {P : Program} {fn : Func} {p q : Tmp} {ty : TypeId} (h : fn.results = #[.cell p ty, .tmp q]) (tmps : Array Value) (w : World) (g : Nat) (t : TypeId) (cs : Array Value) (fr : Nat × Nat) (d : TypeDesc)
    (hp : tmps.getD p undef = .pointer (some ⟨g, 0, none⟩)) (hg : w.heap[g]? = some (.cells cs t fr))
    (hu : P.underlying ty = some d) (hd : (match d with | .struct _ | .array _ _ => true | _ => false) = true) (hi : (P.info? ty).map (·.size) = some cs.size) :
    (results fn tmps).run P w = .ok (.tuple #[.agg cs, tmps.getD q undef]) w := by
  have hp' : tmps[p]?.getD undef = .pointer (some ⟨g, 0, none⟩) := by simpa using hp
  simp [results, h, hp', asAddr, run_loadVar_row w g t ty cs fr d hg hu hd hi]
theorem end_start (rest : List Int) (M : Int) (size r j : Nat) (hr : r = rest.length) (hl : r < 64) (hj : j < 128) : ((rest ++ List.replicate (128 - rest.length) 0).set r 128)[j]? = some (endAt rest M size 0 j) := by
  unfold endAt
  by_cases h1 : j < rest.length
  · rw [List.getElem?_set_ne (by omega), List.getElem?_append_left h1, if_pos h1, List.getElem?_eq_getElem h1]; rfl
  · rw [if_neg h1]
    by_cases h2 : j = rest.length
    · subst h2; subst hr
      rw [List.getElem?_set_self (by simp; omega), if_pos rfl]
    · rw [if_neg h2, if_neg (by omega), List.getElem?_set_ne (by omega), List.getElem?_append_right (by omega), List.getElem?_replicate, if_pos (by omega)]
theorem end_step (rest : List Int) (M : Int) (size k j : Nat) (l : List Int) (hl : l.length = 128) (hs : size = 64 ∨ size = 128) (hr : rest.length + 8 < size) (hk : k < 8) (hj : j < 128) (h : ∀ j, j < 128 → l[j]? = some (endAt rest M size k j)) :
    (l.set (size - 1 - k) (M / 256 ^ k % 256))[j]? = some (endAt rest M size (k + 1) j) := by
  by_cases h1 : j = size - 1 - k
  · subst h1
    rw [List.getElem?_set_self (by omega)]
    unfold endAt
    rw [if_neg (by omega), if_neg (by omega), if_pos (by omega), show size - 1 - (size - 1 - k) = k by omega]
  · rw [List.getElem?_set_ne (by omega), h j hj]
    unfold endAt
    by_cases h2 : j < rest.length
    · rw [if_pos h2, if_pos h2]
    · rw [if_neg h2, if_neg h2]
      by_cases h3 : j = rest.length
      · rw [if_pos h3, if_pos h3]
      · rw [if_neg h3, if_neg h3]
        by_cases h4 : size - k ≤ j ∧ j < size
        · rw [if_pos h4, if_pos (by omega)]
        · rw [if_neg h4, if_neg (by omega)]
theorem u8s_all (l : List Int) : (u8s l).toArray.all (·.oneCell') = true := by
  rw [Array.all_eq_true_iff_forall_mem]
  intro v hv
  exact u8s_one l v (by simpa using hv)

set_option maxRecDepth 5000 in
set_option maxHeartbeats 2000000 in
theorem ending_64 (A : Option Addr) (c N : Nat) (rest : List Int) (w : World) (hr : Rp w none A rest) (hl : rest.length < 64) (hN : N < 1000000000000) (hs : rest.length + 9 ≤ 64) :
    Calls Tryd.prog 21 #[.slice A rest.length c, .int .i64 N] w fun e w' => ∃ l : List Int, e = .returned (.tuple #[.agg (u8s l).toArray, .int .i64 64]) ∧ l.length = 128 ∧ (∀ j, j < 128 → l[j]? = some (endAt rest (8 * (N : Int)) 64 8 j)) ∧ Below w.heap.size w w' := by
  obtain ⟨Z, HZ, hZ0, hZs⟩ := zero_A128
  have hB0 : Below w.heap.size w ((w.alloc (.cells Z 43)).alloc (.cells Z 43)) := ((Below.refl _ _).alloc (Nat.le_refl _) _).alloc (by simp) _
  have hK1 : Blk ((w.alloc (.cells Z 43)).alloc (.cells Z 43)) w.heap.size 43 Z := (Blk.new w 43 Z).alloc _
  have hK2 : Blk ((w.alloc (.cells Z 43)).alloc (.cells Z 43)) (w.heap.size + 1) 43 Z := by
    have := Blk.new (w.alloc (.cells Z 43)) 43 Z
    rwa [show (w.alloc (.cells Z 43)).heap.size = w.heap.size + 1 by simp] at this
  have hP : 0 < (u8s rest).length → some (⟨w.heap.size + 1, 0, none⟩ : Addr) = some ⟨w.heap.size + 1, 0, none⟩ ∧ ∃ ad, A = some ad ∧ ∀ j v, (u8s rest)[j]? = some v → ((w.alloc (.cells Z 43)).alloc (.cells Z 43)).cell? (ad.add j) = some v := by
    intro hpos
    rw [u8s_length] at hpos
    obtain ⟨ad, rfl, hc⟩ := (hr.belowN hB0).get hpos
    refine ⟨rfl, ad, rfl, fun j v hv => ?_⟩
    have hj : j < rest.length := by
      rcases Nat.lt_or_ge j rest.length with h | h
      · exact h
      · rw [List.getElem?_eq_none (by rw [u8s_length]; exact h)] at hv; cases hv
    rw [hc j hj, ← hv, u8s_get _ _ hj]
  have hfit : 0 + (u8s rest).length ≤ (u8s (List.replicate 128 0)).length := by rw [u8s_length, u8s_length, List.length_replicate]; omega
  have hspl := splice_zero rest (by omega)
  obtain ⟨r, hrr⟩ : ∃ r, r = rest.length := ⟨_, rfl⟩
  have hcn : (u8s rest).length = Nat.min r 128 := by rw [u8s_length, ← hrr]; show r = min r 128; omega
  rw [← hrr] at hl hs ⊢
  have HRR := hid hrr
  have HK1 := hid hK1
  have HK2 : Hid (Blk ((w.alloc (.cells Z 43)).alloc (.cells Z 43)) (w.heap.size + 1) 43 (u8s (List.replicate 128 0)).toArray) := by rw [← HZ.out]; exact hK2
  have HP := hid hP; have HFIT := hid hfit; have HCN := hid hcn; have HSPL := hid hspl; have B0 := hid hB0
  have HSU : Hid ((Tryd.prog.info? 5).map (·.size) = some 1) := by show _ = _; kernel_rfl
  have BR : Hid (Below (w.heap.size + 1) ((w.alloc (.cells Z 43)).alloc (.cells Z 43)) ((w.alloc (.cells Z 43)).alloc (.cells Z 43))) := Below.refl _ _
  have HF4 : Hid (∀ w4 : World, Hid (w4.heap[w.heap.size + 1]? = some (.cells (splice (u8s (List.replicate 128 0)) 0 (u8s rest)).toArray 43 (0, 0))) → Blk w4 (w.heap.size + 1) 43 (u8s (rest ++ List.replicate (128 - rest.length) 0)).toArray) := fun w4 hg => by
    have h := hg.out
    rw [hspl] at h
    exact h
  have HC4 : Hid (∀ w4 : World, Blk w4 (w.heap.size + 1) 43 (u8s (rest ++ List.replicate (128 - rest.length) 0)).toArray → w4.cell? ⟨w.heap.size + 1, r, none⟩ = some (.int .u8 0)) := fun w4 hg => by
    rw [hg.cell, u8s_at _ _ (by simp; omega), List.getElem?_append_right (by omega), List.getElem?_replicate, if_pos (by omega)]; rfl
  clear hr hrr hB0 hK1 hK2 hP hfit hcn hspl
  have hd0 : decide ((64 : Int) < (r : Int) + 1 + 8) = false := by simp; omega
  go_enter Tryd.func21, Tryd.ntmps21
  go_wp2_with ((with_reducible refine wpList_copy_splice (d := .tmp 10) (s := .tmp 11) (dT := 22) (sT := 22) (elem := 5) (dp := some (⟨w.heap.size + 1, 0, none⟩ : Addr)) (sp := A) (dLen := 128) (dCap := 128) (sLen := r) (sCap := c) (g := w.heap.size + 1) (off := 0) (cur := u8s (List.replicate 128 0)) (t := 43) (cs := u8s rest) (B := w.heap.size + 1) (w0 := (w.alloc (.cells Z 43)).alloc (.cells Z 43)) ?_ ?_ ?_ ?_ ?_ ?_ ?_ ?_ ?_ ?_ ?_ ?_ ?_ ?_); rfl; rfl; exact Tryd.underlying22; exact HSU.out; go_simp; go_simp; exact HK2.out; exact HCN.out; exact HP.out; exact HFIT.out; exact u8s_one _; exact BR.out; exact Nat.le_refl _; intro w4 hg4 hb4; have HB4 := hid hb4; have hk4 : Blk w4 (w.heap.size + 1) 43 (u8s (rest ++ List.replicate (128 - rest.length) 0)).toArray := HF4.out w4 hg4; have HK4 := hid hk4; have c4 : w4.cell? ⟨w.heap.size + 1, r, none⟩ = some (.int .u8 0) := HC4.out w4 hk4; have f4 : w4.frozen? ⟨w.heap.size + 1, r, none⟩ = false := hk4.frozen r; clear hb4 hg4 hk4)
  have hx := (HK4.out).setd r (.int .u8 128)
  rw [u8s_set] at hx
  have hk1 : Blk (w4.setCell ⟨w.heap.size + 1, r, none⟩ (.int .u8 128)) w.heap.size 43 Z := (HK1.out.same (HB4.out.block _ (by omega))).far (by simp) _
  have hbx : Below w.heap.size w (w4.setCell ⟨w.heap.size + 1, r, none⟩ (.int .u8 128)) := (B0.out.trans (HB4.out.mono (Nat.le_succ _))).setCell (by simp) _
  have HX := hid hx; have HK1' := hid hk1; have HBX := hid hbx
  clear hx hk1 hbx c4 f4
  generalize w4.setCell ⟨w.heap.size + 1, r, none⟩ (.int .u8 128) = w5 at HX HK1' HBX ⊢
  go_loopw [24] (fun i wr => ∃ (k : Nat) (l : List Int), k ≤ 8 ∧ i = .int .i64 k ∧ l.length = 128 ∧ (∀ j, j < 128 → l[j]? = some (endAt rest (8 * (N : Int)) 64 k j)) ∧ Blk wr (w.heap.size + 1) 43 (u8s l).toArray ∧ Blk wr w.heap.size 43 Z ∧ Below w.heap.size w wr) (fun i _ => 8 - (intOf i).toNat)
  case atStart => exact ⟨0, (rest ++ List.replicate (128 - rest.length) 0).set r 128, by omega, rfl, by have := HRR.out; simp; omega, fun j hj => end_start rest _ 64 r j HRR.out hl hj, HX.out, HK1'.out, HBX.out⟩
  case round =>
    obtain ⟨k, l, hk, rfl, hll, hlj, hb1, hb2, hbel⟩ := hrel
    have HLL := hid hll; have HLJ := hid hlj; have HB1 := hid hb1; have HB2 := hid hb2; have HBL := hid hbel
    clear hll hlj hb1 hb2 hbel HX HK1' HBX
    by_cases hlt : k < 8
    · have ck : wr.cell? ⟨w.heap.size + 1, 63 - k, none⟩ = some (.int .u8 (l[63 - k]?.getD 0)) := by
        rw [HB1.out.cell]; exact u8s_at l _ (by have := HLL.out; omega)
      have fk : wr.frozen? ⟨w.heap.size + 1, 63 - k, none⟩ = false := HB1.out.frozen _
      go_wp2
      go_roundw
      case rel =>
        have e2 : (2 : Int) ^ (8 * k) = 256 ^ k := by rw [Int.pow_mul]; rfl
        rw [e2]
        have g1 := HB1.out.setd (63 - k) (.int .u8 (8 * (N : Int) / 256 ^ k % 256))
        rw [u8s_set] at g1
        exact ⟨k + 1, l.set (63 - k) (8 * (N : Int) / 256 ^ k % 256), by omega, by go_num, by simp [HLL.out], fun j hj => end_step rest _ 64 k j l HLL.out (by decide) (by have := HRR.out; omega) hlt hj HLJ.out, g1, HB2.out.far (by simp) _, HBL.out.setCell (by simp) _⟩
      case measure => simp [intOf]; omega
    · have hk8 : 8 ≤ k := by omega
      have hi : Hid ((Tryd.prog.info? 43).map (·.size) = some (u8s l).toArray.size) := by
        show _ = _
        rw [List.size_toArray, u8s_length, HLL.out]; kernel_rfl
      have hz : Hid (Z.size = (u8s l).toArray.size) := by
        show _ = _
        rw [HZ.out, List.size_toArray, List.size_toArray, u8s_length, u8s_length, HLL.out]; simp
      go_wp2_with (first
        | (refine wpList_load_row rfl 43 (.tmp 6) rfl (w.heap.size + 1) rfl 43 (u8s l).toArray (0, 0) _ HB1.out Tryd.underlying43 rfl hi.out ?_)
        | (refine wpList_store_row rfl 43 (.tmp 4) (.tmp 38) rfl w.heap.size (u8s l).toArray rfl rfl 43 Z HB2.out hi.out hz.out (u8s_all l) ?_))
      refine bodyPost_ret (results_cell_slot Tryd.results21 _ _ w.heap.size 43 (u8s l).toArray (0, 0) _ rfl (HB2.out.row _) Tryd.underlying43 rfl hi.out) rfl ?_
      obtain rfl : k = 8 := by omega
      exact ⟨l, rfl, HLL.out, HLJ.out, below_setRow HBL.out (Nat.le_refl _) _⟩

set_option maxRecDepth 5000 in
set_option maxHeartbeats 2000000 in
theorem ending_128 (A : Option Addr) (c N : Nat) (rest : List Int) (w : World) (hr : Rp w none A rest) (hl : rest.length < 64) (hN : N < 1000000000000) (hs : 64 < rest.length + 9) :
    Calls Tryd.prog 21 #[.slice A rest.length c, .int .i64 N] w fun e w' => ∃ l : List Int, e = .returned (.tuple #[.agg (u8s l).toArray, .int .i64 128]) ∧ l.length = 128 ∧ (∀ j, j < 128 → l[j]? = some (endAt rest (8 * (N : Int)) 128 8 j)) ∧ Below w.heap.size w w' := by
  obtain ⟨Z, HZ, hZ0, hZs⟩ := zero_A128
  have hB0 : Below w.heap.size w ((w.alloc (.cells Z 43)).alloc (.cells Z 43)) := ((Below.refl _ _).alloc (Nat.le_refl _) _).alloc (by simp) _
  have hK1 : Blk ((w.alloc (.cells Z 43)).alloc (.cells Z 43)) w.heap.size 43 Z := (Blk.new w 43 Z).alloc _
  have hK2 : Blk ((w.alloc (.cells Z 43)).alloc (.cells Z 43)) (w.heap.size + 1) 43 Z := by
    have := Blk.new (w.alloc (.cells Z 43)) 43 Z
    rwa [show (w.alloc (.cells Z 43)).heap.size = w.heap.size + 1 by simp] at this
  have hP : 0 < (u8s rest).length → some (⟨w.heap.size + 1, 0, none⟩ : Addr) = some ⟨w.heap.size + 1, 0, none⟩ ∧ ∃ ad, A = some ad ∧ ∀ j v, (u8s rest)[j]? = some v → ((w.alloc (.cells Z 43)).alloc (.cells Z 43)).cell? (ad.add j) = some v := by
    intro hpos
    rw [u8s_length] at hpos
    obtain ⟨ad, rfl, hc⟩ := (hr.belowN hB0).get hpos
    refine ⟨rfl, ad, rfl, fun j v hv => ?_⟩
    have hj : j < rest.length := by
      rcases Nat.lt_or_ge j rest.length with h | h
      · exact h
      · rw [List.getElem?_eq_none (by rw [u8s_length]; exact h)] at hv; cases hv
    rw [hc j hj, ← hv, u8s_get _ _ hj]
  have hfit : 0 + (u8s rest).length ≤ (u8s (List.replicate 128 0)).length := by rw [u8s_length, u8s_length, List.length_replicate]; omega
  have hspl := splice_zero rest (by omega)
  obtain ⟨r, hrr⟩ : ∃ r, r = rest.length := ⟨_, rfl⟩
  have hcn : (u8s rest).length = Nat.min r 128 := by rw [u8s_length, ← hrr]; show r = min r 128; omega
  rw [← hrr] at hl hs ⊢
  have HRR := hid hrr
  have HK1 := hid hK1
  have HK2 : Hid (Blk ((w.alloc (.cells Z 43)).alloc (.cells Z 43)) (w.heap.size + 1) 43 (u8s (List.replicate 128 0)).toArray) := by rw [← HZ.out]; exact hK2
  have HP := hid hP; have HFIT := hid hfit; have HCN := hid hcn; have HSPL := hid hspl; have B0 := hid hB0
  have HSU : Hid ((Tryd.prog.info? 5).map (·.size) = some 1) := by show _ = _; kernel_rfl
  have BR : Hid (Below (w.heap.size + 1) ((w.alloc (.cells Z 43)).alloc (.cells Z 43)) ((w.alloc (.cells Z 43)).alloc (.cells Z 43))) := Below.refl _ _
  have HF4 : Hid (∀ w4 : World, Hid (w4.heap[w.heap.size + 1]? = some (.cells (splice (u8s (List.replicate 128 0)) 0 (u8s rest)).toArray 43 (0, 0))) → Blk w4 (w.heap.size + 1) 43 (u8s (rest ++ List.replicate (128 - rest.length) 0)).toArray) := fun w4 hg => by
    have h := hg.out
    rw [hspl] at h
    exact h
  have HC4 : Hid (∀ w4 : World, Blk w4 (w.heap.size + 1) 43 (u8s (rest ++ List.replicate (128 - rest.length) 0)).toArray → w4.cell? ⟨w.heap.size + 1, r, none⟩ = some (.int .u8 0)) := fun w4 hg => by
    rw [hg.cell, u8s_at _ _ (by simp; omega), List.getElem?_append_right (by omega), List.getElem?_replicate, if_pos (by omega)]; rfl
  clear hr hrr hB0 hK1 hK2 hP hfit hcn hspl
  go_enter Tryd.func21, Tryd.ntmps21
  go_wp2_with ((with_reducible refine wpList_copy_splice (d := .tmp 10) (s := .tmp 11) (dT := 22) (sT := 22) (elem := 5) (dp := some (⟨w.heap.size + 1, 0, none⟩ : Addr)) (sp := A) (dLen := 128) (dCap := 128) (sLen := r) (sCap := c) (g := w.heap.size + 1) (off := 0) (cur := u8s (List.replicate 128 0)) (t := 43) (cs := u8s rest) (B := w.heap.size + 1) (w0 := (w.alloc (.cells Z 43)).alloc (.cells Z 43)) ?_ ?_ ?_ ?_ ?_ ?_ ?_ ?_ ?_ ?_ ?_ ?_ ?_ ?_); rfl; rfl; exact Tryd.underlying22; exact HSU.out; go_simp; go_simp; exact HK2.out; exact HCN.out; exact HP.out; exact HFIT.out; exact u8s_one _; exact BR.out; exact Nat.le_refl _; intro w4 hg4 hb4; have HB4 := hid hb4; have hk4 : Blk w4 (w.heap.size + 1) 43 (u8s (rest ++ List.replicate (128 - rest.length) 0)).toArray := HF4.out w4 hg4; have HK4 := hid hk4; have c4 : w4.cell? ⟨w.heap.size + 1, r, none⟩ = some (.int .u8 0) := HC4.out w4 hk4; have f4 : w4.frozen? ⟨w.heap.size + 1, r, none⟩ = false := hk4.frozen r; clear hb4 hg4 hk4)
  have hx := (HK4.out).setd r (.int .u8 128)
  rw [u8s_set] at hx
  have hk1 : Blk (w4.setCell ⟨w.heap.size + 1, r, none⟩ (.int .u8 128)) w.heap.size 43 Z := (HK1.out.same (HB4.out.block _ (by omega))).far (by simp) _
  have hbx : Below w.heap.size w (w4.setCell ⟨w.heap.size + 1, r, none⟩ (.int .u8 128)) := (B0.out.trans (HB4.out.mono (Nat.le_succ _))).setCell (by simp) _
  have HX := hid hx; have HK1' := hid hk1; have HBX := hid hbx
  clear hx hk1 hbx c4 f4
  generalize w4.setCell ⟨w.heap.size + 1, r, none⟩ (.int .u8 128) = w5 at HX HK1' HBX ⊢
  go_loopw [24] (fun i wr => ∃ (k : Nat) (l : List Int), k ≤ 8 ∧ i = .int .i64 k ∧ l.length = 128 ∧ (∀ j, j < 128 → l[j]? = some (endAt rest (8 * (N : Int)) 128 k j)) ∧ Blk wr (w.heap.size + 1) 43 (u8s l).toArray ∧ Blk wr w.heap.size 43 Z ∧ Below w.heap.size w wr) (fun i _ => 8 - (intOf i).toNat)
  case atStart => exact ⟨0, (rest ++ List.replicate (128 - rest.length) 0).set r 128, by omega, rfl, by have := HRR.out; simp; omega, fun j hj => end_start rest _ 128 r j HRR.out hl hj, HX.out, HK1'.out, HBX.out⟩
  case round =>
    obtain ⟨k, l, hk, rfl, hll, hlj, hb1, hb2, hbel⟩ := hrel
    have HLL := hid hll; have HLJ := hid hlj; have HB1 := hid hb1; have HB2 := hid hb2; have HBL := hid hbel
    clear hll hlj hb1 hb2 hbel HX HK1' HBX
    by_cases hlt : k < 8
    · have ck : wr.cell? ⟨w.heap.size + 1, 127 - k, none⟩ = some (.int .u8 (l[127 - k]?.getD 0)) := by
        rw [HB1.out.cell]; exact u8s_at l _ (by have := HLL.out; omega)
      have fk : wr.frozen? ⟨w.heap.size + 1, 127 - k, none⟩ = false := HB1.out.frozen _
      go_wp2
      go_roundw
      case rel =>
        have e2 : (2 : Int) ^ (8 * k) = 256 ^ k := by rw [Int.pow_mul]; rfl
        rw [e2]
        have g1 := HB1.out.setd (127 - k) (.int .u8 (8 * (N : Int) / 256 ^ k % 256))
        rw [u8s_set] at g1
        exact ⟨k + 1, l.set (127 - k) (8 * (N : Int) / 256 ^ k % 256), by omega, by go_num, by simp [HLL.out], fun j hj => end_step rest _ 128 k j l HLL.out (by decide) (by have := HRR.out; omega) hlt hj HLJ.out, g1, HB2.out.far (by simp) _, HBL.out.setCell (by simp) _⟩
      case measure => simp [intOf]; omega
    · have hk8 : 8 ≤ k := by omega
      have hi : Hid ((Tryd.prog.info? 43).map (·.size) = some (u8s l).toArray.size) := by
        show _ = _
        rw [List.size_toArray, u8s_length, HLL.out]; kernel_rfl
      have hz : Hid (Z.size = (u8s l).toArray.size) := by
        show _ = _
        rw [HZ.out, List.size_toArray, List.size_toArray, u8s_length, u8s_length, HLL.out]; simp
      go_wp2_with (first
        | (refine wpList_load_row rfl 43 (.tmp 6) rfl (w.heap.size + 1) rfl 43 (u8s l).toArray (0, 0) _ HB1.out Tryd.underlying43 rfl hi.out ?_)
        | (refine wpList_store_row rfl 43 (.tmp 4) (.tmp 38) rfl w.heap.size (u8s l).toArray rfl rfl 43 Z HB2.out hi.out hz.out (u8s_all l) ?_))
      refine bodyPost_ret (results_cell_slot Tryd.results21 _ _ w.heap.size 43 (u8s l).toArray (0, 0) _ rfl (HB2.out.row _) Tryd.underlying43 rfl hi.out) rfl ?_
      obtain rfl : k = 8 := by omega
      exact ⟨l, rfl, HLL.out, HLJ.out, below_setRow HBL.out (Nat.le_refl _) _⟩

end Go.Proofs.YtpponjmhgfikiaaDoor
