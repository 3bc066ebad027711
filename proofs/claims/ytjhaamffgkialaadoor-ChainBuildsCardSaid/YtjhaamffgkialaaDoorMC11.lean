/-
  What is proved here: a version built; a chain told to be one; a chain grown by one version, as the code has it.
-/
import Derived.Test.YtjhaamffgkialaaDoorMC9
import Derived.Great.BuildSlice
set_option linter.unusedSimpArgs false
set_option linter.unusedVariables false
namespace Go.Proofs.YtjhaamffgkialaaDoor
open Go.ChangeShapes Go.WideShapes Go.ChangeAt Go.RowKit
set_option linter.unusedVariables false
set_option linter.unusedSimpArgs false
set_option maxRecDepth 20000

def VputRow (cs : Array Value) : Nat → List Value → Array Value
  | _, [] => cs
  | o, v :: r => VputRow (cs.setIfInBounds o v) (o + 1) r
theorem VputRow_at : ∀ (vs : List Value) (cs : Array Value) (o i : Nat), o + vs.length ≤ cs.size → (VputRow cs o vs)[i]? = if o ≤ i ∧ i < o + vs.length then vs[i - o]? else cs[i]?
  | [], cs, o, i, h => by
    unfold VputRow
    rw [if_neg]
    simp only [List.length_nil]
    omega
  | v :: r, cs, o, i, h => by
    simp only [List.length_cons] at h ⊢
    unfold VputRow
    rw [VputRow_at r _ (o + 1) i (by rw [Array.size_setIfInBounds]; omega), Array.getElem?_setIfInBounds]
    by_cases h1 : o = i
    · subst h1
      rw [if_neg (by omega), if_pos rfl, if_pos (by omega), if_pos (by omega)]
      simp
    · rw [if_neg h1]
      by_cases h2 : o + 1 ≤ i ∧ i < o + 1 + r.length
      · rw [if_pos h2, if_pos (by omega), show i - o = (i - (o + 1)) + 1 by omega, List.getElem?_cons_succ]
      · rw [if_neg h2, if_neg (by omega)]
theorem Blk.putCellsV {g : Nat} {t : TypeId} : ∀ (vs : List Value) {w : World} {cs : Array Value} (h : Blk w g t cs) (o : Nat), Blk (w.setCells g o vs) g t (VputRow cs o vs)
  | [], _, _, h, _ => h
  | v :: r, _, _, h, o => (h.setd o v).putCellsV r (o + 1)
theorem Blk.farCellsV {g k : Nat} (hk : k ≠ g) {t : TypeId} {cs : Array Value} : ∀ (vs : List Value) {w : World} (h : Blk w k t cs) (o : Nat), Blk (w.setCells g o vs) k t cs
  | [], _, h, _ => h
  | v :: r, _, h, o => (h.far hk v : Blk (World.setCell _ ⟨g, o, none⟩ v) k t cs).farCellsV hk r (o + 1)
theorem Vbelow_setCells {B g : Nat} (hg : B ≤ g) : ∀ (vs : List Value) {a w : World} (h : Below B a w) (o : Nat), Below B a (w.setCells g o vs)
  | [], _, _, h, _ => h
  | v :: r, _, _, h, o => Vbelow_setCells hg r (h.setCell hg v : Below B _ (World.setCell _ ⟨g, o, none⟩ v)) (o + 1)
theorem Vfold_put (off : Nat) : ∀ (vs : List Value) (k : Nat) (cs : Array Value), (vs.zipIdx k).foldl (fun cs x => cs.setIfInBounds (off + x.2) x.1) cs = VputRow cs (off + k) vs
  | [], _, _ => rfl
  | v :: r, k, cs => by
    rw [List.zipIdx_cons, List.foldl_cons, Vfold_put off r (k + 1)]
    rfl
theorem Vfold_put_arr (off : Nat) (vs : Array Value) (cs : Array Value) : vs.zipIdx.foldl (fun cs x => cs.setIfInBounds (off + x.2) x.1) cs = VputRow cs off vs.toList := by
  rw [← Array.foldl_toList, Array.toList_zipIdx]
  exact Vfold_put off vs.toList 0 cs
theorem VputRow_len : ∀ (vs : List Value) (cs : Array Value) (o : Nat), (VputRow cs o vs).size = cs.size
  | [], _, _ => rfl
  | v :: r, cs, o => by unfold VputRow; rw [VputRow_len r]; simp
theorem VputRow_mid {A M M' C : List Value} {o : Nat} (ho : o = A.length) (hl : M'.length = M.length) : VputRow (A ++ (M ++ C)).toArray o M' = (A ++ (M' ++ C)).toArray := by
  apply Array.ext_getElem?
  intro i
  rw [VputRow_at _ _ _ _ (by simp; omega), List.getElem?_toArray, List.getElem?_toArray, ho]
  by_cases h1 : i < A.length
  · rw [if_neg (by omega), List.getElem?_append_left h1, List.getElem?_append_left h1]
  · rw [List.getElem?_append_right (l₁ := A) (by omega), List.getElem?_append_right (l₁ := A) (by omega)]
    by_cases h2 : i - A.length < M'.length
    · rw [if_pos (by omega), List.getElem?_append_left h2]
    · rw [if_neg (by omega), List.getElem?_append_right (by omega), List.getElem?_append_right (by omega), hl]
theorem Vfill_step {place : Nat → Option (Nat × Nat)} {cells : Array Value} {i off size : Nat} {v : Value} {rest : List (Nat × Value)} (hp : place i = some (off, size)) (hv : v.cells.size = size) (hc : off + size ≤ cells.size) :
    Instr.fill place cells ((i, v) :: rest) = Instr.fill place (VputRow cells off v.cells.toList) rest := by
  rw [Instr.fill]
  simp only [hp]
  rw [if_neg (by simp [hv]; omega), Vfold_put_arr]
theorem Vfill_end {place : Nat → Option (Nat × Nat)} {cells : Array Value} : Instr.fill place cells [] = some cells := by rw [Instr.fill]
theorem Vexec_build1 {P : Program} {o : Oper} {a : Act} (t : TypeId) (parts : Array (Nat × Operand)) (ho : o.op = .build t parts) (cells : Array Value) (hb : P.built t (parts.map fun (i, x) => (i, a.eval x)).toList = some cells) (w : World) : (execOp a.eval o).run P w = .ok (.value (.agg cells)) w := by
  unfold execOp
  simp only [ho, Sem.run_bind, run_build w t _ cells hb, Result.andThen_ok]
  rfl

section
variable {V : Value} {q : Vs}
theorem vp_0 (x : Int) : VputRow (vcs V q).toArray 0 [.int .i64 x] = (vcs V { q with n := x }).toArray :=
  VputRow_mid (A := []) (M := [.int .i64 q.n]) rfl rfl
theorem vp_1 (x : Int) : VputRow (vcs V q).toArray 1 [.int .i64 x] = (vcs V { q with e := x }).toArray :=
  VputRow_mid (A := [.int .i64 q.n]) (M := [.int .i64 q.e]) rfl rfl
theorem vp_2 {x : List Int} (hq : Hh q.s) (hx : Hh x) : VputRow (vcs V q).toArray 2 (u8s x) = (vcs V { q with s := x }).toArray :=
  VputRow_mid (A := [.int .i64 q.n, .int .i64 q.e]) (M := u8s q.s) rfl (by rw [u8s_length, u8s_length, hq.len, hx.len])
theorem vp_34 {x : List Int} (hs : Hh q.s) (hq : Hh q.b) (hx : Hh x) : VputRow (vcs V q).toArray 34 (u8s x) = (vcs V { q with b := x }).toArray := by
  have := VputRow_mid (A := .int .i64 q.n :: .int .i64 q.e :: u8s q.s) (M := u8s q.b) (M' := u8s x) (C := [V]) (o := 34) (by rw [List.length_cons, List.length_cons, u8s_length, hs.len]) (by rw [u8s_length, u8s_length, hq.len, hx.len])
  simpa only [vcs, List.cons_append, List.append_assoc] using this
theorem vp_66 {V' : Value} (hs : Hh q.s) (hb : Hh q.b) : VputRow (vcs V q).toArray 66 [V'] = (vcs V' q).toArray := by
  have := VputRow_mid (A := .int .i64 q.n :: .int .i64 q.e :: (u8s q.s ++ u8s q.b)) (M := [V]) (M' := [V']) (C := []) (o := 66) (by simp [u8s_length, hs.len, hb.len]) rfl
  simpa only [vcs, List.cons_append, List.append_assoc, List.append_nil] using this
end
structure VTb (t : TypeId) : Prop where
  i : (Tryd.prog.info? t).map (fun i => (i.zero, i.size, i.bytes)) = some (some (.agg (vcs (.slice none 0 0) vZ).toArray), 67, 104)
  p : ∃ fields, Tryd.prog.underlying t = some (.struct fields) ∧ fields.toList.mapM (fun f => (Tryd.prog.info? f.type).map fun i => (f.offset, i.size)) = some [(0, 1), (1, 1), (2, 32), (34, 32), (66, 1)]
theorem vTbC : VTb 75 := ⟨by kernel_rfl, _, Tryd.underlying75, by kernel_rfl⟩
theorem vTbR : VTb 69 := ⟨by kernel_rfl, _, Tryd.underlying69, by kernel_rfl⟩
theorem v_built {t : TypeId} (ht : VTb t) {q : Vs} (h : q.Ok) {A : Option Addr} {n c : Nat} : Tryd.prog.built t [(0, .int .i64 q.n), (1, .int .i64 q.e), (2, .agg (u8s q.s).toArray), (3, .agg (u8s q.b).toArray), (4, .slice A n c)] = some (vcs (.slice A n c) q).toArray := by
  obtain ⟨i0, hi, hz0, hz1, hz2⟩ := info_parts ht.i
  obtain ⟨fields, hu, hpl⟩ := ht.p
  unfold Program.built
  rw [hi, hu]
  simp only [hz0, hpl]
  have e3 : (Value.agg (vcs (.slice none 0 0) vZ).toArray).cells = (vcs (.slice none 0 0) vZ).toArray := rfl
  have sz : (vcs (.slice none 0 0) vZ).toArray.size = 67 := rfl
  rw [e3, Vfill_step (v := .int .i64 q.n) (off := 0) (size := 1) rfl rfl (by simp only [VputRow_len, sz]; decide), Vfill_step (v := .int .i64 q.e) (off := 1) (size := 1) rfl rfl (by simp only [VputRow_len, sz]; decide), Vfill_step (v := .agg (u8s q.s).toArray) (off := 2) (size := 32) rfl (hash_size32 h.s) (by simp only [VputRow_len, sz]; decide), Vfill_step (v := .agg (u8s q.b).toArray) (off := 34) (size := 32) rfl (hash_size32 h.b) (by simp only [VputRow_len, sz]; decide), Vfill_step (v := .slice A n c) (off := 66) (size := 1) rfl rfl (by simp only [VputRow_len, sz]; decide), Vfill_end]
  have c0 : ∀ x, (Value.int .i64 x).cells.toList = [.int .i64 x] := fun _ => rfl
  have c1 : ∀ x : List Int, (Value.agg (u8s x).toArray).cells.toList = u8s x := fun _ => rfl
  have c2 : (Value.slice A n c).cells.toList = [.slice A n c] := rfl
  rw [c0, c0, c1, c1, c2, vp_0, vp_1, vp_2 (q := { vZ with n := q.n, e := q.e }) hh_zero h.s, vp_34 (q := { vZ with n := q.n, e := q.e, s := q.s }) h.s hh_zero h.b, vp_66 (q := { vZ with n := q.n, e := q.e, s := q.s, b := q.b }) h.s h.b]
  rfl
theorem v_built4 {t : TypeId} (ht : VTb t) {q : Vs} (h : q.Ok) (hb : q.b = zH) {A : Option Addr} {n c : Nat} : Tryd.prog.built t [(0, .int .i64 q.n), (1, .int .i64 q.e), (2, .agg (u8s q.s).toArray), (4, .slice A n c)] = some (vcs (.slice A n c) q).toArray := by
  obtain ⟨i0, hi, hz0, hz1, hz2⟩ := info_parts ht.i
  obtain ⟨fields, hu, hpl⟩ := ht.p
  unfold Program.built
  rw [hi, hu]
  simp only [hz0, hpl]
  have e3 : (Value.agg (vcs (.slice none 0 0) vZ).toArray).cells = (vcs (.slice none 0 0) vZ).toArray := rfl
  have sz : (vcs (.slice none 0 0) vZ).toArray.size = 67 := rfl
  rw [e3, Vfill_step (v := .int .i64 q.n) (off := 0) (size := 1) rfl rfl (by simp only [VputRow_len, sz]; decide), Vfill_step (v := .int .i64 q.e) (off := 1) (size := 1) rfl rfl (by simp only [VputRow_len, sz]; decide), Vfill_step (v := .agg (u8s q.s).toArray) (off := 2) (size := 32) rfl (hash_size32 h.s) (by simp only [VputRow_len, sz]; decide), Vfill_step (v := .slice A n c) (off := 66) (size := 1) rfl rfl (by simp only [VputRow_len, sz]; decide), Vfill_end]
  have c0 : ∀ x, (Value.int .i64 x).cells.toList = [.int .i64 x] := fun _ => rfl
  have c1 : ∀ x : List Int, (Value.agg (u8s x).toArray).cells.toList = u8s x := fun _ => rfl
  have c2 : (Value.slice A n c).cells.toList = [.slice A n c] := rfl
  rw [c0, c0, c1, c2, vp_0, vp_1, vp_2 (q := { vZ with n := q.n, e := q.e }) hh_zero h.s, vp_66 (q := { vZ with n := q.n, e := q.e, s := q.s }) h.s hh_zero]
  obtain ⟨n1, e1, s1, b1, v1⟩ := q
  simp only at hb
  subst hb
  rfl
/-- one version in a slice of its own; a version put behind a list: at an operation -/
theorem wp_ver_one1 {tS tE : TypeId} (ht : VTy tS tE) {o : Oper} {a : Act} {w : World} {K : Act → World → Prop} {Q : Exit → Act → World → Prop} (x : Operand) (ho : o.op = .buildSlice tS 1 #[(0, x)]) (V : Value) (q : Vs) (hq : q.Ok) (hx : a.eval x = .agg (vcs V q).toArray)
    (h : K (a.put o.dst (.slice (some ⟨w.heap.size, 0, none⟩) 1 1)) (w.alloc (.cells (vcs V q).toArray tE))) : o.wp Tryd.prog a w K Q := by
  obtain ⟨i0, hi, hz0, hz1, hz2⟩ := info_parts ht.i
  have hl := vcs_length V hq
  refine wp_buildSlice tS tE 1 #[(0, x)] ho (vcs V q).toArray i0 _ ht.u hi hz0 (by rw [hz1]; decide) (by rw [hz1]; decide) ?_ h
  have hp : (#[(0, x)].map fun ((i, x) : Nat × Operand) => (i, a.eval x)).toList = [(0, Value.agg (vcs V q).toArray)] := by simp [hx]
  rw [hp, hz1]
  have h := Great.fill_whole (s := 67) (by decide) [Value.agg (vcs V q).toArray] ((Array.range (1 * 67)).map ((Value.agg (vcs (.slice none 0 0) vZ).toArray).cells[· % (Value.agg (vcs (.slice none 0 0) vZ).toArray).cells.size]!)) (fun v hv => by
    rw [List.mem_singleton.1 hv]; exact hl) (by simp)
  simp only [List.flatMap_cons, List.flatMap_nil, List.append_nil] at h
  exact h
theorem wp_append_ver1 {tS tE : TypeId} (ht : VTy tS tE) {x : World} {o : Oper} {a : Act} {K : Act → World → Prop} {Q : Exit → Act → World → Prop} (s y : Operand)
    (ho : o.op = .call { callee := .builtin .append, args := #[s, y], argTypes := #[tS, tS] }) (n0 : Nat) (L : List Vs) (v : Value) (hs : a.eval s = v) (hO : OwV tE n0 x v L) (g5 : Nat) (V : Value) (q : Vs) (hq : Vb n0 x V q) (hB : Blk x g5 tE (vcs V q).toArray) (hx : a.eval y = .slice (some ⟨g5, 0, none⟩) 1 1) (hlen : L.length ≤ 100000) (hn : n0 ≤ x.heap.size)
    (h : ∀ v' w', OwV tE n0 w' v' (L ++ [q]) → Below n0 x w' → K (a.put o.dst v') w') : o.wp Tryd.prog a x K Q := by
  obtain ⟨i0, hi, hz0, hz1, hz2⟩ := info_parts ht.i
  have hty := hO.ty
  obtain ⟨R, hl, hrow, hR⟩ := hO.ex
  refine wp_append_own x s y tS ho n0 tE i0 _ 67 104 ht.u hi hz0 hz1 hz2 (by rfl) (by decide) v L.length (vcss R L) hs hrow ⟨g5, 0, none⟩ 1 1 (vcs V q) hx (by rw [vcs_length V hq.ok]) (fun j u hu => ?_) (vcs_one hq.arg.one q) (by unfold maxLen; omega) (by omega) hn ?_
  · rw [Addr.add_lit, Nat.zero_add, hB.cell, List.getElem?_toArray]; exact hu
  · intro v' w' h1 h2 _
    exact h v' w' (OwV.push hl (fun i V' q' g1 g2 => vb_grown ht.ne h2 hty (hR i V' q' g1 g2)) (vb_grown ht.ne h2 hty hq) h1) ((Below.refl _ _).grown h2 hn (fun k hk => (hty k hk).1))
theorem formed_any {A B : Option Addr} {n c c2 : Nat} {lab : List Int} {L : List Vs} {w : World} (h : Lbl w A c lab) (hL : InV w B n L) (hv : ∀ q ∈ L, q.v.length ≤ 300) (hn : n ≤ 1000) (ht : Tab w) :
    Calls Tryd.prog 43 #[.slice A lab.length c, .slice B n c2] w fun e w' => e = .returned (.bool (okF (cm lab) lab.length L)) ∧ Below w.heap.size w w' := by
  have CL := hid (last_any (c2 := c2) h hL hv ht)
  have hS : Hh (lastC (cm lab) L) := by
    unfold lastC
    by_cases e : L = []
    · rw [if_pos e]; exact hh_zero
    · rw [if_neg e]; exact hh_sum _
  have CC := hid (fun w1 (hb : Below w.heap.size w w1) => check_any (c2 := c2) (h.below hb) (hL.below hb) hv hn hS (ht.below hb))
  rw [← chV_last]
  generalize lastC (cm lab) L = S at CL CC ⊢
  generalize chF (cm lab) lab.length L S = r at CC ⊢
  have hmax := hL.max
  clear h hL hv hn ht hS
  go_enter Tryd.func43, Tryd.ntmps43
  go_wp2_with (first
    | (go_at_call 85; refine CL.out.mono ?_; rintro e w1 ⟨rfl, hb⟩; have B1 := hid hb; clear hb)
    | (go_at_call 45; refine (CC.out _ B1.out).mono ?_; rintro e w2 ⟨rfl, hb⟩; have B2 := hid (B1.out.trans (hb.mono B1.out.size)); clear hb))
  go_ret
  exact ⟨rfl, B2.out⟩
/-- the version that a chain grows by -/
def gw (seed lab : List Int) (L : List Vs) (ep : Int) (v : List Int) : Vs := ⟨(L.length : Int) + 1, ep, sum (saltT seed lab ((L.length : Int) + 1)), lastC (cm lab) L, v⟩
theorem hh_last (lab : List Int) (L : List Vs) : Hh (lastC (cm lab) L) := by
  unfold lastC
  by_cases e : L = []
  · rw [if_pos e]; exact hh_zero
  · rw [if_neg e]; exact hh_sum _
theorem gw_ok {seed lab : List Int} {L : List Vs} {ep : Int} {v : List Int} (hl : L.length ≤ 1000) (he : I64 ep) (hv : Bs v) : (gw seed lab L ep v).Ok :=
  ⟨by unfold I64 gw; simp only; omega, he, hh_sum _, hh_last _ _, hv⟩
/-- what Grow answers -/
def GrA (w : World) (ok : Bool) (L' : List Vs) (e : Ending) (w' : World) : Prop :=
  (∃ A n c, e = .returned (.tuple #[.slice A n c, .int .i64 (if ok then 0 else 1)]) ∧ n ≤ c ∧ n = (if ok then L'.length else 0) ∧ (if ok then InV w' A n L' else A = none ∧ c = 0)) ∧ Below w.heap.size w w'
set_option maxHeartbeats 8000000 in
theorem grow_any {A B Av : Option Addr} {n c c2 cv : Nat} {lab seed val : List Int} {L : List Vs} {ep : Int} {w : World} (h : Lbl w A c lab) (hL : InV w B n L) (hv : ∀ q ∈ L, q.v.length ≤ 300) (hn : n ≤ 500) (hs : Hh seed) (he : I64 ep) (hval : Rp w none Av val) (hvb : Bs val) (hvl : val.length ≤ 300) (ht : Tab w) :
    Calls Tryd.prog 51 #[.agg (u8s seed).toArray, .slice A lab.length c, .slice B n c2, .int .i64 ep, .slice Av val.length cv] w (GrA w (okF (cm lab) lab.length (L ++ [gw seed lab L ep val])) (L ++ [gw seed lab L ep val])) := by
  have G0 : Hid (Below w.heap.size w (w.alloc (.cells (u8s seed).toArray 26))) := (Below.refl _ _).alloc (Nat.le_refl _) _
  have RSD : Hid (World.rangeAt (w.alloc (.cells (u8s seed).toArray 26)) w.heap.size 0 (u8s seed)) := fun j u hu => by
    have := (Blk.new w 26 (u8s seed).toArray).cell j
    rw [Nat.zero_add, this, List.getElem?_toArray]; exact hu
  have HSI := hid (hinfo hs)
  have ll := hL.len
  have h0 := h.below G0.out; have l0 := hL.below G0.out; have t0 := ht.below G0.out; have r0 := hval.belowN G0.out
  obtain ⟨W0, hW0⟩ : ∃ W0, W0 = w.alloc (.cells (u8s seed).toArray 26) := ⟨_, rfl⟩
  rw [← hW0] at h0 l0 t0 r0
  have CP := hid (fun x (hb : Below W0.heap.size W0 x) => (copied_any (c := c2) (l0.below hb) (by omega) (fun q hq => by have := hv q hq; omega)).mono (fun e w' (hq : OvA 75 x L e w') => (⟨hq.choose, hq.choose_spec.1, ⟨hq.choose_spec.2.1, hq.choose_spec.2.2⟩⟩ : ∃ v1, e = .returned v1 ∧ OwV 75 x.heap.size w' v1 L ∧ Below x.heap.size x w')))
  have CS := hid (fun x (hb : Below W0.heap.size W0 x) => saltC_any (seed := seed) ((L.length : Int) + 1) (h0.below hb) hs (t0.below hb))
  have CL := hid (fun x (hb : Below W0.heap.size W0 x) => last_any (c2 := c2) (h0.below hb) (l0.below hb) hv (t0.below hb))
  have CB := hid (fun x (hb : Below W0.heap.size W0 x) => cClone_any Av cv val x (r0.belowN hb) (by omega))
  have QOK := hid (gw_ok (seed := seed) (lab := lab) (L := L) (ep := ep) (v := val) (by omega) he hvb)
  obtain ⟨Q, hQ⟩ : ∃ Q, Q = gw seed lab L ep val := ⟨_, rfl⟩
  have HQV : Hid (Q.v = val) := by rw [hQ]; rfl
  have q1 : Q.n = (L.length : Int) + 1 := by rw [hQ]; rfl
  have q2 : Q.e = ep := by rw [hQ]; rfl
  have q3 : Q.s = sum (saltT seed lab ((L.length : Int) + 1)) := by rw [hQ]; rfl
  have q4 : Q.b = lastC (cm lab) L := by rw [hQ]; rfl
  rw [← hQ] at QOK
  rw [← hQ]
  rw [← q3] at CS
  rw [← q4] at CL
  have HPB := hid (fun (A : Option Addr) (n c : Nat) => v_built vTbC (A := A) (n := n) (c := c) QOK.out)
  rw [q1, q2] at HPB
  have HVQ : Hid (∀ q ∈ L ++ [Q], q.v.length ≤ 300) := fun q hq => by
    rcases List.mem_append.1 hq with hq | hq
    · exact hv q hq
    · rw [List.mem_singleton.1 hq, HQV.out]; exact hvl
  have HLL : Hid (L.length ≤ 100000) := by show _ ≤ _; omega
  have HLL2 : Hid (L.length ≤ 500) := by show _ ≤ _; omega
  have HLB := hid h; have HT := hid ht
  obtain ⟨m9, hm9⟩ : ∃ m9, m9 = L.length + 1 := ⟨_, rfl⟩
  have HM9 := hid hm9
  have hadd : IntKind.i64.wrap ((n : Int) + 1) = (L.length : Int) + 1 := by rw [ll]; exact IntWalk.i64_in _ (by omega)
  have hmax := hL.max
  have hni : (n : Int) = (L.length : Int) := by omega
  subst ll
  clear h hL hv hn hs he hval hvb hvl ht h0 l0 t0 r0 hQ q1 q2 q3 q4 hm9 hni
  rw [← hW0] at G0 RSD
  obtain ⟨r, hr⟩ : ∃ r, r = okF (cm lab) lab.length (L ++ [Q]) := ⟨_, rfl⟩
  rw [← hr]
  have HRR := hid hr
  clear hr
  go_enter Tryd.func51, Tryd.ntmps51
  go_upto_region 2 with (fail)
  rw [← hW0]
  clear hW0
  generalize W0 = w0 at G0 RSD CP CS CL CB ⊢
  have SX : Hid (w0.heap.size = w0.heap.size) := rfl
  refine wp_region_held (S := fun w' => Hid (Below w0.heap.size w0 w')) (by kernel_rfl) ?_
  change wpAnyH _ _ _ _ _ _ _ _ w0.drew
  have Gx0 : Hid (Below w0.heap.size w0 w0.drew) := (Below.refl _ _).drew
  have SX' : Hid (w0.drew.heap.size = w0.heap.size) := rfl
  clear SX
  have SX := SX'
  clear SX'
  generalize w0.drew = x0 at Gx0 SX ⊢
  refine wpAnyH_take (i := 0) (oi := { dst := some 17, op := _, type := _, pos := _, after := _, guard := _ }) (v := ?_) rfl (by kernel_rfl) (by kernel_rfl) (by kernel_rfl) (fun _ _ _ h => h) (Or.inl ⟨by kernel_rfl, ?_⟩) Gx0 ?_
  rotate_left
  · (intro w hSw; go_simp; try with_reducible rfl)
  try simp only [Act.put, List.setIfInBounds_toArray, List.set_cons_zero, List.set_cons_succ]
  refine wpAnyH_take (i := 2) (oi := { dst := some 19, op := _, type := _, pos := _, after := _, guard := _ }) (v := ?_) rfl (by kernel_rfl) (by kernel_rfl) (by kernel_rfl) (fun _ _ _ h => h) (Or.inl ⟨by kernel_rfl, ?_⟩) Gx0 ?_
  rotate_left
  · (intro w hSw; go_simp; try with_reducible rfl)
  try simp only [Act.put, List.setIfInBounds_toArray, List.set_cons_zero, List.set_cons_succ]
  refine wpAnyH_take (i := 3) (oi := { dst := some 20, op := _, type := _, pos := _, after := _, guard := _ }) (v := ?_) rfl (by kernel_rfl) (by kernel_rfl) (by kernel_rfl) (fun _ _ _ h => h) (Or.inl ⟨by kernel_rfl, ?_⟩) Gx0 ?_
  rotate_left
  · (intro w hSw; go_simp; try with_reducible rfl)
  try simp only [Act.put, List.setIfInBounds_toArray, List.set_cons_zero, List.set_cons_succ]
  refine wpAnyH_take (i := 4) (oi := { dst := some 21, op := _, type := _, pos := _, after := _, guard := _ }) (v := .agg ((u8s seed).toArray)) rfl (by kernel_rfl) (by kernel_rfl) (by kernel_rfl) (fun _ _ _ h => h) (yieldsIf_load_mid (cs := u8s seed) (by rfl) _ _ rfl _ _ rfl _ (fun w' hSw => crng_bel hSw.out RSD.out) Tryd.underlying26 rfl HSI.out) Gx0 ?_
  try simp only [Act.put, List.setIfInBounds_toArray, List.set_cons_zero, List.set_cons_succ]
  refine wpAnyH_take (i := 5) (oi := { dst := some 22, op := _, type := _, pos := _, after := _, guard := _ }) (v := ?_) rfl (by kernel_rfl) (by kernel_rfl) (by kernel_rfl) (fun _ _ _ h => h) (Or.inl ⟨by kernel_rfl, ?_⟩) Gx0 ?_
  rotate_left
  · (intro w hSw; go_simp; try with_reducible rfl)
  try simp only [Act.put, List.setIfInBounds_toArray, List.set_cons_zero, List.set_cons_succ]
  refine wpAnyH_take (i := 6) (oi := { dst := some 23, op := _, type := _, pos := _, after := _, guard := _ }) (v := ?_) rfl (by kernel_rfl) (by kernel_rfl) (by kernel_rfl) (fun _ _ _ h => h) (Or.inl ⟨by kernel_rfl, ?_⟩) Gx0 ?_
  rotate_left
  · (intro w hSw; go_simp; try with_reducible rfl)
  try simp only [Act.put, List.setIfInBounds_toArray, List.set_cons_zero, List.set_cons_succ]
  refine wpAnyH_take (i := 8) (oi := { dst := some 25, op := _, type := _, pos := _, after := _, guard := _ }) (v := ?_) rfl (by kernel_rfl) (by kernel_rfl) (by kernel_rfl) (fun _ _ _ h => h) (Or.inl ⟨by kernel_rfl, ?_⟩) Gx0 ?_
  rotate_left
  · (intro w hSw; go_simp; try with_reducible rfl)
  try simp only [Act.put, List.setIfInBounds_toArray, List.set_cons_zero, List.set_cons_succ]
  refine wpAnyH_take (i := 9) (oi := { dst := some 26, op := _, type := _, pos := _, after := _, guard := _ }) (v := ?_) rfl (by kernel_rfl) (by kernel_rfl) (by kernel_rfl) (fun _ _ _ h => h) (Or.inl ⟨by kernel_rfl, ?_⟩) Gx0 ?_
  rotate_left
  · (intro w hSw; go_simp; try with_reducible rfl)
  try simp only [Act.put, List.setIfInBounds_toArray, List.set_cons_zero, List.set_cons_succ]
  refine wpAnyH_take (i := 11) (oi := { dst := some 28, op := _, type := _, pos := _, after := _, guard := _ }) (v := ?_) rfl (by kernel_rfl) (by kernel_rfl) (by kernel_rfl) (fun _ _ _ h => h) (Or.inl ⟨by kernel_rfl, ?_⟩) Gx0 ?_
  rotate_left
  · (intro w hSw; go_simp; try with_reducible rfl)
  try simp only [Act.put, List.setIfInBounds_toArray, List.set_cons_zero, List.set_cons_succ]
  refine wpAnyH_ready (rs := [1]) (by kernel_rfl) (by simp) ?_
  refine (AllReadyH.cons (o := { dst := some 18, op := _, type := _, pos := _, after := _, guard := _ }) rfl (fun Qc hQc => ?_) AllReadyH.nil)
  go_simp
  go_at_call 88
  refine (CP.out x0 Gx0.out).mono ?_
  rintro e x1 ⟨v1, rfl, ho1, hb⟩
  have O1 : Hid (OwV 75 w0.heap.size x1 v1 L) := by have h5 := ho1; rw [SX.out] at h5; exact h5
  have Gx1 := hid (Gx0.out.trans (hb.mono Gx0.out.size))
  clear hb ho1
  go_wp2_with fail
  refine hQc.out _ _ Gx1 (fun hHeld => ?_)
  clear hQc Qc hHeld
  try simp only [Act.put, List.setIfInBounds_toArray, List.set_cons_zero, List.set_cons_succ]
  refine wpAnyH_ready (rs := [7]) (by kernel_rfl) (by simp) ?_
  refine (AllReadyH.cons (o := { dst := some 24, op := _, type := _, pos := _, after := _, guard := _ }) rfl (fun Qc hQc => ?_) AllReadyH.nil)
  go_simp
  go_at_call 34
  refine (CS.out x1 Gx1.out).mono ?_
  rintro e x2 ⟨rfl, hb⟩
  have Gx2 := hid (Gx1.out.trans (hb.mono Gx1.out.size))
  have O1' := hid (O1.out.below hb)
  clear O1
  have O1 := O1'
  clear O1'
  clear hb
  go_wp2_with fail
  refine hQc.out _ _ Gx2 (fun hHeld => ?_)
  clear hQc Qc hHeld
  try simp only [Act.put, List.setIfInBounds_toArray, List.set_cons_zero, List.set_cons_succ]
  refine wpAnyH_ready (rs := [10]) (by kernel_rfl) (by simp) ?_
  refine (AllReadyH.cons (o := { dst := some 27, op := _, type := _, pos := _, after := _, guard := _ }) rfl (fun Qc hQc => ?_) AllReadyH.nil)
  go_simp
  go_at_call 85
  refine (CL.out x2 Gx2.out).mono ?_
  rintro e x3 ⟨rfl, hb⟩
  have Gx3 := hid (Gx2.out.trans (hb.mono Gx2.out.size))
  have O1' := hid (O1.out.below hb)
  clear O1
  have O1 := O1'
  clear O1'
  clear hb
  go_wp2_with fail
  refine hQc.out _ _ Gx3 (fun hHeld => ?_)
  clear hQc Qc hHeld
  try simp only [Act.put, List.setIfInBounds_toArray, List.set_cons_zero, List.set_cons_succ]
  refine wpAnyH_ready (rs := [12]) (by kernel_rfl) (by simp) ?_
  refine (AllReadyH.cons (o := { dst := some 29, op := _, type := _, pos := _, after := _, guard := _ }) rfl (fun Qc hQc => ?_) AllReadyH.nil)
  go_simp
  go_at_call 89
  refine (CB.out x3 Gx3.out).mono ?_
  rintro e x4 ⟨⟨A12, c12, rfl, hc12, hf12⟩, hb⟩
  have Gx4 := hid (Gx3.out.trans (hb.mono Gx3.out.size))
  have V1 : Hid (Vb w0.heap.size x4 (.slice A12 val.length c12) Q) := by
    have h5 := Fresh.vb (n0 := w0.heap.size) (q := Q) (d := c12) (by rw [HQV.out]; exact hf12) QOK.out (by rw [HQV.out]; exact hc12)
    rw [HQV.out] at h5; exact h5
  clear hc12 hf12
  have O1' := hid (O1.out.below hb)
  clear O1
  have O1 := O1'
  clear O1'
  clear hb
  go_wp2_with fail
  refine hQc.out _ _ Gx4 (fun hHeld => ?_)
  clear hQc Qc hHeld
  try simp only [Act.put, List.setIfInBounds_toArray, List.set_cons_zero, List.set_cons_succ]
  refine wpAnyH_take (i := 13) (oi := { dst := some 30, op := _, type := _, pos := _, after := _, guard := _ }) (v := .agg (vcs (.slice A12 val.length c12) Q).toArray) rfl (by kernel_rfl) (by kernel_rfl) (by kernel_rfl) (fun _ _ _ h => h) (Or.inl ⟨by kernel_rfl, ?_⟩) Gx4 ?_
  · (intro w hSw; have hbw := HPB.out A12 val.length c12; exact Vexec_build1 75 #[(0, .tmp 19), (1, .tmp 20), (2, .tmp 24), (3, .tmp 27), (4, .tmp 29)] rfl _ (by simp only [List.map_toArray, List.map_cons, List.map_nil, Act.eval]; exact hbw) w)
  try simp only [Act.put, List.setIfInBounds_toArray, List.set_cons_zero, List.set_cons_succ]
  refine wpAnyH_ready (rs := [14]) (by kernel_rfl) (by simp) ?_
  refine (AllReadyH.cons (o := { dst := some 31, op := _, type := _, pos := _, after := _, guard := _ }) rfl (fun Qc hQc => ?_) AllReadyH.nil)
  rw [if_pos (by rfl)]
  refine wp_ver_one1 vTyC (.tmp 30) rfl (.slice A12 val.length c12) Q QOK.out rfl ?_
  have NB : Hid (Blk (x4.alloc (.cells (vcs (.slice A12 val.length c12) Q).toArray 75)) x4.heap.size 75 (vcs (.slice A12 val.length c12) Q).toArray) := Blk.new x4 75 _
  have Bx5 : Below x4.heap.size x4 (x4.alloc (.cells (vcs (.slice A12 val.length c12) Q).toArray 75)) := (Below.refl _ _).alloc (Nat.le_refl _) _
  have Gx5 := hid (Gx4.out.trans (Bx5.mono Gx4.out.size))
  have O1' := hid (O1.out.below Bx5); have V1' := hid (V1.out.below Bx5)
  clear O1 V1
  have O1 := O1'; have V1 := V1'
  clear O1' V1' Bx5
  refine hQc.out _ _ Gx5 (fun hHeld => ?_)
  clear hQc Qc hHeld
  generalize x4.heap.size = g5 at NB ⊢
  generalize x4.alloc (.cells (vcs (.slice A12 val.length c12) Q).toArray 75) = x5 at NB Gx5 O1 V1 ⊢
  try simp only [Act.put, List.setIfInBounds_toArray, List.set_cons_zero, List.set_cons_succ]
  refine wpAnyH_ready (rs := [15]) (by kernel_rfl) (by simp) ?_
  refine (AllReadyH.cons (o := { dst := some 32, op := _, type := _, pos := _, after := _, guard := _ }) rfl (fun Qc hQc => ?_) AllReadyH.nil)
  rw [if_pos (by rfl)]
  refine wp_append_ver1 vTyC (.tmp 18) (.tmp 31) rfl w0.heap.size L v1 rfl O1.out g5 (.slice A12 val.length c12) Q V1.out NB.out rfl HLL.out Gx5.out.size ?_
  intro v9 x6 ho9 hb9
  have O9 := hid ho9
  have Gx6 := hid (Gx5.out.trans hb9)
  clear ho9 hb9
  refine hQc.out _ _ Gx6 (fun hHeld => ?_)
  clear hQc Qc hHeld
  try simp only [Act.put, List.setIfInBounds_toArray, List.set_cons_zero, List.set_cons_succ]
  refine wpAnyH_take (i := 16) (oi := { dst := some 13, op := _, type := _, pos := _, after := _, guard := _ }) (v := ?_) rfl (by kernel_rfl) (by kernel_rfl) (by kernel_rfl) (fun _ _ _ h => h) (Or.inl ⟨by kernel_rfl, ?_⟩) Gx6 ?_
  rotate_left
  · (intro w hSw; go_simp; try with_reducible rfl)
  try simp only [Act.put, List.setIfInBounds_toArray, List.set_cons_zero, List.set_cons_succ]
  refine wpAnyH_done (by kernel_rfl) ?_ _
  try simp only [Act.put, List.setIfInBounds_toArray, List.set_cons_zero, List.set_cons_succ]
  obtain ⟨A9, c9, hv9, hc9, hin9⟩ := O9.out.any (by rw [List.length_append, List.length_singleton]; have := HLL.out; omega)
  subst hv9
  have hlen9 : (L ++ [Q]).length = m9 := by rw [List.length_append, List.length_singleton]; exact HM9.out.symm
  rw [hlen9] at hc9 hin9
  have BF := G0.out.trans (Gx6.out.mono G0.out.size)
  have CF := hid (formed_any (c2 := c9) (HLB.out.below BF) hin9 HVQ.out (by have := HM9.out; have := HLL2.out; omega) (HT.out.below BF))
  have IN9 := hid hin9; have HC9 := hid hc9; have BFH := hid BF
  have hm9 : m9 ≤ 9223372036854775807 := by have := HM9.out; have := HLL2.out; omega
  clear BF hin9 hc9 O9
  rw [← HRR.out] at CF
  have hrc : r = false ∨ r = true := by cases r <;> simp
  rcases hrc with hrc | hrc
  · have HRC := hid hrc
    rw [hrc] at CF
    clear hrc
    go_wp2_with (go_at_call 43; refine CF.out.mono ?_; rintro e w9 ⟨rfl, hb9⟩; have B9 := hid hb9; clear hb9)
    go_ret2
    unfold GrA
    exact ⟨⟨none, 0, 0, by rw [HRC.out]; rfl, Nat.le_refl _, by rw [HRC.out]; rfl, by rw [HRC.out]; exact ⟨rfl, rfl⟩⟩, BFH.out.trans (B9.out.mono BFH.out.size)⟩
  · have HRC := hid hrc
    rw [hrc] at CF
    clear hrc
    go_wp2_with (go_at_call 43; refine CF.out.mono ?_; rintro e w9 ⟨rfl, hb9⟩; have B9 := hid hb9; clear hb9)
    go_ret2
    unfold GrA
    exact ⟨⟨A9, m9, c9, by rw [HRC.out]; rfl, HC9.out, by rw [HRC.out]; exact hlen9.symm, by rw [HRC.out]; exact IN9.out.below B9.out⟩, BFH.out.trans (B9.out.mono BFH.out.size)⟩
end Go.Proofs.YtjhaamffgkialaaDoor
/-
  What is proved here: a chain grown by one version, as the document has it.
-/
namespace Go.Proofs.YtjhaamffgkialaaDoor
open Go.ChangeShapes Go.WideShapes Go.ChangeAt Go.RowKit
set_option linter.unusedVariables false
set_option linter.unusedSimpArgs false
set_option maxRecDepth 20000

theorem wpList_append_all {tS tE : TypeId} (ht : VTy tS tE) {w : World} {ops : Array Oper} {rest : List Oper} {o : Oper} {a : Act} {Q : Exit → Act → World → Prop} (hgd : o.guard = none) (s x : Operand)
    (ho : o.op = .call { callee := .builtin .append, args := #[s, x], argTypes := #[tS, tS] }) (hs : a.eval s = .slice none 0 0) (A : Option Addr) (n c : Nat) (hx : a.eval x = .slice A n c) (L : List Vs) (hL : InV w A n L) (hn : n ≤ 1000)
    (h : ∀ v' w', OwV tE w.heap.size w' v' L → Below w.heap.size w w' → wpList Tryd.prog ops Q rest (a.put o.dst v') w') : wpList Tryd.prog ops Q (o :: rest) a w := by
  obtain ⟨i0, hi, hz0, hz1, hz2⟩ := info_parts ht.i
  have hl := hL.len
  have hown0 : w.ownsRow w.heap.size tE 67 (.slice none 0 0) 0 [] := ⟨rfl, .inl ⟨rfl, rfl⟩⟩
  cases A with
  | none =>
    have h0 : n = 0 := by
      rcases Nat.eq_zero_or_pos n with h1 | h1
      · exact h1
      · obtain ⟨b, o, e, _⟩ := hL.at' h1; cases e
    subst h0
    have e : L = [] := List.length_eq_zero_iff.1 hl
    subst e
    refine wpList_append_nil' hgd s x tS ho w.heap.size tE i0 67 ht.u hi (.slice none 0 0) 0 [] c hs hown0 hx ?_
    exact h _ w (OwV.nil _ _ _) (Below.refl _ _)
  | some ad =>
    obtain ⟨R, hRl, hRv, hRr⟩ := hL.rows
    have hcs : (vcss R L).length = n * 67 := by rw [vcss_length hRl hL.ok, hl]
    refine wpList_append_own _ hgd s x tS ho w.heap.size tE i0 _ 67 104 ht.u hi hz0 hz1 hz2 rfl (by decide) (.slice none 0 0) 0 [] hs hown0 ad n c (vcss R L) hx hcs (fun j u hu => ?_) (fun u hu => vcss_one (fun V hV => by
      obtain ⟨i, hi⟩ := List.mem_iff_getElem?.1 hV
      have h1 : i < R.length := by
        rcases Nat.lt_or_ge i R.length with h1 | h1
        · exact h1
        · rw [List.getElem?_eq_none h1] at hi; cases hi
      exact (hRv i V L[i] hi (List.getElem?_eq_getElem (by omega))).one) u hu) (by unfold maxLen; omega) (by omega) (Nat.le_refl _) ?_
    · have hj : j < n * 67 := by
        rcases Nat.lt_or_ge j (n * 67) with h1 | h1
        · exact h1
        · rw [List.getElem?_eq_none (by omega)] at hu; cases hu
      obtain ⟨b, o, e, hlt, _⟩ := hL.at' (by omega)
      injection e with e
      subst e
      have := hRr b o rfl j u hu
      rw [Addr.add_lit]
      exact this
    · intro v' w' h1 h2 _
      have hbl : Below w.heap.size w w' := (Below.refl _ _).grown h2 (Nat.le_refl _) (fun k hk => by simp [Value.ownBlock] at hk)
      rw [Nat.zero_add, List.nil_append, ← hl] at h1
      exact h v' w' (ver_all hRl hRv hbl h1) hbl
theorem vthere {t : TypeId} {x : World} {g : Nat} {V : Value} {q : Vs} (h : Blk x g t (vcs V q).toArray) (hq : q.Ok) {o n : Nat} (ho : o + n ≤ 67) : x.there g o n := fun j hj => ⟨by rw [h.cell, List.getElem?_toArray, List.getElem?_eq_getElem (by rw [vcs_length V hq]; omega)]; rfl, h.frozen _⟩
set_option maxHeartbeats 16000000 in
theorem rgrow_any {A B Av : Option Addr} {n c c2 cv : Nat} {lab seed val : List Int} {L : List Vs} {ep : Int} {w : World} (h : Lbl w A c lab) (hL : InV w B n L) (hv : ∀ q ∈ L, q.v.length ≤ 300) (hn : n ≤ 500) (hs : Hh seed) (he : I64 ep) (hval : Rp w none Av val) (hvb : Bs val) (hvl : val.length ≤ 300) (hcv : val.length ≤ cv) :
    Calls Tryd.prog 52 #[.agg (u8s seed).toArray, .slice A lab.length c, .slice B n c2, .int .i64 ep, .slice Av val.length cv] w (GrA w (okF (cm lab) lab.length (L ++ [gw seed lab L ep val])) (L ++ [gw seed lab L ep val])) := by
  have B0 : Hid (Below w.heap.size w (w.alloc (.cells (u8s seed).toArray 26))) := (Below.refl _ _).alloc (Nat.le_refl _) _
  have KS : Hid (Blk (w.alloc (.cells (u8s seed).toArray 26)) w.heap.size 26 (u8s seed).toArray) := Blk.new w 26 _
  have HSI := hid (info_hash seed hs.len)
  have ll := hL.len
  have CS := saltR_any (seed := seed) ((L.length : Int) + 1) (h.below B0.out) hs
  have QOK := hid (gw_ok (seed := seed) (lab := lab) (L := L) (ep := ep) (v := val) (by omega) he hvb)
  obtain ⟨Q, hQ⟩ : ∃ Q, Q = gw seed lab L ep val := ⟨_, rfl⟩
  have HQV : Hid (Q.v = val) := by rw [hQ]; rfl
  have q1 : Q.n = (L.length : Int) + 1 := by rw [hQ]; rfl
  have q2 : Q.e = ep := by rw [hQ]; rfl
  have q3 : Q.s = sum (saltT seed lab ((L.length : Int) + 1)) := by rw [hQ]; rfl
  have HQ4 : Hid (Q.b = lastC (cm lab) L) := by rw [hQ]; rfl
  rw [← hQ] at QOK
  rw [← hQ]
  rw [← q3] at CS
  have CS := hid CS
  obtain ⟨Q0, hQ0⟩ : ∃ Q0 : Vs, Q0 = { Q with b := zH } := ⟨_, rfl⟩
  have Q0OK : Hid Q0.Ok := by rw [hQ0]; exact ⟨QOK.out.n, QOK.out.e, QOK.out.s, hh_zero, QOK.out.v⟩
  have HPB := v_built4 vTbR (A := Av) (n := val.length) (c := cv) Q0OK.out (by rw [hQ0])
  rw [show Q0.n = (L.length : Int) + 1 by rw [hQ0]; exact q1, show Q0.e = ep by rw [hQ0]; exact q2, show Q0.s = Q.s by rw [hQ0]] at HPB
  have HPB := hid HPB
  have HQ0B : Hid ({ Q0 with b := Q.b } = Q) := by show _ = _; subst hQ0; rfl
  have HQ0N : Hid (L = [] → Q0 = Q) := fun e => by
    have : Q.b = zH := by rw [HQ4.out, e]; rfl
    rw [hQ0, ← this]
  have HVQ : Hid (∀ q ∈ L ++ [Q], q.v.length ≤ 300) := fun q hq => by
    rcases List.mem_append.1 hq with hq | hq
    · exact hv q hq
    · rw [List.mem_singleton.1 hq, HQV.out]; exact hvl
  have HARG : Hid (VArg w (.slice Av val.length cv) Q) := ⟨QOK.out, Av, cv, by rw [HQV.out], by rw [HQV.out]; exact hcv, by rw [HQV.out]; exact hval⟩
  have HLL : Hid (L.length ≤ 100000) := by show _ ≤ _; omega
  have HLL2 : Hid (L.length ≤ 500) := by show _ ≤ _; omega
  have HLB := hid h; have HIN := hid hL; have HV := hid hv
  obtain ⟨m9, hm9⟩ : ∃ m9, m9 = L.length + 1 := ⟨_, rfl⟩
  have HM9 := hid hm9
  have hadd : IntKind.i64.wrap ((n : Int) + 1) = (n : Int) + 1 := IntWalk.i64_in _ (by omega)
  have hmax := hL.max
  rw [ll] at HPB CS
  have HLN := hid ll
  clear ll
  obtain ⟨ZV, hzv, hzv0, hzvs⟩ : ∃ Z : Array Value, Hid (Z = (vcs (.slice none 0 0) vZ).toArray) ∧ (¬ Z = #[]) ∧ ∀ w : World, Sem.run Tryd.prog (zeroValue 69) w = Result.ok (.agg Z) w := by
    refine ⟨_, rfl, fun h => ?_, fun w => by kernel_rfl⟩
    have := congrArg Array.size h
    rw [List.size_toArray, vcs_length _ vZ_ok] at this
    exact absurd this (by decide)
  obtain ⟨V, hV⟩ : ∃ V, V = Value.slice Av val.length cv := ⟨_, rfl⟩
  have DJ : Hid ((Tryd.prog.info? 69).map (·.size) = some (vcs V Q0).toArray.size) := vinfoR V Q0OK.out
  have DQ : Hid ((Tryd.prog.info? 69).map (·.size) = some (vcs V Q).toArray.size) := vinfoR V QOK.out
  have HZV : Hid (ZV.size = (vcs V Q0).toArray.size) := by show _ = _; rw [hzv.out, List.size_toArray, List.size_toArray, vcs_length _ vZ_ok, vcs_length _ Q0OK.out]
  have HVO := hid (vcs_all (V := V) (by rw [hV]; rfl) Q0)
  rw [← hV] at HPB HARG
  have HBQ := hid (info_hash Q.b QOK.out.b.len); have HB32 := hid (hash_size32 QOK.out.b)
  obtain ⟨r, hr⟩ : ∃ r, r = okF (cm lab) lab.length (L ++ [Q]) := ⟨_, rfl⟩
  rw [← hr]
  have HRR := hid hr
  clear hr h hL hv hn hs he hval hvb hvl hcv hQ q1 q2 q3 hm9 hzv hQ0
  have HVE := hid hV
  clear hV
  rw [← HVE.out]
  go_enter Tryd.func52, Tryd.ntmps52
  go_upto_region 2 with (first
    | (refine wpList_load_row rfl 26 (.tmp 5) rfl w.heap.size rfl 26 (u8s seed).toArray (0, 0) _ KS.out Tryd.underlying26 rfl HSI.out ?_)
    | (go_at_call 35; refine CS.out.mono ?_; rintro e w1 ⟨rfl, hb⟩; have B1 := hid (B0.out.trans (hb.mono B0.out.size)); clear hb)
    | (refine wpList_buildC rfl 69 _ rfl (vcs V Q0).toArray ?hc ?_; case hc => (simp only [List.map_toArray, List.map_cons, List.map_nil, Act.eval]; exact HPB.out))
    | (refine wpList_store_row rfl 69 (.tmp 12) (.tmp 25) rfl w1.heap.size (vcs V Q0).toArray rfl rfl 69 ZV (Blk.new w1 69 ZV) DJ.out HZV.out HVO.out ?_))
  have K0 : Hid (Blk ((w1.alloc (.cells ZV 69)).setRow w1.heap.size (vcs V Q0).toArray) w1.heap.size 69 (vcs V Q0).toArray) := (Blk.new w1 69 ZV).row _
  have B2 : Hid (Below w.heap.size w ((w1.alloc (.cells ZV 69)).setRow w1.heap.size (vcs V Q0).toArray)) := below_setRow (B1.out.alloc B1.out.size _) B1.out.size _
  have SG : Hid (w.heap.size ≤ w1.heap.size) := B1.out.size
  clear B1 CS KS HSI DJ HZV HVO HPB hzv0 hzvs B0
  generalize (w1.alloc (.cells ZV 69)).setRow w1.heap.size (vcs V Q0).toArray = w2 at K0 B2 ⊢
  generalize w1.heap.size = g at K0 SG ⊢
  by_cases hz : L = []
  ·
    have hz0 : n = 0 := by rw [← HLN.out, hz]; rfl
    subst hz0
    have HN : Hid (Q0 = Q) := HQ0N.out hz
    have HZN := hid hz
    clear hz
    rw [HN.out] at K0
    go_upto_region 4 with (fail)
    go_upto_region 7 with (first
      | (at_builtin; refine wpList_append_all vTyR rfl (.tmp 38) (.tmp 39) rfl rfl _ _ c2 rfl L (HIN.out.below B2.out) (by have := HLL2.out; have := HLN.out; omega) ?_; intro v5 w5 ho5 hb5; have O5 := hid ho5; have B5 := hid (B2.out.trans (hb5.mono B2.out.size)); have K5 := hid (K0.out.below hb5); have V5 := hid (((HARG.out.below B2.out).vb (Nat.le_refl _)).below hb5); have S5 := hid hb5.size; clear ho5 hb5)
      | (refine wpList_load_row rfl 69 (.tmp 12) rfl g rfl 69 (vcs V Q).toArray (0, 0) _ K5.out Tryd.underlying69 rfl DQ.out ?_)
      | (refine wp_ver_one vTyR rfl (.tmp 42) rfl V Q QOK.out rfl ?_)
      | (at_builtin; refine wpList_append_ver vTyR rfl (.tmp 41) (.tmp 43) rfl w2.heap.size L v5 rfl O5.out V Q V5.out rfl HLL.out S5.out ?_; intro v6 w6 ho6 hg6 hb6; have O6 := hid ho6; have B6 := hid (B5.out.trans (hb6.mono B2.out.size)); clear ho6 hg6 hb6))
    obtain ⟨A9, c9, hv9, hc9, hin9⟩ := O6.out.any (by rw [List.length_append, List.length_singleton]; have := HLL.out; omega)
    subst hv9
    have hlen9 : (L ++ [Q]).length = m9 := by rw [List.length_append, List.length_singleton]; exact HM9.out.symm
    rw [hlen9] at hc9 hin9
    have CF := rform_any (c2 := c9) (HLB.out.below B6.out) hin9 HVQ.out (by have := HM9.out; have := HLL2.out; omega)
    rw [← HRR.out] at CF
    have IN9 := hid hin9; have HC9 := hid hc9
    have hm9 : m9 ≤ 9223372036854775807 := by have := HM9.out; have := HLL2.out; omega
    have hrc : r = false ∨ r = true := by cases r <;> simp
    have CF := hid CF
    rcases hrc with hrc | hrc
    · have HRC := hid hrc
      rw [hrc] at CF
      clear hrc
      go_wp2_with (go_at_call 44; refine CF.out.mono ?_; rintro e w9 ⟨rfl, hb9⟩; have B9 := hid hb9; clear hb9)
      go_ret2
      unfold GrA
      exact ⟨⟨none, 0, 0, by rw [HRC.out]; rfl, Nat.le_refl _, by rw [HRC.out]; rfl, by rw [HRC.out]; exact ⟨rfl, rfl⟩⟩, B6.out.trans (B9.out.mono B6.out.size)⟩
    · have HRC := hid hrc
      rw [hrc] at CF
      clear hrc
      go_wp2_with (go_at_call 44; refine CF.out.mono ?_; rintro e w9 ⟨rfl, hb9⟩; have B9 := hid hb9; clear hb9)
      go_ret2
      unfold GrA
      exact ⟨⟨A9, m9, c9, by rw [HRC.out]; rfl, HC9.out, by rw [HRC.out]; exact hlen9.symm, by rw [HRC.out]; exact IN9.out.below B9.out⟩, B6.out.trans (B9.out.mono B6.out.size)⟩

  ·
    have hpos : 0 < L.length := List.length_pos_iff.2 hz
    have hln := HLN.out
    have hz1 : ((0 : Int) < (n : Int)) := by omega
    have hk : n - 1 < n := by omega
    obtain ⟨b, oo, V', rfl, hbl, hat, harg, hq⟩ := HIN.out.at hk
    have hvl' := HIN.out.shorts HV.out hk
    have hb4 : Q.b = cm lab (vAt L (L.length - 1)) := by rw [HQ4.out, lastC_some hpos]
    rw [hln] at hb4
    obtain ⟨k, hkk⟩ : ∃ k, k = n - 1 := ⟨_, rfl⟩
    rw [← hkk] at hat harg hvl' hk hb4
    have hsub : (n : Int) - 1 = (k : Int) := by omega
    have hsubw : IntKind.i64.wrap ((n : Int) - 1) = (k : Int) := by rw [hsub]; exact IntWalk.i64_in _ (by omega)
    have hki : (k : Int) < (n : Int) := by omega
    have RA := hid (crng_bel B2.out hat.all)
    have DI := hid (vlenR V' harg.ok)
    have CM := cmR_any (HLB.out.below B2.out) (harg.below B2.out) hvl'
    rw [← hb4] at CM
    have CM := hid CM
    have HPOS := hid hpos
    clear hat harg hq hvl' hb4 hbl hkk hsub hln
    go_upto_region 4 with (first
      | (refine wpList_load_mid rfl 69 (.tmp 34) rfl b (oo + k * 67) rfl (vcs V' (vAt L k)) _ RA.out Tryd.underlying69 rfl DI.out ?_)
      | (go_at_call 37; refine CM.out.mono ?_; rintro e w3 ⟨rfl, hb⟩; have K3 := hid (K0.out.below hb); have B3 := hid (B2.out.trans (hb.mono B2.out.size)); clear hb)
      | (refine wpList_store_mid rfl 26 (.tmp 37) (.tmp 36) rfl g 34 (u8s Q.b).toArray rfl rfl (vthere K3.out Q0OK.out (by rw [HB32.out]; decide)) HBQ.out (u8s_all Q.b) ?_))
    have K4 : Hid (Blk (w3.setCells g 34 (u8s Q.b)) g 69 (vcs V Q).toArray) := by
      have h5 := K3.out.putCellsV (u8s Q.b) 34
      rw [vp_34 Q0OK.out.s Q0OK.out.b QOK.out.b, HQ0B.out] at h5
      exact h5
    have B4 : Hid (Below w.heap.size w (w3.setCells g 34 (u8s Q.b))) := Vbelow_setCells SG.out _ B3.out _
    clear K3 B3 K0 B2 RA DI CM hsubw hki hk hz1
    have e6 : (u8s Q.b).toArray.toList = u8s Q.b := rfl
    try rw [e6]
    try simp only [List.toList_toArray]
    generalize w3.setCells g 34 (u8s Q.b) = w2 at K4 B4 ⊢
    go_upto_region 7 with (first
      | (at_builtin; refine wpList_append_all vTyR rfl (.tmp 38) (.tmp 39) rfl rfl _ _ c2 rfl L (HIN.out.below B4.out) (by have := HLL2.out; have := HLN.out; omega) ?_; intro v5 w5 ho5 hb5; have O5 := hid ho5; have B5 := hid (B4.out.trans (hb5.mono B4.out.size)); have K5 := hid (K4.out.below hb5); have V5 := hid (((HARG.out.below B4.out).vb (Nat.le_refl _)).below hb5); have S5 := hid hb5.size; clear ho5 hb5)
      | (refine wpList_load_row rfl 69 (.tmp 12) rfl g rfl 69 (vcs V Q).toArray (0, 0) _ K5.out Tryd.underlying69 rfl DQ.out ?_)
      | (refine wp_ver_one vTyR rfl (.tmp 42) rfl V Q QOK.out rfl ?_)
      | (at_builtin; refine wpList_append_ver vTyR rfl (.tmp 41) (.tmp 43) rfl w2.heap.size L v5 rfl O5.out V Q V5.out rfl HLL.out S5.out ?_; intro v6 w6 ho6 hg6 hb6; have O6 := hid ho6; have B6 := hid (B5.out.trans (hb6.mono B4.out.size)); clear ho6 hg6 hb6))
    obtain ⟨A9, c9, hv9, hc9, hin9⟩ := O6.out.any (by rw [List.length_append, List.length_singleton]; have := HLL.out; omega)
    subst hv9
    have hlen9 : (L ++ [Q]).length = m9 := by rw [List.length_append, List.length_singleton]; exact HM9.out.symm
    rw [hlen9] at hc9 hin9
    have CF := rform_any (c2 := c9) (HLB.out.below B6.out) hin9 HVQ.out (by have := HM9.out; have := HLL2.out; omega)
    rw [← HRR.out] at CF
    have IN9 := hid hin9; have HC9 := hid hc9
    have hm9 : m9 ≤ 9223372036854775807 := by have := HM9.out; have := HLL2.out; omega
    have hrc : r = false ∨ r = true := by cases r <;> simp
    have CG := rform_any (c2 := c2) (HLB.out.below B6.out) (HIN.out.below B6.out) HV.out (by have := HLL2.out; have := HLN.out; omega)
    obtain ⟨f1, hf1⟩ : ∃ f1, f1 = okF (cm lab) lab.length L := ⟨_, rfl⟩
    rw [← hf1] at CG
    have HF1 : Hid (f1 = false → r = false) := fun h => by
      cases hr9 : r with
      | false => rfl
      | true =>
        have h8 := HRR.out
        rw [hr9] at h8
        have h7 := okV_front h8.symm (List.length_pos_iff.1 HPOS.out)
        rw [← hf1, h] at h7
        cases h7
    clear hf1
    have hpi : (0 : Int) < (n : Int) := by have := HPOS.out; have := HLN.out; omega
    have hpn : 0 < n := by have := HPOS.out; have := HLN.out; omega
    cases f1 with
    | false =>
      have HRC := hid (HF1.out rfl)
      have CG := hid CG
      go_wp2_with (go_at_call 44; refine CG.out.mono ?_; rintro e w9 ⟨rfl, hb9⟩; have B9 := hid hb9; clear hb9)
      go_ret2
      unfold GrA
      exact ⟨⟨none, 0, 0, by rw [HRC.out]; rfl, Nat.le_refl _, by rw [HRC.out]; rfl, by rw [HRC.out]; exact ⟨rfl, rfl⟩⟩, B6.out.trans (B9.out.mono B6.out.size)⟩
    | true =>
      have CG := hid CG
      have CF := hid (fun w1 (hb : Below w.heap.size w w1) (hin : InV w1 A9 m9 (L ++ [Q])) => rform_any (c2 := c9) (HLB.out.below hb) hin HVQ.out (by have := HM9.out; have := HLL2.out; omega))
      rw [← HRR.out] at CF
      have tk : True := trivial
      rcases hrc with hrc | hrc
      · have HRC := hid hrc
        rw [hrc] at CF
        clear hrc
        go_wp2_with (first
          | (go_at_call 44; have _t := tk; refine CG.out.mono ?_; rintro e w8 ⟨rfl, hb8⟩; have B8 := hid (B6.out.trans (hb8.mono B6.out.size)); have IN8 := hid (IN9.out.below hb8); clear hb8 tk)
          | (go_at_call 44; refine (CF.out _ B8.out IN8.out).mono ?_; rintro e w9 ⟨rfl, hb9⟩; have B9 := hid hb9; clear hb9))
        go_ret2
        unfold GrA
        exact ⟨⟨none, 0, 0, by rw [HRC.out]; rfl, Nat.le_refl _, by rw [HRC.out]; rfl, by rw [HRC.out]; exact ⟨rfl, rfl⟩⟩, B8.out.trans (B9.out.mono B8.out.size)⟩
      · have HRC := hid hrc
        rw [hrc] at CF
        clear hrc
        go_wp2_with (first
          | (go_at_call 44; have _t := tk; refine CG.out.mono ?_; rintro e w8 ⟨rfl, hb8⟩; have B8 := hid (B6.out.trans (hb8.mono B6.out.size)); have IN8 := hid (IN9.out.below hb8); clear hb8 tk)
          | (go_at_call 44; refine (CF.out _ B8.out IN8.out).mono ?_; rintro e w9 ⟨rfl, hb9⟩; have B9 := hid hb9; clear hb9))
        go_ret2
        unfold GrA
        exact ⟨⟨A9, m9, c9, by rw [HRC.out]; rfl, HC9.out, by rw [HRC.out]; exact hlen9.symm, by rw [HRC.out]; exact IN8.out.below B9.out⟩, B8.out.trans (B9.out.mono B8.out.size)⟩

end Go.Proofs.YtjhaamffgkialaaDoor
