/-
  What is proved here: the library's AppendSeq over an iterator of numbers that has memory of its own.
-/
import Derived.Test.YtjhaamffgkialaaGreatDoorMDE1
import Derived.Test.YtjhaamffgkialaaGreatDoorMX14
import Derived.Shelf.Sort.Plain
import Derived.Shelf.Lay
import Derived.Sort.OwnSortedInts
import Derived.Test.YtjhaamffgkialaaGreatDoorMX21
set_option linter.unusedSimpArgs false
set_option linter.unusedVariables false
namespace Go.Proofs.YtjhaamffgkialaaGreatDoor
open Go.ChangeShapes Go.WideShapes Go.ChangeAt Go.RowKit Go.Shelf
set_option linter.unusedVariables false
set_option linter.unusedSimpArgs false
set_option maxRecDepth 20000
attribute [local go_sem] Oper.semAt_some

theorem zip1i (T : Array Value) (a : Nat) (u : Value) : Array.foldl (fun t (x : Nat × Value) => t.setIfInBounds x.1 x.2) T (#[a].zip #[u]) = T.setIfInBounds a u := by simp
def ints (L : List Nat) : List Int := L.map (fun n : Nat => (n : Int))
theorem ints_snoc (L : List Nat) (x : Nat) : ints (L ++ [x]) = ints L ++ [(x : Int)] := by simp [ints]
theorem ints_len (L : List Nat) : (ints L).length = L.length := by simp [ints]
theorem append_int1 {w : World} {ops : Array Oper} {rest : List Oper} {o : Oper} {a : Act} {Q : Exit → Act → World → Prop} (hgd : o.guard = none) (s x : Operand)
    (ho : o.op = .call { callee := .builtin .append, args := #[s, x], argTypes := #[71, 71] })
    (base : Nat) (v : Value) (xs : List Int) (n : Nat) (hn : n = xs.length) (hs : a.eval s = v) (hown : w.ownsRow base 3 1 v n (i64s xs))
    (y : Int) (hx : a.eval x = .slice (some ⟨w.heap.size, 0, none⟩) 1 1) (h63 : n < 1000000) (hbase : base ≤ w.heap.size)
    (h : ∀ A' c' w', Hid (w'.ownsRow base 3 1 (.slice A' (n + 1) c') (n + 1) (i64s (xs ++ [y]))) → Hid (w.grownBy w' v.ownBlock) → Hid (∀ k, (Value.slice A' (n + 1) c').ownBlock = some k → v.ownBlock = some k ∨ w.heap.size ≤ k) → wpList Tryz.prog ops Q rest (a.put o.dst (.slice A' (n + 1) c')) w') : wpList Tryz.prog ops Q (o :: rest) a (w.alloc (.cells #[.int .i64 y] 3)) := by
  obtain ⟨i0, hi, hz0, hz1, hz2⟩ := info_parts info_int
  have hB := Blk.new w 3 #[.int .i64 y]
  have hb : Below w.heap.size w (w.alloc (.cells #[.int .i64 y] 3)) := (Below.refl _ _).alloc (Nat.le_refl _) _
  refine wpList_append_own_at _ hgd s x 71 ho base 3 i0 (.int .i64 0) 1 8 Tryz.underlying71 hi hz0 hz1 hz2 rfl (by decide) v n (i64s xs) hs (own_below hown hb) ⟨w.heap.size, 0, none⟩ 1 1 (i64s [y]) hx (by rw [i64s_len]; simp) (fun j u hu => ?_) (i64s_one _) (by unfold maxLen; omega) (by omega) (Nat.le_trans hbase hb.size) ?_
  · rw [Addr.add_lit, Nat.zero_add, hB.cell, List.getElem?_toArray]; exact hu
  · intro v' w' h1 h2 _ h4
    have hv : ∃ A' c', v' = .slice A' (n + 1) c' := by
      rcases h1.2 with ⟨_, h5⟩ | ⟨g, cap, cur, hv, _⟩
      · omega
      · exact ⟨_, _, hv⟩
    obtain ⟨A', c', rfl⟩ := hv
    refine h A' c' w' (show World.ownsRow _ _ _ _ _ _ _ from ?_) ((World.grownBy_alloc w _ _).trans h2) (fun k hk => ?_)
    · rw [i64s_snoc]
      exact h1
    · rcases h4 with e | e
      · exact .inl (e.symm.trans hk)
      · rw [e] at hk; injection hk with hk; right; rw [← hk]; exact hb.size
theorem rowLen {w : World} {base n : Nat} {v : Value} {xs : List Value} (h : w.ownsRow base 3 1 v n xs) : ∃ A c, v = .slice A n c := by
  rcases h.2 with ⟨h1, h0⟩ | ⟨g, cap, cur, hv, _⟩
  · exact ⟨none, 0, by rw [h1, h0]⟩
  · exact ⟨_, _, hv⟩
theorem rowOwn {w : World} {base n : Nat} {v : Value} {xs : List Value} (h : w.ownsRow base 3 1 v n xs) : ∀ k, v.ownBlock = some k → base ≤ k ∧ k < w.heap.size ∧ ∃ C, Blk w k 3 C := fun k hk => by
  rcases h.2 with ⟨h1, h0⟩ | ⟨g, cap, cur, hv, hb, hh, _⟩
  · rw [h1] at hk; cases hk
  · rw [hv] at hk; injection hk with hk; subst hk; exact ⟨hb, Blk.lt hh, cur, hh⟩
/-- between two rounds -/
structure AqI (w : World) (Z : Nat → Prop) (pre : List Nat) (v : Value) (W : World) : Prop where
  bx : Blk W w.heap.size 71 #[v]
  row : W.ownsRow w.heap.size 3 1 v pre.length (i64s (ints pre))
  bl : Below w.heap.size w W
  zb : ∀ k, Z k → w.heap.size ≤ k
  z0 : ¬ Z w.heap.size
  zv : ∀ k, v.ownBlock = some k → ¬ Z k
def AqE (w : World) (Z : Nat → Prop) (pre : List Nat) (W : World) : Prop := ∃ v, AqI w Z pre v W
theorem AqE.gh (w : World) : GhJ (AqE w) := by
  refine ⟨fun Z s W W' ⟨v, h⟩ ho => ⟨v, h.bx.same (ho.block _ h.bx.lt h.z0), own_keep h.row (fun k hk => ho.block k (rowOwn h.row k hk).2.1 (h.zv k hk)), h.bl.trans (ho.below h.bl.size h.zb), h.zb, h.z0, h.zv⟩, fun Z s W k ⟨v, h⟩ hk => ⟨v, h.bx, h.row, h.bl, fun j hj => ?_, fun hj => ?_, fun j hj hz => ?_⟩⟩
  · rcases hj with hj | rfl
    · exact h.zb j hj
    · exact Nat.le_trans h.bl.size hk
  · rcases hj with hj | hj
    · exact h.z0 hj
    · have := h.bx.lt; omega
  · rcases hz with hz | rfl
    · exact h.zv j hj hz
    · have := (rowOwn h.row j hj).2.1; omega
theorem AqE.own {w : World} {B : Nat} (hB : w.heap.size ≤ B) (Z : Nat → Prop) : OwnFrom B (AqE w Z) := fun pre W W' row ⟨v, h⟩ hg hr => by
  have hr2 := fun r e => (hr r e).2
  exact ⟨v, h.bx.own hg hr2, own_own h.row hg hr2, h.bl.grown hg h.bl.size (fun k e => Nat.le_trans hB (hr k e).1), h.zb, h.z0, h.zv⟩
/-- a round's end -/
theorem AqI.step {w W y : World} {Z SS : Nat → Prop} {pre : List Nat} {v v' : Value} {x B : Nat} (h : AqI w Z pre v W) (hSS : ∀ k, SS k → k < w.heap.size)
    (hrow : y.ownsRow w.heap.size 3 1 v' (pre.length + 1) (i64s (ints pre ++ [(x : Int)]))) (hg : W.grownBy y v.ownBlock) (hw : ∀ k, v'.ownBlock = some k → v.ownBlock = some k ∨ W.heap.size ≤ k) (hz : ∀ k, Z k → k < W.heap.size) :
    KeepsFrom B W (y.setCell ⟨w.heap.size, 0, none⟩ v') ∧ KpS (fun k => SS k ∨ Z k) W (y.setCell ⟨w.heap.size, 0, none⟩ v') ∧ AqE w Z (pre ++ [x]) (y.setCell ⟨w.heap.size, 0, none⟩ v') := by
  have hsz : W.heap.size ≤ (y.setCell ⟨w.heap.size, 0, none⟩ v').heap.size := Nat.le_trans hg.size (by simp [World.setCell])
  have nb : v.ownBlock ≠ some w.heap.size := fun e => by
    obtain ⟨_, _, C, h2⟩ := rowOwn h.row _ e
    exact h.bx.ne h2 (by decide) rfl
  have kb : Blk y w.heap.size 71 #[v] := h.bx.same (hg.block _ h.bx.lt (fun e => nb e.symm))
  have nv : v'.ownBlock ≠ some w.heap.size := fun e => by
    obtain ⟨_, _, C, h2⟩ := rowOwn hrow _ e
    exact kb.ne h2 (by decide) rfl
  have turn : ∀ k, k < W.heap.size → v.ownBlock ≠ some k → k ≠ w.heap.size → (y.setCell ⟨w.heap.size, 0, none⟩ v').heap[k]? = W.heap[k]? := fun k hk n1 n2 => (Below.heap_setCell y _ _ k n2).trans (hg.block k hk (fun e => n1 e.symm))
  refine ⟨?_, ⟨hsz, fun k hk hlt => ?_⟩, v', kb.setd 0 v', ?_, ?_, h.zb, h.z0, fun k hk hz' => ?_⟩
  · refine KeepsFrom.trans ⟨hg.size, fun k o _ hk hc => (hg.block k ?_ (fun e => ?_)).trans hk⟩ ((KeepsOthers.setCell y _ v').from B)
    · exact (Array.getElem?_eq_some_iff.1 hk).1
    · obtain ⟨_, _, C, h2⟩ := rowOwn h.row k e.symm
      unfold Blk at h2
      rw [h2] at hk
      injection hk with hk
      subst hk
      cases hc
  · rcases hk with hk | hk
    · have h1 := hSS k hk
      refine turn k hlt (fun e => ?_) (by omega)
      have := (rowOwn h.row k e).1
      omega
    · exact turn k hlt (fun e => h.zv k e hk) (fun e => h.z0 (e ▸ hk))
  · rw [List.length_append, ints_snoc]
    exact own_keep hrow (fun k hk => Below.heap_setCell y _ _ k (fun e => nv (by
      have e' : k = w.heap.size := e
      rw [← e']; exact hk)))
  · exact (h.bl.trans ((Below.refl _ _).grown hg h.bl.size (fun k hk => (rowOwn h.row k hk).1))).setCell (p := ⟨w.heap.size, 0, none⟩) (Nat.le_refl _) _
  · rcases hw k hk with e | e
    · exact h.zv k e hz'
    · have := hz k hz'; omega
/-- what AppendSeq to nil answers -/
def AqA (w : World) (L : List Nat) (e : Ending) (w' : World) : Prop := ∃ v, e = .returned v ∧ w'.ownsRow w.heap.size 3 1 v L.length (i64s (ints L)) ∧ Below w.heap.size w w'
set_option maxHeartbeats 8000000 in
theorem dappend_any {w w0 : World} {gf : Nat} {lb : Array Value} {SS : Nat → Prop} {L : List Nat} (eg : ∀ args w, (callFunc gf args).run Tryz.prog w = .ok (.enter gf args) w) (hseq : SeqZ 1 Tryz.prog gf lb encN SS (fun xs => xs = L) L.length w0) (hb0 : Below w0.heap.size w0 w) (hSS : ∀ k, SS k → k < w.heap.size) (hsm : L.length < 100000) :
    Calls Tryz.prog 69 #[.slice none 0 0, .func (.func gf) #[] lb] w (AqA w L) := by
  refine (callsIn_wide (n := 2)).1 ?_
  refine callsIn_of_wp_marks Tryz.func69 rfl trivial ?_ rfl
  simp only [Tryz.ntmps69, List.size_toArray, List.length_cons, List.length_nil, Nat.reduceAdd, Nat.reduceSub, Array.replicate_succ, Array.replicate_zero, List.push_toArray, List.append_toArray, List.nil_append, List.cons_append]
  refine (wpIn_wide (n := 2)).2 ?_
  have B1 : Hid (Below w.heap.size w (w.alloc (.cells #[.slice none 0 0] 71))) := (Below.refl _ _).alloc (Nat.le_refl _) _
  have K1 : Hid (Blk (w.alloc (.cells #[.slice none 0 0] 71)) w.heap.size 71 #[.slice none 0 0]) := Blk.new w 71 _
  have HB0 := hid hb0; have HSS := hid hSS; have HSM := hid hsm; have HEG := hid eg; have HSEQ := hid hseq
  clear hb0 hSS hsm eg hseq
  unfold AqA
  go_wp2
  generalize w.alloc (.cells #[.slice none 0 0] 71) = w1 at B1 K1 ⊢
  have I1 : Hid (AqE w (fun _ => False) [] w1) := ⟨_, K1.out, ⟨rfl, .inl ⟨rfl, rfl⟩⟩, B1.out, fun _ h => h.elim, id, fun _ _ h => h⟩
  have BW1 : Hid (w.heap.size ≤ w1.heap.size) := B1.out.size
  have HB1 : Hid (Below w0.heap.size w0 w1) := HB0.out.trans (B1.out.mono HB0.out.size)
  have HSL : Hid (∀ k, SS k → k < w1.heap.size) := fun k hk => by have h1 := HSS.out k hk; have h2 := BW1.out; omega
  clear B1 K1 HB0
  refine (wpIn_wide (n := 2)).1 ?_
  refine range_ghost (n := 2) (by omega) (gf := gf) (lb := lb) rfl HEG.out HSEQ.out HSL.out HB1.out (fun _ => rfl) (AqE w) (AqE.gh w) (AqE.own BW1.out) I1.out ?F ?assign ?body ?done
  case assign =>
    intro l x W K hK
    have HKK := hid hK
    clear hK
    dsimp only [encN]
    rw [zip1i]
    simp only [List.setIfInBounds_toArray, List.set_cons_succ, List.set_cons_zero]
    refine wpIn_cut K (plain_round (L := [_]) (by rfl) ?_) (fun _ _ h => h)
    go_wp2
    try simp only [Qr]
    exact HKK.out
  case body =>
    rintro l Z pre x W hWs hI hzl hlen
    obtain ⟨v, hs⟩ := hI
    obtain ⟨A1, c1, hv⟩ := rowLen hs.row
    obtain ⟨k1, hk1⟩ : ∃ k1, k1 = pre.length := ⟨_, rfl⟩
    have ROW := hs.row
    rw [← hk1] at hv ROW
    subst hv
    have cbx : W.cell? ⟨w.heap.size, 0, none⟩ = some (.slice A1 k1 c1) := hs.bx.cell 0
    have HR := hid ROW
    have HK1 : Hid (k1 = (ints pre).length) := by show _ = _; rw [hk1, ints_len]
    have hkm : k1 < 1000000 := by have := HSM.out; omega
    have HST := hid (fun (y : World) v' (h1 : y.ownsRow w.heap.size 3 1 v' (pre.length + 1) (i64s (ints pre ++ [(x : Int)]))) h2 h3 => hs.step (SS := SS) (B := w1.heap.size) (x := x) HSS.out h1 h2 h3 hzl)
    rw [← hk1] at HST
    have BXT := hid (fun (y : World) (h2 : W.grownBy y (Value.slice A1 k1 c1).ownBlock) => (show Blk y w.heap.size 71 #[.slice A1 k1 c1] from hs.bx.same (h2.block _ hs.bx.lt (fun e => by
      obtain ⟨_, _, C, h2⟩ := rowOwn hs.row _ e.symm
      exact hs.bx.ne h2 (by decide) rfl))))
    have BLS := hid hs.bl.size
    clear hs hzl hlen hWs hk1 ROW
    refine wpIn_block ?_
    refine wpIn_cut (fun a' W' => KeepsFrom w1.heap.size W W' ∧ KpS (fun k => SS k ∨ Z k) W W' ∧ AqE w Z (pre ++ [x]) W') (plain_round (L := [_, _, _, _, _]) (by rfl) ?_) (fun _ _ h => ⟨rfl, h⟩)
    go_wp2_with (at_builtin; refine append_int1 rfl (.tmp 8) (.tmp 10) rfl w.heap.size (.slice A1 k1 c1) (ints pre) k1 HK1.out rfl HR.out (x : Nat) rfl hkm BLS.out ?_; intro A9 c9 w9 HROW HG HW; have cb9 : w9.cell? ⟨w.heap.size, 0, none⟩ = some (.slice A1 k1 c1) := (BXT.out w9 HG.out).cell 0; have fb9 : w9.frozen? ⟨w.heap.size, 0, none⟩ = false := (BXT.out w9 HG.out).frozen 0)
    try simp only [Qr]
    exact HST.out _ _ HROW.out HG.out HW.out
  case done =>
    rintro D Z ys W hD hys hI hK
    obtain ⟨v, hs⟩ := hI
    subst hys
    obtain ⟨A1, c1, hv⟩ := rowLen hs.row
    obtain ⟨k1, hk1⟩ : ∃ k1, k1 = ys.length := ⟨_, rfl⟩
    have ROW := hs.row
    rw [← hk1] at hv ROW
    have HKE := hid hk1
    subst hv
    have cb : W.cell? ⟨w.heap.size, 0, none⟩ = some (.slice A1 k1 c1) := hs.bx.cell 0
    have HR := hid ROW; have HBL := hid hs.bl; have HKD := hid hK
    have HD : Hid (w1.heap.size ≤ D) := hD
    clear hs hK hD hk1 ROW
    go_wp2
    refine ⟨by simp, .inl ⟨_, _, rfl, run_takeDeferred HKD.out, ?_⟩⟩
    have hg := grownBy_putObj' W D (.deferred none)
    have hr : ∀ r, some D = some r → ∃ o : Obj, W.heap[r]? = some o ∧ o.isCells = false := fun r e => by cases e; exact ⟨_, HKD.out, rfl⟩
    have e := HKE.out
    subst e
    exact ⟨_, results_tmp rfl _ _ _, .slice A1 ys.length c1, rfl, own_own HR.out hg hr, HBL.out.grown hg HBL.out.size (fun k e => by cases e; have := HD.out; have := BW1.out; omega)⟩
end Go.Proofs.YtjhaamffgkialaaGreatDoor
/-
  What is proved here: the library's sort of numbers, laid at this program.
-/
namespace Go.Proofs
open Go.Shelf
shelf_lay Lays.n189 Nm 189 at Tryz as Tryz.lays189
end Go.Proofs
namespace Go.Proofs.YtjhaamffgkialaaGreatDoor
open Go.ChangeShapes Go.WideShapes Go.ChangeAt Go.RowKit Go.Shelf Go.Sort
set_option linter.unusedVariables false
#check @Tryz.lays189
theorem dsort_any (blk cap : Nat) (zs : List Int) (w : World) (hH : Holds (Value.int .i64) w blk 0 zs.toArray) (hblk : blk < w.heap.size) (hsz : zs.length < 1000000) :
    Calls Tryz.prog 47 #[.slice (some ⟨blk, 0, none⟩) zs.length cap] w fun e w' => e = .returned (.tuple #[]) ∧ ∃ n os, w' = grow (Go.Sort.putRow (Value.int .i64) (Sort.ahead w n) blk 0 (zs.mergeSort fun x y => decide (x ≤ y)).toArray) os :=
  Any.slices_Sort_int Tryz.lays189 blk 0 cap zs w hH hblk (by omega)
end Go.Proofs.YtjhaamffgkialaaGreatDoor
/-
  What is proved here: the library's Sort of nothing, Collect and Sorted over an iterator of numbers.
-/
namespace Go.Proofs.YtjhaamffgkialaaGreatDoor
open Go.ChangeShapes Go.WideShapes Go.ChangeAt Go.RowKit Go.Shelf Go.Sort
set_option linter.unusedVariables false
set_option linter.unusedSimpArgs false
set_option maxRecDepth 100000

theorem dins_nil (p : Option Addr) (cap : Nat) (w : World) : Calls Tryz.prog 83 #[.slice p 0 cap, .int .i64 0, .int .i64 0] w fun e w' => e = .returned (.tuple #[]) ∧ w' = w := by
  go_enter Tryz.func83, Tryz.ntmps83
  go_wp2
  refine wp_loop_rounds 1 ?_
  rw [rounds_succ]
  go_wp2
  go_end0
  exact ⟨rfl, rfl⟩
theorem dpdq_nil (p : Option Addr) (cap : Nat) (w : World) : Calls Tryz.prog 70 #[.slice p 0 cap, .int .i64 0, .int .i64 0, .int .i64 0] w fun e w' => e = .returned (.tuple #[]) ∧ w' = w := by
  go_enter Tryz.func70, Tryz.ntmps70
  go_wp2
  refine wp_loop_rounds 1 ?_
  rw [rounds_succ]
  go_wp2_with (go_at_call 83; refine (dins_nil p cap _).mono ?_; rintro e w' ⟨rfl, rfl⟩)
  refine bodyPost_ret (results_none rfl _ _ _) rfl ?_
  exact ⟨rfl, rfl⟩
theorem dblen_zero (w : World) : Calls Tryz.prog 71 #[.int .u64 0] w fun e w' => e = .returned (.int .i64 0) ∧ w' = w :=
  calls_of_every_depth fun D => AnyS.bits_LenIn { Tryz.lays189 with } D 0 w (by omega) (by omega)
theorem dsort_nil (p : Option Addr) (cap : Nat) (w : World) : Calls Tryz.prog 47 #[.slice p 0 cap] w fun e w' => e = .returned (.tuple #[]) ∧ w' = w := by
  go_enter Tryz.func47, Tryz.ntmps47
  go_wp2_with (first
    | (go_at_call 71; refine (dblen_zero _).mono ?_; rintro e w' ⟨rfl, rfl⟩)
    | (go_at_call 70; refine (dpdq_nil p cap _).mono ?_; rintro e w' ⟨rfl, rfl⟩))
  go_end0
  exact ⟨rfl, rfl⟩
theorem dcollect_any {w w0 : World} {gf : Nat} {lb : Array Value} {SS : Nat → Prop} {L : List Nat} (eg : ∀ args w, (callFunc gf args).run Tryz.prog w = .ok (.enter gf args) w) (hseq : SeqZ 1 Tryz.prog gf lb encN SS (fun xs => xs = L) L.length w0) (hb0 : Below w0.heap.size w0 w) (hSS : ∀ k, SS k → k < w.heap.size) (hsm : L.length < 100000) :
    Calls Tryz.prog 46 #[.func (.func gf) #[] lb] w (AqA w L) := by
  have CA := hid (dappend_any eg hseq hb0 hSS hsm)
  clear eg hseq hb0 hSS hsm
  unfold AqA at CA ⊢
  go_enter Tryz.func46, Tryz.ntmps46
  go_wp2_with (go_at_call 69; refine CA.out.mono ?_; rintro e w1 ⟨v, rfl, ho, hb⟩; have HO := hid ho; have HB := hid hb; clear ho hb)
  go_ret
  exact ⟨v, rfl, HO.out, HB.out⟩
def sortI (L : List Nat) : List Int := (ints L).mergeSort fun x y => decide (x ≤ y)
theorem sortI_len (L : List Nat) : (sortI L).length = L.length := by unfold sortI; rw [List.length_mergeSort, ints_len]
/-- what Sorted answers -/
def SoA (w : World) (L : List Nat) (e : Ending) (w' : World) : Prop := ∃ v, e = .returned v ∧ w'.ownsRow w.heap.size 3 1 v L.length (i64s (sortI L)) ∧ Below w.heap.size w w'
set_option maxHeartbeats 2000000 in
theorem dsorted_any {w w0 : World} {gf : Nat} {lb : Array Value} {SS : Nat → Prop} {L : List Nat} (eg : ∀ args w, (callFunc gf args).run Tryz.prog w = .ok (.enter gf args) w) (hseq : SeqZ 1 Tryz.prog gf lb encN SS (fun xs => xs = L) L.length w0) (hb0 : Below w0.heap.size w0 w) (hSS : ∀ k, SS k → k < w.heap.size) (hsm : L.length < 100000) :
    Calls Tryz.prog 23 #[.func (.func gf) #[] lb] w (SoA w L) := by
  have CA := hid (dcollect_any eg hseq hb0 hSS hsm)
  have HSM := hid hsm
  clear eg hseq hb0 hSS hsm
  unfold AqA at CA
  unfold SoA
  go_enter Tryz.func23, Tryz.ntmps23
  go_upto_region 2 with (go_at_call 46; refine CA.out.mono ?_; rintro e w1 ⟨v, rfl, ho, hb⟩; have HO := hid ho; have HB := hid hb; clear ho hb)
  rcases HO.out.2 with ⟨rfl, hz⟩ | ⟨gb, cap, cur, rfl, hbase, hgb, r1, r2, r3, r4⟩
  · have hL : L = [] := List.eq_nil_of_length_eq_zero hz
    subst hL
    go_wp2_with (go_at_call 47; refine (dsort_nil none 0 _).mono ?_; rintro e w2 ⟨rfl, rfl⟩)
    go_ret
    exact ⟨_, rfl, ⟨by rw [i64s_len, sortI_len]; rfl, .inl ⟨rfl, rfl⟩⟩, HB.out⟩
  · have hH : Holds (Value.int .i64) w1 gb 0 (ints L).toArray := holds_of_blockI hgb (by rw [ints_len]; rw [Nat.mul_one] at r4; exact r4)
    have hgl : gb < w1.heap.size := (Array.getElem?_eq_some_iff.1 hgb).1
    have cS0 := dsort_any gb cap (ints L) w1 hH hgl (by rw [ints_len]; have := HSM.out; omega)
    have HF := hid (fun (n : Nat) (os : Array Obj) => (ownsRow_sortedI (base := w.heap.size) (g := gb) (cap := cap) (n := n) (os := os) (ss := ints L) (ts := sortI L) (by rw [sortI_len, ints_len]) hbase hgb (by rw [ints_len]; exact r1) r2 r3 : _))
    obtain ⟨k, hk⟩ : ∃ k, k = L.length := ⟨_, rfl⟩
    rw [ints_len, ← hk] at cS0
    have CS := hid cS0
    have HK := hid hk
    have HBS := hid hbase
    rw [← hk]
    clear hH hgl cS0 hgb r1 r2 r3 r4 HO hk hbase
    go_wp2_with (go_at_call 47; refine CS.out.mono ?_; rintro e w2 ⟨rfl, nn, os, hw2⟩; have HW2 := hid hw2; clear hw2)
    go_ret
    refine ⟨_, rfl, ?_, ?_⟩
    · have h := HF.out nn os
      rw [HW2.out]
      rw [ints_len, ← HK.out] at h
      rw [← HK.out]
      exact h
    · rw [HW2.out]
      exact HB.out.grown (grownBy_sortedI _) HB.out.size (fun j hj => by cases hj; exact HBS.out)
end Go.Proofs.YtjhaamffgkialaaGreatDoor
/-
  What is proved here: lists of rows, a row of any number, the iterator over numbers.
-/
namespace Go.Proofs.YtjhaamffgkialaaGreatDoor
open Go.ChangeShapes Go.WideShapes Go.ChangeAt Go.RowKit Go.Shelf
set_option linter.unusedVariables false
set_option linter.unusedSimpArgs false
set_option maxRecDepth 20000

def rowN (N : List Nd) (k : Nat) : Rw := if (N[k]?.getD ndZ).leaf = true then rwL (N[k]?.getD ndZ).k (N[k]?.getD ndZ).v else rwI (N[k]?.getD ndZ).n (N[k]?.getD ndZ).b (hashN N (N[k]?.getD ndZ).l) (hashN N (N[k]?.getD ndZ).r)
theorem drow_any {w : World} {f g b : Nat} {N : List Nd} {A : Option Addr} {c : Nat} {tv : Value} (h : Fo w f g b N A c tv) (hf : FrOk hLf hIn N) {k : Nat} (hk : k < N.length) :
    RwOk (rowN N k) ∧ Calls Tryz.prog 25 #[.pointer (some ⟨f, 0, none⟩), .int .i64 (k : Nat)] w fun e w' => e = .returned (.agg (rwc (rowN N k)).toArray) ∧ Below w.heap.size w w' := by
  obtain ⟨t, hok, hr⟩ := hf k hk
  cases t with
  | leaf K V =>
    have hq : N[k]? = some (ndL K V (hLf K V)) := hr
    have e : rowN N k = rwL K V := by unfold rowN; rw [hq]; rfl
    rw [e]
    exact ⟨rwL_ok hok.1 hok.2, drow_leaf h k _ hq rfl⟩
  | inner n0 b0 tl tr =>
    obtain ⟨a, d, hq, ha, hd, hl, hr2⟩ := hr
    have la := hl.lt; have ld := hr2.lt
    have ea : N[a]? = some N[a] := List.getElem?_eq_getElem la
    have ed : N[d]? = some N[d] := List.getElem?_eq_getElem ld
    have ha2 : hashN N (a : Int) = N[a].h := by unfold hashN; rw [Int.toNat_natCast, ea]; rfl
    have hd2 : hashN N (d : Int) = N[d].h := by unfold hashN; rw [Int.toNat_natCast, ed]; rfl
    have e : rowN N k = rwI n0 b0 (N[a]).h (N[d]).h := by rw [← ha2, ← hd2]; unfold rowN; rw [hq]; rfl
    rw [e]
    have hqo := h.ok _ (List.mem_of_getElem? hq)
    exact ⟨rwI_ok hqo.b (h.ok _ (List.getElem_mem la)).h (h.ok _ (List.getElem_mem ld)).h, drow_inner h k _ hq rfl rfl rfl ea ed⟩
theorem dnums_any (f : Addr) (ti sz : Int) (w : World) :
    Calls Tryz.prog 24 #[.pointer (some f), .int .i64 ti, .int .i64 sz] w fun e w' => e = .returned (.func (.func 48) #[] #[.pointer (some ⟨w.heap.size + 1, 0, none⟩), .pointer (some ⟨w.heap.size + 1 + 1, 0, none⟩), .pointer (some ⟨w.heap.size, 0, none⟩)]) ∧ w' = ((w.alloc (.cells #[.pointer (some f)] 27)).alloc (.cells #[.int .i64 ti] 3)).alloc (.cells #[.int .i64 sz] 3) := by
  go_enter Tryz.func24, Tryz.ntmps24
  go_wp2
  go_ret
  exact ⟨rfl, rfl⟩
/-! Lists of rows. -/
def rwcs (L : List Rw) : List Value := L.flatMap rwc
theorem rwcs_snoc (L : List Rw) (q : Rw) : rwcs (L ++ [q]) = rwcs L ++ rwc q := by simp [rwcs]
def RwsOk (L : List Rw) : Prop := ∀ q ∈ L, RwOk q
structure OwR (n0 : Nat) (w : World) (v : Value) (L : List Rw) : Prop where
  row : w.ownsRow n0 49 162 v L.length (rwcs L)
  ok : RwsOk L
theorem OwR.nil (n0 : Nat) (w : World) : OwR n0 w (.slice none 0 0) [] := ⟨⟨rfl, .inl ⟨rfl, rfl⟩⟩, fun s hs => by simp at hs⟩
theorem OwR.below {n0 : Nat} {w w' : World} {v : Value} {L : List Rw} (h : OwR n0 w v L) (hb : Below w.heap.size w w') : OwR n0 w' v L := ⟨own_below h.row hb, h.ok⟩
theorem OwR.keep {n0 : Nat} {w w' : World} {v : Value} {L : List Rw} (h : OwR n0 w v L) (hk : ∀ k, v.ownBlock = some k → w'.heap[k]? = w.heap[k]?) : OwR n0 w' v L := ⟨own_keep h.row hk, h.ok⟩
theorem OwR.len {n0 : Nat} {w : World} {v : Value} {L : List Rw} (h : OwR n0 w v L) : ∃ A c, v = .slice A L.length c := by
  rcases h.row.2 with ⟨h1, h0⟩ | ⟨g, cap, cur, hv, _⟩
  · exact ⟨none, 0, by rw [h1, h0]⟩
  · exact ⟨_, _, hv⟩
theorem OwR.ty {n0 : Nat} {w : World} {v : Value} {L : List Rw} (h : OwR n0 w v L) : ∀ k, v.ownBlock = some k → n0 ≤ k ∧ k < w.heap.size ∧ ∃ C, Blk w k 49 C := fun k hk => by
  rcases h.row.2 with ⟨h1, h0⟩ | ⟨g, cap, cur, hv, hb, hh, _⟩
  · rw [h1] at hk; cases hk
  · rw [hv] at hk; injection hk with hk; subst hk; exact ⟨hb, Blk.lt hh, cur, hh⟩
theorem rwc_all1 (q : Rw) : ∀ u ∈ rwc q, u.oneCell' = true := fun u hu => by
  have := rwc_one q
  rw [Array.all_eq_true'] at this
  exact this u (by simpa using hu)
theorem wpList_drow_one {ops : Array Oper} {rest : List Oper} {o : Oper} {a : Act} {w : World} {Q : Exit → Act → World → Prop} (hgd : o.guard = none) (x : Operand) (ho : o.op = .buildSlice 33 1 #[(0, x)]) (q : Rw) (hq : RwOk q) (hx : a.eval x = .agg (rwc q).toArray)
    (h : wpList Tryz.prog ops Q rest (a.put o.dst (.slice (some ⟨w.heap.size, 0, none⟩) 1 1)) (w.alloc (.cells (rwc q).toArray 49))) : wpList Tryz.prog ops Q (o :: rest) a w := by
  refine wpList_plain hgd fun _ hK => ?_
  obtain ⟨i0, hi, hz0, hz1, hz2⟩ := info_parts info_drow
  have hl := hq.len
  refine wp_buildSlice 33 49 1 #[(0, x)] ho (rwc q).toArray i0 _ Tryz.underlying33 hi hz0 (by rw [hz1]; decide) (by rw [hz1]; decide) ?_ (hK _ _ h)
  have hp : (#[(0, x)].map fun ((i, x) : Nat × Operand) => (i, a.eval x)).toList = [(0, Value.agg (rwc q).toArray)] := by simp [hx]
  rw [hp, hz1]
  have h := Great.fill_whole (s := 162) (by decide) [Value.agg (rwc q).toArray] ((Array.range (1 * 162)).map ((Value.agg (rwc rwZ).toArray).cells[· % (Value.agg (rwc rwZ).toArray).cells.size]!)) (fun v hv => by
    rw [List.mem_singleton.1 hv]; exact hl) (by simp)
  simp only [List.flatMap_cons, List.flatMap_nil, List.append_nil] at h
  exact h
/-- a row more -/
theorem wpList_append_drow {w : World} {ops : Array Oper} {rest : List Oper} {o : Oper} {a : Act} {Q : Exit → Act → World → Prop} (hgd : o.guard = none) (s x : Operand)
    (ho : o.op = .call { callee := .builtin .append, args := #[s, x], argTypes := #[33, 33] }) (n0 : Nat) (L : List Rw) (v : Value) (hs : a.eval s = v) (hO : OwR n0 w v L) (q : Rw) (hq : RwOk q) (hx : a.eval x = .slice (some ⟨w.heap.size, 0, none⟩) 1 1) (hlen : L.length ≤ 100000) (hn : n0 ≤ w.heap.size)
    (h : ∀ v' w', OwR n0 w' v' (L ++ [q]) → w.grownBy w' v.ownBlock → wpList Tryz.prog ops Q rest (a.put o.dst v') w') : wpList Tryz.prog ops Q (o :: rest) a (w.alloc (.cells (rwc q).toArray 49)) := by
  obtain ⟨i0, hi, hz0, hz1, hz2⟩ := info_parts info_drow
  have hB := Blk.new w 49 (rwc q).toArray
  have hb : Below w.heap.size w (w.alloc (.cells (rwc q).toArray 49)) := (Below.refl _ _).alloc (Nat.le_refl _) _
  refine wpList_append_own _ hgd s x 33 ho n0 49 i0 _ 162 176 Tryz.underlying33 hi hz0 hz1 hz2 (by rfl) (by decide) v L.length (rwcs L) hs (hO.below hb).row ⟨w.heap.size, 0, none⟩ 1 1 (rwc q) hx (by rw [hq.len]) (fun j u hu => ?_) (rwc_all1 q) (by unfold maxLen; omega) (by omega) (Nat.le_trans hn hb.size) ?_
  · rw [Addr.add_lit, Nat.zero_add, hB.cell, List.getElem?_toArray]; exact hu
  · intro v' w' h1 h2 _
    refine h v' w' ⟨by rw [List.length_append, rwcs_snoc]; exact h1, fun p hp => ?_⟩ ((World.grownBy_alloc w _ _).trans h2)
    rcases List.mem_append.1 hp with hp | hp
    · exact hO.ok p hp
    · rw [List.mem_singleton.1 hp]; exact hq
/-- every number that comes is a node's -/
theorem numTlt {N : List Nd} {sz : Int} : ∀ {t : Tr} {i : Nat}, Rep hLf hIn N i t → ∀ k ∈ numT N sz t i, k < N.length ∧ sz ≤ (k : Int)
  | .leaf K V, i, hr, k, hk => by
    unfold numT at hk
    by_cases h : (i : Int) < sz
    · rw [if_pos h] at hk; simp at hk
    · rw [if_neg h] at hk
      rw [List.mem_singleton.1 hk]
      exact ⟨hr.lt, by omega⟩
  | .inner n0 b0 l r, i, hr, k, hk => by
    have hlt := hr.lt
    obtain ⟨a, d, hq, ha, hd, hl, hr2⟩ := hr
    by_cases h : (i : Int) < sz
    · unfold numT at hk; rw [if_pos h] at hk; simp at hk
    · rw [numTin h, hq] at hk
      rcases List.mem_cons.1 hk with rfl | hk
      · exact ⟨hlt, by omega⟩
      · rcases List.mem_append.1 hk with hk | hk
        · have e : ((some (ndI n0 b0 a d ((Tr.inner n0 b0 l r).hash hLf hIn))).getD ndZ).r.toNat = d := rfl
          rw [e] at hk
          exact numTlt hr2 k hk
        · have e : ((some (ndI n0 b0 a d ((Tr.inner n0 b0 l r).hash hLf hIn))).getD ndZ).l.toNat = a := rfl
          rw [e] at hk
          exact numTlt hl k hk
end Go.Proofs.YtjhaamffgkialaaGreatDoor
/-
  What is proved here: Since: the rows of a tree's nodes from a number on.
-/
namespace Go.Proofs.YtjhaamffgkialaaGreatDoor
open Go.ChangeShapes Go.WideShapes Go.ChangeAt Go.RowKit Go.Shelf
set_option linter.unusedVariables false
set_option linter.unusedSimpArgs false
set_option maxRecDepth 20000

def hsO : Option Tr → List Int
  | none => emptyH
  | some t => t.hash hLf hIn
theorem droot_any {wr : World} {f g b c : Nat} {N : List Nd} {A : Option Addr} {tv : Value} {ti : Int} {T : Option Tr} (h : Fo wr f g b N A c tv) (ht : TAt N ti T) (htb : Tab wr) : Ky (hsO T) ∧ Calls Tryz.prog 8 #[.pointer (some ⟨f, 0, none⟩), .int .i64 ti] wr fun e w' => e = .returned (hV (hsO T) (.int .i64 0)) ∧ Below wr.heap.size wr w' := by
  cases T with
  | none =>
    obtain rfl : ti = -1 := ht
    exact ⟨emptyH_ky, xRoot_none htb (tree_isT h)⟩
  | some t =>
    obtain ⟨k, rfl, hr, hok⟩ := ht
    obtain ⟨q, hq, _, hqh⟩ := rep_node hr
    have := xRoot_at h k q hq
    rw [hqh] at this
    exact ⟨show Ky (t.hash hLf hIn) by rw [← hqh]; exact (h.ok q (List.mem_of_getElem? hq)).h, this⟩
theorem sortI_mem {L : List Nat} {z : Int} (h : z ∈ sortI L) : ∃ k ∈ L, z = (k : Int) := by
  unfold sortI ints at h
  rw [List.mem_mergeSort] at h
  obtain ⟨k, hk, rfl⟩ := List.mem_map.1 h
  exact ⟨k, hk, rfl⟩
def rowsS (N : List Nd) (S : List Int) : List Rw := S.map fun z => rowN N z.toNat
/-- between two rounds -/
structure SnI (w : World) (N : List Nd) (S : List Int) (sv : Value) (j : Nat) (v : Value) (wr : World) : Prop where
  srt : wr.ownsRow w.heap.size 3 1 sv S.length (i64s S)
  ow : OwR w.heap.size wr v (rowsS N (S.take j))
  bl : Below w.heap.size w wr
theorem SnI.below {w wr x : World} {N : List Nd} {S : List Int} {sv v : Value} {j : Nat} (h : SnI w N S sv j v wr) (hb : Below wr.heap.size wr x) : SnI w N S sv j v x :=
  ⟨own_below h.srt hb, h.ow.below hb, h.bl.trans (hb.mono h.bl.size)⟩
theorem SnI.step {w wr x : World} {N : List Nd} {S : List Int} {sv v v' : Value} {j : Nat} {z : Int} (h : SnI w N S sv j v wr) (hz : S[j]? = some z) (hO : OwR w.heap.size x v' (rowsS N (S.take j) ++ [rowN N z.toNat])) (hg : wr.grownBy x v.ownBlock) : SnI w N S sv (j + 1) v' x := by
  refine ⟨own_keep h.srt (fun k hk => hg.block k (rowOwn h.srt k hk).2.1 (fun e => ?_)), ?_, h.bl.trans ((Below.refl _ _).grown hg h.bl.size (fun k hk => (h.ow.ty k hk).1))⟩
  · obtain ⟨_, _, C, h1⟩ := rowOwn h.srt k hk
    obtain ⟨_, _, D, h2⟩ := h.ow.ty k e.symm
    exact h1.ne h2 (by decide) rfl
  · rw [List.take_add_one, hz, Option.toList_some]
    unfold rowsS at hO ⊢
    rw [List.map_append]
    exact hO
def SnA (w : World) (R : List Rw) (e : Ending) (w' : World) : Prop := ∃ v, e = .returned (.tuple #[v, .int .i64 0]) ∧ OwR w.heap.size w' v R ∧ Below w.heap.size w w'
set_option maxHeartbeats 8000000 in
theorem since_any {w : World} {f g b c : Nat} {N : List Nd} {A : Option Addr} {tv : Value} {ti sz : Int} {T : Option Tr} (h : Fo w f g b N A c tv) (hfr : FrOk hLf hIn N) (hT : TAt N ti T) (hsz : 0 ≤ sz) (hsm : wtO T < 90000) (hnl : (numO N sz (ti, T)).length < 90000) (htb : Tab w) :
    Calls Tryz.prog 12 #[.pointer (some ⟨f, 0, none⟩), .int .i64 ti, .int .i64 sz] w (SnA w (rowsS N (sortI (numO N sz (ti, T))))) := by
  obtain ⟨hky, hcr⟩ := droot_any h hT htb
  have CR := hid hcr
  obtain ⟨Z, HZ, hZ0, hZs⟩ := zero_key
  have HKI := hid (kc_info hky)
  have HKZ : Hid (Z.size = (kc (hsO T)).size) := by show _ = _; rw [HZ.out, kc_size zk_ky, kc_size hky]
  obtain ⟨L, hL⟩ : ∃ L, L = numO N sz (ti, T) := ⟨_, rfl⟩
  have HLL : Hid (∀ k ∈ L, k < N.length) := fun k hk => by
    rw [hL] at hk
    cases T with
    | none => exact absurd hk (by show ¬ k ∈ ([] : List Nat); simp)
    | some t =>
      obtain ⟨i, hi, hr, _⟩ := hT
      have hi' : ti = (i : Int) := hi
      subst hi'
      have hk' : k ∈ numT N sz t ((i : Int)).toNat := hk
      rw [Int.toNat_natCast] at hk'
      exact (numTlt hr k hk').1
  have CN := hid (fun w => dnums_any ⟨f, 0, none⟩ ti sz w)
  have CS := hid (fun (w9 : World) (hc : NmI (w9.heap.size + 1) (w9.heap.size + 1 + 1) w9.heap.size f g b N A c tv ti sz (((w9.alloc (.cells #[.pointer (some ⟨f, 0, none⟩)] 27)).alloc (.cells #[.int .i64 ti] 3)).alloc (.cells #[.int .i64 sz] 3))) =>
    dsorted_any (L := numO N sz (ti, T)) (enters_of Tryz.func48 (by kernel_rfl) rfl) (nums_walk hsz hT (by omega) _ hc) (Below.refl _ _) hc.lt (by omega))
  rw [← hL] at CS hnl ⊢
  have HFO := hid h; have HFR := hid hfr; have HNL := hid hnl
  clear h hfr hT hsm hnl htb hky hcr hL
  have hsz2 : ¬ sz < 0 := by omega
  unfold SnA
  unfold hV at CR
  go_enter Tryz.func12, Tryz.ntmps12
  go_upto_region 2 with (first
    | (go_at_call 8; refine CR.out.mono ?_; rintro e w1 ⟨rfl, hb⟩; have B1 := hid hb; clear hb)
    | (refine wpList_store_row rfl 25 (.tmp 8) (.tmp 17) rfl w1.heap.size (kc (hsO T)) rfl rfl 25 Z (Blk.new w1 25 Z) HKI.out HKZ.out (kc_one _) ?_))
  have B2 : Hid (Below w.heap.size w ((w1.alloc (.cells Z 25)).setRow w1.heap.size (kc (hsO T)))) := below_setRow (B1.out.alloc B1.out.size _) B1.out.size _
  generalize (w1.alloc (.cells Z 25)).setRow w1.heap.size (kc (hsO T)) = w2 at B2 ⊢
  clear B1 CR
  go_upto_region 5 with (fail)
  have K1 : Hid (Blk (w2.alloc (.cells #[.pointer (some ⟨f, 0, none⟩)] 27)) w2.heap.size 27 #[.pointer (some ⟨f, 0, none⟩)]) := Blk.new w2 27 _
  have S1 : (w2.alloc (.cells #[.pointer (some ⟨f, 0, none⟩)] 27)).heap.size = w2.heap.size + 1 := World.size_alloc ..
  have S2 : ((w2.alloc (.cells #[.pointer (some ⟨f, 0, none⟩)] 27)).alloc (.cells #[.int .i64 ti] 3)).heap.size = w2.heap.size + 1 + 1 := by rw [World.size_alloc, S1]
  have K2 : Hid (Blk ((w2.alloc (.cells #[.pointer (some ⟨f, 0, none⟩)] 27)).alloc (.cells #[.int .i64 ti] 3)) (w2.heap.size + 1) 3 #[.int .i64 ti]) := by
    have := Blk.new (w2.alloc (.cells #[.pointer (some ⟨f, 0, none⟩)] 27)) 3 #[.int .i64 ti]
    rwa [S1] at this
  have K3 : Hid (Blk (((w2.alloc (.cells #[.pointer (some ⟨f, 0, none⟩)] 27)).alloc (.cells #[.int .i64 ti] 3)).alloc (.cells #[.int .i64 sz] 3)) (w2.heap.size + 1 + 1) 3 #[.int .i64 sz]) := by
    have := Blk.new ((w2.alloc (.cells #[.pointer (some ⟨f, 0, none⟩)] 27)).alloc (.cells #[.int .i64 ti] 3)) 3 #[.int .i64 sz]
    rwa [S2] at this
  have BA : Hid (Below w2.heap.size w2 (((w2.alloc (.cells #[.pointer (some ⟨f, 0, none⟩)] 27)).alloc (.cells #[.int .i64 ti] 3)).alloc (.cells #[.int .i64 sz] 3))) := (((Below.refl _ _).alloc (Nat.le_refl _) _).alloc (by rw [S1]; omega) _).alloc (by rw [S2]; omega) _
  have HCI : Hid (NmI (w2.heap.size + 1) (w2.heap.size + 1 + 1) w2.heap.size f g b N A c tv ti sz (((w2.alloc (.cells #[.pointer (some ⟨f, 0, none⟩)] 27)).alloc (.cells #[.int .i64 ti] 3)).alloc (.cells #[.int .i64 sz] 3))) := ⟨K2.out.alloc _, K3.out, (K1.out.alloc _).alloc _, HFO.out.below (B2.out.trans (BA.out.mono B2.out.size))⟩
  have CS2 := hid (CS.out w2 HCI.out)
  have BA2 := hid (B2.out.trans (BA.out.mono B2.out.size))
  clear K1 S1 S2 K2 K3 BA HCI CS
  unfold SoA at CS2
  go_wp2_with (first
    | (go_at_call 24; refine (CN.out _).mono ?_; rintro e w9 ⟨rfl, rfl⟩)
    | (go_at_call 23; refine CS2.out.mono ?_; rintro e w3 ⟨v29, rfl, ho, hb⟩; have HO := hid ho; have HB := hid hb; obtain ⟨A29, c29, hv⟩ := rowLen ho; obtain ⟨m, hm⟩ : ∃ m, m = L.length := ⟨_, rfl⟩; have HM := hid hm; rw [← hm] at hv; subst hv; clear ho hb hm))
  have HSLN : Hid ((sortI L).length = m) := by show _ = _; rw [sortI_len, HM.out]
  have I3 : Hid (SnI w N (sortI L) (.slice A29 m c29) 0 (.slice none 0 0) w3) := ⟨by have := own_weak HO.out BA2.out.size; rw [HSLN.out]; rw [← HM.out] at this; exact this, OwR.nil _ _, BA2.out.trans (HB.out.mono BA2.out.size)⟩
  have HMB : Hid (m < 90000) := by show _ < _; rw [HM.out]; exact HNL.out
  clear HO HB BA2 CS2 CN HNL B2
  have hmb := HMB.out
  go_loopw [10, 31] (fun s10 s31 wr => ∃ (j : Nat) (A10 : Option Addr) (c10 : Nat), j ≤ m ∧ s10 = .slice A10 j c10 ∧ s31 = .int .i64 (j : Nat) ∧ Hid (SnI w N (sortI L) (.slice A29 m c29) j (.slice A10 j c10) wr)) (fun _ s31 _ => m - (intOf s31).toNat)
  case atStart => exact ⟨0, none, 0, Nat.zero_le _, rfl, rfl, I3⟩
  case round =>
    obtain ⟨j, A10, c10, hj, rfl, rfl, FI⟩ := hrel
    clear I3
    by_cases hlt : j < m
    · have hlt2 : (j : Int) < m := by omega
      have hjl : j < (sortI L).length := by rw [HSLN.out]; exact hlt
      obtain ⟨z, hz⟩ : ∃ z, (sortI L)[j]? = some z := ⟨_, List.getElem?_eq_getElem hjl⟩
      obtain ⟨k, hkL, hzk⟩ := sortI_mem (List.mem_of_getElem? hz)
      subst hzk
      have HZ' := hid hz
      obtain ⟨hrw, hcd⟩ := drow_any (HFO.out.below FI.out.bl) HFR.out (HLL.out k hkL)
      have CD := hid hcd; have HRW := hid hrw
      have srt := FI.out.srt
      rcases srt.2 with ⟨_, h0⟩ | ⟨gs, cap, cur, hv, hbs, hh, hnc, hcm, hcs, htk⟩
      · exfalso; omega
      injection hv with hA hm2 hc2
      subst hA
      have ce : wr.cell? ⟨gs, j, none⟩ = some (.int .i64 (k : Int)) := by
        have h2 := srt.cells (g := gs) rfl j (.int .i64 (k : Int)) (by unfold i64s; rw [List.getElem?_map, hz]; rfl)
        rw [Addr.add_lit, Nat.zero_add] at h2
        exact h2
      have HST := hid (fun (w5 : World) (h5 : SnI w N (sortI L) (.slice (some ⟨gs, 0, none⟩) m c29) j (.slice A10 j c10) w5) (x : World) v' (h1 : OwR w.heap.size x v' (rowsS N ((sortI L).take j) ++ [rowN N ((k : Int)).toNat])) (h2 : w5.grownBy x (Value.slice A10 j c10).ownBlock) => h5.step hz h1 h2)
      rw [Int.toNat_natCast] at HST
      have HJL : Hid ((rowsS N ((sortI L).take j)).length = j) := by
        show _ = _
        unfold rowsS
        rw [List.length_map, List.length_take]; omega
      clear srt hm2 hc2 hbs hh hnc hcm hcs htk hz hcd hrw hkL hjl
      go_wp2_with (first
        | (go_at_call 25; refine CD.out.mono ?_; rintro e w5 ⟨rfl, hb⟩; have F5 := hid (FI.out.below hb); clear hb)
        | (refine wpList_drow_one rfl (.tmp 38) rfl (rowN N k) HRW.out rfl ?_)
        | (at_builtin; refine wpList_append_drow rfl (.tmp 35) (.tmp 39) rfl w.heap.size (rowsS N ((sortI L).take j)) (.slice A10 j c10) rfl F5.out.ow (rowN N k) HRW.out rfl (by rw [HJL.out]; omega) F5.out.bl.size ?_; intro v9 w9 how9 hg9; have F9 := hid (HST.out w5 F5.out w9 v9 how9 hg9); obtain ⟨A9, c9, hv9⟩ := how9.len; replace hv9 : v9 = .slice A9 (j + 1) c9 := (by rw [hv9, List.length_append, HJL.out]; rfl); subst hv9; clear how9 hg9))
      go_roundw
      case rel => exact ⟨j + 1, A9, c9, by omega, rfl, by go_num, F9⟩
      case measure => simp [intOf]; omega
    · obtain rfl : j = m := by omega
      have hnl : ¬ ((j : Int) < (j : Int)) := by omega
      have HFI := hid FI.out.ow; have HBL := hid FI.out.bl
      clear FI
      go_wp2
      go_ret2
      exact ⟨_, rfl, by have h := HFI.out; rw [← HSLN.out, List.take_length] at h; rw [← HSLN.out]; exact h, HBL.out⟩
end Go.Proofs.YtjhaamffgkialaaGreatDoor
