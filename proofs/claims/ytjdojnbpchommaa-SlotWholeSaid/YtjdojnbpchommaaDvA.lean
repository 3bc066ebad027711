/-
  What this file is for: a write as a value, and as a slice of one; appending to a row, and where the row then lies. Nothing of the program is walked here.
-/
import Derived.Test.YtjdojnbpchommaaDvR
import Derived.Great.BuildSlice
import Derived.Laws.OwnMore
namespace Go.Proofs.Ytjdojnbpchommaa
open Go.ChangeShapes Go.WideShapes Go.ChangeAt Go.RowKit
set_option linter.unusedVariables false
set_option maxRecDepth 20000

theorem fold_put (off : Nat) : ∀ (vs : List Value) (k : Nat) (cs : Array Value), (vs.zipIdx k).foldl (fun cs x => cs.setIfInBounds (off + x.2) x.1) cs = putRow cs (off + k) vs
  | [], _, _ => rfl
  | v :: r, k, cs => by
    rw [List.zipIdx_cons, List.foldl_cons, fold_put off r (k + 1)]
    rfl
theorem fold_put_arr (off : Nat) (vs : Array Value) (cs : Array Value) : vs.zipIdx.foldl (fun cs x => cs.setIfInBounds (off + x.2) x.1) cs = putRow cs off vs.toList := by
  rw [← Array.foldl_toList, Array.toList_zipIdx]
  exact fold_put off vs.toList 0 cs
theorem info_write : (Try.prog.info? 69).map (fun i => (i.zero, i.size, i.bytes)) = some (some (.agg (Value.int .i64 0 :: u8s zpg).toArray), 129, 136) := by kernel_rfl
theorem write_places : ∃ fields, Try.prog.underlying 69 = some (.struct fields) ∧ fields.toList.mapM (fun f => (Try.prog.info? f.type).map fun i => (f.offset, i.size)) = some [(0, 1), (1, 128)] := ⟨_, Try.underlying69, by kernel_rfl⟩
theorem wc1_len {q : Wr} (h : q.2.length = 128) : (wc1 q).length = 129 := by unfold wc1; rw [List.length_cons, u8s_length, h]
theorem wc1_one (q : Wr) : ∀ v ∈ wc1 q, v.oneCell' = true := fun v hv => by
  rcases List.mem_cons.1 hv with rfl | hv
  · rfl
  · exact u8s_one _ v hv
/-- a write as a struct -/
theorem write_built (i : Nat) (p : List Int) (hp : p.length = 128) : Try.prog.built 69 [(0, .int .i64 i), (1, .agg (u8s p).toArray)] = some (wc1 (i, p)).toArray := by
  obtain ⟨i0, hi, hz0, hz1, hz2⟩ := info_parts info_write
  obtain ⟨fields, hu, hpl⟩ := write_places
  have hl : (u8s p).length = 128 := by rw [u8s_length, hp]
  unfold Program.built
  rw [hi, hu]
  simp only [hz0, hpl]
  have hzl : (Value.int .i64 0 :: u8s zpg).length = 129 := by rw [List.length_cons, u8s_length]; rfl
  generalize Value.int .i64 0 :: u8s zpg = Z at hzl
  unfold Instr.fill
  simp only [List.getElem?_toArray, List.getElem?_cons_zero]
  rw [if_neg (by simp [Value.cells, hzl]), fold_put_arr]
  unfold Instr.fill
  simp only [List.getElem?_toArray, List.getElem?_cons_succ, List.getElem?_cons_zero]
  rw [if_neg (by simp [Value.cells, hl, putRow_size, hzl]), fold_put_arr]
  unfold Instr.fill
  congr 1
  apply Array.ext_getElem?
  intro j
  have e1 : (Value.agg (u8s p).toArray).cells.toList = u8s p := rfl
  have e2 : (Value.int .i64 (i : Int)).cells.toList = [Value.int .i64 i] := rfl
  have e3 : (Value.agg Z.toArray).cells = Z.toArray := rfl
  rw [e1, e2, e3, putRow_at _ _ _ _ (by rw [putRow_size, hl]; simp; omega), putRow_at _ _ _ _ (by simp; omega), hl]
  simp only [List.getElem?_toArray]
  unfold wc1
  cases j with
  | zero => rw [if_neg (by omega), if_pos (by simp)]; rfl
  | succ j =>
    by_cases hj : j < 128
    · rw [if_pos (by omega), List.getElem?_cons_succ, Nat.add_sub_cancel]
    · rw [if_neg (by omega), if_neg (by simp), List.getElem?_cons_succ, List.getElem?_eq_none (by omega), List.getElem?_eq_none (by simp; omega)]
/-- a slice literal of one write -/
theorem wp_write_one {o : Oper} {a : Act} {w : World} {K : Act → World → Prop} {Q : Exit → Act → World → Prop} (x : Operand) (ho : o.op = .buildSlice 60 1 #[(0, x)]) (q : Wr) (hq : q.2.length = 128) (hx : a.eval x = .agg (wc1 q).toArray)
    (h : K (a.put o.dst (.slice (some ⟨w.heap.size, 0, none⟩) 1 1)) (w.alloc (.cells (wc1 q).toArray 69))) : o.wp Try.prog a w K Q := by
  obtain ⟨i0, hi, hz0, hz1, hz2⟩ := info_parts info_write
  have hl := wc1_len hq
  refine wp_buildSlice 60 69 1 #[(0, x)] ho (wc1 q).toArray i0 _ Try.underlying60 hi hz0 (by rw [hz1]; decide) (by rw [hz1]; decide) ?_ h
  have hp : (#[(0, x)].map fun ((i, x) : Nat × Operand) => (i, a.eval x)).toList = [(0, Value.agg (wc1 q).toArray)] := by simp [hx]
  rw [hp, hz1]
  have h := Great.fill_whole (s := 129) (by decide) [Value.agg (wc1 q).toArray] ((Array.range (1 * 129)).map ((Value.agg (Value.int .i64 0 :: u8s zpg).toArray).cells[· % (Value.agg (Value.int .i64 0 :: u8s zpg).toArray).cells.size]!)) (fun v hv => by
    rw [List.mem_singleton.1 hv]; exact hl) (by simp)
  simp only [List.flatMap_cons, List.flatMap_nil, List.append_nil] at h
  exact h
/-- where a row lies behind an append: where it lay, or in new memory -/
def Where (v v' : Value) (w w' : World) : Prop := ∀ k, v'.ownBlock = some k → v.ownBlock = some k ∨ (w.heap.size ≤ k ∧ k < w'.heap.size)
theorem run_append_where {P : Program} (w : World) (t ty e : TypeId) (i : TypeInfo) (z : Value) (size bytes : Nat) (ht : P.underlying t = some (.slice e)) (hi : P.info? e = some i) (hz : i.zero = some z)
    (hsize : i.size = size) (hby : i.bytes = bytes) (hzs : z.cells.size = size) (hsz : 0 < size)
    (v : Value) (n : Nat) (xs : List Value) (hown : w.ownsRow 0 e size v n xs)
    (a : Addr) (m c : Nat) (news : List Value) (hl : news.length = m * size) (hnews : ∀ j u, news[j]? = some u → w.cell? (a.add j) = some u) (h1 : ∀ u ∈ news, u.oneCell' = true)
    (h63 : n + m ≤ maxLen) (hbytes : (n + m) * bytes ≤ 140737488355328) :
    ∃ v' w', (Builtin.append_ #[t, t] ty #[v, .slice (some a) m c]).run P w = .ok v' w' ∧ w'.ownsRow 0 e size v' (n + m) (xs ++ news) ∧ w.grownBy w' v.ownBlock ∧ Where v v' w w' := by
  obtain ⟨v', w', hr, h2, h3, h4⟩ := run_append_own (P := P) w 0 t ty e i z size bytes ht hi hz hsize hby hzs hsz v n xs hown a m c news hl hnews h1 h63 hbytes (Nat.zero_le _)
  refine ⟨v', w', hr, h2, h3, fun k hk => ?_⟩
  have hlt := (h2.lt k hk).2
  rcases hown.2 with ⟨rfl, rfl⟩ | ⟨g, cap, cur, rfl, _, hg, hnc, hcm, hcs, htk⟩
  · obtain ⟨v2, w2, hr2, g2, _, _⟩ := run_append_own (P := P) w w.heap.size t ty e i z size bytes ht hi hz hsize hby hzs hsz (.slice none 0 0) 0 xs ⟨hown.1, .inl ⟨rfl, rfl⟩⟩ a m c news hl hnews h1 h63 hbytes (Nat.le_refl _)
    rw [hr] at hr2
    injection hr2 with e1 e2
    subst e1; subst e2
    exact .inr ⟨(g2.lt k hk).1, hlt⟩
  · by_cases hroom : n + m ≤ cap
    · obtain ⟨w2, hr2, _⟩ := run_append_fits (P := P) w 0 t ty e i size ht hi hsize g n cap xs hown a m c news hl hnews h1 hroom
      rw [hr] at hr2
      injection hr2 with e1 e2
      left
      rw [e1] at hk
      exact hk
    · subst hsize; subst hby
      have hr2 := run_append_grow (P := P) w t ty e i z ht hi hz ⟨g, 0, none⟩ n cap xs hown.1 (hown.cells (g := g) rfl) a m c news hl hnews (by omega) (by unfold maxLen at h63; omega) (growslice_fits (by omega) hbytes)
      rw [hr] at hr2
      injection hr2 with e1 e2
      rw [e1] at hk
      injection hk with hk
      exact .inr ⟨Nat.le_of_eq hk, hlt⟩
theorem wp_append_where {P : Program} {w : World} {o : Oper} {a : Act} {K : Act → World → Prop} {Q : Exit → Act → World → Prop} (s x : Operand) (t : TypeId)
    (ho : o.op = .call { callee := .builtin .append, args := #[s, x], argTypes := #[t, t] }) (e : TypeId) (i : TypeInfo) (z : Value) (size bytes : Nat) (ht : P.underlying t = some (.slice e)) (hi : P.info? e = some i) (hz : i.zero = some z)
    (hsize : i.size = size) (hby : i.bytes = bytes) (hzs : z.cells.size = size) (hsz : 0 < size)
    (v : Value) (n : Nat) (xs : List Value) (hs : a.eval s = v) (hown : w.ownsRow 0 e size v n xs)
    (ad : Addr) (m c : Nat) (news : List Value) (hx : a.eval x = .slice (some ad) m c) (hl : news.length = m * size) (hnews : ∀ j u, news[j]? = some u → w.cell? (ad.add j) = some u) (h1 : ∀ u ∈ news, u.oneCell' = true)
    (h63 : n + m ≤ maxLen) (hbytes : (n + m) * bytes ≤ 140737488355328)
    (h : ∀ v' w', w'.ownsRow 0 e size v' (n + m) (xs ++ news) → w.grownBy w' v.ownBlock → Where v v' w w' → K (a.put o.dst v') w') : o.wp P a w K Q := by
  obtain ⟨v', w', hr, h2, h3, h4⟩ := run_append_where (P := P) w t o.type e i z size bytes ht hi hz hsize hby hzs hsz v n xs hown ad m c news hl hnews h1 h63 hbytes
  unfold Oper.wp execOp
  simp only [ho, resolve, invoke, builtin, Sem.run_bind, Sem.run_pure, Result.andThen_ok, List.map_toArray, List.map_cons, List.map_nil, hs, hx, hr]
  exact h v' w' h2 h3 h4
theorem OnlyS.grown {S : Nat → Prop} {a w w' : World} {row : Option Nat} (h : OnlyS S a w) (hg : w.grownBy w' row) (hr : ∀ k, row = some k → S k ∨ a.heap.size ≤ k) : OnlyS S a w' :=
  ⟨hg.os.trans h.os, hg.tape.trans h.tape, hg.output.trans h.output, Nat.le_trans h.size hg.size, fun k hk hn => (hg.block k (Nat.lt_of_lt_of_le hk h.size) (fun e => by
    rcases hr k e.symm with h1 | h1
    · exact hn h1
    · omega)).trans (h.block k hk hn)⟩
/-- a write more waits -/
theorem wp_append_wr {w : World} {o : Oper} {a : Act} {K : Act → World → Prop} {Q : Exit → Act → World → Prop} (s x : Operand) (ho : o.op = .call { callee := .builtin .append, args := #[s, x], argTypes := #[60, 60] })
    (v : Value) (U : List Wr) (n : Nat) (hn : n = U.length) (hs : a.eval s = v) (hown : w.ownsRow 0 69 129 v n (wcs U)) (gq c : Nat) (q : Wr) (hx : a.eval x = .slice (some ⟨gq, 0, none⟩) 1 c) (hq : Blk w gq 69 (wc1 q).toArray) (hl : q.2.length = 128) (hlen : n < 1000000)
    (h : ∀ v' w', w'.ownsRow 0 69 129 v' (n + 1) (wcs (U ++ [q])) → w.grownBy w' v.ownBlock → Where v v' w w' → K (a.put o.dst v') w') : o.wp Try.prog a w K Q := by
  obtain ⟨i0, hi, hz0, hz1, hz2⟩ := info_parts info_write
  refine wp_append_where s x 60 ho 69 i0 _ 129 136 Try.underlying60 hi hz0 hz1 hz2 (by rfl) (by decide) v n (wcs U) hs hown ⟨gq, 0, none⟩ 1 c (wc1 q) hx (by rw [wc1_len hl]) (fun j u hu => ?_) (wc1_one q) (by unfold maxLen; omega) (by omega) (fun v' w' h1 h2 h3 => h v' w' ?_ h2 h3)
  · rw [Addr.add_lit, Nat.zero_add, hq.cell, List.getElem?_toArray]; exact hu
  · have e : wcs (U ++ [q]) = wcs U ++ wc1 q := flat_snoc U q
    rw [e]; exact h1
end Go.Proofs.Ytjdojnbpchommaa
