/-
  What this file is for: a list of numbers that is read; a write laid in a block of its own; some first bytes copied into a page; what stays while a restart goes over the writes. Nothing of the program is walked here.
-/
import Derived.Test.YtjdojnbpchommaaDvT
namespace Go.Proofs.Ytjdojnbpchommaa
open Go.ChangeShapes Go.WideShapes Go.ChangeAt Go.RowKit
set_option linter.unusedVariables false
set_option maxRecDepth 20000

/-- the slice at A holds the numbers l -/
def Ip (w : World) (A : Option Addr) (l : List Int) : Prop := 0 < l.length → ∃ ad, A = some ad ∧ ∀ j, j < l.length → w.cell? (ad.add j) = some (.int .i64 (l[j]?.getD 0))
theorem Ip.only {w w' : World} {A : Option Addr} {l : List Int} {R : Nat → Prop} (h : Ip w A l) (ho : OnlyS R w w') (hA : 0 < l.length → ∀ a, A = some a → ¬ R a.block) : Ip w' A l := fun hx => by
  obtain ⟨ad, e, hc⟩ := h hx
  have hlt := block_lt_of_cell (hc 0 hx)
  rw [add_block] at hlt
  exact ⟨ad, e, fun j hj => (World.cell?_of_block (w := w) (ho.block _ (by rw [add_block]; exact hlt) (by rw [add_block]; exact hA hx _ e))).trans (hc j hj)⟩
theorem Ip.below {w w' : World} {A : Option Addr} {l : List Int} (h : Ip w A l) (hb : Below w.heap.size w w') : Ip w' A l := fun hx => by
  obtain ⟨ad, e, hc⟩ := h hx
  exact ⟨ad, e, fun j hj => (hb.cell (block_lt_of_cell (hc j hj))).trans (hc j hj)⟩
theorem Ip.nil (w : World) (A : Option Addr) : Ip w A [] := fun h => by simp at h
theorem load_at {P : Program} {ops : Array Oper} {rest : List Oper} {o : Oper} {a : Act} {w : World} {Q : Exit → Act → World → Prop} (hw : Region.wanted o (yielded ops a.tmps) = true) (ty : TypeId) (x : Operand) (ho : o.op = .load ty x)
    (b off : Nat) (hx : a.eval x = .pointer (some ⟨b, off, none⟩)) (cs : List Value) (d : TypeDesc) (hc : w.rangeAt b off cs) (hu : P.underlying ty = some d) (hd : d.isRow = true) (hi : (P.info? ty).map (·.size) = some cs.length)
    (A : Array Value) (hA : cs.toArray = A) (h : wpList P ops Q rest (a.put o.dst (.agg A)) w) : wpList P ops Q (o :: rest) a w := by
  subst hA
  unfold wpList
  rw [if_pos hw]
  exact Or.inl (wp_load_mid ty x ho b off hx cs d hc hu hd hi h)
theorem zero_write : ∃ Z : Array Value, Z.size = 129 ∧ (¬ Z = #[]) ∧ ∀ w : World, Sem.run Try.prog (zeroValue 69) w = Result.ok (.agg Z) w := by
  refine ⟨(Value.int .i64 0 :: u8s zpg).toArray, rfl, ?_, fun w => by kernel_rfl⟩
  intro h
  have := congrArg Array.size h
  simp at this
theorem only_new {R : Nat → Prop} {w wr : World} (h : OnlyS R w wr) (o : Obj) (cs : Array Value) : OnlyS R w ((wr.alloc o).setRow wr.heap.size cs) :=
  ⟨h.os, h.tape, h.output, by have := h.size; simp; omega, fun k hk hn => ((setRow_other _ _ _ _ (by have := h.size; omega)).trans (Below.heap_alloc _ _ _ (Nat.lt_of_lt_of_le hk h.size))).trans (h.block k hk hn)⟩
/-- a write as it stands in its row -/
theorem row_whole {w : World} {h m k n : Nat} {C : Array Value} {U : List Wr} {q : Wr} (hC : Blk w h 69 C) (ht : C.toList.take (m * 129) = wcs U) (hU : QOk n U) (hk : U[k]? = some q) : w.rangeAt h (k * 129) (wc1 q) := fun j v hv => by
  cases j with
  | zero => rw [Nat.add_zero, row_at hC ht hU hk]; exact hv
  | succ j => rw [← row_range hC ht hU hk j v hv]; congr 2; omega
theorem wr_info {q : Wr} (h : q.2.length = 128) : (Try.prog.info? 69).map (·.size) = some (wc1 q).length := by rw [wc1_len h]; kernel_rfl
theorem wr_info2 {q : Wr} (h : q.2.length = 128) : (Try.prog.info? 69).map (·.size) = some (wc1 q).toArray.size := by rw [List.size_toArray]; exact wr_info h
theorem wr_all1 (q : Wr) : (wc1 q).toArray.all (·.oneCell') = true := all_oneCell_toArray (wc1_one q)
theorem wpList_copy_page {ops : Array Oper} {rest : List Oper} {o : Oper} {a : Act} {w : World} {Q : Exit → Act → World → Prop} (hgd : o.guard = none) (d s : Operand)
    (ho : o.op = .call { callee := .builtin .copy, args := #[d, s], argTypes := #[31, 31] }) (g i t hw : Nat) (hd : a.eval d = .slice (some ⟨g, i * 128, none⟩) t 128) (hs : a.eval s = .slice (some ⟨hw, 1, none⟩) 128 128)
    (P : List (List Int)) (q : Wr) (hg : Blk w g 67 (pcs P).toArray) (hP : PgOk P) (hi : i < P.length) (hh : Blk w hw 69 (wc1 q).toArray) (hq : q.2.length = 128) (ht : t ≤ 128)
    (h : ∀ w', Blk w' g 67 (pcs (P.set i (mx (P[i]?.getD []) q.2 t))).toArray → (∀ k, k ≠ g → w'.heap[k]? = w.heap[k]?) → OnlyS (· = g) w w' → wpList Try.prog ops Q rest (a.put o.dst (goInt t)) w') : wpList Try.prog ops Q (o :: rest) a w := by
  refine wpList_plain hgd fun K hK => ?_
  have hl : (u8s (q.2.take t)).length = t := by rw [u8s_length, List.length_take, hq]; omega
  have hpl := pcs_len hP
  have hrun := run_copy_cells (P := Try.prog) w 31 31 o.type 5 g (i * 128) t 128 ⟨hw, 1, none⟩ 128 128 (u8s (q.2.take t)) Try.underlying31 (by kernel_rfl) (by rw [hl]; exact (Nat.min_eq_right ht).symm)
    (fun j v hv => by
      have hj : j < t := by
        rcases Nat.lt_or_ge j t with h1 | h1
        · exact h1
        · rw [List.getElem?_eq_none (by rw [hl]; exact h1)] at hv; cases hv
      rw [Addr.add_mid, hh.cell, List.getElem?_toArray, ← hv, Nat.add_comm 1 j]
      unfold wc1 u8s
      rw [List.getElem?_cons_succ, List.getElem?_map, List.getElem?_map, List.getElem?_take, if_pos hj])
    (fun j hj => by
      rw [hl] at hj
      rw [hg.cell, List.getElem?_toArray, Nat.mul_comm i 128, pcs_at hP hi j (by omega), u8s_get _ _ (by rw [hP.at hi]; omega)]; rfl)
    (fun j _ => hg.frozen _) (u8s_one _)
  rw [hl] at hrun
  unfold Oper.wp
  simp only [execOp, ho, resolve, invoke, builtin, hd, hs, hrun, Result.andThen_ok, Sem.run_bind, Sem.run_pure, List.map_toArray, List.map_cons, List.map_nil]
  refine hK _ _ (h _ ?_ (fun k hk => other_cells _ _ _ _ hk) (OnlyS.setCells (S := fun x => x = g) _ (OnlyS.refl _ _) (.inl rfl) _))
  have := hg.putCells (u8s (q.2.take t)) (i * 128)
  rwa [putRow_whole (by rw [hl, hpl]; omega), Nat.mul_comm i 128, pcs_mx hP hi hq ht, ← Nat.mul_comm i 128] at this
end Go.Proofs.Ytjdojnbpchommaa
