/-
  What this file is for: what stays while a write to the code's device is done. Nothing of the program is walked here.
-/
import Derived.Test.YtjdojnbpchommaaDvA
namespace Go.Proofs.Ytjdojnbpchommaa
open Go.ChangeShapes Go.WideShapes Go.ChangeAt Go.RowKit
set_option linter.unusedVariables false
set_option maxRecDepth 20000

/-- bytes that are read lie at an address without a spot -/
theorem rp_plain {w : World} {A : Option Addr} {xs : List Int} (h : Rp w none A xs) (hx : 0 < xs.length) : ∃ b off, A = some ⟨b, off, none⟩ ∧ b < w.heap.size ∧ w.rangeAt b off (u8s xs) := by
  obtain ⟨⟨b, off, s⟩, rfl, _, hc⟩ := h hx
  have h0 := hc 0 hx
  have hs : s = none := by
    cases s with
    | none => rfl
    | some v =>
      unfold World.cell? Addr.add at h0
      simp at h0
      split at h0
      · cases h0
      · cases h0
  subst hs
  refine ⟨b, off, rfl, block_lt_of_cell h0, fun j v hv => ?_⟩
  have hj : j < xs.length := by
    rcases Nat.lt_or_ge j xs.length with h1 | h1
    · exact h1
    · rw [List.getElem?_eq_none (by rw [u8s_length]; exact h1)] at hv; cases hv
  have := hc j hj
  rw [Addr.add_mid] at this
  rw [this, ← hv, u8s_get _ _ hj]
theorem page_range {w : World} {g : Nat} {P : List (List Int)} (h : Blk w g 67 (pcs P).toArray) (hP : PgOk P) {i : Nat} (hi : i < P.length) : w.rangeAt g (i * 128) (u8s (P[i]?.getD [])) := fun j v hv => by
  have h128 := hP.at hi
  have hj : j < 128 := by
    rcases Nat.lt_or_ge j 128 with h1 | h1
    · exact h1
    · rw [List.getElem?_eq_none (by rw [u8s_length, h128]; exact h1)] at hv; cases hv
  rw [h.cell, Nat.mul_comm i 128, List.getElem?_toArray, pcs_at hP hi j hj, hv]
theorem there_page {w : World} {g : Nat} {P : List (List Int)} (h : Blk w g 67 (pcs P).toArray) (hP : PgOk P) {i : Nat} (hi : i < P.length) {X : List Int} (hX : X.length = 128) : w.there g (i * 128) (u8s X).toArray.size := fun j hj => by
  rw [List.size_toArray, u8s_length, hX] at hj
  refine ⟨?_, h.frozen _⟩
  have h128 := hP.at hi
  rw [h.cell, Nat.mul_comm i 128, List.getElem?_toArray, pcs_at hP hi j hj, u8s_get _ _ (by omega)]
  rfl
theorem page_put {w : World} {g : Nat} {P : List (List Int)} (h : Blk w g 67 (pcs P).toArray) (hP : PgOk P) {i : Nat} (hi : i < P.length) {X : List Int} (hX : X.length = 128) : Blk (w.setCells g (i * 128) (u8s X)) g 67 (pcs (P.set i X)).toArray := by
  have := h.putCells (u8s X) (i * 128)
  rwa [putRow_whole (by rw [u8s_length, hX, pcs_len hP]; omega), Nat.mul_comm i 128, pcs_put hP hi hX, ← Nat.mul_comm i 128] at this
theorem other_cells (w : World) (g o : Nat) (vs : List Value) {k : Nat} (hk : k ≠ g) : (w.setCells g o vs).heap[k]? = w.heap[k]? := by
  induction vs generalizing w o with
  | nil => rfl
  | cons v r ih => rw [World.setCells, ih]; exact other_set _ _ _ _ k hk
theorem size_setCells (w : World) (g o : Nat) (vs : List Value) : (w.setCells g o vs).heap.size = w.heap.size := by
  induction vs generalizing w o with
  | nil => rfl
  | cons v r ih => rw [World.setCells, ih]; simp [World.setCell]
theorem own_cells {w : World} {g base size n : Nat} {t : TypeId} {cs : Array Value} {v : Value} {xs : List Value} (h : w.ownsRow base 69 size v n xs) (hb : Blk w g t cs) (hne : t ≠ 69) (o : Nat) (vs : List Value) : (w.setCells g o vs).ownsRow base 69 size v n xs :=
  own_same h (fun k _ hk => other_cells w g o vs (fun e => own_ne h hb hne (by rw [hk, e])))
theorem arrayAt_page (b o c : Nat) (w : World) : (Instr.arrayAt 67 (.slice (some ⟨b, o, none⟩) 128 c)).run Try.prog w = .ok (.pointer (some ⟨b, o, none⟩)) w := by
  unfold Instr.arrayAt
  simp [Sem.run_bind, Sem.run_pure, Result.andThen]
theorem page_info {X : List Int} (h : X.length = 128) : (Try.prog.info? 67).map (·.size) = some (u8s X).length := by rw [u8s_length, h]; kernel_rfl
theorem page_info2 {X : List Int} (h : X.length = 128) : (Try.prog.info? 67).map (·.size) = some (u8s X).toArray.size := by rw [List.size_toArray]; exact page_info h
theorem u8s_all1 (X : List Int) : (u8s X).toArray.all (·.oneCell') = true := all_oneCell_toArray (u8s_one X)

theorem slice_of {w : World} {base e size n : Nat} {v : Value} {xs : List Value} (h : w.ownsRow base e size v n xs) : ∃ A c, v = .slice A n c := by
  rcases h.2 with ⟨h4, h5⟩ | ⟨g, cap, cur, hv, _⟩
  · exact ⟨none, 0, by rw [h4, h5]⟩
  · exact ⟨_, _, hv⟩
theorem exec_build {P : Program} {o : Oper} {a : Act} (t : TypeId) (parts : Array (Nat × Operand)) (ho : o.op = .build t parts) (cells : Array Value) (hb : P.built t (parts.map fun (i, x) => (i, a.eval x)).toList = some cells) (w : World) : (execOp a.eval o).run P w = .ok (.value (.agg cells)) w := by
  unfold execOp
  simp only [ho, Sem.run_bind, run_build w t _ cells hb, Result.andThen_ok]
  rfl
/-- what the loads of the first region need -/
structure WS9 (b g n off : Nat) (p : List Int) (w' : World) : Prop where
  c0 : w'.cell? ⟨b, 0, none⟩ = some (.slice (some ⟨g, 0, none⟩) n n)
  rg : w'.rangeAt g off (u8s p)
theorem ws9_of {w' : World} {b g n i : Nat} {p : List Int} {vW : Value} {fz D : Bool} {fu : Int} {P : List (List Int)} (h1 : Blk w' b 62 (devC g n vW fz fu D)) (h2 : Blk w' g 67 (pcs P).toArray) (h3 : PgOk P ∧ i < P.length ∧ p = P[i]?.getD []) : WS9 b g n (i * 128) p w' :=
  ⟨h1.cell 0, by rw [h3.2.2]; exact page_range h2 h3.1 h3.2.1⟩
theorem WS9.alloc {b g n off : Nat} {p : List Int} {w' : World} (h : WS9 b g n off p w') (o : Obj) : WS9 b g n off p (w'.alloc o) :=
  ⟨by rw [World.cell?_alloc_lt _ _ _ (block_lt_of_cell h.c0)]; exact h.c0, World.rangeAt_alloc h.rg o⟩
/-- what the loads of the second region need -/
structure WS10 (b g n ab ao : Nat) (X : List Int) (w' : World) : Prop where
  c0 : w'.cell? ⟨b, 0, none⟩ = some (.slice (some ⟨g, 0, none⟩) n n)
  rg : w'.rangeAt ab ao (u8s X)
theorem ws10_of {w' : World} {b g n ab ao : Nat} {X : List Int} {vW : Value} {fz D : Bool} {fu : Int} (h1 : Blk w' b 62 (devC g n vW fz fu D)) (h2 : w'.rangeAt ab ao (u8s X)) : WS10 b g n ab ao X w' := ⟨h1.cell 0, h2⟩
theorem xr_only {R : Nat → Prop} {w w' : World} {ab ao : Nat} {X : List Int} (h : w.rangeAt ab ao (u8s X)) (ho : OnlyS R w w') (hA : ¬ R ab) : w'.drew.rangeAt ab ao (u8s X) := fun j v hv => by
  have h1 := h j v hv
  have hlt : ab < w.heap.size := block_lt_of_cell h1
  exact (World.cell?_of_block (a := ⟨ab, ao + j, none⟩) (w := w) (w' := w') (ho.block ab hlt hA)).trans h1
theorem ws10_put {R : Nat → Prop} {w' : World} {b g n ab ao : Nat} {X : List Int} {vW : Value} {fz D : Bool} {fu : Int} (h : WS10 b g n ab ao X w') {o : Nat} {vs : List Value} (h1 : Blk (w'.setCells g o vs) b 62 (devC g n vW fz fu D)) (hA : ¬ R ab) (hg : R g) : WS10 b g n ab ao X (w'.setCells g o vs) :=
  ⟨h1.cell 0, fun j v hv => (World.cell?_of_block (a := ⟨ab, ao + j, none⟩) (other_cells w' g o vs (fun e => hA (by rw [show ab = g from e]; exact hg)))).trans (h.rg j v hv)⟩

/-- what a write that is done answers -/
def WAns (R : Nat → Prop) (b : Nat) (L : List (List Int)) (Q : List Wr) (F : Int) (w : World) (e : Ending) (w' : World) : Prop := e = .returned (.int .i64 0) ∧ DAt w' (Nw R w w') b L Q F false ∧ OnlyS R w w'
theorem wr_done {R : Nat → Prop} {w w' : World} {b g n m i : Nat} {L P : List (List Int)} {Q U : List Wr} {F : Int} {vN : Value} {fz : Bool} {fu : Int} {p X : List Int}
    (h1 : Blk w' b 62 (devC g n vN fz fu false)) (h2 : Blk w' g 67 (pcs (P.set i X)).toArray) (h3 : w'.ownsRow 0 69 129 vN (m + 1) (wcs (U ++ [(i, p)])))
    (hw : ∀ k, vN.ownBlock = some k → R k ∨ (w.heap.size ≤ k ∧ k < w'.heap.size)) (hR : R b ∧ R g) (hF : fz = decide (0 ≤ F) ∧ (0 ≤ F → fu = F) ∧ F ≤ 9223372036854775807)
    (hE : P = pg L Q ∧ U = un L Q ∧ p = (pg L Q)[i]?.getD [] ∧ n = L.length ∧ m = Q.length) (hL : PgOk L ∧ QOk L.length Q ∧ L.length ≤ 4096) (hi : i < P.length) (hX : X.length = 128) : DAt w' (Nw R w w') b L (Q ++ [(i, X)]) F false := by
  obtain ⟨rfl, rfl, rfl, rfl, rfl⟩ := hE
  rw [pg_length] at hi
  refine ⟨g, vN, fz, fu, h1, ?_, ?_, .inl hR.1, .inl hR.2, hw, hF.1, hF.2.1, hF.2.2, hL.1, hL.2.1.snoc hi hX, hL.2.2⟩
  · rw [pg_snoc]; exact h2
  · rw [un_snoc, List.length_append]; exact h3
end Go.Proofs.Ytjdojnbpchommaa
