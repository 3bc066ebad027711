/-
  What this file is for: words for blocks of memory that are known whole, for bytes that are read, and for a writer's bytes, with the plain lemmas on them. Nothing of the program is walked here.
-/
import Derived.Test.YtmdclicomneomaaRows
import Derived.WalkKit
import Derived.ProofKit
import Derived.OpenShut
namespace Go.Proofs.Ytmdclicomneomaa
open Go.ChangeShapes Go.WideShapes Go.ChangeAt Go.RowKit
set_option linter.unusedVariables false

theorem hid {p : Prop} (h : p) : Hid p := h

/-- A block that is known whole. -/
def Blk (w : World) (g : Nat) (t : TypeId) (cs : Array Value) : Prop := w.heap[g]? = some (.cells cs t (0, 0))

section
variable {w w' : World} {g : Nat} {t : TypeId} {cs : Array Value}
theorem Blk.lt (h : Blk w g t cs) : g < w.heap.size := by
  rcases Nat.lt_or_ge g w.heap.size with h1 | h1
  · exact h1
  · unfold Blk at h; rw [Array.getElem?_eq_none h1] at h; cases h
theorem Blk.cell (h : Blk w g t cs) (i : Nat) : w.cell? ⟨g, i, none⟩ = cs[i]? := cell_of_row w g i cs t (0, 0) h
theorem Blk.frozen (h : Blk w g t cs) (i : Nat) : w.frozen? ⟨g, i, none⟩ = false := by
  unfold Blk at h
  simp [World.frozen?, h]
theorem Blk.new (w : World) (t : TypeId) (cs : Array Value) : Blk (w.alloc (.cells cs t)) w.heap.size t cs := heap_alloc_new w _
theorem Blk.drew (h : Blk w g t cs) : Blk w.drew g t cs := h
theorem Blk.alloc (h : Blk w g t cs) (o : Obj) : Blk (w.alloc o) g t cs := (Below.heap_alloc w o g h.lt).trans h
theorem Blk.setd (h : Blk w g t cs) (i : Nat) (u : Value) : Blk (w.setCell ⟨g, i, none⟩ u) g t (cs.setIfInBounds i u) := by
  unfold Blk at h ⊢
  simp [World.setCell, Array.getElem?_modify, h]
theorem Blk.far (h : Blk w g t cs) {p : Addr} (hp : g ≠ p.block) (u : Value) : Blk (w.setCell p u) g t cs := (Below.heap_setCell w p u g hp).trans h
theorem Blk.same (h : Blk w g t cs) (hk : w'.heap[g]? = w.heap[g]?) : Blk w' g t cs := hk.trans h
theorem Blk.inj (h : Blk w g t cs) {t' : TypeId} {cs' : Array Value} (h' : Blk w g t' cs') : t = t' ∧ cs = cs' := by
  unfold Blk at h h'
  rw [h] at h'
  injection h' with h'
  injection h' with h1 h2
  exact ⟨h2, h1⟩
theorem Blk.ne {g' : Nat} {t' : TypeId} {cs' : Array Value} (h : Blk w g t cs) (h' : Blk w g' t' cs') (hne : t ≠ t') : g ≠ g' := by
  rintro rfl
  exact hne (h.inj h').1
end

theorem add_block (a : Addr) (n : Nat) : (a.add n).block = a.block := by unfold Addr.add; split <;> rfl

/-- Only block g, and what is new, has turned. -/
structure Only (g : Nat) (w w' : World) : Prop where
  os : w'.os = w.os
  tape : w'.tape = w.tape
  output : w'.output = w.output
  size : w.heap.size ≤ w'.heap.size
  block : ∀ k, k < w.heap.size → k ≠ g → w'.heap[k]? = w.heap[k]?
theorem Only.refl (g : Nat) (w : World) : Only g w w := ⟨rfl, rfl, rfl, Nat.le_refl _, fun _ _ _ => rfl⟩
theorem Only.trans {g : Nat} {a b c : World} (h : Only g a b) (k : Only g b c) : Only g a c :=
  ⟨k.os.trans h.os, k.tape.trans h.tape, k.output.trans h.output, Nat.le_trans h.size k.size, fun i hi hne => (k.block i (Nat.lt_of_lt_of_le hi h.size) hne).trans (h.block i hi hne)⟩
theorem Only.drew {g : Nat} {a w : World} (h : Only g a w) : Only g a w.drew := ⟨h.os, h.tape, h.output, h.size, h.block⟩
theorem Only.alloc {g : Nat} {a w : World} (h : Only g a w) (o : Obj) : Only g a (w.alloc o) :=
  ⟨h.os, h.tape, h.output, Nat.le_trans h.size (by simp), fun i hi hne => (Below.heap_alloc w o i (Nat.lt_of_lt_of_le hi h.size)).trans (h.block i hi hne)⟩
theorem Only.setCell {g : Nat} {a w : World} (h : Only g a w) {p : Addr} (hp : p.block = g ∨ a.heap.size ≤ p.block) (u : Value) : Only g a (w.setCell p u) :=
  ⟨h.os, h.tape, h.output, by simpa [World.setCell] using h.size, fun i hi hne => (Below.heap_setCell w p u i (by
    rintro rfl
    rcases hp with hp | hp
    · exact hne hp
    · omega)).trans (h.block i hi hne)⟩
theorem Only.below {g B : Nat} {w w' : World} (h : Only g w w') (hB : B ≤ w.heap.size) (hg : B ≤ g) : Below B w w' :=
  ⟨h.os, h.tape, h.output, h.size, fun k hk => h.block k (by omega) (by omega)⟩
theorem Only.of_below {B g : Nat} {w w' : World} (h : Below B w w') (hB : w.heap.size ≤ B) : Only g w w' :=
  ⟨h.os, h.tape, h.output, h.size, fun k hk _ => h.block k (by omega)⟩

/-! Bytes that are read: the slice at A holds xs, and doesn't lie in block b. -/
def Rd (w : World) (b : Nat) (A : Option Addr) (xs : List Int) : Prop :=
  0 < xs.length → ∃ ad, A = some ad ∧ ad.block ≠ b ∧ ∀ j, j < xs.length → w.cell? (ad.add j) = some (.int .u8 (xs[j]?.getD 0))
theorem Rd.lt {w : World} {b : Nat} {ad : Addr} {xs : List Int} (h : Rd w b (some ad) xs) (hx : 0 < xs.length) : ad.block < w.heap.size := by
  obtain ⟨ad', e, _, hc⟩ := h hx
  injection e with e
  subst e
  have := block_lt_of_cell (hc 0 hx)
  rwa [add_block] at this
theorem Rd.keep {w w' : World} {b : Nat} {A : Option Addr} {xs : List Int} (h : Rd w b A xs) (hk : Only b w w') : Rd w' b A xs := fun hx => by
  obtain ⟨ad, rfl, hne, hc⟩ := h hx
  have hlt := h.lt hx
  exact ⟨ad, rfl, hne, fun j hj => (World.cell?_of_block (w := w) (hk.block _ (by rw [add_block]; exact hlt) (by rw [add_block]; exact hne))).trans (hc j hj)⟩

/-! Cells put one after the other into a row. -/
theorem zip_size (l : List Value) (k : Nat) (Z : Array Value) : ((l.zipIdx k).foldl (fun cs x => cs.setIfInBounds (1 + x.2) x.1) Z).size = Z.size := by
  induction l generalizing k Z with
  | nil => rfl
  | cons v l ih => simp only [List.zipIdx_cons, List.foldl_cons, ih, Array.size_setIfInBounds]
theorem zip_get (l : List Value) (k : Nat) (Z : Array Value) (j : Nat) :
    ((l.zipIdx k).foldl (fun cs x => cs.setIfInBounds (1 + x.2) x.1) Z)[j]? = if 1 + k ≤ j ∧ j < 1 + k + l.length ∧ j < Z.size then l[j - 1 - k]? else Z[j]? := by
  induction l generalizing k Z with
  | nil => simp; omega
  | cons v l ih =>
    simp only [List.zipIdx_cons, List.foldl_cons, ih, Array.size_setIfInBounds, List.length_cons]
    by_cases h : 1 + (k + 1) ≤ j ∧ j < 1 + (k + 1) + l.length ∧ j < Z.size
    · rw [if_pos h, if_pos (by omega)]
      have e : j - 1 - k = (j - 1 - (k + 1)) + 1 := by omega
      rw [e, List.getElem?_cons_succ]
    · rw [if_neg h, Array.getElem?_setIfInBounds]
      by_cases h2 : 1 + k = j
      · subst h2
        by_cases h3 : 1 + k < Z.size
        · rw [if_pos rfl, if_pos h3, if_pos (by omega)]
          simp
        · rw [if_pos rfl, if_neg h3, if_neg (by omega), Array.getElem?_eq_none (by omega)]
      · rw [if_neg h2, if_neg (by omega)]

/-- the block that is filled: what stood ahead, then the row -/
theorem fill_row (p : Value) (Z : List Value) (hZ : Z.length = 256) (tail : Array Value) (ht : tail.size = 256) :
    ∃ cc : Array Value, Array.foldl (fun (cs : Array Value) (x : Value × Nat) => cs.setIfInBounds (1 + x.2) x.1) (p :: Z).toArray tail.zipIdx 0 256 = cc ∧ cc.size = 257 ∧ cc[0]? = some p ∧ ∀ i, i < 256 → cc[1 + i]? = tail[i]? := by
  refine ⟨_, rfl, ?_⟩
  have hz : tail.zipIdx.size = 256 := by simp [ht]
  have e : Array.foldl (fun (cs : Array Value) (x : Value × Nat) => cs.setIfInBounds (1 + x.2) x.1) (p :: Z).toArray tail.zipIdx 0 256 = (tail.toList.zipIdx 0).foldl (fun cs x => cs.setIfInBounds (1 + x.2) x.1) (p :: Z).toArray := by
    rw [← hz, ← Array.foldl_toList]
    simp
  rw [e]
  refine ⟨by rw [zip_size]; simp [hZ], ?_, fun i hi => ?_⟩
  · rw [zip_get, if_neg (by omega)]; rfl
  · rw [zip_get, if_pos ⟨by omega, by simp [ht]; omega, by simp [hZ]; omega⟩]
    have : 1 + i - 1 - 0 = i := by omega
    rw [this]
    simp

/-- a row of cells within a block, loaded -/
theorem load_part (P : Program) (w : World) (g o n : Nat) (t : TypeId) (cs : Array Value) (hg : Blk w g t cs) (hn : o + n ≤ cs.size) :
    (loadCellsFrom ⟨g, o, none⟩ 0 n #[]).run P w = .ok (cs.extract o (o + n)) w := by
  have h := run_loadCells_list (P := P) w ⟨g, o, none⟩ (cs.extract o (o + n)).toList (fun j v hv => by
    have hadd : (⟨g, o, none⟩ : Addr).add j = ⟨g, o + j, none⟩ := by unfold Addr.add; split <;> simp_all
    rw [hadd, hg.cell]
    have hv' : (cs.extract o (o + n))[j]? = some v := by rw [← Array.getElem?_toList]; exact hv
    rw [Array.getElem?_extract] at hv'
    split at hv'
    · exact hv'
    · cases hv')
  have hl : (cs.extract o (o + n)).toList.length = n := by simp; omega
  rw [hl, Array.toArray_toList] at h
  exact h

theorem ne_BW : (61 : TypeId) ≠ 30 := by intro h; cases h
/-! A writer's bytes. -/
/-- the full blocks of a writer, the last one first: the first n times 256 bytes of bs -/
def Chain (w : World) : Nat → Option Addr → List Int → Prop
  | 0, p, _ => p = none
  | n + 1, p, bs => ∃ g p' cc, p = some ⟨g, 0, none⟩ ∧ Blk w g 61 cc ∧ cc.size = 257 ∧ cc[0]? = some (.pointer p') ∧
      (∀ i, i < 256 → cc[1 + i]? = some (.int .u8 (bs[n * 256 + i]?.getD 0))) ∧ Chain w n p' bs

/-- the writer in block b holds the bytes bs, and isn't spoiled -/
def WAt (w : World) (b : Nat) (bs : List Int) : Prop :=
  ∃ c full, Blk w b 30 c ∧ c.size = 259 ∧ c[0]? = some (.pointer full) ∧ c[257]? = some (.int .i64 bs.length) ∧ c[258]? = some (.bool false) ∧
    (∀ i, i < 256 → ∃ x : Int, c[1 + i]? = some (.int .u8 x)) ∧
    (∀ i, i < bs.length % 256 → c[1 + i]? = some (.int .u8 (bs[bs.length - bs.length % 256 + i]?.getD 0))) ∧ Chain w (bs.length / 256) full bs

/-- the writer in block b is spoiled -/
def WSp (w : World) (b : Nat) : Prop := ∃ c, Blk w b 30 c ∧ c.size = 259 ∧ c[258]? = some (.bool true)

theorem Chain.keep {w w' : World} (hk : ∀ g cs, Blk w g 61 cs → w'.heap[g]? = w.heap[g]?) {n : Nat} {p : Option Addr} {bs : List Int} (h : Chain w n p bs) : Chain w' n p bs := by
  induction n generalizing p with
  | zero => exact h
  | succ n ih =>
    obtain ⟨g, p', cc, h1, h2, h3, h4, h5, h6⟩ := h
    exact ⟨g, p', cc, h1, h2.same (hk g cc h2), h3, h4, h5, ih h6⟩
theorem Chain.more {w : World} {n : Nat} {p : Option Addr} {bs ys : List Int} (h : Chain w n p bs) (hn : n * 256 ≤ bs.length) : Chain w n p (bs ++ ys) := by
  induction n generalizing p with
  | zero => exact h
  | succ n ih =>
    obtain ⟨g, p', cc, h1, h2, h3, h4, h5, h6⟩ := h
    have hn2 : n * 256 + 256 ≤ bs.length := by rw [Nat.succ_mul] at hn; exact hn
    refine ⟨g, p', cc, h1, h2, h3, h4, fun i hi => ?_, ih h6 (Nat.le_trans (Nat.le_add_right _ _) hn2)⟩
    have hlt : n * 256 + i < bs.length := Nat.lt_of_lt_of_le (Nat.add_lt_add_left hi _) hn2
    rw [h5 i hi, List.getElem?_append_left hlt]
theorem WAt.keep {w w' : World} {b : Nat} {bs : List Int} (h : WAt w b bs) (hb : w'.heap[b]? = w.heap[b]?) (hk : ∀ g cs, Blk w g 61 cs → w'.heap[g]? = w.heap[g]?) : WAt w' b bs := by
  obtain ⟨c, full, h1, h2, h3, h4, h5, h6, h7, h8⟩ := h
  exact ⟨c, full, h1.same hb, h2, h3, h4, h5, h6, h7, h8.keep hk⟩
theorem WSp.keep {w w' : World} {b : Nat} (h : WSp w b) (hb : w'.heap[b]? = w.heap[b]?) : WSp w' b := by
  obtain ⟨c, h1, h2, h3⟩ := h
  exact ⟨c, h1.same hb, h2, h3⟩

theorem len_snoc (bs : List Int) (x : Int) : (bs ++ [x]).length = bs.length + 1 := by simp

/-- one byte more, and the tail isn't full -/
theorem WAt.one {w : World} {b : Nat} {bs : List Int} {c : Array Value} {full : Option Addr} (x : Int) (h1 : Blk w b 30 c) (h2 : c.size = 259) (h3 : c[0]? = some (.pointer full))
    (h5 : c[258]? = some (.bool false)) (h6 : ∀ i, i < 256 → ∃ x : Int, c[1 + i]? = some (.int .u8 x))
    (h7 : ∀ i, i < bs.length % 256 → c[1 + i]? = some (.int .u8 (bs[bs.length - bs.length % 256 + i]?.getD 0))) (h8 : Chain w (bs.length / 256) full bs)
    (hne : (bs.length + 1) % 256 ≠ 0) {m : Nat} (hm : m = bs.length % 256) {w' : World}
    (hw : Blk w' b 30 ((c.setIfInBounds (1 + m) (.int .u8 x)).setIfInBounds 257 (.int .i64 ((bs.length : Int) + 1)))) (ho : Only b w w') : WAt w' b (bs ++ [x]) := by
  have hl := len_snoc bs x
  refine ⟨_, full, hw, by simp [h2], ?_, ?_, ?_, ?_, ?_, ?_⟩
  · rw [Array.getElem?_setIfInBounds, if_neg (by omega), Array.getElem?_setIfInBounds, if_neg (by omega), h3]
  · rw [Array.getElem?_setIfInBounds, if_pos rfl, if_pos (by simp [h2]), hl]; simp
  · rw [Array.getElem?_setIfInBounds, if_neg (by omega), Array.getElem?_setIfInBounds, if_neg (by omega), h5]
  · intro i hi
    rw [Array.getElem?_setIfInBounds, if_neg (by omega), Array.getElem?_setIfInBounds]
    by_cases he : 1 + m = 1 + i
    · rw [if_pos he, if_pos (by rw [h2]; omega)]; exact ⟨x, rfl⟩
    · rw [if_neg he]; exact h6 i hi
  · intro i hi
    rw [hl] at hi ⊢
    have e1 : (bs.length + 1) % 256 = bs.length % 256 + 1 := by omega
    rw [Array.getElem?_setIfInBounds, if_neg (by omega), Array.getElem?_setIfInBounds]
    by_cases he : 1 + m = 1 + i
    · rw [if_pos he, if_pos (by rw [h2]; omega)]
      have e2 : bs.length + 1 - (bs.length + 1) % 256 + i = bs.length := by omega
      rw [e2]; simp
    · rw [if_neg he, h7 i (by omega)]
      have e2 : bs.length + 1 - (bs.length + 1) % 256 + i = bs.length - bs.length % 256 + i := by omega
      rw [e2, List.getElem?_append_left (by omega)]
  · have e3 : (bs ++ [x]).length / 256 = bs.length / 256 := by rw [hl]; omega
    rw [e3]
    refine (h8.more (by omega)).keep (fun g cs hg => ho.block g hg.lt (hg.ne h1 ne_BW))

/-- one byte more, and the tail is full: it goes into a block of its own -/
theorem WAt.full {w : World} {b : Nat} {bs : List Int} {c : Array Value} {full : Option Addr} (x : Int) (h1 : Blk w b 30 c) (h2 : c.size = 259) (h3 : c[0]? = some (.pointer full))
    (h5 : c[258]? = some (.bool false)) (h6 : ∀ i, i < 256 → ∃ x : Int, c[1 + i]? = some (.int .u8 x))
    (h7 : ∀ i, i < bs.length % 256 → c[1 + i]? = some (.int .u8 (bs[bs.length - bs.length % 256 + i]?.getD 0))) (h8 : Chain w (bs.length / 256) full bs)
    (heq : (bs.length + 1) % 256 = 0) {m : Nat} (hm : m = bs.length % 256) {w' : World} {g : Nat} {cc : Array Value}
    (hw : Blk w' b 30 (((c.setIfInBounds (1 + m) (.int .u8 x)).setIfInBounds 257 (.int .i64 ((bs.length : Int) + 1))).setIfInBounds 0 (.pointer (some ⟨g, 0, none⟩))))
    (hg : Blk w' g 61 cc) (hc1 : cc.size = 257) (hc2 : cc[0]? = some (.pointer full)) (hc3 : ∀ i, i < 256 → cc[1 + i]? = ((c.setIfInBounds (1 + m) (.int .u8 x)).setIfInBounds 257 (.int .i64 ((bs.length : Int) + 1)))[1 + i]?)
    (ho : Only b w w') : WAt w' b (bs ++ [x]) := by
  have hl := len_snoc bs x
  refine ⟨_, some ⟨g, 0, none⟩, hw, by simp [h2], ?_, ?_, ?_, ?_, ?_, ?_⟩
  · rw [Array.getElem?_setIfInBounds, if_pos rfl, if_pos (by simp [h2])]
  · rw [Array.getElem?_setIfInBounds, if_neg (by omega), Array.getElem?_setIfInBounds, if_pos rfl, if_pos (by simp [h2]), hl]; simp
  · rw [Array.getElem?_setIfInBounds, if_neg (by omega), Array.getElem?_setIfInBounds, if_neg (by omega), Array.getElem?_setIfInBounds, if_neg (by omega), h5]
  · intro i hi
    rw [Array.getElem?_setIfInBounds, if_neg (by omega), Array.getElem?_setIfInBounds, if_neg (by omega), Array.getElem?_setIfInBounds]
    by_cases he : 1 + m = 1 + i
    · rw [if_pos he, if_pos (by rw [h2]; omega)]; exact ⟨x, rfl⟩
    · rw [if_neg he]; exact h6 i hi
  · intro i hi
    rw [hl] at hi
    omega
  · have e3 : (bs ++ [x]).length / 256 = bs.length / 256 + 1 := by rw [hl]; omega
    rw [e3]
    refine ⟨g, full, cc, rfl, hg, hc1, hc2, fun i hi => ?_, ?_⟩
    · rw [hc3 i hi, Array.getElem?_setIfInBounds, if_neg (by omega), Array.getElem?_setIfInBounds]
      by_cases he : 1 + m = 1 + i
      · rw [if_pos he, if_pos (by rw [h2]; omega)]
        have e2 : bs.length / 256 * 256 + i = bs.length := by omega
        rw [e2]; simp
      · rw [if_neg he, h7 i (by omega)]
        have e2 : bs.length / 256 * 256 + i = bs.length - bs.length % 256 + i := by omega
        rw [e2, List.getElem?_append_left (by omega)]
    · exact (h8.more (by omega)).keep (fun g cs hg => ho.block g hg.lt (hg.ne h1 ne_BW))

end Go.Proofs.Ytmdclicomneomaa
