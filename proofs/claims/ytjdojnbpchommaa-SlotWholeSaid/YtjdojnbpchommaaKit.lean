/-
  What this file is for: words for blocks of memory that are known whole, for bytes that are read, and for a writer's bytes, with the plain lemmas on them. Nothing of the program is walked here.
-/
import Derived.Test.YtjdojnbpchommaaRows
import Derived.Test.YtjdojnbpchommaaDSame
import Derived.Test.YtjdojnbpchommaaDClone
import Derived.Test.YtjdojnbpchommaaDMath
import Derived.WalkKit
import Derived.ProofKit
import Derived.OpenShut
namespace Go.Proofs.Ytjdojnbpchommaa
open Go.ChangeShapes Go.WideShapes Go.ChangeAt Go.RowKit
set_option linter.unusedVariables false
set_option maxRecDepth 20000

section
variable {w w' : World} {g : Nat} {t : TypeId} {cs : Array Value}
end

/-! Bytes that are read: the slice at A holds xs, and doesn't lie in block b. -/
def Rd (w : World) (b : Nat) (A : Option Addr) (xs : List Int) : Prop :=
  0 < xs.length → ∃ ad, A = some ad ∧ ad.block ≠ b ∧ ∀ j, j < xs.length → w.cell? (ad.add j) = some (.int .u8 (xs[j]?.getD 0))
theorem Rd.lt {w : World} {b : Nat} {ad : Addr} {xs : List Int} (h : Rd w b (some ad) xs) (hx : 0 < xs.length) : ad.block < w.heap.size := by
  obtain ⟨ad', e, _, hc⟩ := h hx
  injection e with e
  subst e
  have := block_lt_of_cell (hc 0 hx)
  rwa [add_block] at this
theorem Rd.keep {w w' : World} {b : Nat} {A : Option Addr} {xs : List Int} (h : Rd w b A xs) (hk : Only b w w') : Rd w' b A xs := fun hx => by
  obtain ⟨ad, rfl, hne, hc⟩ := h hx
  have hlt := h.lt hx
  exact ⟨ad, rfl, hne, fun j hj => (World.cell?_of_block (w := w) (hk.block _ (by rw [add_block]; exact hlt) (by rw [add_block]; exact hne))).trans (hc j hj)⟩

/-! Cells put one after the other into a row. -/
theorem zip_size (l : List Value) (k : Nat) (Z : Array Value) : ((l.zipIdx k).foldl (fun cs x => cs.setIfInBounds (1 + x.2) x.1) Z).size = Z.size := by
  induction l generalizing k Z with
  | nil => rfl
  | cons v l ih => simp only [List.zipIdx_cons, List.foldl_cons, ih, Array.size_setIfInBounds]
theorem zip_get (l : List Value) (k : Nat) (Z : Array Value) (j : Nat) :
    ((l.zipIdx k).foldl (fun cs x => cs.setIfInBounds (1 + x.2) x.1) Z)[j]? = if 1 + k ≤ j ∧ j < 1 + k + l.length ∧ j < Z.size then l[j - 1 - k]? else Z[j]? := by
  induction l generalizing k Z with
  | nil => simp; omega
  | cons v l ih =>
    simp only [List.zipIdx_cons, List.foldl_cons, ih, Array.size_setIfInBounds, List.length_cons]
    by_cases h : 1 + (k + 1) ≤ j ∧ j < 1 + (k + 1) + l.length ∧ j < Z.size
    · rw [if_pos h, if_pos (by omega)]
      have e : j - 1 - k = (j - 1 - (k + 1)) + 1 := by omega
      rw [e, List.getElem?_cons_succ]
    · rw [if_neg h, Array.getElem?_setIfInBounds]
      by_cases h2 : 1 + k = j
      · subst h2
        by_cases h3 : 1 + k < Z.size
        · rw [if_pos rfl, if_pos h3, if_pos (by omega)]
          simp
        · rw [if_pos rfl, if_neg h3, if_neg (by omega), Array.getElem?_eq_none (by omega)]
      · rw [if_neg h2, if_neg (by omega)]

/-- the block that is filled: what stood ahead, then the row -/
theorem fill_row (p : Value) (Z : List Value) (hZ : Z.length = 256) (tail : Array Value) (ht : tail.size = 256) :
    ∃ cc : Array Value, Array.foldl (fun (cs : Array Value) (x : Value × Nat) => cs.setIfInBounds (1 + x.2) x.1) (p :: Z).toArray tail.zipIdx 0 256 = cc ∧ cc.size = 257 ∧ cc[0]? = some p ∧ ∀ i, i < 256 → cc[1 + i]? = tail[i]? := by
  refine ⟨_, rfl, ?_⟩
  have hz : tail.zipIdx.size = 256 := by simp [ht]
  have e : Array.foldl (fun (cs : Array Value) (x : Value × Nat) => cs.setIfInBounds (1 + x.2) x.1) (p :: Z).toArray tail.zipIdx 0 256 = (tail.toList.zipIdx 0).foldl (fun cs x => cs.setIfInBounds (1 + x.2) x.1) (p :: Z).toArray := by
    rw [← hz, ← Array.foldl_toList]
    simp
  rw [e]
  refine ⟨by rw [zip_size]; simp [hZ], ?_, fun i hi => ?_⟩
  · rw [zip_get, if_neg (by omega)]; rfl
  · rw [zip_get, if_pos ⟨by omega, by simp [ht]; omega, by simp [hZ]; omega⟩]
    have : 1 + i - 1 - 0 = i := by omega
    rw [this]
    simp

/-- a row of cells within a block, loaded -/
theorem load_part (P : Program) (w : World) (g o n : Nat) (t : TypeId) (cs : Array Value) (hg : Blk w g t cs) (hn : o + n ≤ cs.size) :
    (loadCellsFrom ⟨g, o, none⟩ 0 n #[]).run P w = .ok (cs.extract o (o + n)) w := by
  have h := run_loadCells_list (P := P) w ⟨g, o, none⟩ (cs.extract o (o + n)).toList (fun j v hv => by
    have hadd : (⟨g, o, none⟩ : Addr).add j = ⟨g, o + j, none⟩ := by unfold Addr.add; split <;> simp_all
    rw [hadd, hg.cell]
    have hv' : (cs.extract o (o + n))[j]? = some v := by rw [← Array.getElem?_toList]; exact hv
    rw [Array.getElem?_extract] at hv'
    split at hv'
    · exact hv'
    · cases hv')
  have hl : (cs.extract o (o + n)).toList.length = n := by simp; omega
  rw [hl, Array.toArray_toList] at h
  exact h

theorem ne_BW : (95 : TypeId) ≠ 78 := by intro h; cases h
/-! A writer's bytes. -/
/-- the full blocks of a writer, the last one first: the first n times 256 bytes of bs -/
def Chain (w : World) : Nat → Option Addr → List Int → Prop
  | 0, p, _ => p = none
  | n + 1, p, bs => ∃ g p' cc, p = some ⟨g, 0, none⟩ ∧ Blk w g 95 cc ∧ cc.size = 257 ∧ cc[0]? = some (.pointer p') ∧
      (∀ i, i < 256 → cc[1 + i]? = some (.int .u8 (bs[n * 256 + i]?.getD 0))) ∧ Chain w n p' bs

/-- the writer in block b holds the bytes bs, and isn't spoiled -/
def WAt (w : World) (b : Nat) (bs : List Int) : Prop :=
  ∃ c full, Blk w b 78 c ∧ c.size = 259 ∧ c[0]? = some (.pointer full) ∧ c[257]? = some (.int .i64 bs.length) ∧ c[258]? = some (.bool false) ∧
    (∀ i, i < 256 → ∃ x : Int, c[1 + i]? = some (.int .u8 x)) ∧
    (∀ i, i < bs.length % 256 → c[1 + i]? = some (.int .u8 (bs[bs.length - bs.length % 256 + i]?.getD 0))) ∧ Chain w (bs.length / 256) full bs

/-- the writer in block b is spoiled -/
def WSp (w : World) (b : Nat) : Prop := ∃ c, Blk w b 78 c ∧ c.size = 259 ∧ c[258]? = some (.bool true)

theorem Chain.keep {w w' : World} (hk : ∀ g cs, Blk w g 95 cs → w'.heap[g]? = w.heap[g]?) {n : Nat} {p : Option Addr} {bs : List Int} (h : Chain w n p bs) : Chain w' n p bs := by
  induction n generalizing p with
  | zero => exact h
  | succ n ih =>
    obtain ⟨g, p', cc, h1, h2, h3, h4, h5, h6⟩ := h
    exact ⟨g, p', cc, h1, h2.same (hk g cc h2), h3, h4, h5, ih h6⟩
theorem Chain.more {w : World} {n : Nat} {p : Option Addr} {bs ys : List Int} (h : Chain w n p bs) (hn : n * 256 ≤ bs.length) : Chain w n p (bs ++ ys) := by
  induction n generalizing p with
  | zero => exact h
  | succ n ih =>
    obtain ⟨g, p', cc, h1, h2, h3, h4, h5, h6⟩ := h
    have hn2 : n * 256 + 256 ≤ bs.length := by rw [Nat.succ_mul] at hn; exact hn
    refine ⟨g, p', cc, h1, h2, h3, h4, fun i hi => ?_, ih h6 (Nat.le_trans (Nat.le_add_right _ _) hn2)⟩
    have hlt : n * 256 + i < bs.length := Nat.lt_of_lt_of_le (Nat.add_lt_add_left hi _) hn2
    rw [h5 i hi, List.getElem?_append_left hlt]
theorem WAt.keep {w w' : World} {b : Nat} {bs : List Int} (h : WAt w b bs) (hb : w'.heap[b]? = w.heap[b]?) (hk : ∀ g cs, Blk w g 95 cs → w'.heap[g]? = w.heap[g]?) : WAt w' b bs := by
  obtain ⟨c, full, h1, h2, h3, h4, h5, h6, h7, h8⟩ := h
  exact ⟨c, full, h1.same hb, h2, h3, h4, h5, h6, h7, h8.keep hk⟩
theorem WSp.keep {w w' : World} {b : Nat} (h : WSp w b) (hb : w'.heap[b]? = w.heap[b]?) : WSp w' b := by
  obtain ⟨c, h1, h2, h3⟩ := h
  exact ⟨c, h1.same hb, h2, h3⟩

theorem len_snoc (bs : List Int) (x : Int) : (bs ++ [x]).length = bs.length + 1 := by simp

/-- one byte more, and the tail isn't full -/
theorem WAt.one {w : World} {b : Nat} {bs : List Int} {c : Array Value} {full : Option Addr} (x : Int) (h1 : Blk w b 78 c) (h2 : c.size = 259) (h3 : c[0]? = some (.pointer full))
    (h5 : c[258]? = some (.bool false)) (h6 : ∀ i, i < 256 → ∃ x : Int, c[1 + i]? = some (.int .u8 x))
    (h7 : ∀ i, i < bs.length % 256 → c[1 + i]? = some (.int .u8 (bs[bs.length - bs.length % 256 + i]?.getD 0))) (h8 : Chain w (bs.length / 256) full bs)
    (hne : (bs.length + 1) % 256 ≠ 0) {m : Nat} (hm : m = bs.length % 256) {w' : World}
    (hw : Blk w' b 78 ((c.setIfInBounds (1 + m) (.int .u8 x)).setIfInBounds 257 (.int .i64 ((bs.length : Int) + 1)))) (ho : Only b w w') : WAt w' b (bs ++ [x]) := by
  have hl := len_snoc bs x
  refine ⟨_, full, hw, by simp [h2], ?_, ?_, ?_, ?_, ?_, ?_⟩
  · rw [Array.getElem?_setIfInBounds, if_neg (by omega), Array.getElem?_setIfInBounds, if_neg (by omega), h3]
  · rw [Array.getElem?_setIfInBounds, if_pos rfl, if_pos (by simp [h2]), hl]; simp
  · rw [Array.getElem?_setIfInBounds, if_neg (by omega), Array.getElem?_setIfInBounds, if_neg (by omega), h5]
  · intro i hi
    rw [Array.getElem?_setIfInBounds, if_neg (by omega), Array.getElem?_setIfInBounds]
    by_cases he : 1 + m = 1 + i
    · rw [if_pos he, if_pos (by rw [h2]; omega)]; exact ⟨x, rfl⟩
    · rw [if_neg he]; exact h6 i hi
  · intro i hi
    rw [hl] at hi ⊢
    have e1 : (bs.length + 1) % 256 = bs.length % 256 + 1 := by omega
    rw [Array.getElem?_setIfInBounds, if_neg (by omega), Array.getElem?_setIfInBounds]
    by_cases he : 1 + m = 1 + i
    · rw [if_pos he, if_pos (by rw [h2]; omega)]
      have e2 : bs.length + 1 - (bs.length + 1) % 256 + i = bs.length := by omega
      rw [e2]; simp
    · rw [if_neg he, h7 i (by omega)]
      have e2 : bs.length + 1 - (bs.length + 1) % 256 + i = bs.length - bs.length % 256 + i := by omega
      rw [e2, List.getElem?_append_left (by omega)]
  · have e3 : (bs ++ [x]).length / 256 = bs.length / 256 := by rw [hl]; omega
    rw [e3]
    refine (h8.more (by omega)).keep (fun g cs hg => ho.block g hg.lt (hg.ne h1 ne_BW))

/-- one byte more, and the tail is full: it goes into a block of its own -/
theorem WAt.full {w : World} {b : Nat} {bs : List Int} {c : Array Value} {full : Option Addr} (x : Int) (h1 : Blk w b 78 c) (h2 : c.size = 259) (h3 : c[0]? = some (.pointer full))
    (h5 : c[258]? = some (.bool false)) (h6 : ∀ i, i < 256 → ∃ x : Int, c[1 + i]? = some (.int .u8 x))
    (h7 : ∀ i, i < bs.length % 256 → c[1 + i]? = some (.int .u8 (bs[bs.length - bs.length % 256 + i]?.getD 0))) (h8 : Chain w (bs.length / 256) full bs)
    (heq : (bs.length + 1) % 256 = 0) {m : Nat} (hm : m = bs.length % 256) {w' : World} {g : Nat} {cc : Array Value}
    (hw : Blk w' b 78 (((c.setIfInBounds (1 + m) (.int .u8 x)).setIfInBounds 257 (.int .i64 ((bs.length : Int) + 1))).setIfInBounds 0 (.pointer (some ⟨g, 0, none⟩))))
    (hg : Blk w' g 95 cc) (hc1 : cc.size = 257) (hc2 : cc[0]? = some (.pointer full)) (hc3 : ∀ i, i < 256 → cc[1 + i]? = ((c.setIfInBounds (1 + m) (.int .u8 x)).setIfInBounds 257 (.int .i64 ((bs.length : Int) + 1)))[1 + i]?)
    (ho : Only b w w') : WAt w' b (bs ++ [x]) := by
  have hl := len_snoc bs x
  refine ⟨_, some ⟨g, 0, none⟩, hw, by simp [h2], ?_, ?_, ?_, ?_, ?_, ?_⟩
  · rw [Array.getElem?_setIfInBounds, if_pos rfl, if_pos (by simp [h2])]
  · rw [Array.getElem?_setIfInBounds, if_neg (by omega), Array.getElem?_setIfInBounds, if_pos rfl, if_pos (by simp [h2]), hl]; simp
  · rw [Array.getElem?_setIfInBounds, if_neg (by omega), Array.getElem?_setIfInBounds, if_neg (by omega), Array.getElem?_setIfInBounds, if_neg (by omega), h5]
  · intro i hi
    rw [Array.getElem?_setIfInBounds, if_neg (by omega), Array.getElem?_setIfInBounds, if_neg (by omega), Array.getElem?_setIfInBounds]
    by_cases he : 1 + m = 1 + i
    · rw [if_pos he, if_pos (by rw [h2]; omega)]; exact ⟨x, rfl⟩
    · rw [if_neg he]; exact h6 i hi
  · intro i hi
    rw [hl] at hi
    omega
  · have e3 : (bs ++ [x]).length / 256 = bs.length / 256 + 1 := by rw [hl]; omega
    rw [e3]
    refine ⟨g, full, cc, rfl, hg, hc1, hc2, fun i hi => ?_, ?_⟩
    · rw [hc3 i hi, Array.getElem?_setIfInBounds, if_neg (by omega), Array.getElem?_setIfInBounds]
      by_cases he : 1 + m = 1 + i
      · rw [if_pos he, if_pos (by rw [h2]; omega)]
        have e2 : bs.length / 256 * 256 + i = bs.length := by omega
        rw [e2]; simp
      · rw [if_neg he, h7 i (by omega)]
        have e2 : bs.length / 256 * 256 + i = bs.length - bs.length % 256 + i := by omega
        rw [e2, List.getElem?_append_left (by omega)]
    · exact (h8.more (by omega)).keep (fun g cs hg => ho.block g hg.lt (hg.ne h1 ne_BW))

end Go.Proofs.Ytjdojnbpchommaa
