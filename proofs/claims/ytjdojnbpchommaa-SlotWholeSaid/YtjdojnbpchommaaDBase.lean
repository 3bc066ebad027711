/-
  What this file is for: words for blocks of memory that are known whole, for bytes that are read, for rows of words, with the plain lemmas on them. Nothing of the program is walked here.
-/
import Derived.Test.YtjdojnbpchommaaRows
import Derived.WalkKit
import Derived.ProofKit
import Derived.OpenShut
import Derived.BigQuiet
import Derived.Deep.QuietTactic
import Derived.Deep.RegionHeld3
import Derived.Deep.MidRow
import Derived.IntWalk
import Derived.Laws.Rows
import Derived.Lib.Hide
import Derived.WalkSpells
import Derived.Laws.CopyOwn
import Derived.Laws.AppendOwnNone
namespace Go.Proofs.Ytjdojnbpchommaa
open Go.ChangeShapes Go.WideShapes Go.ChangeAt Go.RowKit
set_option linter.unusedVariables false

theorem hid {p : Prop} (h : p) : Hid p := h

/-- A block that is known whole. -/
def Blk (w : World) (g : Nat) (t : TypeId) (cs : Array Value) : Prop := w.heap[g]? = some (.cells cs t (0, 0))

section
variable {w w' : World} {g : Nat} {t : TypeId} {cs : Array Value}
theorem Blk.lt (h : Blk w g t cs) : g < w.heap.size := by
  rcases Nat.lt_or_ge g w.heap.size with h1 | h1
  · exact h1
  · unfold Blk at h; rw [Array.getElem?_eq_none h1] at h; cases h
theorem Blk.cell (h : Blk w g t cs) (i : Nat) : w.cell? ⟨g, i, none⟩ = cs[i]? := cell_of_row w g i cs t (0, 0) h
theorem Blk.frozen (h : Blk w g t cs) (i : Nat) : w.frozen? ⟨g, i, none⟩ = false := by
  unfold Blk at h
  simp [World.frozen?, h]
theorem Blk.new (w : World) (t : TypeId) (cs : Array Value) : Blk (w.alloc (.cells cs t)) w.heap.size t cs := heap_alloc_new w _
theorem Blk.drew (h : Blk w g t cs) : Blk w.drew g t cs := h
theorem Blk.alloc (h : Blk w g t cs) (o : Obj) : Blk (w.alloc o) g t cs := (Below.heap_alloc w o g h.lt).trans h
theorem Blk.setd (h : Blk w g t cs) (i : Nat) (u : Value) : Blk (w.setCell ⟨g, i, none⟩ u) g t (cs.setIfInBounds i u) := by
  unfold Blk at h ⊢
  simp [World.setCell, Array.getElem?_modify, h]
theorem Blk.far (h : Blk w g t cs) {p : Addr} (hp : g ≠ p.block) (u : Value) : Blk (w.setCell p u) g t cs := (Below.heap_setCell w p u g hp).trans h
theorem Blk.same (h : Blk w g t cs) (hk : w'.heap[g]? = w.heap[g]?) : Blk w' g t cs := hk.trans h
theorem Blk.inj (h : Blk w g t cs) {t' : TypeId} {cs' : Array Value} (h' : Blk w g t' cs') : t = t' ∧ cs = cs' := by
  unfold Blk at h h'
  rw [h] at h'
  injection h' with h'
  injection h' with h1 h2
  exact ⟨h2, h1⟩
theorem Blk.ne {g' : Nat} {t' : TypeId} {cs' : Array Value} (h : Blk w g t cs) (h' : Blk w g' t' cs') (hne : t ≠ t') : g ≠ g' := by
  rintro rfl
  exact hne (h.inj h').1
end

theorem add_block (a : Addr) (n : Nat) : (a.add n).block = a.block := by unfold Addr.add; split <;> rfl

/-- Only block g, and what is new, has turned. -/
structure Only (g : Nat) (w w' : World) : Prop where
  os : w'.os = w.os
  tape : w'.tape = w.tape
  output : w'.output = w.output
  size : w.heap.size ≤ w'.heap.size
  block : ∀ k, k < w.heap.size → k ≠ g → w'.heap[k]? = w.heap[k]?
theorem Only.refl (g : Nat) (w : World) : Only g w w := ⟨rfl, rfl, rfl, Nat.le_refl _, fun _ _ _ => rfl⟩
theorem Only.trans {g : Nat} {a b c : World} (h : Only g a b) (k : Only g b c) : Only g a c :=
  ⟨k.os.trans h.os, k.tape.trans h.tape, k.output.trans h.output, Nat.le_trans h.size k.size, fun i hi hne => (k.block i (Nat.lt_of_lt_of_le hi h.size) hne).trans (h.block i hi hne)⟩
theorem Only.drew {g : Nat} {a w : World} (h : Only g a w) : Only g a w.drew := ⟨h.os, h.tape, h.output, h.size, h.block⟩
theorem Only.alloc {g : Nat} {a w : World} (h : Only g a w) (o : Obj) : Only g a (w.alloc o) :=
  ⟨h.os, h.tape, h.output, Nat.le_trans h.size (by simp), fun i hi hne => (Below.heap_alloc w o i (Nat.lt_of_lt_of_le hi h.size)).trans (h.block i hi hne)⟩
theorem Only.setCell {g : Nat} {a w : World} (h : Only g a w) {p : Addr} (hp : p.block = g ∨ a.heap.size ≤ p.block) (u : Value) : Only g a (w.setCell p u) :=
  ⟨h.os, h.tape, h.output, by simpa [World.setCell] using h.size, fun i hi hne => (Below.heap_setCell w p u i (by
    rintro rfl
    rcases hp with hp | hp
    · exact hne hp
    · omega)).trans (h.block i hi hne)⟩
theorem Only.below {g B : Nat} {w w' : World} (h : Only g w w') (hB : B ≤ w.heap.size) (hg : B ≤ g) : Below B w w' :=
  ⟨h.os, h.tape, h.output, h.size, fun k hk => h.block k (by omega) (by omega)⟩
theorem Only.of_below {B g : Nat} {w w' : World} (h : Below B w w') (hB : w.heap.size ≤ B) : Only g w w' :=
  ⟨h.os, h.tape, h.output, h.size, fun k hk _ => h.block k (by omega)⟩

/-- the block of a pointer -/
def Of (p : Option Addr) (k : Nat) : Prop := ∃ a, p = some a ∧ k = a.block

/-- Only the blocks in S, and what is new, have turned. -/
structure OnlyS (S : Nat → Prop) (w w' : World) : Prop where
  os : w'.os = w.os
  tape : w'.tape = w.tape
  output : w'.output = w.output
  size : w.heap.size ≤ w'.heap.size
  block : ∀ k, k < w.heap.size → ¬ S k → w'.heap[k]? = w.heap[k]?
section
variable {S S' : Nat → Prop} {a b c w w' : World}
theorem OnlyS.refl (S : Nat → Prop) (w : World) : OnlyS S w w := ⟨rfl, rfl, rfl, Nat.le_refl _, fun _ _ _ => rfl⟩
theorem OnlyS.trans (h : OnlyS S a b) (k : OnlyS S b c) : OnlyS S a c :=
  ⟨k.os.trans h.os, k.tape.trans h.tape, k.output.trans h.output, Nat.le_trans h.size k.size, fun i hi hne => (k.block i (Nat.lt_of_lt_of_le hi h.size) hne).trans (h.block i hi hne)⟩
theorem OnlyS.drew (h : OnlyS S a w) : OnlyS S a w.drew := ⟨h.os, h.tape, h.output, h.size, h.block⟩
theorem OnlyS.alloc (h : OnlyS S a w) (o : Obj) : OnlyS S a (w.alloc o) :=
  ⟨h.os, h.tape, h.output, Nat.le_trans h.size (by simp), fun i hi hne => (Below.heap_alloc w o i (Nat.lt_of_lt_of_le hi h.size)).trans (h.block i hi hne)⟩
theorem OnlyS.setCell (h : OnlyS S a w) {p : Addr} (hp : S p.block ∨ a.heap.size ≤ p.block) (u : Value) : OnlyS S a (w.setCell p u) :=
  ⟨h.os, h.tape, h.output, by simpa [World.setCell] using h.size, fun i hi hne => (Below.heap_setCell w p u i (by
    rintro rfl
    rcases hp with hp | hp
    · exact hne hp
    · omega)).trans (h.block i hi hne)⟩
theorem OnlyS.mono (h : OnlyS S w w') (hS : ∀ k, k < w.heap.size → S k → S' k) : OnlyS S' w w' := ⟨h.os, h.tape, h.output, h.size, fun k hk hn => h.block k hk (fun hs => hn (hS k hk hs))⟩
theorem OnlyS.below {B : Nat} (h : OnlyS S w w') (hB : B ≤ w.heap.size) (hS : ∀ k, S k → B ≤ k) : Below B w w' :=
  ⟨h.os, h.tape, h.output, h.size, fun k hk => h.block k (by omega) (fun hs => by have := hS k hs; omega)⟩
theorem OnlyS.of_below {B : Nat} (h : Below B w w') (hB : w.heap.size ≤ B) : OnlyS S w w' := ⟨h.os, h.tape, h.output, h.size, fun k hk _ => h.block k (by omega)⟩
end

/-- the slice at A holds the bytes xs, and doesn't lie in the block of p -/
def Rp (w : World) (p : Option Addr) (A : Option Addr) (xs : List Int) : Prop :=
  0 < xs.length → ∃ ad, A = some ad ∧ ¬ Of p ad.block ∧ ∀ j, j < xs.length → w.cell? (ad.add j) = some (.int .u8 (xs[j]?.getD 0))
theorem Rp.keep {w w' : World} {p : Option Addr} {A : Option Addr} {xs : List Int} (h : Rp w p A xs) (hk : OnlyS (Of p) w w') : Rp w' p A xs := fun hx => by
  obtain ⟨ad, rfl, hne, hc⟩ := h hx
  have hlt := block_lt_of_cell (hc 0 hx)
  rw [add_block] at hlt
  exact ⟨ad, rfl, hne, fun j hj => (World.cell?_of_block (w := w) (hk.block _ (by rw [add_block]; exact hlt) (by rw [add_block]; exact hne))).trans (hc j hj)⟩
theorem Rp.nil (w : World) (p A : Option Addr) : Rp w p A [] := fun h => by simp at h

def Bs (l : List Int) : Prop := ∀ v ∈ l, 0 ≤ v ∧ v < 256
theorem Bs.drop {l : List Int} (h : Bs l) (n : Nat) : Bs (l.drop n) := fun v hv => h v (List.mem_of_mem_drop hv)
theorem Bs.take {l : List Int} (h : Bs l) (n : Nat) : Bs (l.take n) := fun v hv => h v (List.mem_of_mem_take hv)
theorem Bs.at {l : List Int} (h : Bs l) (i : Nat) : 0 ≤ l[i]?.getD 0 ∧ l[i]?.getD 0 < 256 := by
  rcases Nat.lt_or_ge i l.length with hi | hi
  · simp only [List.getElem?_eq_getElem hi, Option.getD_some]; exact h _ (List.getElem_mem hi)
  · simp [List.getElem?_eq_none hi]

theorem Rp.same {w w' : World} {p A : Option Addr} {xs : List Int} (h : Rp w p A xs) (hk : ∀ k, k < w.heap.size → ¬ Of p k → w'.heap[k]? = w.heap[k]?) : Rp w' p A xs := fun hx => by
  obtain ⟨ad, rfl, hne, hc⟩ := h hx
  have hlt := block_lt_of_cell (hc 0 hx)
  rw [add_block] at hlt
  exact ⟨ad, rfl, hne, fun j hj => (World.cell?_of_block (w := w) (hk _ (by rw [add_block]; exact hlt) (by rw [add_block]; exact hne))).trans (hc j hj)⟩
theorem add_add (a : Addr) (i j : Nat) : (a.add i).add j = a.add (i + j) := by
  unfold Addr.add
  by_cases hi : i = 0 <;> by_cases hj : j = 0 <;> simp [hi, hj, Nat.add_assoc]
/-- so many bytes taken off the front -/
theorem Rp.cut {w : World} {p A : Option Addr} {l : List Int} (h : Rp w p A l) {k c : Nat} (hc : l.length ≤ c) : Rp w p (if c = k then A else A.map (·.add k)) (l.drop k) := fun hx => by
  rw [List.length_drop] at hx
  obtain ⟨ad, rfl, hne, hcell⟩ := h (by omega)
  rw [if_neg (by omega)]
  refine ⟨ad.add k, rfl, by rw [add_block]; exact hne, fun j hj => ?_⟩
  rw [List.length_drop] at hj
  rw [add_add, List.getElem?_drop]
  exact hcell (k + j) (by omega)
theorem info_u8 : (Try.prog.info? 5).map (fun i => (i.zero, i.size, i.bytes)) = some (some (.int .u8 0), 1, 1) := by kernel_rfl

theorem make_bytes (n : Nat) (hn : n < 1000000000000) (u : World) : (Instr.makeSlice 31 (.int .i64 (n : Int)) (.int .i64 (n : Int))).run Try.prog u =
      .ok (.slice (some ⟨u.heap.size, 0, none⟩) n n) (u.alloc (.cells (List.replicate n (Value.int .u8 0)).toArray 5)) := by
  obtain ⟨i0, hi, hz0, hz1, hz2⟩ := info_parts info_u8
  have h := run_make (P := Try.prog) u 31 5 i0 (.int .u8 0) Try.underlying31 hi hz0 .i64 .i64 (n : Int) (n : Int) (by omega) (Int.le_refl _) (by rw [hz2]; omega) (by omega)
  have e : ((n : Int)).toNat = n := by omega
  rw [e] at h
  have e2 : madeCells (Value.int .u8 0).cells (n * i0.size) = (List.replicate n (Value.int .u8 0)).toArray := by
    rw [hz1, Nat.mul_one]
    unfold madeCells
    refine Array.ext (by simp) (fun j h1 h2 => ?_)
    simp [Value.cells, Nat.mod_one]
  rw [e2] at h
  exact h

theorem get_splice (L : List Value) (off : Nat) (cs : List Value) (h : off + cs.length ≤ L.length) (i : Nat) :
    (splice L off cs)[i]? = if i < off then L[i]? else if i < off + cs.length then cs[i - off]? else L[i]? := by
  unfold splice
  by_cases h1 : i < off
  · rw [if_pos h1, List.getElem?_append_left (by simp; omega), List.getElem?_take, if_pos h1]
  · rw [if_neg h1, List.getElem?_append_right (by simp; omega)]
    have e : (L.take off).length = off := by simp; omega
    rw [e]
    by_cases h2 : i < off + cs.length
    · rw [if_pos h2, List.getElem?_append_left (by omega)]
    · rw [if_neg h2, List.getElem?_append_right (by omega), List.getElem?_drop]
      have : off + cs.length + (i - off - cs.length) = i := by omega
      rw [this]

/-- the cells of bytes -/
def u8s (xs : List Int) : List Value := xs.map (Value.int .u8)
theorem u8s_length (xs : List Int) : (u8s xs).length = xs.length := by simp [u8s]
theorem u8s_get (xs : List Int) (i : Nat) (h : i < xs.length) : (u8s xs)[i]? = some (.int .u8 (xs[i]?.getD 0)) := by simp [u8s, h]
theorem u8s_one (xs : List Int) : ∀ v ∈ u8s xs, v.oneCell' = true := by
  intro v hv
  simp only [u8s, List.mem_map] at hv
  obtain ⟨x, _, rfl⟩ := hv
  rfl

/-- the slice at A' holds xs in memory that is new since w -/
def Fresh (w w' : World) (A : Option Addr) (xs : List Int) : Prop :=
  0 < xs.length → ∃ g cur, A = some ⟨g, 0, none⟩ ∧ w.heap.size ≤ g ∧ Blk w' g 5 cur ∧ ∀ j, j < xs.length → cur[j]? = some (.int .u8 (xs[j]?.getD 0))

theorem Fresh.rp {w w' : World} {A p : Option Addr} {xs : List Int} (h : Fresh w w' A xs) (hp : ∀ g, w.heap.size ≤ g → g < w'.heap.size → ¬ Of p g) : Rp w' p A xs := fun hx => by
  obtain ⟨g, cur, rfl, hg, hb, hc⟩ := h hx
  refine ⟨_, rfl, hp g hg hb.lt, fun j hj => ?_⟩
  have e : (⟨g, 0, none⟩ : Addr).add j = ⟨g, j, none⟩ := by unfold Addr.add; split <;> simp_all
  rw [e, hb.cell, hc j hj]
theorem Fresh.more {w0 w w' : World} {A : Option Addr} {xs : List Int} (h : Fresh w w' A xs) (hs : w0.heap.size ≤ w.heap.size) : Fresh w0 w' A xs := fun hx => by
  obtain ⟨g, cur, e, hg, hb, hc⟩ := h hx
  exact ⟨g, cur, e, by omega, hb, hc⟩
theorem Fresh.keep {w w' w2 : World} {A : Option Addr} {xs : List Int} {S : Nat → Prop} (h : Fresh w w' A xs) (ho : OnlyS S w' w2) (hS : ∀ k, w.heap.size ≤ k → k < w'.heap.size → ¬ S k) : Fresh w w2 A xs := fun hx => by
  obtain ⟨g, cur, e, hg, hb, hc⟩ := h hx
  exact ⟨g, cur, e, hg, hb.same (ho.block g hb.lt (hS g hg hb.lt)), hc⟩
theorem Fresh.nil (w w' : World) (A : Option Addr) : Fresh w w' A [] := fun h => by simp at h
theorem Rp.any {w : World} {p A : Option Addr} {xs : List Int} (h : Rp w p A xs) : Rp w none A xs := fun hx => by
  obtain ⟨ad, e, hne, hc⟩ := h hx
  exact ⟨ad, e, (fun ⟨a, e, _⟩ => by cases e), hc⟩
theorem Rp.take {w : World} {p A : Option Addr} {xs : List Int} (h : Rp w p A xs) (k : Nat) : Rp w p A (xs.take k) := fun hx => by
  rw [List.length_take] at hx
  obtain ⟨ad, e, hne, hc⟩ := h (by omega)
  refine ⟨ad, e, hne, fun j hj => ?_⟩
  rw [List.length_take] at hj
  rw [List.getElem?_take, if_pos (by omega)]
  exact hc j (by omega)

theorem fresh_of_own {w w1 : World} {base n : Nat} {v : Value} {xs : List Int} (h : w1.ownsRow base 5 1 v n (u8s xs)) (hb : w.heap.size ≤ base) :
    ∃ A' c', v = .slice A' n c' ∧ xs.length = n ∧ n ≤ c' ∧ Fresh w w1 A' xs := by
  have hl := h.1
  rw [u8s_length, Nat.mul_one] at hl
  rcases h.2 with ⟨hv, h0⟩ | ⟨g, cap, cur, hv, hg, hh, hnc, hcm, hcs, htk⟩
  · exact ⟨none, 0, by rw [hv, h0], hl, by omega, fun hx => by omega⟩
  · refine ⟨some ⟨g, 0, none⟩, cap, hv, hl, hnc, fun _ => ⟨g, cur, rfl, by omega, hh, fun j hj => ?_⟩⟩
    have e : cur[j]? = (cur.toList.take (n * 1))[j]? := by rw [List.getElem?_take, if_pos (by omega), Array.getElem?_toList]
    rw [e, htk, u8s_get _ _ hj]
theorem Fresh.below {w0 w w' : World} {A : Option Addr} {xs : List Int} (h : Fresh w0 w A xs) (hb : Below w.heap.size w w') : Fresh w0 w' A xs := fun hx => by
  obtain ⟨g, cur, e, hg, hbk, hc⟩ := h hx
  exact ⟨g, cur, e, hg, hbk.same (hb.block g hbk.lt), hc⟩
/-- a row of bytes, whatever they are -/
def AllU8 (cur : Array Value) (n : Nat) : Prop := ∀ j, j < n → ∃ x : Int, cur[j]? = some (.int .u8 x)
theorem AllU8.set_ {cur : Array Value} {n : Nat} (h : AllU8 cur n) (i : Nat) (x : Int) : AllU8 (cur.setIfInBounds i (.int .u8 x)) n := fun j hj => by
  obtain ⟨y, hy⟩ := h j hj
  by_cases hij : i = j
  · subst hij
    have hlt : i < cur.size := by
      rcases Nat.lt_or_ge i cur.size with h1 | h1
      · exact h1
      · rw [Array.getElem?_eq_none h1] at hy; cases hy
    exact ⟨x, by rw [Array.getElem?_setIfInBounds, if_pos rfl, if_pos hlt]⟩
  · exact ⟨y, by rw [Array.getElem?_setIfInBounds, if_neg hij]; exact hy⟩
theorem Blk.rp {w : World} {g : Nat} {xs : List Int} (h : Blk w g 5 (u8s xs).toArray) : Rp w none (some ⟨g, 0, none⟩) xs := fun _ =>
  ⟨_, rfl, (fun ⟨a, e, _⟩ => by cases e), fun j hj => by rw [Addr.add_lit, Nat.zero_add, h.cell, List.getElem?_toArray, u8s_get _ _ hj]⟩

theorem Rp.get {w : World} {p A : Option Addr} {xs : List Int} (h : Rp w p A xs) (hx : 0 < xs.length) : ∃ ad, A = some ad ∧ ∀ j, j < xs.length → w.cell? (ad.add j) = some (.int .u8 (xs[j]?.getD 0)) := by
  obtain ⟨ad, e, _, hc⟩ := h hx
  exact ⟨ad, e, hc⟩
theorem Rp.belowN {w w' : World} {A : Option Addr} {xs : List Int} (h : Rp w none A xs) (hb : Below w.heap.size w w') : Rp w' none A xs := h.same fun k hk _ => hb.block k hk

theorem setRow_only (w : World) (g : Nat) (cs : Array Value) : Only g w (w.setRow g cs) := ⟨rfl, rfl, rfl, by simp, fun k hk hne => setRow_other w g k cs hne⟩
theorem below_setRow {B : Nat} {a w : World} (h : Below B a w) {g : Nat} (hg : B ≤ g) (cs : Array Value) : Below B a (w.setRow g cs) :=
  ⟨h.os, h.tape, h.output, by simpa using h.size, fun k hk => (setRow_other w g k cs (by omega)).trans (h.block k hk)⟩
theorem Blk.row {w : World} {g : Nat} {t : TypeId} {cs : Array Value} (h : Blk w g t cs) (cs' : Array Value) : Blk (w.setRow g cs') g t cs' := setRow_heap w g cs cs' t (0, 0) h
theorem Blk.rowFar {w : World} {g k : Nat} {t : TypeId} {cs : Array Value} (h : Blk w k t cs) (hk : k ≠ g) (cs' : Array Value) : Blk (w.setRow g cs') k t cs := (setRow_other w g k cs' hk).trans h
end Go.Proofs.Ytjdojnbpchommaa
