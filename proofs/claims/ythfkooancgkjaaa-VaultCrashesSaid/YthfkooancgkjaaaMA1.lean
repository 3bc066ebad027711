/-
  What this file is for: words for blocks of memory that are known whole, for bytes that are read, for rows of words, with the plain lemmas on them. Nothing of the program is walked here.
-/
import Derived.Test.YthfkooancgkjaaaRows
import Derived.WalkKit
import Derived.ProofKit
import Derived.OpenShut
import Derived.BigQuiet
import Derived.Deep.QuietTactic
import Derived.Deep.RegionHeld3
import Derived.Deep.MidRow
import Derived.IntWalk
import Derived.Laws.Rows
import Derived.Lib.Hide
import Derived.WalkSpells
import Derived.Laws.CopyOwn
import Derived.Laws.AppendOwnNone
import Derived.Lib.SlBytesConst
import Derived.Lib.SmallJoins
import Derived.Deep.Slices
import Derived.ChangeOld
set_option linter.unusedSimpArgs false
set_option linter.unusedVariables false
namespace Go.Proofs.Ythfkooancgkjaaa
open Go.ChangeShapes Go.WideShapes Go.ChangeAt Go.RowKit
set_option linter.unusedVariables false
set_option maxRecDepth 20000

theorem hid {p : Prop} (h : p) : Hid p := h

/-- A block that is known whole. -/
def Blk (w : World) (g : Nat) (t : TypeId) (cs : Array Value) : Prop := w.heap[g]? = some (.cells cs t (0, 0))

section
variable {w w' : World} {g : Nat} {t : TypeId} {cs : Array Value}
theorem Blk.lt (h : Blk w g t cs) : g < w.heap.size := by
  rcases Nat.lt_or_ge g w.heap.size with h1 | h1
  · exact h1
  · unfold Blk at h; rw [Array.getElem?_eq_none h1] at h; cases h
theorem Blk.cell (h : Blk w g t cs) (i : Nat) : w.cell? ⟨g, i, none⟩ = cs[i]? := cell_of_row w g i cs t (0, 0) h
theorem Blk.frozen (h : Blk w g t cs) (i : Nat) : w.frozen? ⟨g, i, none⟩ = false := by
  unfold Blk at h
  simp [World.frozen?, h]
theorem Blk.new (w : World) (t : TypeId) (cs : Array Value) : Blk (w.alloc (.cells cs t)) w.heap.size t cs := heap_alloc_new w _
theorem Blk.drew (h : Blk w g t cs) : Blk w.drew g t cs := h
theorem Blk.alloc (h : Blk w g t cs) (o : Obj) : Blk (w.alloc o) g t cs := (Below.heap_alloc w o g h.lt).trans h
theorem Blk.setd (h : Blk w g t cs) (i : Nat) (u : Value) : Blk (w.setCell ⟨g, i, none⟩ u) g t (cs.setIfInBounds i u) := by
  unfold Blk at h ⊢
  simp [World.setCell, Array.getElem?_modify, h]
theorem Blk.far (h : Blk w g t cs) {p : Addr} (hp : g ≠ p.block) (u : Value) : Blk (w.setCell p u) g t cs := (Below.heap_setCell w p u g hp).trans h
theorem Blk.same (h : Blk w g t cs) (hk : w'.heap[g]? = w.heap[g]?) : Blk w' g t cs := hk.trans h
theorem Blk.inj (h : Blk w g t cs) {t' : TypeId} {cs' : Array Value} (h' : Blk w g t' cs') : t = t' ∧ cs = cs' := by
  unfold Blk at h h'
  rw [h] at h'
  injection h' with h'
  injection h' with h1 h2
  exact ⟨h2, h1⟩
theorem Blk.ne {g' : Nat} {t' : TypeId} {cs' : Array Value} (h : Blk w g t cs) (h' : Blk w g' t' cs') (hne : t ≠ t') : g ≠ g' := by
  rintro rfl
  exact hne (h.inj h').1
end

theorem add_block (a : Addr) (n : Nat) : (a.add n).block = a.block := by unfold Addr.add; split <;> rfl

/-- Only block g, and what is new, has turned. -/
structure Only (g : Nat) (w w' : World) : Prop where
  os : w'.os = w.os
  tape : w'.tape = w.tape
  output : w'.output = w.output
  size : w.heap.size ≤ w'.heap.size
  block : ∀ k, k < w.heap.size → k ≠ g → w'.heap[k]? = w.heap[k]?
theorem Only.refl (g : Nat) (w : World) : Only g w w := ⟨rfl, rfl, rfl, Nat.le_refl _, fun _ _ _ => rfl⟩
theorem Only.trans {g : Nat} {a b c : World} (h : Only g a b) (k : Only g b c) : Only g a c :=
  ⟨k.os.trans h.os, k.tape.trans h.tape, k.output.trans h.output, Nat.le_trans h.size k.size, fun i hi hne => (k.block i (Nat.lt_of_lt_of_le hi h.size) hne).trans (h.block i hi hne)⟩
theorem Only.drew {g : Nat} {a w : World} (h : Only g a w) : Only g a w.drew := ⟨h.os, h.tape, h.output, h.size, h.block⟩
theorem Only.alloc {g : Nat} {a w : World} (h : Only g a w) (o : Obj) : Only g a (w.alloc o) :=
  ⟨h.os, h.tape, h.output, Nat.le_trans h.size (by simp), fun i hi hne => (Below.heap_alloc w o i (Nat.lt_of_lt_of_le hi h.size)).trans (h.block i hi hne)⟩
theorem Only.setCell {g : Nat} {a w : World} (h : Only g a w) {p : Addr} (hp : p.block = g ∨ a.heap.size ≤ p.block) (u : Value) : Only g a (w.setCell p u) :=
  ⟨h.os, h.tape, h.output, by simpa [World.setCell] using h.size, fun i hi hne => (Below.heap_setCell w p u i (by
    rintro rfl
    rcases hp with hp | hp
    · exact hne hp
    · omega)).trans (h.block i hi hne)⟩
theorem Only.below {g B : Nat} {w w' : World} (h : Only g w w') (hB : B ≤ w.heap.size) (hg : B ≤ g) : Below B w w' :=
  ⟨h.os, h.tape, h.output, h.size, fun k hk => h.block k (by omega) (by omega)⟩
theorem Only.of_below {B g : Nat} {w w' : World} (h : Below B w w') (hB : w.heap.size ≤ B) : Only g w w' :=
  ⟨h.os, h.tape, h.output, h.size, fun k hk _ => h.block k (by omega)⟩

/-- the block of a pointer -/
def Of (p : Option Addr) (k : Nat) : Prop := ∃ a, p = some a ∧ k = a.block

/-- Only the blocks in S, and what is new, have turned. -/
structure OnlyS (S : Nat → Prop) (w w' : World) : Prop where
  os : w'.os = w.os
  tape : w'.tape = w.tape
  output : w'.output = w.output
  size : w.heap.size ≤ w'.heap.size
  block : ∀ k, k < w.heap.size → ¬ S k → w'.heap[k]? = w.heap[k]?
section
variable {S S' : Nat → Prop} {a b c w w' : World}
theorem OnlyS.refl (S : Nat → Prop) (w : World) : OnlyS S w w := ⟨rfl, rfl, rfl, Nat.le_refl _, fun _ _ _ => rfl⟩
theorem OnlyS.trans (h : OnlyS S a b) (k : OnlyS S b c) : OnlyS S a c :=
  ⟨k.os.trans h.os, k.tape.trans h.tape, k.output.trans h.output, Nat.le_trans h.size k.size, fun i hi hne => (k.block i (Nat.lt_of_lt_of_le hi h.size) hne).trans (h.block i hi hne)⟩
theorem OnlyS.drew (h : OnlyS S a w) : OnlyS S a w.drew := ⟨h.os, h.tape, h.output, h.size, h.block⟩
theorem OnlyS.alloc (h : OnlyS S a w) (o : Obj) : OnlyS S a (w.alloc o) :=
  ⟨h.os, h.tape, h.output, Nat.le_trans h.size (by simp), fun i hi hne => (Below.heap_alloc w o i (Nat.lt_of_lt_of_le hi h.size)).trans (h.block i hi hne)⟩
theorem OnlyS.setCell (h : OnlyS S a w) {p : Addr} (hp : S p.block ∨ a.heap.size ≤ p.block) (u : Value) : OnlyS S a (w.setCell p u) :=
  ⟨h.os, h.tape, h.output, by simpa [World.setCell] using h.size, fun i hi hne => (Below.heap_setCell w p u i (by
    rintro rfl
    rcases hp with hp | hp
    · exact hne hp
    · omega)).trans (h.block i hi hne)⟩
theorem OnlyS.mono (h : OnlyS S w w') (hS : ∀ k, k < w.heap.size → S k → S' k) : OnlyS S' w w' := ⟨h.os, h.tape, h.output, h.size, fun k hk hn => h.block k hk (fun hs => hn (hS k hk hs))⟩
theorem OnlyS.below {B : Nat} (h : OnlyS S w w') (hB : B ≤ w.heap.size) (hS : ∀ k, S k → B ≤ k) : Below B w w' :=
  ⟨h.os, h.tape, h.output, h.size, fun k hk => h.block k (by omega) (fun hs => by have := hS k hs; omega)⟩
theorem OnlyS.of_below {B : Nat} (h : Below B w w') (hB : w.heap.size ≤ B) : OnlyS S w w' := ⟨h.os, h.tape, h.output, h.size, fun k hk _ => h.block k (by omega)⟩
end

/-- the slice at A holds the bytes xs, and doesn't lie in the block of p -/
def Rp (w : World) (p : Option Addr) (A : Option Addr) (xs : List Int) : Prop :=
  0 < xs.length → ∃ ad, A = some ad ∧ ¬ Of p ad.block ∧ ∀ j, j < xs.length → w.cell? (ad.add j) = some (.int .u8 (xs[j]?.getD 0))
theorem Rp.keep {w w' : World} {p : Option Addr} {A : Option Addr} {xs : List Int} (h : Rp w p A xs) (hk : OnlyS (Of p) w w') : Rp w' p A xs := fun hx => by
  obtain ⟨ad, rfl, hne, hc⟩ := h hx
  have hlt := block_lt_of_cell (hc 0 hx)
  rw [add_block] at hlt
  exact ⟨ad, rfl, hne, fun j hj => (World.cell?_of_block (w := w) (hk.block _ (by rw [add_block]; exact hlt) (by rw [add_block]; exact hne))).trans (hc j hj)⟩
theorem Rp.nil (w : World) (p A : Option Addr) : Rp w p A [] := fun h => by simp at h

def Bs (l : List Int) : Prop := ∀ v ∈ l, 0 ≤ v ∧ v < 256
theorem Bs.drop {l : List Int} (h : Bs l) (n : Nat) : Bs (l.drop n) := fun v hv => h v (List.mem_of_mem_drop hv)
theorem Bs.take {l : List Int} (h : Bs l) (n : Nat) : Bs (l.take n) := fun v hv => h v (List.mem_of_mem_take hv)
theorem Bs.at {l : List Int} (h : Bs l) (i : Nat) : 0 ≤ l[i]?.getD 0 ∧ l[i]?.getD 0 < 256 := by
  rcases Nat.lt_or_ge i l.length with hi | hi
  · simp only [List.getElem?_eq_getElem hi, Option.getD_some]; exact h _ (List.getElem_mem hi)
  · simp [List.getElem?_eq_none hi]

theorem Rp.same {w w' : World} {p A : Option Addr} {xs : List Int} (h : Rp w p A xs) (hk : ∀ k, k < w.heap.size → ¬ Of p k → w'.heap[k]? = w.heap[k]?) : Rp w' p A xs := fun hx => by
  obtain ⟨ad, rfl, hne, hc⟩ := h hx
  have hlt := block_lt_of_cell (hc 0 hx)
  rw [add_block] at hlt
  exact ⟨ad, rfl, hne, fun j hj => (World.cell?_of_block (w := w) (hk _ (by rw [add_block]; exact hlt) (by rw [add_block]; exact hne))).trans (hc j hj)⟩
theorem add_add (a : Addr) (i j : Nat) : (a.add i).add j = a.add (i + j) := by
  unfold Addr.add
  by_cases hi : i = 0 <;> by_cases hj : j = 0 <;> simp [hi, hj, Nat.add_assoc]
/-- so many bytes taken off the front -/
theorem Rp.cut {w : World} {p A : Option Addr} {l : List Int} (h : Rp w p A l) {k c : Nat} (hc : l.length ≤ c) : Rp w p (if c = k then A else A.map (·.add k)) (l.drop k) := fun hx => by
  rw [List.length_drop] at hx
  obtain ⟨ad, rfl, hne, hcell⟩ := h (by omega)
  rw [if_neg (by omega)]
  refine ⟨ad.add k, rfl, by rw [add_block]; exact hne, fun j hj => ?_⟩
  rw [List.length_drop] at hj
  rw [add_add, List.getElem?_drop]
  exact hcell (k + j) (by omega)
theorem info_u8 : (Try.prog.info? 5).map (fun i => (i.zero, i.size, i.bytes)) = some (some (.int .u8 0), 1, 1) := by kernel_rfl

theorem make_bytes (n : Nat) (hn : n < 1000000000000) (u : World) : (Instr.makeSlice 23 (.int .i64 (n : Int)) (.int .i64 (n : Int))).run Try.prog u =
      .ok (.slice (some ⟨u.heap.size, 0, none⟩) n n) (u.alloc (.cells (List.replicate n (Value.int .u8 0)).toArray 5)) := by
  obtain ⟨i0, hi, hz0, hz1, hz2⟩ := info_parts info_u8
  have h := run_make (P := Try.prog) u 23 5 i0 (.int .u8 0) Try.underlying23 hi hz0 .i64 .i64 (n : Int) (n : Int) (by omega) (Int.le_refl _) (by rw [hz2]; omega) (by omega)
  have e : ((n : Int)).toNat = n := by omega
  rw [e] at h
  have e2 : madeCells (Value.int .u8 0).cells (n * i0.size) = (List.replicate n (Value.int .u8 0)).toArray := by
    rw [hz1, Nat.mul_one]
    unfold madeCells
    refine Array.ext (by simp) (fun j h1 h2 => ?_)
    simp [Value.cells, Nat.mod_one]
  rw [e2] at h
  exact h

theorem get_splice (L : List Value) (off : Nat) (cs : List Value) (h : off + cs.length ≤ L.length) (i : Nat) :
    (splice L off cs)[i]? = if i < off then L[i]? else if i < off + cs.length then cs[i - off]? else L[i]? := by
  unfold splice
  by_cases h1 : i < off
  · rw [if_pos h1, List.getElem?_append_left (by simp; omega), List.getElem?_take, if_pos h1]
  · rw [if_neg h1, List.getElem?_append_right (by simp; omega)]
    have e : (L.take off).length = off := by simp; omega
    rw [e]
    by_cases h2 : i < off + cs.length
    · rw [if_pos h2, List.getElem?_append_left (by omega)]
    · rw [if_neg h2, List.getElem?_append_right (by omega), List.getElem?_drop]
      have : off + cs.length + (i - off - cs.length) = i := by omega
      rw [this]

/-- the cells of bytes -/
def u8s (xs : List Int) : List Value := xs.map (Value.int .u8)
theorem u8s_length (xs : List Int) : (u8s xs).length = xs.length := by simp [u8s]
theorem u8s_get (xs : List Int) (i : Nat) (h : i < xs.length) : (u8s xs)[i]? = some (.int .u8 (xs[i]?.getD 0)) := by simp [u8s, h]
theorem u8s_one (xs : List Int) : ∀ v ∈ u8s xs, v.oneCell' = true := by
  intro v hv
  simp only [u8s, List.mem_map] at hv
  obtain ⟨x, _, rfl⟩ := hv
  rfl

/-- the slice at A' holds xs in memory that is new since w -/
def Fresh (w w' : World) (A : Option Addr) (xs : List Int) : Prop :=
  0 < xs.length → ∃ g cur, A = some ⟨g, 0, none⟩ ∧ w.heap.size ≤ g ∧ Blk w' g 5 cur ∧ ∀ j, j < xs.length → cur[j]? = some (.int .u8 (xs[j]?.getD 0))

theorem Fresh.rp {w w' : World} {A p : Option Addr} {xs : List Int} (h : Fresh w w' A xs) (hp : ∀ g, w.heap.size ≤ g → g < w'.heap.size → ¬ Of p g) : Rp w' p A xs := fun hx => by
  obtain ⟨g, cur, rfl, hg, hb, hc⟩ := h hx
  refine ⟨_, rfl, hp g hg hb.lt, fun j hj => ?_⟩
  have e : (⟨g, 0, none⟩ : Addr).add j = ⟨g, j, none⟩ := by unfold Addr.add; split <;> simp_all
  rw [e, hb.cell, hc j hj]
theorem Fresh.more {w0 w w' : World} {A : Option Addr} {xs : List Int} (h : Fresh w w' A xs) (hs : w0.heap.size ≤ w.heap.size) : Fresh w0 w' A xs := fun hx => by
  obtain ⟨g, cur, e, hg, hb, hc⟩ := h hx
  exact ⟨g, cur, e, by omega, hb, hc⟩
theorem Fresh.keep {w w' w2 : World} {A : Option Addr} {xs : List Int} {S : Nat → Prop} (h : Fresh w w' A xs) (ho : OnlyS S w' w2) (hS : ∀ k, w.heap.size ≤ k → k < w'.heap.size → ¬ S k) : Fresh w w2 A xs := fun hx => by
  obtain ⟨g, cur, e, hg, hb, hc⟩ := h hx
  exact ⟨g, cur, e, hg, hb.same (ho.block g hb.lt (hS g hg hb.lt)), hc⟩
theorem Fresh.nil (w w' : World) (A : Option Addr) : Fresh w w' A [] := fun h => by simp at h
theorem Rp.any {w : World} {p A : Option Addr} {xs : List Int} (h : Rp w p A xs) : Rp w none A xs := fun hx => by
  obtain ⟨ad, e, hne, hc⟩ := h hx
  exact ⟨ad, e, (fun ⟨a, e, _⟩ => by cases e), hc⟩
theorem Rp.take {w : World} {p A : Option Addr} {xs : List Int} (h : Rp w p A xs) (k : Nat) : Rp w p A (xs.take k) := fun hx => by
  rw [List.length_take] at hx
  obtain ⟨ad, e, hne, hc⟩ := h (by omega)
  refine ⟨ad, e, hne, fun j hj => ?_⟩
  rw [List.length_take] at hj
  rw [List.getElem?_take, if_pos (by omega)]
  exact hc j (by omega)

theorem fresh_of_own {w w1 : World} {base n : Nat} {v : Value} {xs : List Int} (h : w1.ownsRow base 5 1 v n (u8s xs)) (hb : w.heap.size ≤ base) :
    ∃ A' c', v = .slice A' n c' ∧ xs.length = n ∧ n ≤ c' ∧ Fresh w w1 A' xs := by
  have hl := h.1
  rw [u8s_length, Nat.mul_one] at hl
  rcases h.2 with ⟨hv, h0⟩ | ⟨g, cap, cur, hv, hg, hh, hnc, hcm, hcs, htk⟩
  · exact ⟨none, 0, by rw [hv, h0], hl, by omega, fun hx => by omega⟩
  · refine ⟨some ⟨g, 0, none⟩, cap, hv, hl, hnc, fun _ => ⟨g, cur, rfl, by omega, hh, fun j hj => ?_⟩⟩
    have e : cur[j]? = (cur.toList.take (n * 1))[j]? := by rw [List.getElem?_take, if_pos (by omega), Array.getElem?_toList]
    rw [e, htk, u8s_get _ _ hj]
theorem Fresh.below {w0 w w' : World} {A : Option Addr} {xs : List Int} (h : Fresh w0 w A xs) (hb : Below w.heap.size w w') : Fresh w0 w' A xs := fun hx => by
  obtain ⟨g, cur, e, hg, hbk, hc⟩ := h hx
  exact ⟨g, cur, e, hg, hbk.same (hb.block g hbk.lt), hc⟩
/-- a row of bytes, whatever they are -/
def AllU8 (cur : Array Value) (n : Nat) : Prop := ∀ j, j < n → ∃ x : Int, cur[j]? = some (.int .u8 x)
theorem AllU8.set_ {cur : Array Value} {n : Nat} (h : AllU8 cur n) (i : Nat) (x : Int) : AllU8 (cur.setIfInBounds i (.int .u8 x)) n := fun j hj => by
  obtain ⟨y, hy⟩ := h j hj
  by_cases hij : i = j
  · subst hij
    have hlt : i < cur.size := by
      rcases Nat.lt_or_ge i cur.size with h1 | h1
      · exact h1
      · rw [Array.getElem?_eq_none h1] at hy; cases hy
    exact ⟨x, by rw [Array.getElem?_setIfInBounds, if_pos rfl, if_pos hlt]⟩
  · exact ⟨y, by rw [Array.getElem?_setIfInBounds, if_neg hij]; exact hy⟩
theorem Blk.rp {w : World} {g : Nat} {xs : List Int} (h : Blk w g 5 (u8s xs).toArray) : Rp w none (some ⟨g, 0, none⟩) xs := fun _ =>
  ⟨_, rfl, (fun ⟨a, e, _⟩ => by cases e), fun j hj => by rw [Addr.add_lit, Nat.zero_add, h.cell, List.getElem?_toArray, u8s_get _ _ hj]⟩

theorem Rp.get {w : World} {p A : Option Addr} {xs : List Int} (h : Rp w p A xs) (hx : 0 < xs.length) : ∃ ad, A = some ad ∧ ∀ j, j < xs.length → w.cell? (ad.add j) = some (.int .u8 (xs[j]?.getD 0)) := by
  obtain ⟨ad, e, _, hc⟩ := h hx
  exact ⟨ad, e, hc⟩
theorem Rp.belowN {w w' : World} {A : Option Addr} {xs : List Int} (h : Rp w none A xs) (hb : Below w.heap.size w w') : Rp w' none A xs := h.same fun k hk _ => hb.block k hk

theorem setRow_only (w : World) (g : Nat) (cs : Array Value) : Only g w (w.setRow g cs) := ⟨rfl, rfl, rfl, by simp, fun k hk hne => setRow_other w g k cs hne⟩
theorem below_setRow {B : Nat} {a w : World} (h : Below B a w) {g : Nat} (hg : B ≤ g) (cs : Array Value) : Below B a (w.setRow g cs) :=
  ⟨h.os, h.tape, h.output, by simpa using h.size, fun k hk => (setRow_other w g k cs (by omega)).trans (h.block k hk)⟩
theorem Blk.row {w : World} {g : Nat} {t : TypeId} {cs : Array Value} (h : Blk w g t cs) (cs' : Array Value) : Blk (w.setRow g cs') g t cs' := setRow_heap w g cs cs' t (0, 0) h
theorem Blk.rowFar {w : World} {g k : Nat} {t : TypeId} {cs : Array Value} (h : Blk w k t cs) (hk : k ≠ g) (cs' : Array Value) : Blk (w.setRow g cs') k t cs := (setRow_other w g k cs' hk).trans h
end Go.Proofs.Ythfkooancgkjaaa
/-
  What is proved here: bytes, and lists of bytes, as arguments; which lists are few; appending bytes.
-/
namespace Go.Proofs.Ythfkooancgkjaaa
open Go.ChangeShapes Go.WideShapes Go.ChangeAt Go.RowKit
set_option linter.unusedVariables false
set_option maxRecDepth 20000

theorem own : ownKnob Try.prog.godebug = none := by kernel_rfl
theorem laidOut : laidOutB Try.prog = true := by kernel_rfl
theorem Fresh.rp0 {w w' : World} {A : Option Addr} {xs : List Int} (h : Fresh w w' A xs) : Rp w' none A xs := h.rp (p := none) (fun g _ _ ⟨a, e, _⟩ => by cases e)

theorem run_append_nil' {P : Program} (w : World) (base : Nat) (t ty e : TypeId) (i : TypeInfo) (size : Nat) (ht : P.underlying t = some (.slice e)) (hi : P.info? e = some i)
    (v : Value) (n : Nat) (xs : List Value) (hown : w.ownsRow base e size v n xs) (c : Nat) : (Builtin.append_ #[t, t] ty #[v, .slice none 0 c]).run P w = .ok v w := by
  rcases hown.2 with ⟨rfl, _⟩ | ⟨g, cap, cur, rfl, _, _, hnc, _⟩
  · simp [Builtin.append_, run_underlying ht, sizeOf, typeInfo, hi, Builtin.lenOf, Builtin.firstCells]
  · simp [Builtin.append_, run_underlying ht, sizeOf, typeInfo, hi, Builtin.lenOf, Builtin.firstCells, hnc, storeCells]
theorem wpList_append_nil' {P : Program} {w : World} {ops : Array Oper} {rest : List Oper} {o : Oper} {a : Act} {Q : Exit → Act → World → Prop} (hgd : o.guard = none) (s x : Operand) (t : TypeId)
    (ho : o.op = .call { callee := .builtin .append, args := #[s, x], argTypes := #[t, t] })
    (base : Nat) (e : TypeId) (i : TypeInfo) (size : Nat) (ht : P.underlying t = some (.slice e)) (hi : P.info? e = some i)
    (v : Value) (n : Nat) (xs : List Value) (c : Nat) (hs : a.eval s = v) (hown : w.ownsRow base e size v n xs) (hx : a.eval x = .slice none 0 c)
    (h : wpList P ops Q rest (a.put o.dst v) w) : wpList P ops Q (o :: rest) a w := by
  refine wpList_plain hgd fun K hK => ?_
  have hrun := run_append_nil' (P := P) w base t o.type e i size ht hi v n xs hown c
  unfold Oper.wp
  simp [execOp, ho, resolve, invoke, builtin, hs, hx, hrun, Result.andThen]
  exact hK _ _ h

theorem u8s_snoc (xs : List Int) (y : Int) : u8s (xs ++ [y]) = u8s xs ++ [.int .u8 y] := by simp [u8s]

theorem own_mono {w : World} {B B' e size n : Nat} {v : Value} {xs : List Value} (h : w.ownsRow B e size v n xs) (hB : B' ≤ B) : w.ownsRow B' e size v n xs := by
  refine ⟨h.1, ?_⟩
  rcases h.2 with h1 | ⟨g, cap, cur, hv, hg, r⟩
  · exact .inl h1
  · exact .inr ⟨g, cap, cur, hv, by omega, r⟩
/-- one new cell, as the source of an append -/
theorem one_src (w : World) (y : Int) : ∀ j u, [Value.int .u8 y][j]? = some u → (w.alloc (.cells #[.int .u8 y] 5)).cell? ((⟨w.heap.size, 0, none⟩ : Addr).add j) = some u := by
  intro j u h
  match j, h with
  | 0, h => rw [Addr.add_lit, (Blk.new w 5 #[.int .u8 y]).cell]; exact h
  | j + 1, h => simp at h

theorem own_below {w w' : World} {base e size n : Nat} {v : Value} {xs : List Value} (h : w.ownsRow base e size v n xs) (hb : Below w.heap.size w w') : w'.ownsRow base e size v n xs := by
  refine ⟨h.1, ?_⟩
  rcases h.2 with h1 | ⟨g, cap, cur, hv, hg, hh, r⟩
  · exact .inl h1
  · have hlt : g < w.heap.size := by
      rcases Nat.lt_or_ge g w.heap.size with h2 | h2
      · exact h2
      · rw [Array.getElem?_eq_none h2] at hh; cases hh
    exact .inr ⟨g, cap, cur, hv, hg, (hb.block g hlt).trans hh, r⟩
theorem append_rp {w : World} {ops : Array Oper} {rest : List Oper} {o : Oper} {a : Act} {Q : Exit → Act → World → Prop} (hgd : o.guard = none) (s x : Operand)
    (ho : o.op = .call { callee := .builtin .append, args := #[s, x], argTypes := #[23, 23] })
    (base B : Nat) (v : Value) (xs : List Int) (hs : a.eval s = v) (hown : w.ownsRow base 5 1 v xs.length (u8s xs))
    (A : Option Addr) (c : Nat) (ys : List Int) (hx : a.eval x = .slice A ys.length c) (hr : Rp w none A ys) (h63 : xs.length + ys.length < 1000000000000) (hbase : base ≤ w.heap.size) (hB : B ≤ base)
    (h : ∀ v' w', Hid (w'.ownsRow base 5 1 v' (xs ++ ys).length (u8s (xs ++ ys))) → Hid (Below B w w') → wpList Try.prog ops Q rest (a.put o.dst v') w') : wpList Try.prog ops Q (o :: rest) a w := by
  obtain ⟨i0, hi, hz0, hz1, hz2⟩ := info_parts info_u8
  cases A with
  | none =>
    have h0 : ys = [] := by
      cases ys with
      | nil => rfl
      | cons y ys => obtain ⟨ad, e, _⟩ := hr (by simp); cases e
    subst h0
    refine wpList_append_nil' hgd s x 23 ho base 5 i0 1 Try.underlying23 hi v xs.length (u8s xs) c hs hown hx ?_
    exact h v w (show World.ownsRow _ _ _ _ _ _ _ by rw [List.append_nil]; exact hown) (Below.refl _ _)
  | some ad =>
    refine wpList_append_own _ hgd s x 23 ho base 5 i0 (.int .u8 0) 1 1 Try.underlying23 hi hz0 hz1 hz2 rfl (by decide) v xs.length (u8s xs) hs hown ad ys.length c (u8s ys) hx (by rw [u8s_length]; omega) (fun j u hu => ?_) (u8s_one _) (by unfold maxLen; omega) (by omega) hbase ?_
    · rcases Nat.lt_or_ge j ys.length with hj | hj
      · obtain ⟨ad', e', hc⟩ := hr.get (by omega)
        injection e' with e'; subst e'
        rw [hc j hj, ← hu, u8s_get _ _ hj]
      · rw [List.getElem?_eq_none (by rw [u8s_length]; exact hj)] at hu; cases hu
    · intro v' w' h1 h2 _
      refine h v' w' (show World.ownsRow _ _ _ _ _ _ _ from ?_) ((Below.refl _ _).grown h2 (by omega) (fun b hb => Nat.le_trans hB (hown.lt b hb).1))
      rw [List.length_append, show u8s (xs ++ ys) = u8s xs ++ u8s ys by simp [u8s]]
      exact h1

/-- a slice of bytes that came in -/
def InB (w : World) (A : Option Addr) (n c : Nat) (xs : List Int) : Prop := xs.length = n ∧ n ≤ 9223372036854775807 ∧ Bs xs ∧ Rp w none A xs

section
variable {H : Type} {enc : TypeId × Value → H} {w : World} {base : Nat} {spare : Nat → Bool} {held : Bool}
theorem open_bytes {fuel : Nat} {cs : List Value} {x : DataW H × List MemPlace} (h : DataW.trod enc Try.prog w base spare held fuel 23 cs = some x) :
    ∃ A n c xs, cs = [.slice A n c] ∧ InB w A n c xs ∧ n ≤ c := by
  rcases open_ints Try.underlying23 Try.underlying5 (by kernel_rfl) h with ⟨hcs, _⟩ | ⟨a, l, c, zs, hcs, _, hl, hm, hz, _, hcell, hwz⟩
  · exact ⟨none, 0, 0, [], hcs, ⟨rfl, by omega, fun v hv => by simp at hv, Rp.nil _ _ _⟩, by omega⟩
  · refine ⟨some a, l, c, zs.take l, hcs, ⟨?_, ?_, ?_, ?_⟩, hl⟩
    · rw [List.length_take, hz]; split <;> omega
    · unfold maxLen at hm; omega
    · intro v hv
      have := bounds_u8 (hwz v (List.mem_of_mem_take hv))
      omega
    · intro hx
      refine ⟨a, rfl, (fun ⟨a, e, _⟩ => by cases e), fun j hj => ?_⟩
      have hj2 : j < l ∧ j < zs.length := by rw [List.length_take] at hj; omega
      rw [hcell j hj2.2, List.getElem?_take, if_pos hj2.1]
      simp

end
end Go.Proofs.Ythfkooancgkjaaa
/-
  What is proved here: what the document's own comparing of bytes answers.
-/
namespace Go.Proofs.Ythfkooancgkjaaa
open Go.ChangeShapes Go.WideShapes Go.ChangeAt Go.RowKit
set_option linter.unusedVariables false
set_option maxRecDepth 20000

set_option maxRecDepth 5000 in
set_option maxHeartbeats 1000000 in
theorem Same_any (A B : Option Addr) (c d : Nat) (xs ys : List Int) (w : World) (hx : Rp w none A xs) (hy : Rp w none B ys) (hlx : xs.length < 1000000000000) (hly : ys.length < 1000000000000) :
    Calls Try.prog 33 #[.slice A xs.length c, .slice B ys.length d] w fun e w' => e = .returned (.bool (decide (xs = ys))) ∧ Below w.heap.size w w' := by
  obtain ⟨n, hn⟩ : ∃ n, n = xs.length := ⟨_, rfl⟩
  obtain ⟨m, hm⟩ : ∃ m, m = ys.length := ⟨_, rfl⟩
  obtain ⟨r, hr⟩ : ∃ r, r = decide (xs = ys) := ⟨_, rfl⟩
  rw [← hn] at hlx
  rw [← hm] at hly
  rw [← hn, ← hm, ← hr]
  have HX := hid hx; have HY := hid hy; have HN := hid hn; have HM := hid hm; have HR := hid hr
  clear hx hy hn hm hr
  by_cases hnm : n = m
  · subst hnm
    go_enter Try.func33, Try.ntmps33
    go_wp2
    go_loopw [5] (fun i wr => ∃ k : Nat, k ≤ n ∧ i = .int .i64 k ∧ (∀ j, j < k → xs[j]? = ys[j]?) ∧ Below w.heap.size w wr) (fun i _ => n - (intOf i).toNat)
    case atStart => exact ⟨0, by omega, rfl, fun j hj => by omega, Below.refl _ _⟩
    case round =>
      obtain ⟨k, hk, rfl, heq, hbl⟩ := hrel
      have HE := hid heq; have HB := hid hbl
      clear heq hbl
      by_cases hlt : k < n
      · have hxn := HN.out; have hyn := HM.out
        obtain ⟨ad, rfl, hc⟩ := (HX.out.belowN HB.out).get (by omega)
        obtain ⟨be_, rfl, hd⟩ := (HY.out.belowN HB.out).get (by omega)
        have hck := hc k (by omega)
        have hdk := hd k (by omega)
        have hxk : xs[k]? = some (xs[k]?.getD 0) := by rw [List.getElem?_eq_getElem (by omega)]; rfl
        have hyk : ys[k]? = some (ys[k]?.getD 0) := by rw [List.getElem?_eq_getElem (by omega)]; rfl
        obtain ⟨a, ha⟩ : ∃ a, a = xs[k]?.getD 0 := ⟨_, rfl⟩
        obtain ⟨b, hb⟩ : ∃ b, b = ys[k]?.getD 0 := ⟨_, rfl⟩
        rw [← ha] at hck hxk
        rw [← hb] at hdk hyk
        have KX := hid hxk; have KY := hid hyk
        clear hxk hyk ha hb hc hd hxn hyn
        by_cases hab : a = b
        · have hne : (a != b) = false := by simp [hab]
          have HAB := hid hab
          clear hab
          go_wp2
          go_region
          go_wp2
          go_roundw
          case rel =>
            refine ⟨k + 1, by omega, by go_num, fun j hj => ?_, HB.out.drew⟩
            by_cases hjk : j = k
            · subst hjk; rw [KX.out, KY.out, HAB.out]
            · exact HE.out j (by omega)
          case measure => simp [intOf]; omega
        · have hne : (a != b) = true := by simp [hab]
          have hf : r = false := by
            rw [HR.out]
            apply decide_eq_false
            intro e
            have h1 := KX.out; have h2 := KY.out
            rw [e] at h1
            rw [h1] at h2
            exact hab (by injection h2)
          have HF := hid hf
          clear hf hab
          go_wp2
          go_region
          go_wp2
          go_ret
          rw [HF.out]
          exact ⟨rfl, HB.out.drew⟩
      · have hkn : k = n := by omega
        have ht : r = true := by
          rw [HR.out]
          apply decide_eq_true
          apply List.ext_getElem?
          intro j
          have h1 := HN.out; have h2 := HM.out
          rcases Nat.lt_or_ge j n with h | h
          · exact HE.out j (by omega)
          · rw [List.getElem?_eq_none (by omega), List.getElem?_eq_none (by omega)]
        have HT := hid ht
        clear ht
        go_wp2
        go_ret
        rw [HT.out]
        exact ⟨rfl, HB.out⟩
  · have hne : ((n : Int) != (m : Int)) = true := by simp; omega
    have hf : r = false := by
      rw [HR.out]
      apply decide_eq_false
      intro e
      have h1 := HN.out; have h2 := HM.out
      rw [e] at h1
      omega
    have HF := hid hf
    clear hf
    go_enter Try.func33, Try.ntmps33
    go_wp2
    go_ret
    rw [HF.out]
    exact ⟨rfl, Below.refl _ _⟩
end Go.Proofs.Ythfkooancgkjaaa
/-
  What is proved here: a copy of bytes.
-/
namespace Go.Proofs.Ythfkooancgkjaaa
open Go.ChangeShapes Go.WideShapes Go.ChangeAt Go.RowKit
set_option linter.unusedVariables false
set_option maxRecDepth 20000

theorem Clone_any (A : Option Addr) (c : Nat) (xs : List Int) (w : World) (hr : Rp w none A xs) (hx : xs.length < 1000000000000) :
    Calls Try.prog 53 #[.slice A xs.length c] w fun e w' => ∃ A' c', e = .returned (.slice A' xs.length c') ∧ xs.length ≤ c' ∧ Fresh w w' A' xs ∧ Below w.heap.size w w' := by
  cases A with
  | none =>
    have h0 : xs = [] := by
      cases xs with
      | nil => rfl
      | cons x xs => obtain ⟨ad, e, _⟩ := hr (by simp); cases e
    subst h0
    have HF : Hid (Fresh w w none []) := fun h => by simp at h
    clear hr
    have hnil : ∀ (w : World) (a : Option Addr) (n c n' c' : Nat), (binOp .eql 23 (.slice a n c) (.slice none n' c')).run Try.prog w = .ok (.bool a.isNone) w := fun w a n c n' c' => Lib.run_eql_slice_nil w _ _ a n c n' c' Try.underlying23
    go_enter Try.func53, Try.ntmps53
    go_wp2
    go_ret
    exact ⟨none, 0, rfl, by simp, HF.out, Below.refl _ _⟩
  | some ad =>
    obtain ⟨i0, hi, hz0, hz1, hz2⟩ := info_parts info_u8
    have hcells : ∀ j u, (u8s xs)[j]? = some u → (w.alloc (.cells #[] 5)).cell? (ad.add j) = some u := by
      intro j u hu
      rcases Nat.lt_or_ge j xs.length with hj | hj
      · obtain ⟨ad', e, _, hc⟩ := hr (by omega)
        injection e with e
        subst e
        have hcj := hc j hj
        rw [World.cell?_alloc_lt w _ _ (block_lt_of_cell hcj), hcj, ← hu, u8s_get _ _ hj]
      · rw [List.getElem?_eq_none (by rw [u8s_length]; exact hj)] at hu; cases hu
    have hown : (w.alloc (.cells #[] 5)).ownsRow w.heap.size 5 1 (.slice (some ⟨w.heap.size, 0, none⟩) 0 0) 0 [] :=
      ⟨by simp, .inr ⟨w.heap.size, 0, #[], rfl, Nat.le_refl _, heap_alloc_new w _, by omega, by unfold maxLen; omega, by simp, by simp⟩⟩
    have HC := hid hcells; have HO := hid hown; have HX := hid hx
    obtain ⟨n, hn⟩ : ∃ n, n = xs.length := ⟨_, rfl⟩
    rw [← hn]
    have HN := hid hn
    have HL : Hid ((u8s xs).length = n * 1) := by show _ = _; rw [u8s_length, HN.out]; omega
    have HM : Hid (0 + n ≤ maxLen) := by show _ ≤ _; have := HN.out; unfold maxLen; omega
    have HB : Hid ((0 + n) * 1 ≤ 140737488355328) := by show _ ≤ _; have := HN.out; omega
    have B0 : Below w.heap.size w (w.alloc (.cells #[] 5)) := (Below.refl _ _).alloc (Nat.le_refl _) _
    clear hcells hown hx hr hn
    have hnil : ∀ (w : World) (a : Option Addr) (n c n' c' : Nat), (binOp .eql 23 (.slice a n c) (.slice none n' c')).run Try.prog w = .ok (.bool a.isNone) w := fun w a n c n' c' => Lib.run_eql_slice_nil w _ _ a n c n' c' Try.underlying23
    go_enter Try.func53, Try.ntmps53
    go_wp2_with (at_builtin; refine wpList_append_own _ rfl (.tmp 5) (.tmp 6) 23 rfl w.heap.size 5 i0 (.int .u8 0) 1 1 Try.underlying23 hi hz0 hz1 hz2 rfl (by decide) (.slice (some ⟨w.heap.size, 0, none⟩) 0 0) 0 [] rfl HO.out ad n c (u8s xs) rfl HL.out HC.out (u8s_one _) HM.out HB.out (by simp) ?_; intro v1 w1 hown1 hg1 _; have HW1 := hid hown1; have HG1 := hid hg1; clear hown1 hg1)
    go_ret
    have hw := HW1.out
    rw [Nat.zero_add, List.nil_append] at hw
    have hbl : Below w.heap.size w w1 := B0.grown HG1.out (by simp) (fun k hk => by simp [Value.ownBlock] at hk; omega)
    rcases hw.2 with ⟨hv, h0⟩ | ⟨g, cap, cur, hv, hg, hh, hnc, hcm, hcs, htk⟩
    · refine ⟨none, 0, ?_, by omega, ?_, hbl⟩
      · subst h0; simp [hv]
      · intro h; have := HN.out; omega
    · refine ⟨some ⟨g, 0, none⟩, cap, by simp [hv], hnc, fun _ => ⟨g, cur, rfl, hg, hh, fun j hj => ?_⟩, hbl⟩
      have hn := HN.out
      have e : cur[j]? = (cur.toList.take (n * 1))[j]? := by rw [List.getElem?_take, if_pos (by omega), Array.getElem?_toList]
      rw [e, htk, u8s_get _ _ hj]

end Go.Proofs.Ythfkooancgkjaaa
/-
  What this file is for: pages, what waits, and what stands for what it took the place of, as lists; their cells in memory. Nothing of the program is walked here.
-/
namespace Go.Proofs.Ythfkooancgkjaaa
open Go.ChangeShapes Go.WideShapes Go.ChangeAt Go.RowKit
set_option linter.unusedVariables false
set_option maxRecDepth 20000

/-- a write: the page's number, and the bytes -/
abbrev Wr := Nat × List Int
/-- the pages L behind the writes Q -/
def pg (L : List (List Int)) : List Wr → List (List Int)
  | [] => L
  | q :: Q => pg (L.set q.1 q.2) Q
/-- what the writes Q took the place of, in pages L -/
def un (L : List (List Int)) : List Wr → List Wr
  | [] => []
  | q :: Q => (q.1, L[q.1]?.getD []) :: un (L.set q.1 q.2) Q
theorem pg_snoc (q : Wr) : ∀ (Q : List Wr) (L : List (List Int)), pg L (Q ++ [q]) = (pg L Q).set q.1 q.2
  | [], L => rfl
  | r :: Q, L => pg_snoc q Q _
theorem un_snoc (q : Wr) : ∀ (Q : List Wr) (L : List (List Int)), un L (Q ++ [q]) = un L Q ++ [(q.1, (pg L Q)[q.1]?.getD [])]
  | [], L => rfl
  | r :: Q, L => by
    show _ :: un _ (Q ++ [q]) = _ :: _ ++ _
    rw [un_snoc q Q]; rfl
theorem pg_length : ∀ (Q : List Wr) (L : List (List Int)), (pg L Q).length = L.length
  | [], L => rfl
  | r :: Q, L => by show (pg _ Q).length = _; rw [pg_length Q, List.length_set]
theorem un_length : ∀ (Q : List Wr) (L : List (List Int)), (un L Q).length = Q.length
  | [], L => rfl
  | r :: Q, L => by show (un _ Q).length + 1 = Q.length + 1; rw [un_length Q]
/-- all pages have 128 bytes -/
def PgOk (L : List (List Int)) : Prop := ∀ p ∈ L, p.length = 128
/-- all writes are of pages that are there, and have 128 bytes -/
def QOk (n : Nat) (Q : List Wr) : Prop := ∀ q ∈ Q, q.1 < n ∧ q.2.length = 128
theorem PgOk.set {L : List (List Int)} (h : PgOk L) (i : Nat) {p : List Int} (hp : p.length = 128) : PgOk (L.set i p) := fun x hx => by
  rcases List.mem_or_eq_of_mem_set hx with h1 | h1
  · exact h x h1
  · rw [h1]; exact hp
theorem PgOk.at {L : List (List Int)} (h : PgOk L) {i : Nat} (hi : i < L.length) : (L[i]?.getD []).length = 128 := by
  rw [List.getElem?_eq_getElem hi]; exact h _ (List.getElem_mem hi)
theorem QOk.tail {n : Nat} {q : Wr} {Q : List Wr} (h : QOk n (q :: Q)) : QOk n Q := fun x hx => h x (List.mem_cons_of_mem _ hx)
theorem QOk.snoc {n : Nat} {q : Wr} {Q : List Wr} (h : QOk n Q) (h1 : q.1 < n) (h2 : q.2.length = 128) : QOk n (Q ++ [q]) := fun x hx => by
  rcases List.mem_append.1 hx with h3 | h3
  · exact h x h3
  · rw [List.mem_singleton.1 h3]; exact ⟨h1, h2⟩
theorem QOk.take {n : Nat} {Q : List Wr} (h : QOk n Q) (k : Nat) : QOk n (Q.take k) := fun x hx => h x (List.mem_of_mem_take hx)
theorem QOk.nil (n : Nat) : QOk n [] := fun x hx => by simp at hx
theorem pg_ok : ∀ (Q : List Wr) (L : List (List Int)), PgOk L → QOk L.length Q → PgOk (pg L Q)
  | [], L, h, _ => h
  | q :: Q, L, h, hq => pg_ok Q _ (h.set _ (hq q (by simp)).2) (by rw [List.length_set]; exact hq.tail)
theorem un_ok : ∀ (Q : List Wr) (L : List (List Int)), PgOk L → QOk L.length Q → QOk L.length (un L Q)
  | [], L, h, _ => QOk.nil _
  | q :: Q, L, h, hq => fun x hx => by
    rcases List.mem_cons.1 hx with h1 | h1
    · rw [h1]; exact ⟨(hq q (by simp)).1, h.at (hq q (by simp)).1⟩
    · have := un_ok Q (L.set q.1 q.2) (h.set _ (hq q (by simp)).2) (by rw [List.length_set]; exact hq.tail)
      rw [List.length_set] at this
      exact this x h1

/-! Half turned back: the first k writes stand for what they took the place of, the others for their own bytes. -/
def hp (L : List (List Int)) (Q : List Wr) (k : Nat) : List (List Int) := pg L (Q.take k)
def hu (L : List (List Int)) (Q : List Wr) (k : Nat) : List Wr := un L (Q.take k) ++ Q.drop k
theorem hp_all (L : List (List Int)) (Q : List Wr) : hp L Q Q.length = pg L Q := by unfold hp; rw [List.take_length]
theorem hu_all (L : List (List Int)) (Q : List Wr) : hu L Q Q.length = un L Q := by unfold hu; rw [List.take_length, List.drop_length, List.append_nil]
theorem hp_0 (L : List (List Int)) (Q : List Wr) : hp L Q 0 = L := rfl
theorem hu_0 (L : List (List Int)) (Q : List Wr) : hu L Q 0 = Q := rfl
theorem hp_length (L : List (List Int)) (Q : List Wr) (k : Nat) : (hp L Q k).length = L.length := pg_length _ _
theorem hu_length (L : List (List Int)) (Q : List Wr) (k : Nat) : (hu L Q k).length = Q.length := by
  unfold hu; rw [List.length_append, un_length, List.length_take, List.length_drop]; omega
theorem hp_ok {L : List (List Int)} {Q : List Wr} (h : PgOk L) (hq : QOk L.length Q) (k : Nat) : PgOk (hp L Q k) := pg_ok _ _ h (hq.take k)
theorem hu_ok {L : List (List Int)} {Q : List Wr} (h : PgOk L) (hq : QOk L.length Q) (k : Nat) : QOk L.length (hu L Q k) := fun x hx => by
  rcases List.mem_append.1 hx with h1 | h1
  · exact un_ok _ _ h (hq.take k) x h1
  · exact hq x (List.mem_of_mem_drop h1)
section
variable {L : List (List Int)} {Q : List Wr} {k : Nat} {q : Wr} (hk : Q[k]? = some q)
include hk
theorem hp_succ : hp L Q (k + 1) = (hp L Q k).set q.1 q.2 := by
  unfold hp
  rw [List.take_add_one, hk]
  exact pg_snoc q _ _
theorem hu_split : hu L Q (k + 1) = un L (Q.take k) ++ ((q.1, (hp L Q k)[q.1]?.getD []) :: Q.drop (k + 1)) := by
  unfold hu
  rw [List.take_add_one, hk]
  show un L (Q.take k ++ [q]) ++ _ = _
  rw [un_snoc, List.append_assoc]; rfl
theorem hu_split0 : hu L Q k = un L (Q.take k) ++ (q :: Q.drop (k + 1)) := by
  obtain ⟨hlt, e⟩ := List.getElem?_eq_some_iff.1 hk
  unfold hu
  rw [List.drop_eq_getElem_cons hlt, e]
theorem hu_len : (un L (Q.take k)).length = k := by
  obtain ⟨hlt, e⟩ := List.getElem?_eq_some_iff.1 hk
  rw [un_length, List.length_take]; omega
theorem hu_at : (hu L Q (k + 1))[k]? = some (q.1, (hp L Q k)[q.1]?.getD []) := by
  rw [hu_split hk, List.getElem?_append_right (by rw [hu_len hk]; omega), hu_len hk, Nat.sub_self]; rfl
theorem hu_back : (hu L Q (k + 1)).set k q = hu L Q k := by
  rw [hu_split hk, hu_split0 hk, List.set_append_right (h := by rw [hu_len hk]; omega), hu_len hk, Nat.sub_self]; rfl
theorem hp_own (hq : q.1 < L.length) : (hp L Q (k + 1))[q.1]? = some q.2 := by
  rw [hp_succ hk, List.getElem?_set_self (by rw [hp_length]; exact hq)]
theorem hp_back (hq : q.1 < L.length) : (hp L Q (k + 1)).set q.1 ((hp L Q k)[q.1]?.getD []) = hp L Q k := by
  rw [hp_succ hk, List.set_set, List.getElem?_eq_getElem (by rw [hp_length]; exact hq), Option.getD_some, List.set_getElem_self]
end

/-! A restart: of each write so many first bytes. -/
def mx (p b : List Int) (t : Nat) : List Int := b.take t ++ p.drop t
def mixs (T : Nat → Nat) (L : List (List Int)) (Q : List Wr) : Nat → List (List Int)
  | 0 => L
  | k + 1 => match Q[k]? with
    | none => mixs T L Q k
    | some q => (mixs T L Q k).set q.1 (mx ((mixs T L Q k)[q.1]?.getD []) q.2 (T k))
theorem mixs_length (T : Nat → Nat) (L : List (List Int)) (Q : List Wr) : ∀ k, (mixs T L Q k).length = L.length
  | 0 => rfl
  | k + 1 => by
    unfold mixs
    cases Q[k]? with
    | none => exact mixs_length T L Q k
    | some q => simp only [List.length_set]; exact mixs_length T L Q k
theorem mx_length {p b : List Int} {t : Nat} (h1 : p.length = 128) (h2 : b.length = 128) (ht : t ≤ 128) : (mx p b t).length = 128 := by
  unfold mx; rw [List.length_append, List.length_take, List.length_drop, h1, h2]; omega
theorem mixs_ok {T : Nat → Nat} (hT : ∀ k, T k ≤ 128) {L : List (List Int)} {Q : List Wr} (h : PgOk L) (hq : QOk L.length Q) : ∀ k, PgOk (mixs T L Q k)
  | 0 => h
  | k + 1 => by
    unfold mixs
    cases hk : Q[k]? with
    | none => exact mixs_ok hT h hq k
    | some q =>
      have hm := hq q (List.mem_of_getElem? hk)
      exact (mixs_ok hT h hq k).set _ (mx_length ((mixs_ok hT h hq k).at (by rw [mixs_length]; exact hm.1)) hm.2 (hT k))
theorem mixs_succ {T : Nat → Nat} {L : List (List Int)} {Q : List Wr} {k : Nat} {q : Wr} (hk : Q[k]? = some q) :
    mixs T L Q (k + 1) = (mixs T L Q k).set q.1 (mx ((mixs T L Q k)[q.1]?.getD []) q.2 (T k)) := by
  conv => lhs; unfold mixs
  rw [hk]
/-- so many bytes of the write with this number, by a list of numbers -/
def keep (l : List Int) (i : Nat) : Nat := (min (max (l[i]?.getD 0) 0) 128).toNat
theorem keep_le (l : List Int) (i : Nat) : keep l i ≤ 128 := by unfold keep; omega

/-! Rows of things of one size. -/
section
variable {α : Type} {f : α → List Value} {sz : Nat}
theorem flat_len : ∀ (l : List α), (∀ a ∈ l, (f a).length = sz) → (l.flatMap f).length = sz * l.length
  | [], _ => by simp
  | a :: l, h => by
    rw [List.flatMap_cons, List.length_append, h a (by simp), flat_len l (fun b hb => h b (List.mem_cons_of_mem _ hb)), List.length_cons, Nat.mul_add, Nat.mul_one, Nat.add_comm]
theorem flat_at : ∀ (l : List α), (∀ a ∈ l, (f a).length = sz) → ∀ (i j : Nat) (a : α), l[i]? = some a → j < sz → (l.flatMap f)[sz * i + j]? = (f a)[j]?
  | [], _, i, j, a, hi, _ => by simp at hi
  | b :: l, h, 0, j, a, hi, hj => by
    injection hi with hi; subst hi
    rw [List.flatMap_cons, Nat.mul_zero, Nat.zero_add, List.getElem?_append_left (by rw [h b (by simp)]; exact hj)]
  | b :: l, h, i + 1, j, a, hi, hj => by
    rw [List.flatMap_cons, List.getElem?_append_right (by rw [h b (by simp), Nat.mul_add]; omega), h b (by simp)]
    have e : sz * (i + 1) + j - sz = sz * i + j := by rw [Nat.mul_add]; omega
    rw [e]
    exact flat_at l (fun c hc => h c (List.mem_cons_of_mem _ hc)) i j a hi hj
theorem flat_put : ∀ (l : List α), (∀ a ∈ l, (f a).length = sz) → ∀ (i : Nat) (b : α), i < l.length → (f b).length = sz → splice (l.flatMap f) (sz * i) (f b) = (l.set i b).flatMap f
  | [], _, i, b, hi, _ => by simp at hi
  | a :: l, h, 0, b, hi, hb => by
    unfold splice
    rw [Nat.mul_zero, List.take_zero, List.nil_append, Nat.zero_add, List.flatMap_cons, List.set_cons_zero, List.flatMap_cons, hb, ← h a (by simp), List.drop_left]
  | a :: l, h, i + 1, b, hi, hb => by
    have ih := flat_put l (fun c hc => h c (List.mem_cons_of_mem _ hc)) i b (by simpa using hi) hb
    have ha := h a (by simp)
    rw [List.flatMap_cons, List.set_cons_succ, List.flatMap_cons, ← ih]
    unfold splice
    have e1 : sz * (i + 1) = (f a).length + sz * i := by rw [ha, Nat.mul_add]; omega
    rw [e1, List.take_length_add_append, Nat.add_assoc, List.drop_length_add_append, List.append_assoc]
end
theorem flat_snoc {α : Type} {f : α → List Value} (l : List α) (a : α) : (l ++ [a]).flatMap f = l.flatMap f ++ f a := by simp

/-- the cells of pages -/
def pcs (L : List (List Int)) : List Value := L.flatMap u8s
/-- the cells of a write -/
def wc1 (q : Wr) : List Value := Value.int .i64 (q.1 : Nat) :: u8s q.2
/-- the cells of writes -/
def wcs (U : List Wr) : List Value := U.flatMap wc1
theorem PgOk.lens {L : List (List Int)} (h : PgOk L) : ∀ a ∈ L, (u8s a).length = 128 := fun a ha => by rw [u8s_length]; exact h a ha
theorem QOk.lens {n : Nat} {U : List Wr} (h : QOk n U) : ∀ a ∈ U, (wc1 a).length = 129 := fun a ha => by unfold wc1; rw [List.length_cons, u8s_length, (h a ha).2]
theorem pcs_len {L : List (List Int)} (h : PgOk L) : (pcs L).length = 128 * L.length := flat_len L h.lens
theorem wcs_len {n : Nat} {U : List Wr} (h : QOk n U) : (wcs U).length = 129 * U.length := flat_len U h.lens
theorem pcs_at {L : List (List Int)} (h : PgOk L) {i : Nat} (hi : i < L.length) (j : Nat) (hj : j < 128) : (pcs L)[128 * i + j]? = (u8s (L[i]?.getD []))[j]? := by
  rw [List.getElem?_eq_getElem hi]; exact flat_at L h.lens i j _ (List.getElem?_eq_getElem hi) hj
theorem pcs_put {L : List (List Int)} (h : PgOk L) {i : Nat} (hi : i < L.length) {p : List Int} (hp : p.length = 128) : splice (pcs L) (128 * i) (u8s p) = pcs (L.set i p) :=
  flat_put L h.lens i p hi (by rw [u8s_length]; exact hp)
theorem wcs_0 {n : Nat} {U : List Wr} (h : QOk n U) {i : Nat} {q : Wr} (hi : U[i]? = some q) : (wcs U)[129 * i]? = some (.int .i64 (q.1 : Nat)) := flat_at U h.lens i 0 q hi (by omega)
theorem wcs_at {n : Nat} {U : List Wr} (h : QOk n U) {i : Nat} {q : Wr} (hi : U[i]? = some q) (j : Nat) (hj : j < 128) : (wcs U)[129 * i + 1 + j]? = (u8s q.2)[j]? := by
  have := flat_at U h.lens i (1 + j) q hi (by omega)
  rw [← Nat.add_assoc] at this
  rw [show wcs U = U.flatMap wc1 from rfl, this, Nat.add_comm 1 j]; rfl
/-- within a write its bytes are put -/
theorem wcs_put {n : Nat} {U : List Wr} (h : QOk n U) {i : Nat} {q : Wr} (hi : U[i]? = some q) {p : List Int} (hp : p.length = 128) : splice (wcs U) (129 * i + 1) (u8s p) = wcs (U.set i (q.1, p)) := by
  obtain ⟨hlt, _⟩ := List.getElem?_eq_some_iff.1 hi
  have hl := wcs_len h
  have e := flat_put U h.lens i (q.1, p) hlt (by unfold wc1; rw [List.length_cons, u8s_length, hp])
  rw [show wcs (U.set i (q.1, p)) = (U.set i (q.1, p)).flatMap wc1 from rfl, ← e]
  have hwl : (wc1 (q.1, p)).length = 129 := by unfold wc1; rw [List.length_cons, u8s_length, hp]
  apply List.ext_getElem?
  intro j
  rw [get_splice _ _ _ (by rw [u8s_length, hp, hl]; omega), get_splice _ _ _ (by rw [hwl, show U.flatMap wc1 = wcs U from rfl, hl]; omega), u8s_length, hp, hwl]
  by_cases h1 : j < 129 * i
  · rw [if_pos (by omega), if_pos h1]; rfl
  · rw [if_neg h1]
    by_cases h2 : j = 129 * i
    · subst h2
      rw [if_pos (by omega), if_pos (by omega), Nat.sub_self, wcs_0 h hi]; rfl
    · rw [if_neg (by omega)]
      by_cases h3 : j < 129 * i + 129
      · rw [if_pos (by omega), if_pos h3]
        have : j - 129 * i = (j - (129 * i + 1)) + 1 := by omega
        rw [this]; rfl
      · rw [if_neg (by omega), if_neg h3]; rfl
theorem u8s_mx (p b : List Int) (t : Nat) (h1 : p.length = 128) (h2 : b.length = 128) (ht : t ≤ 128) : splice (u8s p) 0 (u8s (b.take t)) = u8s (mx p b t) := by
  unfold splice mx u8s
  rw [List.take_zero, List.nil_append, Nat.zero_add, List.map_append, List.length_map, List.length_take, h2, List.map_drop, Nat.min_eq_left ht]
/-- of a page the first bytes are put -/
theorem pcs_mx {L : List (List Int)} (h : PgOk L) {i : Nat} (hi : i < L.length) {b : List Int} (hb : b.length = 128) {t : Nat} (ht : t ≤ 128) : splice (pcs L) (128 * i) (u8s (b.take t)) = pcs (L.set i (mx (L[i]?.getD []) b t)) := by
  have hp := h.at hi
  rw [← pcs_put h hi (mx_length hp hb ht)]
  have hl := pcs_len h
  have hbl : (u8s (b.take t)).length = t := by rw [u8s_length, List.length_take, hb]; omega
  apply List.ext_getElem?
  intro j
  rw [get_splice _ _ _ (by rw [hbl, hl]; omega), get_splice _ _ _ (by rw [u8s_length, mx_length hp hb ht, hl]; omega), hbl, u8s_length, mx_length hp hb ht]
  by_cases h1 : j < 128 * i
  · rw [if_pos h1, if_pos h1]
  · rw [if_neg h1, if_neg h1, ← u8s_mx _ _ _ hp hb ht]
    have := get_splice (u8s (L[i]?.getD [])) 0 (u8s (b.take t)) (by rw [hbl, u8s_length, hp]; omega) (j - 128 * i)
    rw [hbl] at this
    by_cases h2 : j < 128 * i + t
    · rw [if_pos h2, if_pos (by omega), this, if_neg (by omega), if_pos (by omega), Nat.sub_zero]
    · rw [if_neg h2]
      by_cases h3 : j < 128 * i + 128
      · rw [if_pos h3, this, if_neg (by omega), if_neg (by omega), ← pcs_at h hi _ (by omega)]
        congr 1; omega
      · rw [if_neg h3]

/-! Cells put into a row. -/
def putRow (cs : Array Value) : Nat → List Value → Array Value
  | _, [] => cs
  | o, v :: r => putRow (cs.setIfInBounds o v) (o + 1) r
theorem putRow_at : ∀ (vs : List Value) (cs : Array Value) (o i : Nat), o + vs.length ≤ cs.size → (putRow cs o vs)[i]? = if o ≤ i ∧ i < o + vs.length then vs[i - o]? else cs[i]?
  | [], cs, o, i, h => by
    unfold putRow
    rw [if_neg]
    simp only [List.length_nil]
    omega
  | v :: r, cs, o, i, h => by
    simp only [List.length_cons] at h ⊢
    unfold putRow
    rw [putRow_at r _ (o + 1) i (by rw [Array.size_setIfInBounds]; omega), Array.getElem?_setIfInBounds]
    by_cases h1 : o = i
    · subst h1
      rw [if_neg (by omega), if_pos rfl, if_pos (by omega), if_pos (by omega)]
      simp
    · rw [if_neg h1]
      by_cases h2 : o + 1 ≤ i ∧ i < o + 1 + r.length
      · rw [if_pos h2, if_pos (by omega), show i - o = (i - (o + 1)) + 1 by omega, List.getElem?_cons_succ]
      · rw [if_neg h2, if_neg (by omega)]
theorem putRow_size : ∀ (vs : List Value) (cs : Array Value) (o : Nat), (putRow cs o vs).size = cs.size
  | [], _, _ => rfl
  | v :: r, cs, o => by unfold putRow; rw [putRow_size r, Array.size_setIfInBounds]
theorem Blk.putCells {g : Nat} {t : TypeId} : ∀ (vs : List Value) {w : World} {cs : Array Value} (h : Blk w g t cs) (o : Nat), Blk (w.setCells g o vs) g t (putRow cs o vs)
  | [], _, _, h, _ => h
  | v :: r, _, _, h, o => (h.setd o v).putCells r (o + 1)
theorem Blk.farCells {g k : Nat} (hk : k ≠ g) {t : TypeId} {cs : Array Value} : ∀ (vs : List Value) {w : World} (h : Blk w k t cs) (o : Nat), Blk (w.setCells g o vs) k t cs
  | [], _, h, _ => h
  | v :: r, _, h, o => (h.far hk v : Blk (World.setCell _ ⟨g, o, none⟩ v) k t cs).farCells hk r (o + 1)
theorem OnlyS.setCells {S : Nat → Prop} {g : Nat} : ∀ (vs : List Value) {a w : World} (h : OnlyS S a w) (hg : S g ∨ a.heap.size ≤ g) (o : Nat), OnlyS S a (w.setCells g o vs)
  | [], _, _, h, _, _ => h
  | v :: r, a, w, h, hg, o => OnlyS.setCells r (h.setCell (p := ⟨g, o, none⟩) hg v) hg (o + 1)
theorem putRow_splice {cs : Array Value} {o : Nat} {vs : List Value} {N : Nat} (h : o + vs.length ≤ N) (hN : N ≤ cs.size) : (putRow cs o vs).toList.take N = splice (cs.toList.take N) o vs := by
  have hlen : (cs.toList.take N).length = N := by simp; omega
  apply List.ext_getElem?
  intro j
  rw [get_splice _ _ _ (by rw [hlen]; exact h), List.getElem?_take, List.getElem?_take]
  by_cases hj : j < N
  · rw [if_pos hj, if_pos hj, Array.getElem?_toList (xs := putRow cs o vs), putRow_at vs cs o j (by omega), Array.getElem?_toList (xs := cs)]
    by_cases h1 : j < o
    · rw [if_neg (by omega), if_pos h1]
    · rw [if_neg h1]
      by_cases h2 : j < o + vs.length
      · rw [if_pos (by omega), if_pos h2]
      · rw [if_neg (by omega), if_neg h2]
  · rw [if_neg hj, if_neg (by omega), if_neg (by omega), if_neg hj]
theorem putRow_whole {cs : List Value} {o : Nat} {vs : List Value} (h : o + vs.length ≤ cs.length) : putRow cs.toArray o vs = (splice cs o vs).toArray := by
  have := putRow_splice (cs := cs.toArray) (o := o) (vs := vs) (N := cs.length) h (by simp)
  have h1 : (putRow cs.toArray o vs).toList.take cs.length = (putRow cs.toArray o vs).toList := List.take_of_length_le (by rw [Array.length_toList, putRow_size]; simp)
  rw [h1] at this
  simp only [List.take_length] at this
  rw [← this]
end Go.Proofs.Ythfkooancgkjaaa
