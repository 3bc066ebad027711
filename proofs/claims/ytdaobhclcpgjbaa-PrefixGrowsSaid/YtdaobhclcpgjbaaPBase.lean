/-
  What this file is for: words for blocks of memory that are known whole, for keys and beginnings of keys as values. Nothing of the program is walked here.
-/
import Derived.Test.YtdaobhclcpgjbaaRows
import Derived.Test.YtdaobhclcpgjbaaKb
import Derived.WalkKit
import Derived.ProofKit
import Derived.OpenShut
import Derived.BigQuiet
import Derived.Deep.QuietTactic
import Derived.Deep.RegionHeld3
import Derived.Deep.MidRow
import Derived.IntWalk
import Derived.WalkSpells
import Derived.Laws.CopyOwn
import Derived.Laws.Rows
import Derived.Laws.StructEq
import Derived.Stop.BytesEq
namespace Go.Proofs.Ytdaobhclcpgjbaa
open Go.ChangeShapes Go.WideShapes Go.ChangeAt Go.RowKit
set_option linter.unusedVariables false

/-- A block that is known whole. -/
def Blk (w : World) (g : Nat) (t : TypeId) (cs : Array Value) : Prop := w.heap[g]? = some (.cells cs t (0, 0))
section
variable {w w' : World} {g : Nat} {t : TypeId} {cs : Array Value}
theorem Blk.lt (h : Blk w g t cs) : g < w.heap.size := by
  rcases Nat.lt_or_ge g w.heap.size with h1 | h1
  · exact h1
  · unfold Blk at h; rw [Array.getElem?_eq_none h1] at h; cases h
theorem Blk.cell (h : Blk w g t cs) (i : Nat) : w.cell? ⟨g, i, none⟩ = cs[i]? := cell_of_row w g i cs t (0, 0) h
theorem Blk.frozen (h : Blk w g t cs) (i : Nat) : w.frozen? ⟨g, i, none⟩ = false := by
  unfold Blk at h
  simp [World.frozen?, h]
theorem Blk.new (w : World) (t : TypeId) (cs : Array Value) : Blk (w.alloc (.cells cs t)) w.heap.size t cs := heap_alloc_new w _
theorem Blk.drew (h : Blk w g t cs) : Blk w.drew g t cs := h
theorem Blk.alloc (h : Blk w g t cs) (o : Obj) : Blk (w.alloc o) g t cs := (Below.heap_alloc w o g h.lt).trans h
theorem Blk.setd (h : Blk w g t cs) (i : Nat) (u : Value) : Blk (w.setCell ⟨g, i, none⟩ u) g t (cs.setIfInBounds i u) := by
  unfold Blk at h ⊢
  simp [World.setCell, Array.getElem?_modify, h]
theorem Blk.far (h : Blk w g t cs) {p : Addr} (hp : g ≠ p.block) (u : Value) : Blk (w.setCell p u) g t cs := (Below.heap_setCell w p u g hp).trans h
theorem Blk.same (h : Blk w g t cs) (hk : w'.heap[g]? = w.heap[g]?) : Blk w' g t cs := hk.trans h
theorem Blk.row (h : Blk w g t cs) (cs' : Array Value) : Blk (w.setRow g cs') g t cs' := setRow_heap w g cs cs' t (0, 0) h
theorem Blk.rowFar {k : Nat} (h : Blk w k t cs) (hk : k ≠ g) (cs' : Array Value) : Blk (w.setRow g cs') k t cs := (setRow_other w g k cs' hk).trans h
theorem Blk.below (h : Blk w g t cs) (hb : Below w.heap.size w w') : Blk w' g t cs := h.same (hb.block g h.lt)
end
theorem below_setRow {B : Nat} {a w : World} (h : Below B a w) {g : Nat} (hg : B ≤ g) (cs : Array Value) : Below B a (w.setRow g cs) :=
  ⟨h.os, h.tape, h.output, by simpa using h.size, fun k hk => (setRow_other w g k cs (by omega)).trans (h.block k hk)⟩

/-- the cells of bytes -/
def u8s (xs : List Int) : List Value := xs.map (Value.int .u8)
theorem u8s_length (xs : List Int) : (u8s xs).length = xs.length := by simp [u8s]
theorem u8s_get (xs : List Int) (i : Nat) (h : i < xs.length) : (u8s xs)[i]? = some (.int .u8 (xs[i]?.getD 0)) := by simp [u8s, h]
theorem u8s_one (xs : List Int) : ∀ v ∈ u8s xs, v.oneCell' = true := by
  intro v hv
  simp only [u8s, List.mem_map] at hv
  obtain ⟨x, _, rfl⟩ := hv
  rfl
/-- a key's cells -/
def kc (K : List Int) : Array Value := (u8s K).toArray
theorem kc_size {K : List Int} (h : Ky K) : (kc K).size = 32 := by rw [kc, List.size_toArray, u8s_length, h.len]
theorem kc_at {K : List Int} (h : Ky K) (i : Nat) (hi : i < 32) : (kc K)[i]? = some (.int .u8 (K[i]?.getD 0)) := by
  rw [kc, List.getElem?_toArray]; exact u8s_get K i (by rw [h.len]; exact hi)
theorem kc_one (K : List Int) : (kc K).all (·.oneCell') = true := by
  rw [Array.all_eq_true']
  intro v hv
  exact u8s_one K v (by simpa [kc] using hv)
theorem kc_info {K : List Int} (h : Ky K) : (Try.prog.info? 23).map (·.size) = some (kc K).size := by rw [kc_size h]; kernel_rfl
/-- the cells of a beginning: its length, and its bits -/
def pc (l : Int) (B : List Int) : Array Value := (Value.int .i64 l :: u8s B).toArray
theorem pc_size (l : Int) {B : List Int} (h : Ky B) : (pc l B).size = 33 := by rw [pc, List.size_toArray, List.length_cons, u8s_length, h.len]
theorem pc_0 (l : Int) (B : List Int) : (pc l B)[0]? = some (.int .i64 l) := rfl
theorem pc_at (l : Int) {B : List Int} (h : Ky B) (i : Nat) (hi : i < 32) : (pc l B)[i + 1]? = some (.int .u8 (B[i]?.getD 0)) := by
  rw [pc, List.getElem?_toArray, List.getElem?_cons_succ]; exact u8s_get B i (by rw [h.len]; exact hi)
theorem pc_one (l : Int) (B : List Int) : (pc l B).all (·.oneCell') = true := by
  rw [Array.all_eq_true']
  intro v hv
  simp only [pc, List.mem_toArray, List.mem_cons] at hv
  rcases hv with rfl | hv
  · rfl
  · exact u8s_one B v hv
theorem pc_info (l : Int) {B : List Int} (h : Ky B) : (Try.prog.info? 30).map (·.size) = some (pc l B).size := by rw [pc_size l h]; kernel_rfl
/-- the bits of a beginning lie in its block from cell 1 on -/
theorem pc_range {w : World} {g : Nat} {l : Int} {B : List Int} (h : Blk w g 30 (pc l B)) : w.rangeAt g 1 (u8s B) := fun j v hv => by
  rw [h.cell, pc, List.getElem?_toArray, Nat.add_comm 1 j, List.getElem?_cons_succ]; exact hv
end Go.Proofs.Ytdaobhclcpgjbaa
