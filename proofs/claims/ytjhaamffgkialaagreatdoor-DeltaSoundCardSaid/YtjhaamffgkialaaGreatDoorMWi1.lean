/-
  What this file is for: words for blocks of memory that are known whole, for bytes that are read, and for a writer's bytes, with the plain lemmas on them. Nothing of the program is walked here.
-/
import Derived.Test.YtjhaamffgkialaaGreatDoorRows
import Derived.Test.YtjhaamffgkialaaGreatDoorMA2
import Derived.WalkKit
import Derived.ProofKit
import Derived.OpenShut
import Derived.BigQuiet
import Derived.Deep.QuietTactic
import Derived.IntWalk
import Derived.Laws.CopyOwn
namespace Go.Proofs.YtjhaamffgkialaaGreatDoor
open Go.ChangeShapes Go.WideShapes Go.ChangeAt Go.RowKit
set_option linter.unusedVariables false
set_option maxRecDepth 20000

section
variable {w w' : World} {g : Nat} {t : TypeId} {cs : Array Value}
end

/-! Bytes that are read: the slice at A holds xs, and doesn't lie in block b. -/
def Rd (w : World) (b : Nat) (A : Option Addr) (xs : List Int) : Prop :=
  0 < xs.length → ∃ ad, A = some ad ∧ ad.block ≠ b ∧ ∀ j, j < xs.length → w.cell? (ad.add j) = some (.int .u8 (xs[j]?.getD 0))
theorem Rd.lt {w : World} {b : Nat} {ad : Addr} {xs : List Int} (h : Rd w b (some ad) xs) (hx : 0 < xs.length) : ad.block < w.heap.size := by
  obtain ⟨ad', e, _, hc⟩ := h hx
  injection e with e
  subst e
  have := block_lt_of_cell (hc 0 hx)
  rwa [add_block] at this
theorem Rd.keep {w w' : World} {b : Nat} {A : Option Addr} {xs : List Int} (h : Rd w b A xs) (hk : Only b w w') : Rd w' b A xs := fun hx => by
  obtain ⟨ad, rfl, hne, hc⟩ := h hx
  have hlt := h.lt hx
  exact ⟨ad, rfl, hne, fun j hj => (World.cell?_of_block (w := w) (hk.block _ (by rw [add_block]; exact hlt) (by rw [add_block]; exact hne))).trans (hc j hj)⟩

/-! Cells put one after the other into a row. -/
theorem zip_size (l : List Value) (k : Nat) (Z : Array Value) : ((l.zipIdx k).foldl (fun cs x => cs.setIfInBounds (1 + x.2) x.1) Z).size = Z.size := by
  induction l generalizing k Z with
  | nil => rfl
  | cons v l ih => simp only [List.zipIdx_cons, List.foldl_cons, ih, Array.size_setIfInBounds]
theorem zip_get (l : List Value) (k : Nat) (Z : Array Value) (j : Nat) :
    ((l.zipIdx k).foldl (fun cs x => cs.setIfInBounds (1 + x.2) x.1) Z)[j]? = if 1 + k ≤ j ∧ j < 1 + k + l.length ∧ j < Z.size then l[j - 1 - k]? else Z[j]? := by
  induction l generalizing k Z with
  | nil => simp; omega
  | cons v l ih =>
    simp only [List.zipIdx_cons, List.foldl_cons, ih, Array.size_setIfInBounds, List.length_cons]
    by_cases h : 1 + (k + 1) ≤ j ∧ j < 1 + (k + 1) + l.length ∧ j < Z.size
    · rw [if_pos h, if_pos (by omega)]
      have e : j - 1 - k = (j - 1 - (k + 1)) + 1 := by omega
      rw [e, List.getElem?_cons_succ]
    · rw [if_neg h, Array.getElem?_setIfInBounds]
      by_cases h2 : 1 + k = j
      · subst h2
        by_cases h3 : 1 + k < Z.size
        · rw [if_pos rfl, if_pos h3, if_pos (by omega)]
          simp
        · rw [if_pos rfl, if_neg h3, if_neg (by omega), Array.getElem?_eq_none (by omega)]
      · rw [if_neg h2, if_neg (by omega)]

/-- the block that is filled: what stood ahead, then the row -/
theorem fill_row (p : Value) (Z : List Value) (hZ : Z.length = 256) (tail : Array Value) (ht : tail.size = 256) :
    ∃ cc : Array Value, Array.foldl (fun (cs : Array Value) (x : Value × Nat) => cs.setIfInBounds (1 + x.2) x.1) (p :: Z).toArray tail.zipIdx 0 256 = cc ∧ cc.size = 257 ∧ cc[0]? = some p ∧ ∀ i, i < 256 → cc[1 + i]? = tail[i]? := by
  refine ⟨_, rfl, ?_⟩
  have hz : tail.zipIdx.size = 256 := by simp [ht]
  have e : Array.foldl (fun (cs : Array Value) (x : Value × Nat) => cs.setIfInBounds (1 + x.2) x.1) (p :: Z).toArray tail.zipIdx 0 256 = (tail.toList.zipIdx 0).foldl (fun cs x => cs.setIfInBounds (1 + x.2) x.1) (p :: Z).toArray := by
    rw [← hz, ← Array.foldl_toList]
    simp
  rw [e]
  refine ⟨by rw [zip_size]; simp [hZ], ?_, fun i hi => ?_⟩
  · rw [zip_get, if_neg (by omega)]; rfl
  · rw [zip_get, if_pos ⟨by omega, by simp [ht]; omega, by simp [hZ]; omega⟩]
    have : 1 + i - 1 - 0 = i := by omega
    rw [this]
    simp

/-- a row of cells within a block, loaded -/
theorem load_part (P : Program) (w : World) (g o n : Nat) (t : TypeId) (cs : Array Value) (hg : Blk w g t cs) (hn : o + n ≤ cs.size) :
    (loadCellsFrom ⟨g, o, none⟩ 0 n #[]).run P w = .ok (cs.extract o (o + n)) w := by
  have h := run_loadCells_list (P := P) w ⟨g, o, none⟩ (cs.extract o (o + n)).toList (fun j v hv => by
    have hadd : (⟨g, o, none⟩ : Addr).add j = ⟨g, o + j, none⟩ := by unfold Addr.add; split <;> simp_all
    rw [hadd, hg.cell]
    have hv' : (cs.extract o (o + n))[j]? = some v := by rw [← Array.getElem?_toList]; exact hv
    rw [Array.getElem?_extract] at hv'
    split at hv'
    · exact hv'
    · cases hv')
  have hl : (cs.extract o (o + n)).toList.length = n := by simp; omega
  rw [hl, Array.toArray_toList] at h
  exact h

theorem ne_BW : (174 : TypeId) ≠ 149 := by intro h; cases h
/-! A writer's bytes. -/
/-- the full blocks of a writer, the last one first: the first n times 256 bytes of bs -/
def Chain (w : World) : Nat → Option Addr → List Int → Prop
  | 0, p, _ => p = none
  | n + 1, p, bs => ∃ g p' cc, p = some ⟨g, 0, none⟩ ∧ Blk w g 174 cc ∧ cc.size = 257 ∧ cc[0]? = some (.pointer p') ∧
      (∀ i, i < 256 → cc[1 + i]? = some (.int .u8 (bs[n * 256 + i]?.getD 0))) ∧ Chain w n p' bs

/-- the writer in block b holds the bytes bs, and isn't spoiled -/
def WAt (w : World) (b : Nat) (bs : List Int) : Prop :=
  ∃ c full, Blk w b 149 c ∧ c.size = 259 ∧ c[0]? = some (.pointer full) ∧ c[257]? = some (.int .i64 bs.length) ∧ c[258]? = some (.bool false) ∧
    (∀ i, i < 256 → ∃ x : Int, c[1 + i]? = some (.int .u8 x)) ∧
    (∀ i, i < bs.length % 256 → c[1 + i]? = some (.int .u8 (bs[bs.length - bs.length % 256 + i]?.getD 0))) ∧ Chain w (bs.length / 256) full bs

/-- the writer in block b is spoiled -/
def WSp (w : World) (b : Nat) : Prop := ∃ c, Blk w b 149 c ∧ c.size = 259 ∧ c[258]? = some (.bool true)

theorem Chain.keep {w w' : World} (hk : ∀ g cs, Blk w g 174 cs → w'.heap[g]? = w.heap[g]?) {n : Nat} {p : Option Addr} {bs : List Int} (h : Chain w n p bs) : Chain w' n p bs := by
  induction n generalizing p with
  | zero => exact h
  | succ n ih =>
    obtain ⟨g, p', cc, h1, h2, h3, h4, h5, h6⟩ := h
    exact ⟨g, p', cc, h1, h2.same (hk g cc h2), h3, h4, h5, ih h6⟩
theorem Chain.more {w : World} {n : Nat} {p : Option Addr} {bs ys : List Int} (h : Chain w n p bs) (hn : n * 256 ≤ bs.length) : Chain w n p (bs ++ ys) := by
  induction n generalizing p with
  | zero => exact h
  | succ n ih =>
    obtain ⟨g, p', cc, h1, h2, h3, h4, h5, h6⟩ := h
    have hn2 : n * 256 + 256 ≤ bs.length := by rw [Nat.succ_mul] at hn; exact hn
    refine ⟨g, p', cc, h1, h2, h3, h4, fun i hi => ?_, ih h6 (Nat.le_trans (Nat.le_add_right _ _) hn2)⟩
    have hlt : n * 256 + i < bs.length := Nat.lt_of_lt_of_le (Nat.add_lt_add_left hi _) hn2
    rw [h5 i hi, List.getElem?_append_left hlt]
theorem WAt.keep {w w' : World} {b : Nat} {bs : List Int} (h : WAt w b bs) (hb : w'.heap[b]? = w.heap[b]?) (hk : ∀ g cs, Blk w g 174 cs → w'.heap[g]? = w.heap[g]?) : WAt w' b bs := by
  obtain ⟨c, full, h1, h2, h3, h4, h5, h6, h7, h8⟩ := h
  exact ⟨c, full, h1.same hb, h2, h3, h4, h5, h6, h7, h8.keep hk⟩
theorem WSp.keep {w w' : World} {b : Nat} (h : WSp w b) (hb : w'.heap[b]? = w.heap[b]?) : WSp w' b := by
  obtain ⟨c, h1, h2, h3⟩ := h
  exact ⟨c, h1.same hb, h2, h3⟩

theorem len_snoc (bs : List Int) (x : Int) : (bs ++ [x]).length = bs.length + 1 := by simp

/-- one byte more, and the tail isn't full -/
theorem WAt.one {w : World} {b : Nat} {bs : List Int} {c : Array Value} {full : Option Addr} (x : Int) (h1 : Blk w b 149 c) (h2 : c.size = 259) (h3 : c[0]? = some (.pointer full))
    (h5 : c[258]? = some (.bool false)) (h6 : ∀ i, i < 256 → ∃ x : Int, c[1 + i]? = some (.int .u8 x))
    (h7 : ∀ i, i < bs.length % 256 → c[1 + i]? = some (.int .u8 (bs[bs.length - bs.length % 256 + i]?.getD 0))) (h8 : Chain w (bs.length / 256) full bs)
    (hne : (bs.length + 1) % 256 ≠ 0) {m : Nat} (hm : m = bs.length % 256) {w' : World}
    (hw : Blk w' b 149 ((c.setIfInBounds (1 + m) (.int .u8 x)).setIfInBounds 257 (.int .i64 ((bs.length : Int) + 1)))) (ho : Only b w w') : WAt w' b (bs ++ [x]) := by
  have hl := len_snoc bs x
  refine ⟨_, full, hw, by simp [h2], ?_, ?_, ?_, ?_, ?_, ?_⟩
  · rw [Array.getElem?_setIfInBounds, if_neg (by omega), Array.getElem?_setIfInBounds, if_neg (by omega), h3]
  · rw [Array.getElem?_setIfInBounds, if_pos rfl, if_pos (by simp [h2]), hl]; simp
  · rw [Array.getElem?_setIfInBounds, if_neg (by omega), Array.getElem?_setIfInBounds, if_neg (by omega), h5]
  · intro i hi
    rw [Array.getElem?_setIfInBounds, if_neg (by omega), Array.getElem?_setIfInBounds]
    by_cases he : 1 + m = 1 + i
    · rw [if_pos he, if_pos (by rw [h2]; omega)]; exact ⟨x, rfl⟩
    · rw [if_neg he]; exact h6 i hi
  · intro i hi
    rw [hl] at hi ⊢
    have e1 : (bs.length + 1) % 256 = bs.length % 256 + 1 := by omega
    rw [Array.getElem?_setIfInBounds, if_neg (by omega), Array.getElem?_setIfInBounds]
    by_cases he : 1 + m = 1 + i
    · rw [if_pos he, if_pos (by rw [h2]; omega)]
      have e2 : bs.length + 1 - (bs.length + 1) % 256 + i = bs.length := by omega
      rw [e2]; simp
    · rw [if_neg he, h7 i (by omega)]
      have e2 : bs.length + 1 - (bs.length + 1) % 256 + i = bs.length - bs.length % 256 + i := by omega
      rw [e2, List.getElem?_append_left (by omega)]
  · have e3 : (bs ++ [x]).length / 256 = bs.length / 256 := by rw [hl]; omega
    rw [e3]
    refine (h8.more (by omega)).keep (fun g cs hg => ho.block g hg.lt (hg.ne h1 ne_BW))

/-- one byte more, and the tail is full: it goes into a block of its own -/
theorem WAt.full {w : World} {b : Nat} {bs : List Int} {c : Array Value} {full : Option Addr} (x : Int) (h1 : Blk w b 149 c) (h2 : c.size = 259) (h3 : c[0]? = some (.pointer full))
    (h5 : c[258]? = some (.bool false)) (h6 : ∀ i, i < 256 → ∃ x : Int, c[1 + i]? = some (.int .u8 x))
    (h7 : ∀ i, i < bs.length % 256 → c[1 + i]? = some (.int .u8 (bs[bs.length - bs.length % 256 + i]?.getD 0))) (h8 : Chain w (bs.length / 256) full bs)
    (heq : (bs.length + 1) % 256 = 0) {m : Nat} (hm : m = bs.length % 256) {w' : World} {g : Nat} {cc : Array Value}
    (hw : Blk w' b 149 (((c.setIfInBounds (1 + m) (.int .u8 x)).setIfInBounds 257 (.int .i64 ((bs.length : Int) + 1))).setIfInBounds 0 (.pointer (some ⟨g, 0, none⟩))))
    (hg : Blk w' g 174 cc) (hc1 : cc.size = 257) (hc2 : cc[0]? = some (.pointer full)) (hc3 : ∀ i, i < 256 → cc[1 + i]? = ((c.setIfInBounds (1 + m) (.int .u8 x)).setIfInBounds 257 (.int .i64 ((bs.length : Int) + 1)))[1 + i]?)
    (ho : Only b w w') : WAt w' b (bs ++ [x]) := by
  have hl := len_snoc bs x
  refine ⟨_, some ⟨g, 0, none⟩, hw, by simp [h2], ?_, ?_, ?_, ?_, ?_, ?_⟩
  · rw [Array.getElem?_setIfInBounds, if_pos rfl, if_pos (by simp [h2])]
  · rw [Array.getElem?_setIfInBounds, if_neg (by omega), Array.getElem?_setIfInBounds, if_pos rfl, if_pos (by simp [h2]), hl]; simp
  · rw [Array.getElem?_setIfInBounds, if_neg (by omega), Array.getElem?_setIfInBounds, if_neg (by omega), Array.getElem?_setIfInBounds, if_neg (by omega), h5]
  · intro i hi
    rw [Array.getElem?_setIfInBounds, if_neg (by omega), Array.getElem?_setIfInBounds, if_neg (by omega), Array.getElem?_setIfInBounds]
    by_cases he : 1 + m = 1 + i
    · rw [if_pos he, if_pos (by rw [h2]; omega)]; exact ⟨x, rfl⟩
    · rw [if_neg he]; exact h6 i hi
  · intro i hi
    rw [hl] at hi
    omega
  · have e3 : (bs ++ [x]).length / 256 = bs.length / 256 + 1 := by rw [hl]; omega
    rw [e3]
    refine ⟨g, full, cc, rfl, hg, hc1, hc2, fun i hi => ?_, ?_⟩
    · rw [hc3 i hi, Array.getElem?_setIfInBounds, if_neg (by omega), Array.getElem?_setIfInBounds]
      by_cases he : 1 + m = 1 + i
      · rw [if_pos he, if_pos (by rw [h2]; omega)]
        have e2 : bs.length / 256 * 256 + i = bs.length := by omega
        rw [e2]; simp
      · rw [if_neg he, h7 i (by omega)]
        have e2 : bs.length / 256 * 256 + i = bs.length - bs.length % 256 + i := by omega
        rw [e2, List.getElem?_append_left (by omega)]
    · exact (h8.more (by omega)).keep (fun g cs hg => ho.block g hg.lt (hg.ne h1 ne_BW))

end Go.Proofs.YtjhaamffgkialaaGreatDoor
/-
  What is proved here: what a writer's own 'put' and 'spoil' do, called on no writer, on a spoiled one, on a good one.
-/
namespace Go.Proofs.YtjhaamffgkialaaGreatDoor
open Go.ChangeShapes Go.WideShapes Go.ChangeAt Go.RowKit
set_option linter.unusedVariables false
set_option maxRecDepth 20000

theorem size_arr : ∃ N, Hid (N = 256) ∧ (¬ N = 0) ∧ ((256 = N) = True) ∧ ∀ w : World, Sem.run Tryz.prog (sizeOf 147) w = Result.ok N w :=
  ⟨256, rfl, by decide, by decide, Tryz.sizeOf147⟩
theorem zero_block : ∃ Z : List Value, Z.length = 256 ∧ ∀ w : World, Sem.run Tryz.prog (zeroValue 174) w = Result.ok (.agg (.pointer none :: Z).toArray) w :=
  ⟨List.replicate 256 (.int .u8 0), List.length_replicate, fun w => by kernel_rfl⟩

theorem spoil_nil (w : World) : Calls Tryz.prog 119 #[.pointer none] w fun e w' => e = .returned (.tuple #[]) ∧ w = w' := by
  go_enter Tryz.func119, Tryz.ntmps119
  go_wp2
  go_end0
  exact ⟨rfl, rfl⟩

theorem wput_nil (s : Value) (w : World) : Calls Tryz.prog 122 #[.pointer none, s] w fun e w' => e = .returned (.tuple #[]) ∧ w = w' := by
  go_enter Tryz.func122, Tryz.ntmps122
  go_wp2
  refine bodyPost_ret (results_none rfl _ _ _) rfl ?_
  exact ⟨rfl, rfl⟩

theorem wput_sp (b : Nat) (s : Value) (w : World) (h : WSp w b) : Calls Tryz.prog 122 #[.pointer (some ⟨b, 0, none⟩), s] w fun e w' => e = .returned (.tuple #[]) ∧ w = w' := by
  obtain ⟨c, h1, h2, h3⟩ := h
  have h4 : w.cell? ⟨b, 258, none⟩ = some (.bool true) := by rw [h1.cell]; exact h3
  clear h1 h2 h3
  go_enter Tryz.func122, Tryz.ntmps122
  go_wp2
  refine bodyPost_ret (results_none rfl _ _ _) rfl ?_
  exact ⟨rfl, rfl⟩

set_option maxHeartbeats 1000000 in
theorem wput_ok (b : Nat) (bs xs : List Int) (A : Option Addr) (cap : Nat) (w : World) (h : WAt w b bs) (hr : Rd w b A xs) (hlen : bs.length + xs.length < 1000000000000) :
    Calls Tryz.prog 122 #[.pointer (some ⟨b, 0, none⟩), .slice A xs.length cap] w fun e w' => e = .returned (.tuple #[]) ∧ WAt w' b (bs ++ xs) ∧ Only b w w' := by
  have hn2 : xs.length ≤ 9223372036854775807 := by omega
  obtain ⟨n, hn⟩ : ∃ n, n = xs.length := ⟨_, rfl⟩
  rw [← hn] at hlen hn2 ⊢
  have h1 : w.cell? ⟨b, 258, none⟩ = some (.bool false) := by obtain ⟨c, full, h1, h2, h3, h4, h5, _⟩ := h; rw [h1.cell]; exact h5
  have HN := hid hn; clear hn
  go_enter Tryz.func122, Tryz.ntmps122
  go_wp2
  go_loopw [16] (fun i wr => ∃ k : Nat, k ≤ n ∧ i = .int .i64 k ∧ WAt wr b (bs ++ xs.take k) ∧ Only b w wr) (fun i _ => n - (intOf i).toNat)
  case atStart => exact ⟨0, by omega, rfl, by simpa using h, Only.refl b w⟩
  case round =>
    obtain ⟨k, hk, rfl, hat, hon⟩ := hrel
    clear h1 h
    by_cases hlt : k < n
    · have hkx : k < xs.length := by have := HN.out; omega
      obtain ⟨ad, rfl, hadb, hadc⟩ := (hr.keep hon) (by omega)
      have hx := hadc k hkx
      have htk : xs.take (k + 1) = xs.take k ++ [xs[k]?.getD 0] := by rw [List.take_succ_eq_append_getElem hkx]; simp [hkx]
      have hlk : (bs ++ xs.take k).length = bs.length + k := by simp; omega
      obtain ⟨ys, hys⟩ : ∃ ys, ys = bs ++ xs.take k := ⟨_, rfl⟩
      rw [← hys] at hat hlk
      have hnext : bs ++ xs.take (k + 1) = ys ++ [xs[k]?.getD 0] := by rw [htk, hys, List.append_assoc]
      obtain ⟨c, full, b1, b2, b3, b4, b5, b6, b7, b8⟩ := hat
      obtain ⟨sz, hsz⟩ : ∃ sz, sz = ys.length := ⟨_, rfl⟩
      rw [← hsz] at b4
      have h257 : wr.cell? ⟨b, 257, none⟩ = some (.int .i64 sz) := by rw [b1.cell]; exact b4
      have f257 : wr.frozen? ⟨b, 257, none⟩ = false := b1.frozen _
      have hszlt : sz < 1000000000000 := by omega
      obtain ⟨m, hm⟩ : ∃ m, m = sz % 256 := ⟨_, rfl⟩
      have hm2 : m < 256 := by omega
      have hm1 : (sz : Int) % 256 = m := by omega
      have fm : wr.frozen? ⟨b, 1 + m, none⟩ = false := b1.frozen _
      obtain ⟨u, hu⟩ := b6 m hm2
      have cm : wr.cell? ⟨b, 1 + m, none⟩ = some (.int .u8 u) := by rw [b1.cell]; exact hu
      obtain ⟨x, hxx⟩ : ∃ x, x = xs[k]?.getD 0 := ⟨_, rfl⟩
      rw [← hxx] at hx hnext
      obtain ⟨N, hN, hN0, hN1, hNs⟩ := size_arr
      obtain ⟨Z, hZ, hZs⟩ := zero_block
      have H1 := hid hnext; have H2 := hid hys; have H3 := hid hsz; have H4 := hid hm; have H5 := hid b2; have H6 := hid b3; have H7 := hid b5; have H8 := hid b6; have H9 := hid b7
      have G1 := hid hadc; have G2 := hid hxx; have G3 := hid hlk; have G4 := hid hr
      have hblt := b1.lt
      clear hnext hys hsz hm b2 b3 b4 b5 b6 b7 hadc hxx hlk htk hu hr
      go_wp2
      go_region
      go_wp2
      · have hW := (b1.setd (1 + m) (.int .u8 x)).setd 257 (.int .i64 ((sz : Int) + 1))
        have hO : Only b wr ((wr.setCell ⟨b, 1 + m, none⟩ (.int .u8 x)).setCell ⟨b, 257, none⟩ (.int .i64 ((sz : Int) + 1))).drew :=
          (((Only.refl b wr).setCell (.inl rfl) _).setCell (.inl rfl) _).drew
        replace hW := hW.drew
        have htest : ((sz : Int) + 1) % 256 = 0 := by simpa using (show ((((sz : Int) + 1) % 256 == 0) = true) by assumption)
        generalize ((wr.setCell ⟨b, 1 + m, none⟩ (.int .u8 x)).setCell ⟨b, 257, none⟩ (.int .i64 ((sz : Int) + 1))).drew = W1 at hW hO ⊢
        have HT := hid htest
        have c0 : W1.cell? ⟨b, 0, none⟩ = some (.pointer full) := by
          rw [hW.cell, Array.getElem?_setIfInBounds, if_neg (by omega), Array.getElem?_setIfInBounds, if_neg (by omega)]; exact H6.out
        have f0 : W1.frozen? ⟨b, 0, none⟩ = false := hW.frozen _
        have hbl : b < W1.heap.size := hW.lt
        have hrun : (loadCellsFrom ⟨b, 1, none⟩ 0 N #[]).run Tryz.prog W1.drew = .ok (((c.setIfInBounds (1 + m) (.int .u8 x)).setIfInBounds 257 (.int .i64 ((sz : Int) + 1))).extract 1 (1 + N)) W1.drew :=
          load_part Tryz.prog W1.drew b 1 N 149 _ hW.drew (by simp [H5.out, hN.out])
        obtain ⟨tail, htl⟩ : ∃ tail, tail = ((c.setIfInBounds (1 + m) (.int .u8 x)).setIfInBounds 257 (.int .i64 ((sz : Int) + 1))).extract 1 (1 + N) := ⟨_, rfl⟩
        rw [← htl] at hrun
        have ht : tail.size = 256 := by rw [htl]; simp [H5.out, hN.out]
        have HTL := hid htl
        clear htl htest
        go_region
        go_wp2
        go_roundw
        case rel =>
          obtain ⟨cc, hcc, q1, q2, q3⟩ := fill_row (.pointer full) Z hZ tail ht
          rw [hcc]
          have H3' := H3.out
          refine ⟨k + 1, by omega, by go_num, ?_, ?_⟩
          · rw [H1.out]
            have ho : Only b W1 ((W1.setCell ⟨b, 0, none⟩ (.pointer (some ⟨W1.heap.size, 0, none⟩))).alloc (.cells cc 174)).drew := ((((Only.refl b W1).setCell (.inl rfl) _).alloc _)).drew
            have e1 := ((hW.setd 0 (.pointer (some ⟨W1.heap.size, 0, none⟩))).alloc (.cells cc 174)).drew
            have e2 := (Blk.new (W1.setCell ⟨b, 0, none⟩ (.pointer (some ⟨W1.heap.size, 0, none⟩))) 174 cc).drew
            rw [show (W1.setCell ⟨b, 0, none⟩ (.pointer (some ⟨W1.heap.size, 0, none⟩))).heap.size = W1.heap.size by simp [World.setCell]] at e2
            have HT' := HT.out
            have H9' := H9.out
            subst H3'
            refine WAt.full x b1 H5.out H6.out H7.out H8.out H9' b8 (by omega) H4.out e1 e2 q1 q2 (fun i hi => ?_) (hO.trans ho)
            rw [q3 i hi, HTL.out, Array.getElem?_extract, hN.out, if_pos (by simp [H5.out]; omega)]
          · exact ((((hon.trans hO).setCell (.inl rfl) _).alloc _)).drew
        case measure => simp [intOf]; omega
      · have htest : ¬ ((sz : Int) + 1) % 256 = 0 := by simpa using (show ((((sz : Int) + 1) % 256 == 0) = false) by assumption)
        have HT := hid htest
        clear htest
        go_roundw
        case rel =>
          have H3' := H3.out
          have HT' := HT.out
          refine ⟨k + 1, by omega, by go_num, ?_, ?_⟩
          · rw [H1.out]
            have hW := ((b1.setd (1 + m) (.int .u8 x)).setd 257 (.int .i64 ((sz : Int) + 1))).drew
            have H9' := H9.out
            subst H3'
            exact WAt.one x b1 H5.out H6.out H7.out H8.out H9' b8 (by omega) H4.out hW ((((Only.refl b wr).setCell (.inl rfl) _).setCell (.inl rfl) _).drew)
          · exact ((hon.setCell (.inl rfl) _).setCell (.inl rfl) _).drew
        case measure => simp [intOf]; omega
    · have hkn : k = n := by omega
      subst hkn
      have he : xs.take k = xs := by rw [HN.out]; simp
      rw [he] at hat
      have HA := hid hat
      clear hat he
      go_wp2
      go_end0
      exact ⟨rfl, HA.out, hon⟩
end Go.Proofs.YtjhaamffgkialaaGreatDoor
/-
  What is proved here: what a writer's calls do to what it holds, whether there is a writer or not, spoiled or not.
-/
namespace Go.Proofs.YtjhaamffgkialaaGreatDoor
open Go.ChangeShapes Go.WideShapes Go.ChangeAt Go.RowKit
set_option linter.unusedVariables false
set_option maxRecDepth 20000

/-- what a writer holds: there is none; it is spoiled; these bytes -/
inductive WS where
  | none
  | bad
  | good (bs : List Int)
def WS.put : WS → List Int → WS
  | .none, _ => .none
  | .bad, _ => .bad
  | .good bs, xs => .good (bs ++ xs)
def WS.spoil : WS → WS
  | .none => .none
  | _ => .bad
def WS.len : WS → Nat
  | .good bs => bs.length
  | _ => 0
theorem WS.put_nil (st : WS) : st.put [] = st := by cases st <;> simp [WS.put]
theorem WS.put_put (st : WS) (xs ys : List Int) : (st.put xs).put ys = st.put (xs ++ ys) := by cases st <;> simp [WS.put]
theorem WS.len_put (st : WS) (xs : List Int) : (st.put xs).len ≤ st.len + xs.length := by cases st <;> simp [WS.put, WS.len]
theorem WS.len_spoil (st : WS) : st.spoil.len = 0 := by cases st <;> simp [WS.spoil, WS.len]

def WRep (w : World) (p : Option Addr) : WS → Prop
  | .none => p = none
  | .bad => ∃ b, p = some ⟨b, 0, none⟩ ∧ WSp w b
  | .good bs => ∃ b, p = some ⟨b, 0, none⟩ ∧ WAt w b bs

section
variable {S S' : Nat → Prop} {a b c w w' : World}
theorem Only.to {g : Nat} (h : Only g w w') : OnlyS (Of (some ⟨g, 0, none⟩)) w w' :=
  ⟨h.os, h.tape, h.output, h.size, fun k hk hn => h.block k hk (fun e => hn ⟨_, rfl, e⟩)⟩
end

theorem WSp.lt {w : World} {b : Nat} (h : WSp w b) : b < w.heap.size := by obtain ⟨c, h1, _⟩ := h; exact h1.lt
theorem WAt.lt {w : World} {b : Nat} {bs : List Int} (h : WAt w b bs) : b < w.heap.size := by obtain ⟨c, full, h1, _⟩ := h; exact h1.lt
theorem WRep.lt {w : World} {p : Option Addr} {st : WS} (h : WRep w p st) {k : Nat} (hk : Of p k) : k < w.heap.size := by
  obtain ⟨a, rfl, rfl⟩ := hk
  cases st with
  | none => cases h
  | bad => obtain ⟨b, e, h⟩ := h; injection e with e; subst e; exact h.lt
  | good bs => obtain ⟨b, e, h⟩ := h; injection e with e; subst e; exact h.lt
/-- a writer is kept where its own block, and the blocks of writers, are -/
theorem WRep.keep {w w' : World} {p : Option Addr} {st : WS} (h : WRep w p st) (hp : ∀ k, Of p k → w'.heap[k]? = w.heap[k]?) (hk : ∀ g cs, Blk w g 174 cs → w'.heap[g]? = w.heap[g]?) : WRep w' p st := by
  cases st with
  | none => exact h
  | bad => obtain ⟨b, rfl, h⟩ := h; exact ⟨b, rfl, h.keep (hp b ⟨_, rfl, rfl⟩)⟩
  | good bs => obtain ⟨b, rfl, h⟩ := h; exact ⟨b, rfl, h.keep (hp b ⟨_, rfl, rfl⟩) hk⟩
theorem WRep.alloc {w : World} {p : Option Addr} {st : WS} (h : WRep w p st) (o : Obj) : WRep (w.alloc o) p st :=
  h.keep (fun k hk => Below.heap_alloc w o k (h.lt hk)) (fun g cs hg => Below.heap_alloc w o g hg.lt)
theorem WRep.drew {w : World} {p : Option Addr} {st : WS} (h : WRep w p st) : WRep w.drew p st := h.keep (fun _ _ => rfl) (fun _ _ _ => rfl)
theorem WRep.below {w w' : World} {p : Option Addr} {st : WS} (h : WRep w p st) (hb : Below w.heap.size w w') : WRep w' p st :=
  h.keep (fun k hk => hb.block k (h.lt hk)) (fun g cs hg => hb.block g hg.lt)

theorem wput_any (p : Option Addr) (st : WS) (A : Option Addr) (cap : Nat) (xs : List Int) (w : World) (h : WRep w p st) (hr : Rp w p A xs) (hl : st.len + xs.length < 1000000000000) :
    Calls Tryz.prog 122 #[.pointer p, .slice A xs.length cap] w fun e w' => e = .returned (.tuple #[]) ∧ WRep w' p (st.put xs) ∧ OnlyS (Of p) w w' := by
  cases st with
  | none =>
    obtain rfl : p = none := h
    exact (wput_nil _ w).mono fun e w' ⟨he, hw⟩ => ⟨he, rfl, by subst hw; exact OnlyS.refl _ _⟩
  | bad =>
    obtain ⟨b, rfl, h⟩ := h
    exact (wput_sp b _ w h).mono fun e w' ⟨he, hw⟩ => ⟨he, ⟨b, rfl, by subst hw; exact h⟩, by subst hw; exact OnlyS.refl _ _⟩
  | good bs =>
    obtain ⟨b, rfl, h⟩ := h
    refine (wput_ok b bs xs A cap w h (fun hx => ?_) hl).mono fun e w' ⟨he, hw, ho⟩ => ⟨he, ⟨b, rfl, hw⟩, ho.to⟩
    obtain ⟨ad, e, hne, hc⟩ := hr hx
    exact ⟨ad, e, fun e => hne ⟨_, rfl, e⟩, hc⟩

theorem wnumber_any (p : Option Addr) (st : WS) (x : Int) (size : Nat) (w : World) (h : WRep w p st) (hx : 0 ≤ x ∧ x < 18446744073709551616) (hs : size ≤ 8) (hl : st.len < 900000000000) :
    Calls Tryz.prog 120 #[.pointer p, .int .u64 x, .int .i64 size] w fun e w' => e = .returned (.tuple #[]) ∧ WRep w' p (st.put (be x size)) ∧ OnlyS (Of p) w w' := by
  obtain ⟨hx1, hx2⟩ := hx
  go_enter Tryz.func120, Tryz.ntmps120
  go_wp2
  go_loopw [6] (fun i wr => ∃ (k : Nat) (pre : List Int), k ≤ size ∧ i = .int .i64 ((k : Int) - 1) ∧ pre ++ be x k = be x size ∧ WRep wr p (st.put pre) ∧ OnlyS (Of p) w wr) (fun i _ => (intOf i + 1).toNat)
  case atStart => exact ⟨size, [], by omega, rfl, rfl, by rw [WS.put_nil]; exact h, OnlyS.refl _ _⟩
  case round =>
    obtain ⟨k, pre, hk, rfl, hpre, hat, hon⟩ := hrel
    have HP := hid hpre; have HA := hid hat; have HO := hid hon
    clear hpre hat hon h
    cases k with
    | zero =>
      go_wp2
      go_end0
      have e := HP.out
      simp only [be, List.append_nil] at e
      exact ⟨rfl, by rw [← e]; exact HA.out, HO.out⟩
    | succ k =>
      have hk2 : k < 8 := by omega
      obtain ⟨i, hi⟩ : ∃ i : Int, i = k := ⟨_, rfl⟩
      have hi2 : ((k + 1 : Nat) : Int) - 1 = i := by omega
      rw [hi2]
      have hi0 : 0 ≤ i := by omega
      have hi8 : i < 8 := by omega
      have HI := hid hi
      clear hi hi2
      have HC := hid (wput_any p (st.put pre) (some ⟨wr.heap.size, 0, none⟩) 1 [x / 2 ^ (8 * i).toNat % 256] (wr.alloc (.cells #[.int .u8 (x / 2 ^ (8 * i).toNat % 256)] 5))
        (HA.out.alloc _)
        (fun _ => ⟨_, rfl, fun ho => absurd (HA.out.lt ho) (Nat.lt_irrefl _), fun j hj => by
          have hj0 : j = 0 := by simp at hj; omega
          subst hj0
          simp [Addr.add, (Blk.new wr 5 #[.int .u8 (x / 2 ^ (8 * i).toNat % 256)]).cell]⟩)
        (by
          have h1 := WS.len_put st pre
          have h2 : pre.length ≤ size := by have := congrArg List.length HP.out; simp only [List.length_append, be_length] at this; omega
          simp; omega))
      have HE : Hid (x / 2 ^ (8 * i).toNat % 256 = x / 256 ^ k % 256) := by
        have e1 : (8 * i).toNat = 8 * k := by have := HI.out; omega
        have e2 : (2 : Int) ^ (8 * k) = 256 ^ k := by rw [Int.pow_mul]; rfl
        show _ = _
        rw [e1, e2]
      go_wp2_with (go_at_call 122; refine HC.out.mono ?_; rintro e w1 ⟨rfl, hw1, ho1⟩; have HW1 := hid hw1; have HO1 := hid ho1; clear hw1 ho1)
      go_roundw
      case rel =>
        have hi2 := HI.out
        have e1 := HP.out
        refine ⟨k, pre ++ [x / 256 ^ k % 256], by omega, by rw [hi2], ?_, ?_, ?_⟩
        · rw [← e1, List.append_assoc]; rfl
        · rw [← WS.put_put, ← HE.out]; exact HW1.out
        · exact (HO.out.alloc _).trans HO1.out
      case measure => simp [intOf]; omega
end Go.Proofs.YtjhaamffgkialaaGreatDoor
/-
  What is proved here: what 'spoil' does, and the calls of a writer that put one field.
-/
namespace Go.Proofs.YtjhaamffgkialaaGreatDoor
open Go.ChangeShapes Go.WideShapes Go.ChangeAt Go.RowKit
set_option linter.unusedVariables false
set_option maxRecDepth 20000

theorem zero_writer : ∃ Z : Array Value, Z.size = 259 ∧ (¬ Z = #[]) ∧ Hid (Z[0]? = some (.pointer none)) ∧ Hid (∀ i, i < 256 → Z[1 + i]? = some (.int .u8 0)) ∧ Hid (Z[257]? = some (.int .i64 0)) ∧ Hid (Z[258]? = some (.bool false)) ∧
    Hid (Z.all (·.oneCell') = true) ∧ ∀ w : World, Sem.run Tryz.prog (zeroValue 149) w = Result.ok (.agg Z) w := by
  refine ⟨(.pointer none :: (List.replicate 256 (.int .u8 0) ++ [.int .i64 0, .bool false])).toArray, ?_, ?_, ?_, ?_, ?_, ?_, ?_, fun w => by kernel_rfl⟩
  · simp only [List.size_toArray, List.length_cons, List.length_append, List.length_replicate, List.length_nil]
  · intro h
    have := congrArg Array.size h
    simp only [List.size_toArray, List.length_cons, List.length_append, List.length_replicate, List.length_nil] at this
    omega
  · show _ = _
    kernel_rfl
  · intro i hi
    rw [List.getElem?_toArray, Nat.add_comm, List.getElem?_cons_succ, List.getElem?_append_left (by rw [List.length_replicate]; exact hi), List.getElem?_replicate, if_pos hi]
  · show _ = _
    kernel_rfl
  · show _ = _
    kernel_rfl
  · show _ = _
    kernel_rfl

theorem spoil_ok (b : Nat) (c : Array Value) (w : World) (hb : Blk w b 149 c) (hc : c.size = 259) :
    Calls Tryz.prog 119 #[.pointer (some ⟨b, 0, none⟩)] w fun e w' => e = .returned (.tuple #[]) ∧ WSp w' b ∧ Only b w w' := by
  obtain ⟨Z, hz, hz0, z0, z1, z2, z3, z4, hZs⟩ := zero_writer
  go_enter Tryz.func119, Tryz.ntmps119
  have hst : (Z.setIfInBounds 258 (.bool true)).size = 259 := by rw [Array.size_setIfInBounds]; exact hz
  have hi : (Tryz.prog.info? 149).map (·.size) = some (Z.setIfInBounds 258 (.bool true)).size := by rw [hst]; kernel_rfl
  have hold : c.size = (Z.setIfInBounds 258 (.bool true)).size := by rw [hst]; exact hc
  have hall : (Z.setIfInBounds 258 (.bool true)).all (·.oneCell') = true := by
    have z4 := z4.out
    rw [Array.all_eq_true_iff_forall_mem] at z4 ⊢
    intro x hx
    rcases Array.mem_or_eq_of_mem_setIfInBounds hx with h | h
    · exact z4 x h
    · subst h; rfl
  have HI := hid hi; have HO := hid hold; have HA := hid hall; have HS := hid hst
  clear hi hold hall hst
  go_wp2_with (refine wpList_store_row rfl 149 (.tmp 6) (.tmp 5) rfl b (Z.setIfInBounds 258 (.bool true)) rfl rfl 149 c hb HI.out HO.out HA.out ?_)
  go_end0
  refine ⟨rfl, ⟨_, setRow_heap w b c _ 149 (0, 0) hb, HS.out, by rw [Array.getElem?_setIfInBounds, if_pos rfl, if_pos (by omega)]⟩, ?_⟩
  exact ⟨rfl, rfl, rfl, by simp, fun k hk hne => setRow_other w b k _ hne⟩
end Go.Proofs.YtjhaamffgkialaaGreatDoor
/-
  What is proved here: what each call of a writer that puts a field does to what the writer holds.
-/
namespace Go.Proofs.YtjhaamffgkialaaGreatDoor
open Go.ChangeShapes Go.WideShapes Go.ChangeAt Go.RowKit
set_option linter.unusedVariables false
set_option maxRecDepth 20000

theorem spoil_any (p : Option Addr) (st : WS) (w : World) (h : WRep w p st) :
    Calls Tryz.prog 119 #[.pointer p] w fun e w' => e = .returned (.tuple #[]) ∧ WRep w' p st.spoil ∧ OnlyS (Of p) w w' := by
  cases st with
  | none =>
    obtain rfl : p = none := h
    exact (spoil_nil w).mono fun e w' ⟨he, hw⟩ => ⟨he, rfl, by subst hw; exact OnlyS.refl _ _⟩
  | bad =>
    obtain ⟨b, rfl, c, h1, h2, h3⟩ := h
    exact (spoil_ok b c w h1 h2).mono fun e w' ⟨he, hw, ho⟩ => ⟨he, ⟨b, rfl, hw⟩, ho.to⟩
  | good bs =>
    obtain ⟨b, rfl, c, full, h1, h2, _⟩ := h
    exact (spoil_ok b c w h1 h2).mono fun e w' ⟨he, hw, ho⟩ => ⟨he, ⟨b, rfl, hw⟩, ho.to⟩

/-- a number that may be put if it is from 0 to most -/
def WS.up (st : WS) (most x : Int) (n : Nat) : WS := if x < 0 ∨ most < x then st.spoil else st.put (be x n)
theorem WS.len_up (st : WS) (most x : Int) (n : Nat) : (st.up most x n).len ≤ st.len + n := by
  unfold WS.up
  split
  · rw [WS.len_spoil]; omega
  · have := WS.len_put st (be x n); rw [be_length] at this; exact this

theorem upTo_any (p : Option Addr) (st : WS) (most x : Int) (size : Nat) (w : World) (h : WRep w p st) (hm : most < 9223372036854775808) (hs : size ≤ 8) (hl : st.len < 900000000000) :
    Calls Tryz.prog 111 #[.pointer p, .int .i64 most, .int .i64 x, .int .i64 size] w fun e w' => e = .returned (.tuple #[]) ∧ WRep w' p (st.up most x size) ∧ OnlyS (Of p) w w' := by
  have HS := hid (spoil_any p st w h)
  by_cases h1 : x < 0
  · have e : st.up most x size = st.spoil := by unfold WS.up; rw [if_pos (Or.inl h1)]
    rw [e]
    clear e h
    go_enter Tryz.func111, Tryz.ntmps111
    go_wp2_with (go_at_call 119; refine HS.out.mono ?_; rintro e w1 ⟨rfl, hw1, ho1⟩; have HW1 := hid hw1; have HO1 := hid ho1; clear hw1 ho1)
    refine bodyPost_ret (results_none rfl _ _ _) rfl ?_
    exact ⟨rfl, HW1.out, HO1.out⟩
  · by_cases h2 : most < x
    · have e : st.up most x size = st.spoil := by unfold WS.up; rw [if_pos (Or.inr h2)]
      rw [e]
      clear e h
      go_enter Tryz.func111, Tryz.ntmps111
      go_wp2_with (go_at_call 119; refine HS.out.mono ?_; rintro e w1 ⟨rfl, hw1, ho1⟩; have HW1 := hid hw1; have HO1 := hid ho1; clear hw1 ho1)
      refine bodyPost_ret (results_none rfl _ _ _) rfl ?_
      exact ⟨rfl, HW1.out, HO1.out⟩
    · have e : st.up most x size = st.put (be x size) := by unfold WS.up; rw [if_neg (by omega)]
      rw [e]
      have h3 : 0 ≤ x := by omega
      have h4 : x < 9223372036854775808 := by omega
      have HC := hid (wnumber_any p st x size w h ⟨h3, by omega⟩ hs hl)
      clear e h
      go_enter Tryz.func111, Tryz.ntmps111
      go_wp2_with (go_at_call 120; refine HC.out.mono ?_; rintro e w1 ⟨rfl, hw1, ho1⟩; have HW1 := hid hw1; have HO1 := hid ho1; clear hw1 ho1)
      go_end0
      exact ⟨rfl, HW1.out, HO1.out⟩


theorem WU16_any (p : Option Addr) (st : WS) (x : Int) (w : World) (h : WRep w p st) (hl : st.len < 900000000000) :
    Calls Tryz.prog 94 #[.pointer p, .int .i64 x] w fun e w' => e = .returned (.tuple #[]) ∧ WRep w' p (st.up 65535 x 2) ∧ OnlyS (Of p) w w' := by
  have HC := hid (upTo_any p st 65535 x 2 w h (by omega) (by omega) hl)
  clear h
  go_enter Tryz.func94, Tryz.ntmps94
  go_wp2_with (go_at_call 111; refine HC.out.mono ?_; rintro e w1 ⟨rfl, hw1, ho1⟩; have HW1 := hid hw1; have HO1 := hid ho1; clear hw1 ho1)
  go_end0
  exact ⟨rfl, HW1.out, HO1.out⟩



/-- a slice of one new cell holds one byte, and doesn't lie in a writer's block -/
theorem Rp.one {w : World} {p : Option Addr} {st : WS} (h : WRep w p st) (v : Int) : Rp (w.alloc (.cells #[.int .u8 v] 5)) p (some ⟨w.heap.size, 0, none⟩) [v] := fun _ =>
  ⟨_, rfl, fun ho => absurd (h.lt ho) (Nat.lt_irrefl _), fun j hj => by
    have hj0 : j = 0 := by simp at hj; omega
    subst hj0
    simp [Addr.add, (Blk.new w 5 #[.int .u8 v]).cell]⟩



def WS.str (st : WS) (xs : List Int) : WS := if 8192 < xs.length then st.spoil else (st.put (be xs.length 2)).put xs

end Go.Proofs.YtjhaamffgkialaaGreatDoor
/-
  What is proved here: what 'Out' answers of a writer.
-/
namespace Go.Proofs.YtjhaamffgkialaaGreatDoor
open Go.ChangeShapes Go.WideShapes Go.ChangeAt Go.RowKit
set_option linter.unusedVariables false
set_option maxRecDepth 20000

theorem Out_nil (w : World) : Calls Tryz.prog 95 #[.pointer none] w fun e w' => e = .returned (.tuple #[.slice none 0 0, .int .i64 1]) ∧ w = w' := by
  go_enter Tryz.func95, Tryz.ntmps95
  go_wp2
  go_ret2
  exact ⟨rfl, rfl⟩

theorem Out_sp (b : Nat) (w : World) (h : WSp w b) : Calls Tryz.prog 95 #[.pointer (some ⟨b, 0, none⟩)] w fun e w' => e = .returned (.tuple #[.slice none 0 0, .int .i64 4]) ∧ w = w' := by
  obtain ⟨c, h1, h2, h3⟩ := h
  have h4 : w.cell? ⟨b, 258, none⟩ = some (.bool true) := by rw [h1.cell]; exact h3
  clear h1 h2 h3
  go_enter Tryz.func95, Tryz.ntmps95
  go_wp2
  go_ret2
  exact ⟨rfl, rfl⟩

set_option maxHeartbeats 1000000 in
theorem Out_ok (b : Nat) (bs : List Int) (w : World) (h : WAt w b bs) (hl : bs.length < 1000000000000) :
    Calls Tryz.prog 95 #[.pointer (some ⟨b, 0, none⟩)] w fun e w' => e = .returned (.tuple #[.slice (some ⟨w.heap.size, 0, none⟩) bs.length bs.length, .int .i64 0]) ∧
      Blk w' w.heap.size 5 (u8s bs).toArray ∧ Below w.heap.size w w' := by
  obtain ⟨c, full, b1, b2, b3, b4, b5, b6, b7, b8⟩ := h
  obtain ⟨n, hn⟩ : ∃ n, n = bs.length := ⟨_, rfl⟩
  rw [← hn] at hl b4 b7 b8 ⊢
  have c0 : w.cell? ⟨b, 0, none⟩ = some (.pointer full) := by rw [b1.cell]; exact b3
  have c257 : w.cell? ⟨b, 257, none⟩ = some (.int .i64 n) := by rw [b1.cell]; exact b4
  have c258 : w.cell? ⟨b, 258, none⟩ = some (.bool false) := by rw [b1.cell]; exact b5
  have hmk := make_bytes n hl
  obtain ⟨N, hN, hN0, hN1, hNs⟩ := size_arr
  have HN := hid hn; have H2 := hid b2; have H3 := hid b3; have H6 := hid b6; have H7 := hid b7; have H8 := hid b8; have HB := hid b1
  have hblt := b1.lt
  clear hn b2 b3 b4 b5 b6 b7 b8 b1
  obtain ⟨m, hm⟩ : ∃ m, m = n % 256 := ⟨_, rfl⟩
  have hm2 : m < 256 := by omega
  have hm1 : (n : Int) % 256 = m := by omega
  have hmn : m ≤ n := by omega
  have HM := hid hm
  clear hm
  obtain ⟨k0, hk⟩ : ∃ k0, k0 = n - m := ⟨_, rfl⟩
  have hk0 : (n : Int) - (m : Int) = (k0 : Int) := by omega
  have hk0n : k0 ≤ n := by omega
  have HK := hid hk
  clear hk
  go_enter Tryz.func95, Tryz.ntmps95
  go_wp2
  go_region
  go_wp2
  have G1 : Blk (w.alloc (Obj.cells (Array.replicate n (Value.int .u8 0)) 5)).drew w.heap.size 5 (List.replicate n (Value.int .u8 0)).toArray := by
    rw [List.toArray_replicate]; exact (Blk.new w 5 _).drew
  have B1 : Below w.heap.size w (w.alloc (Obj.cells (Array.replicate n (Value.int .u8 0)) 5)).drew := ((Below.refl _ _).alloc (Nat.le_refl _) _).drew
  have Hb1 := (HB.out.alloc (Obj.cells (Array.replicate n (Value.int .u8 0)) 5)).drew
  generalize (w.alloc (Obj.cells (Array.replicate n (Value.int .u8 0)) 5)).drew = W1 at G1 B1 Hb1 ⊢
  have hcs : (u8s (bs.drop k0)).length = Nat.min 256 (n - k0) := by
    have h1 := HK.out; have h2 := HN.out
    rw [u8s_length, List.length_drop, ← h2]
    show _ = min 256 (n - k0)
    omega
  have HG := hid G1.drew
  have HCS := hid hcs
  have HP : Hid (0 < (u8s (bs.drop k0)).length → (if n = k0 then some (⟨w.heap.size, 0, none⟩ : Addr) else some ⟨w.heap.size, k0, none⟩) = some ⟨w.heap.size, k0, none⟩ ∧ ∃ ad, some (⟨b, 1, none⟩ : Addr) = some ad ∧ ∀ j v, (u8s (bs.drop k0))[j]? = some v → W1.drew.cell? (ad.add j) = some v) := by
    intro hpos
    have h1 := HK.out; have h2 := HN.out; have h3 := HM.out
    rw [u8s_length, List.length_drop, ← h2] at hpos
    refine ⟨by rw [if_neg (by omega)], ⟨b, 1, none⟩, rfl, fun j v hv => ?_⟩
    have hj : j < (u8s (bs.drop k0)).length := by
      rcases Nat.lt_or_ge j (u8s (bs.drop k0)).length with h | h
      · exact h
      · rw [List.getElem?_eq_none h] at hv; cases hv
    rw [u8s_length, List.length_drop, ← h2] at hj
    rw [u8s_get _ _ (by rw [List.length_drop, ← h2]; exact hj), List.getElem?_drop] at hv
    have e : (⟨b, 1, none⟩ : Addr).add j = ⟨b, 1 + j, none⟩ := by unfold Addr.add; split <;> simp_all
    have h7 := H7.out j (by omega)
    rw [e, Hb1.drew.cell, h7, ← hv]
    have : k0 + j = n - n % 256 + j := by omega
    rw [this]
  have HF : Hid (k0 + (u8s (bs.drop k0)).length ≤ (List.replicate n (Value.int .u8 0)).length) := by
    show _ ≤ _
    have h2 := HN.out
    rw [u8s_length, List.length_drop, List.length_replicate, ← h2]; omega
  have B2 := B1.drew
  clear hcs G1
  go_region_law ((with_reducible refine step_copy_splice (d := .tmp 30) (s := .tmp 34) (dT := 65) (sT := 65) (elem := 5) (dp := if n = k0 then some (⟨w.heap.size, 0, none⟩ : Addr) else some ⟨w.heap.size, k0, none⟩) (sp := some (⟨b, 1, none⟩ : Addr)) (dLen := n - k0) (dCap := n - k0) (sLen := 256) (sCap := 256) (g := w.heap.size) (off := k0) (cur := List.replicate n (Value.int .u8 0)) (t := 5) (cs := u8s (bs.drop k0)) (B := w.heap.size) (w0 := w) ?_ ?_ ?_ ?_ ?_ ?_ ?_ ?_ ?_ ?_ ?_ ?_ ?_ ?_); rfl; rfl; exact Tryz.underlying65; kernel_rfl; go_simp; go_simp; exact HG.out; exact HCS.out; exact HP.out; exact HF.out; exact u8s_one _; exact B2; exact Nat.le_refl _; intro w4 hg4 hb4)
  generalize (if n = k0 then some (⟨w.heap.size, 0, none⟩ : Addr) else some ⟨w.heap.size, k0, none⟩) = dp1
  have c4 : w4.cell? ⟨b, 0, none⟩ = some (.pointer full) := (hb4.cell (p := ⟨b, 0, none⟩) hblt).trans c0
  go_wp2
  clear c4 c0 c257 c258 hmk
  go_loopw [5, 6] (fun at_ p wr => ∃ (j : Nat) (q : Option Addr) (cur : List Value), at_ = .int .i64 ((256 * j : Nat) : Int) ∧ 256 * j ≤ n ∧ p = .pointer q ∧ Chain w j q bs ∧ Blk wr w.heap.size 5 cur.toArray ∧ cur.length = n ∧
      (∀ i, 256 * j ≤ i → i < n → cur[i]? = some (.int .u8 (bs[i]?.getD 0))) ∧ Below w.heap.size w wr) (fun at_ _ _ => (intOf at_).toNat)
  case atStart =>
    have h1 := HK.out; have h2 := HN.out; have h3 := HM.out
    have hcs := HCS.out
    rw [u8s_length, List.length_drop, ← h2] at hcs
    have hf := HF.out
    have e : k0 = 256 * (n / 256) := by omega
    refine ⟨n / 256, full, splice (List.replicate n (Value.int .u8 0)) k0 (u8s (bs.drop k0)), by rw [e], by omega, rfl, H8.out, hg4.out, by rw [length_splice _ _ _ hf, List.length_replicate], fun i hi1 hi2 => ?_, hb4⟩
    rw [get_splice _ _ _ hf, if_neg (by omega), if_pos (by rw [u8s_length, List.length_drop, ← h2]; omega), u8s_get _ _ (by rw [List.length_drop, ← h2]; omega), List.getElem?_drop]
    have : k0 + (i - k0) = i := by omega
    rw [this]
  case round =>
    obtain ⟨j, q, cur, rfl, hjn, rfl, hch, hg, hcl, hcur, hbl⟩ := hrel
    cases j with
    | zero =>
      obtain rfl : q = none := hch
      have HG2 := hid hg; have HC := hid hcur; have HL := hid hcl
      clear hg hcur hcl hg4
      go_wp2
      go_ret2
      refine ⟨rfl, ?_, hbl⟩
      have e : cur = u8s bs := by
        have h2 := HN.out
        apply List.ext_getElem?
        intro i
        rcases Nat.lt_or_ge i n with h | h
        · rw [HC.out i (by omega) h, u8s_get _ _ (by omega)]
        · rw [List.getElem?_eq_none (by rw [HL.out]; exact h), List.getElem?_eq_none (by rw [u8s_length]; omega)]
      rw [← e]
      exact HG2.out
    | succ j =>
      obtain ⟨g, q', cc, rfl, hb, hcc, hc0, hcb, hch'⟩ := hch
      have hglt := hb.lt
      have hbr : Blk wr g 174 cc := (hbl.block g hglt).trans hb
      have d0 : wr.cell? ⟨g, 0, none⟩ = some (.pointer q') := by rw [hbr.cell]; exact hc0
      have hj0 : ((256 * (j + 1) : Nat) : Int) - 256 = ((256 * j : Nat) : Int) := by omega
      obtain ⟨a0, ha0⟩ : ∃ a0, a0 = 256 * (j + 1) := ⟨_, rfl⟩
      obtain ⟨a1, ha1⟩ : ∃ a1, a1 = 256 * j := ⟨_, rfl⟩
      rw [← ha0, ← ha1] at hj0
      rw [← ha0] at hcur hjn ⊢
      have ha1n : a1 ≤ n := by omega
      have HCUR := hid hcur; have HA0 := hid ha0; have HA1 := hid ha1; have HC := hid hcb; have HS := hid hcc; have HG2 := hid hg; have HL := hid hcl; have H0 := hid hc0; have HCH := hid hch'
      clear hcur ha0 ha1 hcb hcc hg hcl hc0 hch' hg4
      go_wp2
      have HCS2 : Hid ((u8s ((bs.drop a1).take 256)).length = Nat.min 256 (n - a1)) := by
        have h1 := HA0.out; have h2 := HN.out; have h3 := HA1.out
        show _ = min 256 (n - a1)
        rw [u8s_length, List.length_take, List.length_drop, ← h2]
      have HG3 := hid (HG2.out.drew)
      have HP2 : Hid (0 < (u8s ((bs.drop a1).take 256)).length → (if n = a1 then some (⟨w.heap.size, 0, none⟩ : Addr) else some ⟨w.heap.size, a1, none⟩) = some ⟨w.heap.size, a1, none⟩ ∧ ∃ ad, some (⟨g, 1, none⟩ : Addr) = some ad ∧ ∀ j v, (u8s ((bs.drop a1).take 256))[j]? = some v → wr.drew.cell? (ad.add j) = some v) := by
        intro hpos
        have h1 := HA0.out; have h2 := HN.out; have h3 := HA1.out
        refine ⟨by rw [if_neg (by omega)], ⟨g, 1, none⟩, rfl, fun i v hv => ?_⟩
        have hi : i < (u8s ((bs.drop a1).take 256)).length := by
          rcases Nat.lt_or_ge i (u8s ((bs.drop a1).take 256)).length with h | h
          · exact h
          · rw [List.getElem?_eq_none h] at hv; cases hv
        have hi2 := hi
        rw [u8s_length] at hi2
        rw [u8s_length, List.length_take, List.length_drop] at hi
        rw [u8s_get _ _ hi2, List.getElem?_take, if_pos (by omega), List.getElem?_drop] at hv
        have e : (⟨g, 1, none⟩ : Addr).add i = ⟨g, 1 + i, none⟩ := by unfold Addr.add; split <;> simp_all
        rw [e, hbr.drew.cell, HC.out i (by omega), ← hv]
        have : j * 256 + i = a1 + i := by omega
        rw [this]
      have HF2 : Hid (a1 + (u8s ((bs.drop a1).take 256)).length ≤ cur.length) := by
        have h1 := HA0.out; have h2 := HN.out; have h3 := HA1.out
        show _ ≤ _
        rw [u8s_length, List.length_take, List.length_drop, HL.out, ← h2]; omega
      have B3 := hbl.drew
      go_region_law ((with_reducible refine step_copy_splice (d := .tmp 50) (s := .tmp 54) (dT := 65) (sT := 65) (elem := 5) (dp := if n = a1 then some (⟨w.heap.size, 0, none⟩ : Addr) else some ⟨w.heap.size, a1, none⟩) (sp := some (⟨g, 1, none⟩ : Addr)) (dLen := n - a1) (dCap := n - a1) (sLen := 256) (sCap := 256) (g := w.heap.size) (off := a1) (cur := cur) (t := 5) (cs := u8s ((bs.drop a1).take 256)) (B := w.heap.size) (w0 := w) ?_ ?_ ?_ ?_ ?_ ?_ ?_ ?_ ?_ ?_ ?_ ?_ ?_ ?_); rfl; rfl; exact Tryz.underlying65; kernel_rfl; go_simp; go_simp; exact HG3.out; exact HCS2.out; exact HP2.out; exact HF2.out; exact u8s_one _; exact B3; exact Nat.le_refl _; intro w5 hg5 hb5)
      generalize (if n = a1 then some (⟨w.heap.size, 0, none⟩ : Addr) else some ⟨w.heap.size, a1, none⟩) = dp2
      have d5 : w5.cell? ⟨g, 0, none⟩ = some (.pointer q') := (cell_of_row w5 g 0 cc 174 (0, 0) ((hb5.block g hglt).trans hb)).trans H0.out
      go_wp2
      clear d5
      go_roundw
      case rel =>
        have h1 := HA0.out; have h2 := HN.out; have h3 := HA1.out
        have hf := HF2.out
        refine ⟨j, q', splice cur a1 (u8s ((bs.drop a1).take 256)), by rw [h3], by omega, rfl, HCH.out, hg5.out, by rw [length_splice _ _ _ hf, HL.out], fun i hi1 hi2 => ?_, hb5⟩
        rw [get_splice _ _ _ hf, if_neg (by omega)]
        by_cases hi : i < a1 + (u8s ((bs.drop a1).take 256)).length
        · rw [if_pos hi]
          rw [u8s_length] at hi
          rw [u8s_get _ _ (by omega), List.getElem?_take, if_pos (by rw [List.length_take] at hi; omega), List.getElem?_drop]
          have : a1 + (i - a1) = i := by omega
          rw [this]
        · rw [if_neg hi]
          rw [u8s_length, List.length_take, List.length_drop] at hi
          exact HCUR.out i (by omega) hi2
      case measure =>
        have h1 := HA0.out; have h3 := HA1.out
        simp [intOf]; omega
end Go.Proofs.YtjhaamffgkialaaGreatDoor
/-
  What is proved here: the statements' own small functions over a writer: a field that is put, and the fixed fact that each statement asks first.
-/
namespace Go.Proofs.YtjhaamffgkialaaGreatDoor
open Go.ChangeShapes Go.WideShapes Go.ChangeAt Go.RowKit
set_option linter.unusedVariables false
set_option maxRecDepth 20000

/-- what a field does to what a writer holds -/
def fStep (st : WS) (k x : Int) (bb : List Int) : WS :=
  if k = 1 then st.up 255 (wrap64 x) 1 else
  if k = 2 then st.up 65535 (wrap64 x) 2 else
  if k = 3 then st.put (be (x % 4294967296) 4) else
  if k = 4 then st.put (be x 8) else
  if k = 5 then st.put [x % 2] else
  if k = 6 then st.put bb else
  if k = 7 then st.str bb else
  if k = 8 then st.up 4096 (wrap64 x) 2 else st

theorem new_writer {w : World} {b : Nat} {Z : Array Value} (hb : Blk w b 149 Z) (hz : Z.size = 259) (z0 : Z[0]? = some (.pointer none)) (z1 : ∀ i, i < 256 → Z[1 + i]? = some (.int .u8 0))
    (z2 : Z[257]? = some (.int .i64 0)) (z3 : Z[258]? = some (.bool false)) : WAt w b [] :=
  ⟨Z, none, hb, hz, z0, z2, z3, fun i hi => ⟨0, z1 i hi⟩, fun i hi => by simp at hi, rfl⟩

theorem Out_good (p : Option Addr) (bs : List Int) (w : World) (h : WRep w p (.good bs)) (hl : bs.length < 1000000000000) :
    Calls Tryz.prog 95 #[.pointer p] w fun e w' => e = .returned (.tuple #[.slice (some ⟨w.heap.size, 0, none⟩) bs.length bs.length, .int .i64 0]) ∧
      Blk w' w.heap.size 5 (u8s bs).toArray ∧ Below w.heap.size w w' := by
  obtain ⟨b, rfl, h⟩ := h
  exact Out_ok b bs w h hl
theorem Out_bad (p : Option Addr) (w : World) (h : WRep w p .bad) :
    Calls Tryz.prog 95 #[.pointer p] w fun e w' => e = .returned (.tuple #[.slice none 0 0, .int .i64 4]) ∧ w = w' := by
  obtain ⟨b, rfl, h⟩ := h
  exact Out_sp b w h


end Go.Proofs.YtjhaamffgkialaaGreatDoor
