/-
  What is proved here: the code's own iterator over the digits of some bytes.
-/
import Derived.RangeFuncNested
import Derived.RangeFuncBound
import Derived.RangeFuncCalls
import Derived.RangeFuncLeaves
import Derived.Shelf.Abstract
import Derived.Shelf.RegionOpen
import Derived.OwnWalkIn
import Derived.TacticsInMore
import Derived.LoopNIn
import Derived.LoopIn
import Derived.Test.YtobceieadjpaaaaDoorMKe1
set_option linter.unusedSimpArgs false
set_option linter.unusedVariables false
namespace Go.Proofs.YtobceieadjpaaaaDoor
open Go.ChangeShapes Go.WideShapes Go.ChangeAt Go.RowKit Go.Shelf
set_option linter.unusedVariables false
attribute [local go_sem] Oper.semAt_some

/-- these blocks lie as they lay -/
def KpS (S : Nat → Prop) (W W' : World) : Prop := W.heap.size ≤ W'.heap.size ∧ ∀ g, S g → g < W.heap.size → W'.heap[g]? = W.heap[g]?
theorem KpS.refl (S : Nat → Prop) (W : World) : KpS S W W := ⟨Nat.le_refl _, fun _ _ _ => rfl⟩
theorem KpS.t {S : Nat → Prop} {A B C : World} (h : KpS S A B) (k : KpS S B C) : KpS S A C := ⟨Nat.le_trans h.1 k.1, fun g hs hl => (k.2 g hs (Nat.lt_of_lt_of_le hl h.1)).trans (h.2 g hs hl)⟩
theorem KpS.b {S : Nat → Prop} {w : World} (hS : ∀ g, S g → g < w.heap.size) (W : World) (l : Nat) (o o' : Obj) (hl : w.heap.size ≤ l) (h : W.heap[l]? = some o) (_ : o.isCells = false) (_ : o.isWalk = false) : KpS S W (W.putObj l o') :=
  ⟨by simp [World.putObj], fun g hg _ => World.putObj_heap_other (by have := hS g hg; omega)⟩
theorem KpS.below {S : Nat → Prop} {W W' : World} (h : Below W.heap.size W W') : KpS S W W' := ⟨h.size, fun g _ hl => h.block g hl⟩
theorem KpS.only {S T : Nat → Prop} {W W' : World} (h : OnlyS T W W') (hd : ∀ g, S g → ¬ T g) : KpS S W W' := ⟨h.size, fun g hg hl => h.block g hl (hd g hg)⟩
/-- what the iterator reads -/
structure Cb (k : Int) (bs sb : Nat) (A : Option Addr) (n c : Nat) (xs : List Int) (w : World) : Prop where
  b0 : Blk w bs 61 (shp k)
  b1 : Blk w sb 29 #[.slice A n c]
  r : Rp w none A xs
def CbS (bs sb : Nat) (A : Option Addr) (g : Nat) : Prop := g = bs ∨ g = sb ∨ Of A g
theorem Cb.kp {k : Int} {bs sb n c : Nat} {A : Option Addr} {xs : List Int} {W W' : World} (h : Cb k bs sb A n c xs W) (hk : KpS (CbS bs sb A) W W') : Cb k bs sb A n c xs W' :=
  ⟨h.b0.same (hk.2 _ (.inl rfl) h.b0.lt), h.b1.same (hk.2 _ (.inr (.inl rfl)) h.b1.lt), fun hx => by
    obtain ⟨ad, e, hne, hc⟩ := h.r hx
    subst e
    have hlt := block_lt_of_cell (hc 0 hx)
    rw [add_block] at hlt
    exact ⟨ad, rfl, hne, fun j hj => (World.cell?_of_block (w := W) (hk.2 _ (.inr (.inr ⟨ad, rfl, add_block _ _⟩)) (by rw [add_block]; exact hlt))).trans (hc j hj)⟩⟩
theorem Cb.below {k : Int} {bs sb n c : Nat} {A : Option Addr} {xs : List Int} {W W' : World} (h : Cb k bs sb A n c xs W) (hb : Below W.heap.size W W') : Cb k bs sb A n c xs W' := h.kp (KpS.below hb)
/-- a digit with its chain's number -/
abbrev Dg := Fin 265 × Fin 256
def encD (x : Dg) : Array Value := #[.int .i64 (x.1.val : Int), .int .i64 (x.2.val : Int)]
/-- the digits of some bytes -/
def dgs (B E : Nat) (xs : List Int) (j : Nat) : Dg := (⟨j % 265, Nat.mod_lt _ (by decide)⟩, ⟨(dig xs j B E).toNat % 256, Nat.mod_lt _ (by decide)⟩)
def upto (f : Nat → Dg) (k : Nat) : List Dg := (List.range k).map f
theorem upto_succ (f : Nat → Dg) (k : Nat) : upto f (k + 1) = upto f k ++ [f k] := by simp [upto, List.range_succ]
theorem upto_length (f : Nat → Dg) (k : Nat) : (upto f k).length = k := by simp [upto]
theorem enc_dgs {B E : Nat} {xs : List Int} {j : Nat} (hj : j < 265) (hB : B ≤ 8) : encD (dgs B E xs j) = #[.int .i64 (j : Int), .int .i64 (dig xs j B E)] := by
  have l := dig_lo xs j B E
  have g := dig_hi xs j B E
  have p := pow_le8 B hB
  unfold encD dgs
  simp only
  rw [Nat.mod_eq_of_lt hj, Nat.mod_eq_of_lt (by omega), Int.toNat_of_nonneg l]
/-- what a round has done -/
def Ro (J Jx : List Dg → World → Prop) (S : Nat → Prop) (pre : List Dg) (x : Dg) (b : Bool) (W1 W' : World) : Prop := (b = true ∧ J (pre ++ [x]) W' ∧ KpS S W1 W') ∨ (b = false ∧ Jx (pre ++ [x]) W')
theorem Ro.of {F : Fence} {m : Nat} {P : Program} {l : Nat} {args : Array Value} {J Jx : List Dg → World → Prop} {S : Nat → Prop} {pre : List Dg} {x : Dg} {W1 : World}
    (h : YieldAt F m P l args W1 fun e W' => (e = .returned (.bool true) ∧ J (pre ++ [x]) W' ∧ KpS S W1 W') ∨ (e = .returned (.bool false) ∧ Jx (pre ++ [x]) W')) :
    YieldAt F m P l args W1 fun e W' => ∃ b, e = .returned (.bool b) ∧ Ro J Jx S pre x b W1 W' := by
  obtain ⟨fn, tmps, assign, body, hy, hR⟩ := h
  refine ⟨fn, tmps, assign, body, hy, hR.mono ?_⟩
  rintro e W' (⟨he, hj, hk⟩ | ⟨he, hj⟩)
  · exact ⟨true, he, .inl ⟨rfl, hj, hk⟩⟩
  · exact ⟨false, he, .inr ⟨rfl, hj⟩⟩
theorem and_1 : ∀ y : Fin 256, bits .and .i64 (y.val : Int) 1 = (y.val : Int) % 2 := by decide +kernel
theorem and_3 : ∀ y : Fin 256, bits .and .i64 (y.val : Int) 3 = (y.val : Int) % 4 := by decide +kernel
theorem and_15 : ∀ y : Fin 256, bits .and .i64 (y.val : Int) 15 = (y.val : Int) % 16 := by decide +kernel
theorem and_255 : ∀ y : Fin 256, bits .and .i64 (y.val : Int) 255 = (y.val : Int) % 256 := by decide +kernel
theorem fin_of {P : Int → Prop} (h : ∀ y : Fin 256, P (y.val : Int)) (y : Int) (h0 : 0 ≤ y) (h1 : y < 256) : P y := by
  have := h ⟨y.toNat, by omega⟩
  rwa [show ((⟨y.toNat, by omega⟩ : Fin 256).val : Int) = y by simp; omega] at this
theorem shr_lo (x : Int) (n : Nat) (h0 : 0 ≤ x) (h1 : x < 256) : 0 ≤ x / 2 ^ n ∧ x / 2 ^ n < 256 :=
  ⟨Int.ediv_nonneg h0 (Int.pow_nonneg (by decide)), Int.lt_of_le_of_lt (Int.ediv_le_self _ h0) h1⟩
theorem cell_bel {w w' : World} {p : Addr} {v : Value} (hb : Below w.heap.size w w') (h : w.cell? p = some v) : w'.cell? p = some v := (hb.cell (block_lt_of_cell h)).trans h
theorem below_grown {w w' : World} (h : Below w.heap.size w w') : w.grownBy w' none := by
  exact ⟨h.os, h.tape, h.output, h.size, fun k hk _ => h.block k hk⟩
end Go.Proofs.YtobceieadjpaaaaDoor
