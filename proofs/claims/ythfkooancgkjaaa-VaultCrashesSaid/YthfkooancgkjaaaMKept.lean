/-
  What this file is for: a region whose order is drawn, whose operations only read and whose calls lay new blocks, walked once, over all worlds that keep what stood; rows of bytes read whole. Nothing of the program is walked here.
-/
import Derived.Test.YthfkooancgkjaaaMA1
import Derived.Deep.RegionHeld3
import Derived.Deep.MidRow
import Derived.Laws.Rows
set_option linter.unusedSimpArgs false
set_option linter.unusedVariables false
namespace Go.Proofs.Ythfkooancgkjaaa
open Go.ChangeShapes Go.WideShapes Go.ChangeAt Go.RowKit
set_option linter.unusedVariables false
set_option maxRecDepth 20000

theorem Blk.below {w w' : World} {g : Nat} {t : TypeId} {cs : Array Value} (h : Blk w g t cs) (hb : Below w.heap.size w w') : Blk w' g t cs := h.same (hb.block g h.lt)
/-- a world that keeps H -/
structure PW (H : World → Prop) where
  w : World
  h : H w
section
variable {P : Program} {H : World → Prop}
theorem region_kept {id : Nat} {Q : Exit → Act → World → Prop} {a : Act} {w : World} {l : List Oper} (H : World → Prop) (hm : P.follows .mixedOrders = true) (hB : Region.lexB .any l.toArray = true) (hH : H { w with drawn := w.drawn + 1 })
    (h : wpQuiet P l.toArray (fun w' => ∃ p : PW H, w' = p.w) (fun a' => ∀ w', (∃ p : PW H, w' = p.w) → Q .normal a' w') l a) : (Code.region id l.toArray true).wp P Q a w :=
  wp_region_quiet (C := fun w' => ∃ p : PW H, w' = p.w) hm hB ⟨⟨_, hH⟩, rfl⟩ (by simpa using h)
theorem calls_kept {f : FuncId} {args : Array Value} {p : PW H} {v : Value} (h : Calls P f args p.w fun e w' => e = .returned v ∧ Below p.w.heap.size p.w w') (hk : ∀ w', Below p.w.heap.size p.w w' → H w') :
    Calls P f args p.w fun e w'' => e = .returned v ∧ ∃ p : PW H, w'' = p.w := h.mono fun _ w' ⟨he, hb⟩ => ⟨he, ⟨w', hk w' hb⟩, rfl⟩
theorem load_at {ops : Array Oper} {rest : List Oper} {o : Oper} {a : Act} {w : World} {Q : Exit → Act → World → Prop} (hw : Region.wanted o (yielded ops a.tmps) = true) (ty : TypeId) (x : Operand) (ho : o.op = .load ty x)
    (b off : Nat) (hx : a.eval x = .pointer (some ⟨b, off, none⟩)) (cs : List Value) (d : TypeDesc) (hc : w.rangeAt b off cs) (hu : P.underlying ty = some d) (hd : d.isRow = true) (hi : (P.info? ty).map (·.size) = some cs.length)
    (A : Array Value) (hA : cs.toArray = A) (h : wpList P ops Q rest (a.put o.dst (.agg A)) w) : wpList P ops Q (o :: rest) a w := by
  subst hA
  unfold wpList
  rw [if_pos hw]
  exact Or.inl (wp_load_mid ty x ho b off hx cs d hc hu hd hi h)
theorem quiet_load {o : Oper} {a : Act} {K : Act → Prop} (ty : TypeId) (x : Operand) (ho : o.op = .load ty x) (b off : Nat) (hx : a.eval x = .pointer (some ⟨b, off, none⟩)) (cs : List Value) (d : TypeDesc)
    (hc : ∀ p : PW H, p.w.rangeAt b off cs) (hu : P.underlying ty = some d) (hd : d.isRow = true) (hi : (P.info? ty).map (·.size) = some cs.length) (A : Array Value) (hA : cs.toArray = A) (h : K (a.put o.dst (.agg A))) :
    o.quiet P a (fun w' => ∃ p : PW H, w' = p.w) K := by
  subst hA
  exact ⟨_, fun w hw => by
    obtain ⟨p, rfl⟩ := hw
    unfold Oper.quietAt
    have e : (execOp a.eval o).run P p.w = .ok (.value (.agg cs.toArray)) p.w := by
      unfold execOp
      simp only [ho, hx, Sem.run_bind, run_loadAt_mid p.w b off ty cs d (hc p) hu hd hi, Result.andThen_ok, Sem.run_pure]
    rw [e]
    exact ⟨rfl, rfl⟩, h⟩
theorem blk_row {w0 : World} {g : Nat} {t : TypeId} {K : List Int} (h : Blk w0 g t (u8s K).toArray) : w0.rangeAt g 0 (u8s K) := fun j v hv => by
  rw [h.cell, Nat.zero_add, List.getElem?_toArray]; exact hv
/-- what stood in w0 stands as it did -/
def Kp (w0 w' : World) : Prop := Below w0.heap.size w0 w'
instance kp_some (w0 : World) : Nonempty (PW (Kp w0)) := ⟨⟨w0, Below.refl _ _⟩⟩
theorem kp_begin (w0 : World) : Kp w0 { w0 with drawn := w0.drawn + 1 } := (Below.refl w0.heap.size w0).drew
theorem kp_blk {w0 : World} {g : Nat} {t : TypeId} {cs : Array Value} (h : Blk w0 g t cs) (p : PW (Kp w0)) : Blk p.w g t cs := h.below p.h
theorem kp_row {w0 : World} {g : Nat} {t : TypeId} {K : List Int} (h : Blk w0 g t (u8s K).toArray) (p : PW (Kp w0)) : p.w.rangeAt g 0 (u8s K) := blk_row (kp_blk h p)
theorem kp_call {w0 : World} {f : FuncId} {args : Array Value} {p : PW (Kp w0)} {v : Value} (h : Calls P f args p.w fun e w' => e = .returned v ∧ Below p.w.heap.size p.w w') :
    Calls P f args p.w fun e w'' => e = .returned v ∧ ∃ p : PW (Kp w0), w'' = p.w := calls_kept h (fun w' hb => Below.trans p.h (hb.mono (Below.size p.h)))
end
theorem blks2 (w : World) (A B : Array Value) (t s : TypeId) : Blk ((w.alloc (.cells A t)).alloc (.cells B s)) w.heap.size t A ∧ Blk ((w.alloc (.cells A t)).alloc (.cells B s)) (w.heap.size + 1) s B ∧ Below w.heap.size w ((w.alloc (.cells A t)).alloc (.cells B s)) := by
  refine ⟨(Blk.new w t _).alloc _, ?_, ((Below.refl _ _).alloc (Nat.le_refl _) _).alloc (by simp) _⟩
  have := Blk.new (w.alloc (.cells A t)) s B
  rwa [show (w.alloc (.cells A t)).heap.size = w.heap.size + 1 by simp] at this
theorem blks3 (w : World) (A B C : Array Value) (t s r : TypeId) : Blk (((w.alloc (.cells A t)).alloc (.cells B s)).alloc (.cells C r)) w.heap.size t A ∧ Blk (((w.alloc (.cells A t)).alloc (.cells B s)).alloc (.cells C r)) (w.heap.size + 1) s B ∧ Blk (((w.alloc (.cells A t)).alloc (.cells B s)).alloc (.cells C r)) (w.heap.size + 1 + 1) r C ∧ Below w.heap.size w (((w.alloc (.cells A t)).alloc (.cells B s)).alloc (.cells C r)) := by
  obtain ⟨h1, h2, h3⟩ := blks2 w A B t s
  have hs : ((w.alloc (.cells A t)).alloc (.cells B s)).heap.size = w.heap.size + 1 + 1 := by simp
  refine ⟨h1.alloc _, h2.alloc _, ?_, h3.alloc (by omega) _⟩
  have := Blk.new ((w.alloc (.cells A t)).alloc (.cells B s)) r C
  rwa [hs] at this
theorem blk_rng {w : World} {g : Nat} {t : TypeId} {cs : Array Value} (h : Blk w g t cs) : w.rangeAt g 0 cs.toList := fun j v hv => by
  rw [h.cell, Nat.zero_add]; simpa using hv
end Go.Proofs.Ythfkooancgkjaaa
