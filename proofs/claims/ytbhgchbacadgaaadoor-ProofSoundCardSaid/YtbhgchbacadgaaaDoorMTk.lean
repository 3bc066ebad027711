/-
  What this file is for: the steps of a region that draws its order, in few words.
-/
import Derived.Test.YtbhgchbacadgaaaDoorMA1
import Derived.Deep.RegionHeld
set_option linter.unusedSimpArgs false
set_option linter.unusedVariables false
namespace Go.Proofs.YtbhgchbacadgaaaDoor
open Go.ChangeShapes Go.WideShapes Go.ChangeAt Go.RowKit
set_option linter.unusedVariables false

section
variable {P : Program} {md : Region.Mode} {ops : Array Oper} {Q : Exit → Act → World → Prop} {S : World → Prop}
/-- an operation that only reckons is listed; the frame behind it -/
theorem tk (i : Nat) (d : Option Tmp) {op : Op} {type : TypeId} {pos : String} {after : Array Edge} {guard : Option (Nat × Bool)} {v : Value} {fuel : Nat} {listed : Array Bool} {a a' : Act} {w : World}
    (h : wpAnyH P md ops Q S fuel (listed.setIfInBounds i true) a' w)
    (hi : ops[i]? = some { dst := d, op := op, type := type, pos := pos, after := after, guard := guard } := by rfl)
    (hs : Region.noSelect ops = true := by kernel_rfl) (hf : Region.free md ops listed i = true := by kernel_rfl) (hr : (Region.ready md ops listed).contains i = true := by kernel_rfl)
    (hw : Region.wanted { dst := d, op := op, type := type, pos := pos, after := after, guard := guard } (yielded ops a.tmps) = true := by kernel_rfl)
    (hy : ∀ w, S w → (execOp a.eval { dst := d, op := op, type := type, pos := pos, after := after, guard := guard }).run P w = .ok (.value v) w := by intro w hSw; go_simp; try with_reducible rfl)
    (hS : S w := by assumption)
    (hQ : ∀ c a w, Q (.panic c) (a.put d v) w → Q (.panic c) a w := by exact fun _ _ _ h => h)
    (ha : a.put d v = a' := by simp only [Act.put, List.setIfInBounds_toArray, List.set_cons_zero, List.set_cons_succ]; rfl) : wpAnyH P md ops Q S (fuel + 1) listed a w := by
  subst ha
  exact wpAnyH_take hi hs hf hr hQ (.inl ⟨hw, hy⟩) hS h
/-- the same, where its value is told -/
theorem tkv (i : Nat) (d : Option Tmp) (v : Value) {op : Op} {type : TypeId} {pos : String} {after : Array Edge} {guard : Option (Nat × Bool)} {fuel : Nat} {listed : Array Bool} {a a' : Act} {w : World}
    (hi : ops[i]? = some { dst := d, op := op, type := type, pos := pos, after := after, guard := guard })
    (hy : YieldsIf P ops S { dst := d, op := op, type := type, pos := pos, after := after, guard := guard } v a)
    (h : wpAnyH P md ops Q S fuel (listed.setIfInBounds i true) a' w)
    (hs : Region.noSelect ops = true := by kernel_rfl) (hf : Region.free md ops listed i = true := by kernel_rfl) (hr : (Region.ready md ops listed).contains i = true := by kernel_rfl)
    (hS : S w := by assumption)
    (hQ : ∀ c a w, Q (.panic c) (a.put d v) w → Q (.panic c) a w := by exact fun _ _ _ h => h)
    (ha : a.put d v = a' := by simp only [Act.put, List.setIfInBounds_toArray, List.set_cons_zero, List.set_cons_succ]; rfl) : wpAnyH P md ops Q S (fuel + 1) listed a w := by
  subst ha
  exact wpAnyH_take hi hs hf hr hQ hy hS h
/-- just one may come up -/
theorem rd1 (i : Nat) (d : Option Tmp) {op : Op} {type : TypeId} {pos : String} {after : Array Edge} {guard : Option (Nat × Bool)} {fuel : Nat} {listed : Array Bool} {a : Act} {w : World}
    (h : ∀ K' : Act → World → Prop, Shut (∀ a w, S w → (S w → wpAnyH P md ops Q S fuel (listed.setIfInBounds i true) a w) → K' a w) → if Region.wanted { dst := d, op := op, type := type, pos := pos, after := after, guard := guard } (yielded ops a.tmps) = true then Oper.wp P { dst := d, op := op, type := type, pos := pos, after := after, guard := guard } a w K' Q else K' (a.put d undef) w)
    (hi : ops[i]? = some { dst := d, op := op, type := type, pos := pos, after := after, guard := guard } := by rfl)
    (hr : Region.ready md ops listed = [i] := by kernel_rfl) : wpAnyH P md ops Q S (fuel + 1) listed a w :=
  wpAnyH_ready hr (by simp) (AllReadyH.cons hi h AllReadyH.nil)
end
end Go.Proofs.YtbhgchbacadgaaaDoor
