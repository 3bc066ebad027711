/-
  What is proved here: a list cut in three, the parts' ranges joined, in either order, is the list's range: the walk of the statement.
-/
import Derived.Test.YtoacjaecfabahaaDoorMF4
import Derived.Test.YtoacjaecfabahaaDoorMF5
set_option linter.unusedSimpArgs false
set_option linter.unusedVariables false
namespace Go.Proofs.YtoacjaecfabahaaDoor
open Go.ChangeShapes Go.WideShapes Go.ChangeAt Go.RowKit
set_option linter.unusedVariables false
set_option linter.unusedSimpArgs false
set_option maxRecDepth 20000

theorem load_pl {ops : Array Oper} {rest : List Oper} {o : Oper} {a : Act} {w : World} {Q : Exit → Act → World → Prop} (ty : TypeId) (x : Operand) (ho : o.op = .load ty x) (hgd : o.guard = none)
    (b off : Nat) (hx : a.eval x = .pointer (some ⟨b, off, none⟩)) (cs : List Value) (d : TypeDesc) (hc : w.rangeAt b off cs) (hu : Tryd.prog.underlying ty = some d) (hd : d.isRow = true) (hi : (Tryd.prog.info? ty).map (·.size) = some cs.length)
    (A : Array Value) (hA : cs.toArray = A) (h : wpList Tryd.prog ops Q rest (a.put o.dst (.agg A)) w) : wpList Tryd.prog ops Q (o :: rest) a w := by
  subst hA
  exact wpList_plain hgd fun _ hK => wp_load_mid ty x ho b off hx cs d hc hu hd hi (hK _ _ h)
theorem load_g {ops : Array Oper} {rest : List Oper} {o : Oper} {a : Act} {w : World} {Q : Exit → Act → World → Prop} (ty : TypeId) (x : Operand) (ho : o.op = .load ty x) (h : wpList Tryd.prog ops Q (o :: rest) a w) : wpList Tryd.prog ops Q (o :: rest) a w := h
/-- a range of a list, its hashes in memory -/
structure Rg (F : Nat → List Int) (w : World) (x y : Nat) (A : Option Addr) (n : Nat) : Prop where
  h : InH w A n (hsT (tw ndF F) x (seg x y))
  n : n = (seg x y).length
theorem Rg.below {F : Nat → List Int} {w w' : World} {x y : Nat} {A : Option Addr} {n : Nat} (H : Rg F w x y A n) (hb : Below w.heap.size w w') : Rg F w' x y A n := ⟨H.h.below hb, H.n⟩
/-- a call that answers a range of a list -/
def RgIn (F : Nat → List Int) (w : World) (x y : Nat) (e : Ending) (w' : World) : Prop := ∃ A n c, e = .returned (.tuple #[.agg (rgc (x : Int) (y : Int) (.slice A n c)), .int .i64 0]) ∧ Rg F w' x y A n ∧ Below w.heap.size w w'
theorem rgin_of {F : Nat → List Int} {w : World} {x y : Nat} {e : Ending} {w' : World} (h : RgYes w (x : Int) (y : Int) (hsT (tw ndF F) x (seg x y)) e w') : RgIn F w x y e w' := by
  obtain ⟨v, he, ho, hb⟩ := h
  obtain ⟨A, c, hv, _, _⟩ := ho.len
  subst hv
  exact ⟨A, _, c, he, ⟨ho.in, hs_len _ _ _⟩, hb⟩
theorem of_at {F : Nat → List Int} {w : World} {x y n c : Nat} {A : Option Addr} {a : Int} (ha : a = (x : Int)) (hy : y = x + n) (hIn : InH w A n (lst F x n)) (hn : n ≤ 800) (hy2 : y ≤ 2147483647) (hT : Tab w) :
    Calls Tryd.prog 13 #[.int .i64 a, .slice A n c] w (RgIn F w x y) := by
  subst ha; subst hy
  exact (fOf_yes hIn hn hy2 hT).mono fun e w' h => rgin_of h
theorem join_at {F : Nat → List Int} {w : World} {x y z n m c d : Nat} {A B : Option Addr} (h1 : Rg F w x y A n) (h2 : Rg F w y z B m) (hxy : x ≤ y) (hyz : y ≤ z) (hz : z ≤ 2147483647) (hTb : Tab w) (hTd : TabD w) :
    Calls Tryd.prog 20 #[.agg (rgc (x : Int) (y : Int) (.slice A n c)), .agg (rgc (y : Int) (z : Int) (.slice B m d))] w (RgIn F w x z) :=
  (fJoin_yes h1.h h2.h hxy hyz hz h1.n h2.n hTb hTd (two_of ndF (fun p j => tw_cn ndF F p j) hxy hyz)).mono fun e w' h => rgin_of h
theorem rg_few {F : Nat → List Int} {w : World} {x y : Nat} {A : Option Addr} {n : Nat} (H : Rg F w x y A n) (hy : y ≤ 2147483647) : n < 1000000 := by
  have := seg_few (a := x) (b := y) (by omega)
  have := H.n
  omega
theorem ranges_at {F : Nat → List Int} {w : World} {x y n m c d : Nat} {A B : Option Addr} (h1 : Rg F w x y A n) (h2 : Rg F w x y B m) (hy : y ≤ 2147483647) :
    Calls Tryd.prog 16 #[.agg (rgc (x : Int) (y : Int) (.slice A n c)), .agg (rgc (x : Int) (y : Int) (.slice B m d))] w fun e w' => e = .returned (.bool true) ∧ Below w.heap.size w w' := by
  have h := gRanges_any (a := (x : Int)) (b := (y : Int)) (a' := (x : Int)) (b' := (y : Int)) (c := c) (d := d) h1.h h2.h (rg_few h1 hy) (rg_few h2 hy)
  rw [decide_eq_true ⟨rfl, rfl, rfl⟩] at h
  exact h
end Go.Proofs.YtoacjaecfabahaaDoor
