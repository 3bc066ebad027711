/-
  What is proved here: the root of a range of a list that begins at 0 is the list's root; the calls of one step of a list that grows.
-/
import Derived.Test.YtoacjaecfabahaaDoorMFL2
import Derived.Test.YtoacjaecfabahaaDoorMFRu
set_option linter.unusedSimpArgs false
set_option linter.unusedVariables false
namespace Go.Proofs.YtoacjaecfabahaaDoor
open Go.ChangeShapes Go.WideShapes Go.ChangeAt Go.RowKit
set_option linter.unusedVariables false
set_option linter.unusedSimpArgs false
/-- the root of a range -/
theorem root_at {F : Nat → List Int} {w : World} {y n c : Nat} {A : Option Addr} (h : Rg F w 0 y A n) (hy : y ≤ 2147483647) (hc : n ≤ c) (hTb : Tab w) (hTd : TabD w) :
    Calls Tryd.prog 15 #[.agg (rgc 0 (y : Int) (.slice A n c))] w fun e w' => e = .returned (.tuple #[hV (rootL ndF emp (lst F 0 y)), .int .i64 0]) ∧ Below w.heap.size w w' := by
  have hn := h.n
  rw [← fold_root0 ndF emp F y]
  rcases Nat.eq_zero_or_pos n with hz | hp
  · subst hz
    have hs : seg 0 y = [] := List.eq_nil_of_length_eq_zero hn.symm
    rw [hs]
    exact fRoot_none hTb hTd (frm_of (x := 0) (Nat.zero_le _) hy hn)
  · exact fRoot_more h.h hy hn hc hp hTb hTd
/-- a call that answers a range of a list: its slice's capacity holds its length -/
def RgIc (F : Nat → List Int) (w : World) (x y : Nat) (e : Ending) (w' : World) : Prop := ∃ A n c, e = .returned (.tuple #[.agg (rgc (x : Int) (y : Int) (.slice A n c)), .int .i64 0]) ∧ Rg F w' x y A n ∧ n ≤ c ∧ Below w.heap.size w w'
theorem rgic_of {F : Nat → List Int} {w : World} {x y : Nat} {e : Ending} {w' : World} (h : RgYes w (x : Int) (y : Int) (hsT (tw ndF F) x (seg x y)) e w') : RgIc F w x y e w' := by
  obtain ⟨v, he, ho, hb⟩ := h
  obtain ⟨A, c, hv, h1, h2⟩ := ho.len
  subst hv
  exact ⟨A, _, c, he, ⟨ho.in, hs_len _ _ _⟩, by omega, hb⟩
theorem oc_at {F : Nat → List Int} {w : World} {x y n c : Nat} {A : Option Addr} {a : Int} (ha : a = (x : Int)) (hy : y = x + n) (hIn : InH w A n (lst F x n)) (hn : n ≤ 800) (hy2 : y ≤ 2147483647) (hT : Tab w) :
    Calls Tryd.prog 13 #[.int .i64 a, .slice A n c] w (RgIc F w x y) := by
  subst ha; subst hy
  exact (fOf_yes hIn hn hy2 hT).mono fun e w' h => rgic_of h
theorem jc_at {F : Nat → List Int} {w : World} {x y z n m c d : Nat} {A B : Option Addr} (h1 : Rg F w x y A n) (h2 : Rg F w y z B m) (hxy : x ≤ y) (hyz : y ≤ z) (hz : z ≤ 2147483647) (hTb : Tab w) (hTd : TabD w) :
    Calls Tryd.prog 20 #[.agg (rgc (x : Int) (y : Int) (.slice A n c)), .agg (rgc (y : Int) (z : Int) (.slice B m d))] w (RgIc F w x z) :=
  (fJoin_yes h1.h h2.h hxy hyz hz h1.n h2.n hTb hTd (two_of ndF (fun p j => tw_cn ndF F p j) hxy hyz)).mono fun e w' h => rgic_of h
end Go.Proofs.YtoacjaecfabahaaDoor
