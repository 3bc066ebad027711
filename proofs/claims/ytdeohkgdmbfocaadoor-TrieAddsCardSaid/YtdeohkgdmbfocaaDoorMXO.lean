/-
  What is proved here: what the arguments of the layer's statements hold when they are read: a node, a list of pairs.
-/
import Derived.Test.YtdeohkgdmbfocaaDoorMX1
import Derived.Test.YtdeohkgdmbfocaaDoorMPOpen
import Derived.ChangeOld
set_option linter.unusedSimpArgs false
set_option linter.unusedVariables false
namespace Go.Proofs.YtdeohkgdmbfocaaDoor
open Go.ChangeShapes Go.WideShapes Go.ChangeAt Go.RowKit
set_option linter.unusedVariables false
set_option maxRecDepth 20000

section
variable {H : Type} {enc : TypeId × Value → H} {w : World} {base : Nat} {spare : Nat → Bool} {held : Bool}
theorem arr_of {cs : Array Value} {K : List Int} (h : cs.toList = u8s K) : cs = (u8s K).toArray := by rw [← h]
theorem drop_cons {α : Type} {cs : List α} {k : Nat} {x : α} (h : (cs.drop k).take 1 = [x]) : cs.drop k = x :: cs.drop (k + 1) := by
  cases hd : cs.drop k with
  | nil => rw [hd] at h; simp at h
  | cons y r =>
    rw [hd] at h
    simp at h
    rw [h, ← List.drop_drop, hd]
    rfl
theorem drop_app {α : Type} {cs X : List α} {k n : Nat} (h : (cs.drop k).take n = X) (hl : X.length = n) : cs.drop k = X ++ cs.drop (k + n) := by
  rw [← List.take_append_drop n (cs.drop k), h, List.drop_drop]
theorem open_node {fuel : Nat} {cs : List Value} {x : DataW H × List MemPlace} (h : DataW.trod enc Tryd.prog w base spare held fuel 56 cs = some x) : ∃ q, NdOk q ∧ cs = nc q := by
  obtain ⟨xs, n, _, _, hl, hn, he⟩ := DataW.trod_struct Tryd.underlying56 h
  rw [show Tryd.prog.cellsOf 56 = 132 by kernel_rfl] at hl
  have c1 : Tryd.prog.cellsOf 4 = 1 := by kernel_rfl
  have ci : Tryd.prog.cellsOf 3 = 1 := by kernel_rfl
  have ch : Tryd.prog.cellsOf 24 = 32 := by kernel_rfl
  have cp : Tryd.prog.cellsOf 54 = 33 := by kernel_rfl
  match xs, hn with
  | [y0, y1, y2, y3, y4, y5, y6], _ =>
    have e0 : DataW.trod enc Tryd.prog w base spare held n 4 ((cs.drop 0).take (Tryd.prog.cellsOf 4)) = some y0 := he 0 _ rfl
    have e1 : DataW.trod enc Tryd.prog w base spare held n 24 ((cs.drop 1).take (Tryd.prog.cellsOf 24)) = some y1 := he 1 _ rfl
    have e2 : DataW.trod enc Tryd.prog w base spare held n 24 ((cs.drop 33).take (Tryd.prog.cellsOf 24)) = some y2 := he 2 _ rfl
    have e3 : DataW.trod enc Tryd.prog w base spare held n 54 ((cs.drop 65).take (Tryd.prog.cellsOf 54)) = some y3 := he 3 _ rfl
    have e4 : DataW.trod enc Tryd.prog w base spare held n 3 ((cs.drop 98).take (Tryd.prog.cellsOf 3)) = some y4 := he 4 _ rfl
    have e5 : DataW.trod enc Tryd.prog w base spare held n 3 ((cs.drop 99).take (Tryd.prog.cellsOf 3)) = some y5 := he 5 _ rfl
    have e6 : DataW.trod enc Tryd.prog w base spare held n 24 ((cs.drop 100).take (Tryd.prog.cellsOf 24)) = some y6 := he 6 _ rfl
    rw [c1] at e0; rw [ch] at e1 e2 e6; rw [cp] at e3; rw [ci] at e4 e5
    obtain ⟨lf, h0, _⟩ := DataW.trod_bool Tryd.underlying4 e0
    obtain ⟨k, hk, h1⟩ := open_key e1
    obtain ⟨v, hv, h2⟩ := open_key e2
    obtain ⟨pn, pb, hp, h3⟩ := open_pre e3
    obtain ⟨l, h4, _, _⟩ := DataW.trod_int Tryd.underlying3 e4
    obtain ⟨r, h5, _, _⟩ := DataW.trod_int Tryd.underlying3 e5
    obtain ⟨hh, hhh, h6⟩ := open_key e6
    refine ⟨⟨lf, k, v, pn, pb, l, r, hh⟩, ⟨hk, hv, hp, hhh⟩, ?_⟩
    have d0 := drop_cons h0
    have d1 := drop_app h1 (by rw [u8s_length, hk.len])
    have d2 := drop_app h2 (by rw [u8s_length, hv.len])
    have d3 := drop_app h3 (by rw [List.length_cons, u8s_length, hp.len])
    have d4 := drop_cons h4
    have d5 := drop_cons h5
    have d6 := drop_app h6 (by rw [u8s_length, hhh.len])
    have d7 : cs.drop (100 + 32) = [] := List.drop_of_length_le (by omega)
    rw [List.drop_zero] at d0
    rw [d0, d1, d2, d3, d4, d5, d6, d7]
    unfold nc
    simp
theorem node_of {cs : Array Value} {q : Nd} (h : cs.toList = nc q) : cs = (nc q).toArray := by rw [← h]
end
end Go.Proofs.YtdeohkgdmbfocaaDoor
