/-
  What is proved here: what the arguments of the statements on trails hold when they are read. Nothing of the program is walked here.
-/
import Derived.Test.YtoacjaecfabahaaDoorMF6
import Derived.Test.YtoacjaecfabahaaDoorMJS
set_option linter.unusedSimpArgs false
set_option linter.unusedVariables false
namespace Go.Proofs.YtoacjaecfabahaaDoor
open Go.ChangeShapes Go.WideShapes Go.ChangeAt Go.RowKit
set_option linter.unusedVariables false
set_option maxRecDepth 20000

section
variable {H : Type} {enc : TypeId × Value → H} {w : World} {base : Nat} {spare : Nat → Bool} {held : Bool}
theorem open_trail {fuel : Nat} {cs : List Value} {x : DataW H × List MemPlace} (h : DataW.trod enc Tryd.prog w base spare held fuel 51 cs = some x) :
    ∃ (A : Option Addr) (n c : Nat) (L : List (List Int)) (B : Option Addr) (m d : Nat) (M : List (List Int)), cs = [.slice A n c, .slice B m d] ∧ InH w A n L ∧ n ≤ c ∧ InH w B m M ∧ m ≤ d := by
  obtain ⟨xs, n, _, _, hl, hn, he⟩ := DataW.trod_struct Tryd.underlying51 h
  rw [show Tryd.prog.cellsOf 51 = 2 by kernel_rfl] at hl
  have cb : Tryd.prog.cellsOf 22 = 1 := by kernel_rfl
  match xs, hn with
  | [y0, y1], _ =>
    have e0 : DataW.trod enc Tryd.prog w base spare held n 22 ((cs.drop 0).take (Tryd.prog.cellsOf 22)) = some y0 := he 0 _ rfl
    have e1 : DataW.trod enc Tryd.prog w base spare held n 22 ((cs.drop 1).take (Tryd.prog.cellsOf 22)) = some y1 := he 1 _ rfl
    rw [cb] at e0 e1
    obtain ⟨A, n', c, L, h0, hin, hnc⟩ := open_hashes e0
    obtain ⟨B, m, d, M, h1, hin2, hmd⟩ := open_hashes e1
    refine ⟨A, n', c, L, B, m, d, M, ?_, hin, hnc, hin2, hmd⟩
    have d0 := fdrop_cons h0
    have d1 := fdrop_cons h1
    have d2 : cs.drop (1 + 1) = [] := List.drop_of_length_le (by omega)
    rw [List.drop_zero] at d0
    rw [d0, d1, d2]
theorem drop_take {α : Type} (cs : List α) (k m : Nat) : cs.drop k = (cs.drop k).take m ++ cs.drop (k + m) := by
  rw [← List.drop_drop, List.take_append_drop]
theorem open_said {fuel : Nat} {cs : List Value} {x : DataW H × List MemPlace} (h : DataW.trod enc Tryd.prog w base spare held fuel 57 cs = some x) :
    ∃ (M N : Int) (K R : List Int), cs = Value.int .i64 M :: Value.int .i64 N :: (u8s K ++ u8s R) ∧ (-9223372036854775808 ≤ M ∧ M ≤ 9223372036854775807) ∧ H32 K ∧ H32 R := by
  obtain ⟨xs, n, _, _, hl, hn, he⟩ := DataW.trod_struct Tryd.underlying57 h
  rw [show Tryd.prog.cellsOf 57 = 66 by kernel_rfl] at hl
  have ci : Tryd.prog.cellsOf 3 = 1 := by kernel_rfl
  have ch : Tryd.prog.cellsOf 33 = 32 := by kernel_rfl
  match xs, hn with
  | [y0, y1, y2, y3], _ =>
    have e0 : DataW.trod enc Tryd.prog w base spare held n 3 ((cs.drop 0).take (Tryd.prog.cellsOf 3)) = some y0 := he 0 _ rfl
    have e1 : DataW.trod enc Tryd.prog w base spare held n 3 ((cs.drop 1).take (Tryd.prog.cellsOf 3)) = some y1 := he 1 _ rfl
    have e2 : DataW.trod enc Tryd.prog w base spare held n 33 ((cs.drop 2).take (Tryd.prog.cellsOf 33)) = some y2 := he 2 _ rfl
    have e3 : DataW.trod enc Tryd.prog w base spare held n 33 ((cs.drop 34).take (Tryd.prog.cellsOf 33)) = some y3 := he 3 _ rfl
    rw [ci] at e0 e1; rw [ch] at e2 e3
    obtain ⟨M, h0, _, w0⟩ := DataW.trod_int Tryd.underlying3 e0
    obtain ⟨N, h1, _, w1⟩ := DataW.trod_int Tryd.underlying3 e1
    obtain ⟨K, hK, h2⟩ := open_h32 e2
    obtain ⟨R, hR, h3⟩ := open_h32 e3
    refine ⟨M, N, K, R, ?_, bounds_i64 w0, hK, hR⟩
    have d0 := fdrop_cons h0
    have d1 := fdrop_cons h1
    have d2 := drop_take cs 2 32
    have d3 := drop_take cs 34 32
    have d4 : cs.drop (34 + 32) = [] := List.drop_of_length_le (by omega)
    rw [List.drop_zero] at d0
    rw [h2] at d2
    rw [h3, d4, List.append_nil] at d3
    rw [d0, d1, d2, d3]
end
end Go.Proofs.YtoacjaecfabahaaDoor
