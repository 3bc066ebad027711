/-
  What is proved here: the statements' forms and askings as cells.
-/
import Derived.Test.YtobceieadjpaaaaDoorMKd1
set_option linter.unusedSimpArgs false
set_option linter.unusedVariables false
namespace Go.Proofs.YtobceieadjpaaaaDoor
open Go.ChangeShapes Go.WideShapes Go.ChangeAt Go.RowKit
set_option linter.unusedVariables false
set_option maxRecDepth 20000

section
variable {H : Type} {enc : TypeId × Value → H} {w : World} {base : Nat} {spare : Nat → Bool} {held : Bool}
theorem open_form {fuel : Nat} {cs : List Value} {x : DataW H × List MemPlace} (h : DataW.trod enc Tryd.prog w base spare held fuel 44 cs = some x) :
    ∃ (t b k : Int) (sd : List Int), Ky sd ∧ cs = .int .i64 t :: .int .i64 b :: .int .i64 k :: u8s sd := by
  obtain ⟨xs, n, _, _, hl, hn, he⟩ := DataW.trod_struct Tryd.underlying44 h
  rw [show Tryd.prog.cellsOf 44 = 35 by kernel_rfl] at hl
  match xs, hn with
  | [y0, y1, y2, y3], _ =>
    have e0 : DataW.trod enc Tryd.prog w base spare held n 3 ((cs.drop 0).take (Tryd.prog.cellsOf 3)) = some y0 := he 0 _ rfl
    have e1 : DataW.trod enc Tryd.prog w base spare held n 3 ((cs.drop 1).take (Tryd.prog.cellsOf 3)) = some y1 := he 1 _ rfl
    have e2 : DataW.trod enc Tryd.prog w base spare held n 3 ((cs.drop 2).take (Tryd.prog.cellsOf 3)) = some y2 := he 2 _ rfl
    have e3 : DataW.trod enc Tryd.prog w base spare held n 26 ((cs.drop 3).take (Tryd.prog.cellsOf 26)) = some y3 := he 3 _ rfl
    rw [show Tryd.prog.cellsOf 3 = 1 by kernel_rfl] at e0 e1 e2
    rw [show Tryd.prog.cellsOf 26 = 32 by kernel_rfl, List.take_of_length_le (by rw [List.length_drop]; omega)] at e3
    obtain ⟨t, ht, _, _⟩ := DataW.trod_int Tryd.underlying3 e0
    obtain ⟨b, hb, _, _⟩ := DataW.trod_int Tryd.underlying3 e1
    obtain ⟨k, hk, _, _⟩ := DataW.trod_int Tryd.underlying3 e2
    obtain ⟨sd, hs, hsc⟩ := open_hash e3
    refine ⟨t, b, k, sd, hs, ?_⟩
    have a2 : cs.drop 2 = (cs.drop 2).take 1 ++ cs.drop 3 := by
      rw [show cs.drop 3 = (cs.drop 2).drop 1 by rw [List.drop_drop]]
      exact (List.take_append_drop 1 _).symm
    have a1 : cs.drop 1 = (cs.drop 1).take 1 ++ cs.drop 2 := by
      rw [show cs.drop 2 = (cs.drop 1).drop 1 by rw [List.drop_drop]]
      exact (List.take_append_drop 1 _).symm
    have a0 : cs = (cs.drop 0).take 1 ++ cs.drop 1 := (List.take_append_drop 1 cs).symm
    rw [ht] at a0
    rw [hb] at a1
    rw [hk, hsc] at a2
    rw [a0, a1, a2]
    rfl
theorem open_asked {fuel : Nat} {cs : List Value} {x : DataW H × List MemPlace} (h : DataW.trod enc Tryd.prog w base spare held fuel 56 cs = some x) :
    ∃ (k : Int) (sd : List Int), (0 ≤ k ∧ k < 256) ∧ Ky sd ∧ cs = .int .u8 k :: u8s sd := by
  obtain ⟨xs, n, _, _, hl, hn, he⟩ := DataW.trod_struct Tryd.underlying56 h
  rw [show Tryd.prog.cellsOf 56 = 33 by kernel_rfl] at hl
  match xs, hn with
  | [y0, y3], _ =>
    have e0 : DataW.trod enc Tryd.prog w base spare held n 5 ((cs.drop 0).take (Tryd.prog.cellsOf 5)) = some y0 := he 0 _ rfl
    have e3 : DataW.trod enc Tryd.prog w base spare held n 26 ((cs.drop 1).take (Tryd.prog.cellsOf 26)) = some y3 := he 1 _ rfl
    rw [show Tryd.prog.cellsOf 5 = 1 by kernel_rfl] at e0
    rw [show Tryd.prog.cellsOf 26 = 32 by kernel_rfl, List.take_of_length_le (by rw [List.length_drop]; omega)] at e3
    obtain ⟨k, hk, _, hkw⟩ := DataW.trod_int Tryd.underlying5 e0
    obtain ⟨sd, hs, hsc⟩ := open_hash e3
    have hkb := bounds_u8 hkw
    refine ⟨k, sd, ⟨by omega, by omega⟩, hs, ?_⟩
    have a0 : cs = (cs.drop 0).take 1 ++ cs.drop 1 := (List.take_append_drop 1 cs).symm
    rw [hk, hsc] at a0
    rw [a0]
    rfl
end
/-- a form as cells; an asking as cells -/
def formC (t b k : Int) (sd : List Int) : Array Value := (Value.int .i64 t :: .int .i64 b :: .int .i64 k :: u8s sd).toArray
theorem form_of {cs : Array Value} {t b k : Int} {sd : List Int} (h : cs.toList = .int .i64 t :: .int .i64 b :: .int .i64 k :: u8s sd) : cs = formC t b k sd := by
  unfold formC; rw [← h]
def askC (k : Int) (sd : List Int) : Array Value := (Value.int .u8 k :: u8s sd).toArray
theorem asked_of {cs : Array Value} {k : Int} {sd : List Int} (h : cs.toList = .int .u8 k :: u8s sd) : cs = askC k sd := by
  unfold askC; rw [← h]
section
variable {w : World} {g : Nat} {t b k : Int} {sd : List Int}
theorem form_t (h : Blk w g 44 (formC t b k sd)) : w.cell? ⟨g, 0, none⟩ = some (.int .i64 t) := by rw [h.cell]; unfold formC; rw [List.getElem?_toArray]; rfl
theorem form_b (h : Blk w g 44 (formC t b k sd)) : w.cell? ⟨g, 1, none⟩ = some (.int .i64 b) := by rw [h.cell]; unfold formC; rw [List.getElem?_toArray]; rfl
theorem form_k (h : Blk w g 44 (formC t b k sd)) : w.cell? ⟨g, 2, none⟩ = some (.int .i64 k) := by rw [h.cell]; unfold formC; rw [List.getElem?_toArray]; rfl
theorem form_sd (h : Blk w g 44 (formC t b k sd)) : w.rangeAt g 3 (u8s sd) := fun j v hv => by
  rw [h.cell]
  unfold formC
  rw [List.getElem?_toArray, show 3 + j = j + 1 + 1 + 1 by omega, List.getElem?_cons_succ, List.getElem?_cons_succ, List.getElem?_cons_succ]
  exact hv
theorem form_row (h : Blk w g 44 (formC t b k sd)) : w.rangeAt g 0 (Value.int .i64 t :: .int .i64 b :: .int .i64 k :: u8s sd) := fun j v hv => by
  rw [h.cell]
  unfold formC
  rw [List.getElem?_toArray, Nat.zero_add]
  exact hv
theorem ask_k (h : Blk w g 56 (askC k sd)) : w.cell? ⟨g, 0, none⟩ = some (.int .u8 k) := by rw [h.cell]; unfold askC; rw [List.getElem?_toArray]; rfl
theorem ask_sd (h : Blk w g 56 (askC k sd)) : w.rangeAt g 1 (u8s sd) := fun j v hv => by
  rw [h.cell]
  unfold askC
  rw [List.getElem?_toArray, show 1 + j = j + 1 by omega, List.getElem?_cons_succ]
  exact hv
end
end Go.Proofs.YtobceieadjpaaaaDoor
