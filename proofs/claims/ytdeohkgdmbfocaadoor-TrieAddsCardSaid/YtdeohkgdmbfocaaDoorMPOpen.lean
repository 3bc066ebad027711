/-
  What is proved here: what the arguments of the statements on prefixes hold when they are read: a key, a beginning.
-/
import Derived.Test.YtdeohkgdmbfocaaDoorMP1
import Derived.Test.YtdeohkgdmbfocaaDoorMA2
import Derived.ChangeOld
set_option linter.unusedSimpArgs false
set_option linter.unusedVariables false
namespace Go.Proofs.YtdeohkgdmbfocaaDoor
open Go.ChangeShapes Go.WideShapes Go.ChangeAt Go.RowKit
set_option linter.unusedVariables false
set_option maxRecDepth 20000

section
variable {H : Type} {enc : TypeId × Value → H} {w : World} {base : Nat} {spare : Nat → Bool} {held : Bool}
theorem open_key {fuel : Nat} {cs : List Value} {x : DataW H × List MemPlace} (h : DataW.trod enc Tryd.prog w base spare held fuel 24 cs = some x) : ∃ K, Ky K ∧ cs = u8s K := by
  obtain ⟨xs, m, _, _, hl, hn, he⟩ := DataW.trod_array Tryd.underlying24 h
  rw [show Tryd.prog.cellsOf 24 = 32 by kernel_rfl] at hl
  have hc : Tryd.prog.cellsOf 5 = 1 := by kernel_rfl
  have each : ∀ i : Nat, ∃ v : Int, i < 32 → cs[i]? = some (.int .u8 v) ∧ 0 ≤ v ∧ v < 256 := by
    intro i
    by_cases hi : i < 32
    · have h1 := he i hi
      rw [hc, Nat.mul_one, List.getElem?_eq_getElem (by omega : i < xs.length)] at h1
      obtain ⟨v, hv, _, hw⟩ := DataW.trod_int Tryd.underlying5 h1
      have b := bounds_u8 hw
      refine ⟨v, fun _ => ⟨?_, b.1, by omega⟩⟩
      have h2 := congrArg (fun l => l[0]?) hv
      simpa [List.getElem?_take, List.getElem?_drop] using h2
    · exact ⟨0, fun h => absurd h hi⟩
  obtain ⟨F, hF⟩ := Classical.axiomOfChoice each
  refine ⟨(List.range 32).map F, ⟨by simp, fun v hv => ?_⟩, ?_⟩
  · simp only [List.mem_map, List.mem_range] at hv
    obtain ⟨i, hi, rfl⟩ := hv
    exact (hF i hi).2
  · apply List.ext_getElem?
    intro i
    by_cases hi : i < 32
    · rw [(hF i hi).1]
      simp [u8s, hi]
    · rw [List.getElem?_eq_none (by omega), List.getElem?_eq_none (by simp [u8s]; omega)]
theorem open_pre {fuel : Nat} {cs : List Value} {x : DataW H × List MemPlace} (h : DataW.trod enc Tryd.prog w base spare held fuel 54 cs = some x) : ∃ l B, Ky B ∧ cs = .int .i64 l :: u8s B := by
  obtain ⟨xs, n, _, _, hl, hn, he⟩ := DataW.trod_struct Tryd.underlying54 h
  rw [show Tryd.prog.cellsOf 54 = 33 by kernel_rfl] at hl
  match xs, hn with
  | [y0, y1], _ =>
    have e0 : DataW.trod enc Tryd.prog w base spare held n 3 ((cs.drop 0).take (Tryd.prog.cellsOf 3)) = some y0 := he 0 _ rfl
    have e1 : DataW.trod enc Tryd.prog w base spare held n 24 ((cs.drop 1).take (Tryd.prog.cellsOf 24)) = some y1 := he 1 _ rfl
    rw [show Tryd.prog.cellsOf 3 = 1 by kernel_rfl] at e0
    rw [show Tryd.prog.cellsOf 24 = 32 by kernel_rfl, List.take_of_length_le (by rw [List.length_drop]; omega)] at e1
    obtain ⟨l, hc, _, _⟩ := DataW.trod_int Tryd.underlying3 e0
    obtain ⟨B, hB, hb⟩ := open_key e1
    refine ⟨l, B, hB, ?_⟩
    match cs, hl with
    | c :: r, _ =>
      simp at hc hb
      rw [hc, hb]
theorem agg_of {r : Reach} {b0 : Nat} {t : TypeId} {v : Value} {d : TypeDesc} (hu : Tryd.prog.underlying t = some d) (hd : d.isRow = true) (h : Value.okWide Tryd.prog w r b0 t v) : ∃ cs, v = .agg cs := by
  unfold Value.okWide at h
  rw [hu] at h
  cases d <;> simp at hd
  all_goals
    obtain ⟨cs, h, _⟩ := h
    exact ⟨cs, h⟩
end
theorem kc_of {cs : Array Value} {K : List Int} (h : cs.toList = u8s K) : cs = kc K := by
  unfold kc
  rw [← h]
theorem pc_of {cs : Array Value} {l : Int} {B : List Int} (h : cs.toList = .int .i64 l :: u8s B) : cs = pc l B := by
  unfold pc
  rw [← h]
end Go.Proofs.YtdeohkgdmbfocaaDoor
