/-
  What is proved here: what the arguments of the statements on keys for one signature hold when they are read: a hash, an id, a key.
-/
import Derived.Test.YteiflhgmgdibgaaLmC3
import Derived.ChangeOld
namespace Go.Proofs.Yteiflhgmgdibgaa
open Go.ChangeShapes Go.WideShapes Go.ChangeAt Go.RowKit
set_option linter.unusedVariables false
set_option maxRecDepth 20000

section
variable {H : Type} {enc : TypeId × Value → H} {w : World} {base : Nat} {spare : Nat → Bool} {held : Bool}
theorem open_arr {T m : Nat} {fuel : Nat} {cs : List Value} {x : DataW H × List MemPlace} (hu : Try.prog.underlying T = some (.array m 5)) (hct : Try.prog.cellsOf T = m) (h : DataW.trod enc Try.prog w base spare held fuel T cs = some x) : ∃ K : List Int, K.length = m ∧ Bs K ∧ cs = u8s K := by
  obtain ⟨xs, n, _, _, hl, hn, he⟩ := DataW.trod_array hu h
  rw [hct] at hl
  have hc : Try.prog.cellsOf 5 = 1 := by kernel_rfl
  have each : ∀ i : Nat, ∃ v : Int, i < m → cs[i]? = some (.int .u8 v) ∧ 0 ≤ v ∧ v < 256 := by
    intro i
    by_cases hi : i < m
    · have h1 := he i hi
      rw [hc, Nat.mul_one, List.getElem?_eq_getElem (by omega : i < xs.length)] at h1
      obtain ⟨v, hv, _, hw⟩ := DataW.trod_int Try.underlying5 h1
      have b := bounds_u8 hw
      refine ⟨v, fun _ => ⟨?_, b.1, by omega⟩⟩
      have h2 := congrArg (fun l => l[0]?) hv
      simpa [List.getElem?_take, List.getElem?_drop] using h2
    · exact ⟨0, fun h => absurd h hi⟩
  obtain ⟨F, hF⟩ := Classical.axiomOfChoice each
  refine ⟨(List.range m).map F, by simp, fun v hv => ?_, ?_⟩
  · simp only [List.mem_map, List.mem_range] at hv
    obtain ⟨i, hi, rfl⟩ := hv
    exact (hF i hi).2
  · apply List.ext_getElem?
    intro i
    by_cases hi : i < m
    · rw [(hF i hi).1]
      simp [u8s, hi]
    · rw [List.getElem?_eq_none (by omega), List.getElem?_eq_none (by simp [u8s]; omega)]
theorem open_hash {fuel : Nat} {cs : List Value} {x : DataW H × List MemPlace} (h : DataW.trod enc Try.prog w base spare held fuel 23 cs = some x) : ∃ K, Ky K ∧ cs = u8s K := by
  obtain ⟨K, h1, h2, h3⟩ := open_arr Try.underlying23 (by kernel_rfl) h
  exact ⟨K, ⟨h1, h2⟩, h3⟩
theorem agg_of {r : Reach} {b0 : Nat} {t : TypeId} {v : Value} {d : TypeDesc} (hu : Try.prog.underlying t = some d) (hd : d.isRow = true) (h : Value.okWide Try.prog w r b0 t v) : ∃ cs, v = .agg cs := by
  unfold Value.okWide at h
  rw [hu] at h
  cases d <;> simp at hd
  all_goals
    obtain ⟨cs, h, _⟩ := h
    exact ⟨cs, h⟩
end
theorem arr_of {cs : Array Value} {K : List Int} (h : cs.toList = u8s K) : cs = (u8s K).toArray := by rw [← h]
end Go.Proofs.Yteiflhgmgdibgaa
