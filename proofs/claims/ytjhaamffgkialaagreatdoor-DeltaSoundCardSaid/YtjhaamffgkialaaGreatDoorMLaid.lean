/-
  What is proved here: the listed table of constants, as the condition lays it, holds the document's constants; and the heap that the door leaves meets the condition.
-/
import Derived.Test.YtjhaamffgkialaaGreatDoorMA2
import Derived.Test.YtjhaamffgkialaaGreatDoorTie
import Derived.Test.YtjhaamffgkialaaGreatDoorCards
import Derived.LaidMore
import Derived.Stop.Joined
import Derived.SevenTiedAt
import Derived.MakeChecks
namespace Go.Proofs.YtjhaamffgkialaaGreatDoor
open Go.ChangeShapes Go.WideShapes Go.ChangeAt Go.RowKit
set_option linter.unusedVariables false
set_option maxRecDepth 20000

noncomputable def laidL : List (String × DataW Unit) := [("rolodex/hash.rounds", Rows.laid_rolodex_hash_rounds)]
theorem gRounds : Tryz.prog.globalNamed "rolodex/hash.rounds" = some 0 := by kernel_rfl
theorem tRounds : (Tryz.prog.globals[0]?).map (·.type) = some 119 := by kernel_rfl
theorem laid_list : (Rows.laid_rolodex_hash_rounds : DataW Unit) = .agg (K64.map fun x => .lit (.int .u32 (u x))) := by kernel_rfl
theorem door_met (os : Os) (args : Array Value) : laidMetH Tryz.prog laidL ((World.doorLaid Tryz.prog 400 os).forCall (fun _ _ => 0) ⟨#[], args, []⟩).memory :=
  laidMetH_of_parts3 (fuel := 8) (laidMet_of_run' 8 (by kernel_rfl) (by kernel_rfl)) (by kernel_rfl) (by kernel_rfl)
theorem of_laid {W : World} (h : laidMetH Tryz.prog laidL W) : Tab W := by
  rw [MakeChecks.laidMetH_plain _ _ _ (by kernel_rfl)] at h
  obtain ⟨ps, ⟨g0, t0, cs0, f0, p0, q0, hg0, ht0, hv0, hd0, _⟩, _, _⟩ := h
  obtain rfl := Option.some.inj (gRounds.symm.trans hg0)
  obtain rfl := Option.some.inj (tRounds.symm.trans ht0)
  obtain ⟨xs, m1, rfl, hx1, hlen, hn, hel⟩ := DataW.trod_array Tryz.underlying119 hd0
  have c1 : Tryz.prog.cellsOf 91 = 1 := by kernel_rfl
  have c64 : Tryz.prog.cellsOf 119 = 64 := by kernel_rfl
  rw [laid_list] at hx1
  simp only [Prod.mk.injEq, DataW.agg.injEq] at hx1
  intro j hj
  have hcell := World.var?_cell gRounds hv0 j
  have hj1 := hel j hj
  rw [c1, Nat.mul_one] at hj1
  have hcl : cs0.size = 64 := by rw [c64] at hlen; simpa using hlen
  have hd : (cs0.toList.drop j).take 1 = [cs0[j]] := by
    rw [List.drop_eq_getElem_cons (by simpa using (show j < cs0.size by omega))]
    simp
  rw [hd, List.getElem?_eq_getElem (by omega)] at hj1
  obtain ⟨k, e1, e2, _⟩ := DataW.trod_int Tryz.underlying91 hj1
  injection e1 with e1
  have hk : (K64.map fun x => (DataW.lit (.int .u32 (u x)) : DataW Unit))[j]? = (xs.map (·.1))[j]? := by rw [hx1.1]
  have hK : j < K64.length := by show j < 64; exact hj
  rw [List.getElem?_map, List.getElem?_map, List.getElem?_eq_getElem hK, List.getElem?_eq_getElem (by omega)] at hk
  simp only [Option.map_some, Option.some.injEq] at hk
  rw [e2] at hk
  have hku : u K64[j] = k := by
    simpa using hk
  rw [hcell, Array.getElem?_eq_getElem (by omega), e1, ← hku, List.getElem?_eq_getElem hK]
  rfl
end Go.Proofs.YtjhaamffgkialaaGreatDoor
