/-
  What is proved here: what 'spoil' does, and the calls of a writer that put one field.
-/
import Derived.Test.YtjdojnbpchommaaWr
namespace Go.Proofs.Ytjdojnbpchommaa
open Go.ChangeShapes Go.WideShapes Go.ChangeAt Go.RowKit
set_option linter.unusedVariables false
set_option maxRecDepth 20000

theorem zero_writer : ∃ Z : Array Value, Z.size = 259 ∧ (¬ Z = #[]) ∧ Hid (Z[0]? = some (.pointer none)) ∧ Hid (∀ i, i < 256 → Z[1 + i]? = some (.int .u8 0)) ∧ Hid (Z[257]? = some (.int .i64 0)) ∧ Hid (Z[258]? = some (.bool false)) ∧
    Hid (Z.all (·.oneCell') = true) ∧ ∀ w : World, Sem.run Try.prog (zeroValue 78) w = Result.ok (.agg Z) w := by
  refine ⟨(.pointer none :: (List.replicate 256 (.int .u8 0) ++ [.int .i64 0, .bool false])).toArray, ?_, ?_, ?_, ?_, ?_, ?_, ?_, fun w => by kernel_rfl⟩
  · simp only [List.size_toArray, List.length_cons, List.length_append, List.length_replicate, List.length_nil]
  · intro h
    have := congrArg Array.size h
    simp only [List.size_toArray, List.length_cons, List.length_append, List.length_replicate, List.length_nil] at this
    omega
  · show _ = _
    kernel_rfl
  · intro i hi
    rw [List.getElem?_toArray, Nat.add_comm, List.getElem?_cons_succ, List.getElem?_append_left (by rw [List.length_replicate]; exact hi), List.getElem?_replicate, if_pos hi]
  · show _ = _
    kernel_rfl
  · show _ = _
    kernel_rfl
  · show _ = _
    kernel_rfl

theorem spoil_ok (b : Nat) (c : Array Value) (w : World) (hb : Blk w b 78 c) (hc : c.size = 259) :
    Calls Try.prog 51 #[.pointer (some ⟨b, 0, none⟩)] w fun e w' => e = .returned (.tuple #[]) ∧ WSp w' b ∧ Only b w w' := by
  obtain ⟨Z, hz, hz0, z0, z1, z2, z3, z4, hZs⟩ := zero_writer
  go_enter Try.func51, Try.ntmps51
  have hst : (Z.setIfInBounds 258 (.bool true)).size = 259 := by rw [Array.size_setIfInBounds]; exact hz
  have hi : (Try.prog.info? 78).map (·.size) = some (Z.setIfInBounds 258 (.bool true)).size := by rw [hst]; kernel_rfl
  have hold : c.size = (Z.setIfInBounds 258 (.bool true)).size := by rw [hst]; exact hc
  have hall : (Z.setIfInBounds 258 (.bool true)).all (·.oneCell') = true := by
    have z4 := z4.out
    rw [Array.all_eq_true_iff_forall_mem] at z4 ⊢
    intro x hx
    rcases Array.mem_or_eq_of_mem_setIfInBounds hx with h | h
    · exact z4 x h
    · subst h; rfl
  have HI := hid hi; have HO := hid hold; have HA := hid hall; have HS := hid hst
  clear hi hold hall hst
  go_wp2_with (refine wpList_store_row rfl 78 (.tmp 6) (.tmp 5) rfl b (Z.setIfInBounds 258 (.bool true)) rfl rfl 78 c hb HI.out HO.out HA.out ?_)
  go_end0
  refine ⟨rfl, ⟨_, setRow_heap w b c _ 78 (0, 0) hb, HS.out, by rw [Array.getElem?_setIfInBounds, if_pos rfl, if_pos (by omega)]⟩, ?_⟩
  exact ⟨rfl, rfl, rfl, by simp, fun k hk hne => setRow_other w b k _ hne⟩
end Go.Proofs.Ytjdojnbpchommaa
