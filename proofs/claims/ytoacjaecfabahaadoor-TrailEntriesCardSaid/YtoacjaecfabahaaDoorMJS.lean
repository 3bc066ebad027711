/-
  What is proved here: what is said of a trail, in memory; whether a trail is of a size that is looked at.
-/
import Derived.Test.YtoacjaecfabahaaDoorMJU
set_option linter.unusedSimpArgs false
set_option linter.unusedVariables false
namespace Go.Proofs.YtoacjaecfabahaaDoor
open Go.ChangeShapes Go.WideShapes Go.ChangeAt Go.RowKit
set_option linter.unusedVariables false
set_option linter.unusedSimpArgs false
set_option maxRecDepth 20000

/-- the cells of what is said -/
abbrev sdc (M N : Int) (h r : List Int) : Array Value := (Value.int .i64 M :: Value.int .i64 N :: (u8s h ++ u8s r)).toArray
theorem said_h {w : World} {g : Nat} {t : TypeId} {M N : Int} {h r : List Int} (k : Blk w g t (sdc M N h r)) : w.rangeAt g 2 (u8s h) := fun j v hv => by
  have hj : j < (u8s h).length := by
    rcases Nat.lt_or_ge j (u8s h).length with h1 | h1
    · exact h1
    · rw [List.getElem?_eq_none h1] at hv; cases hv
  rw [k.cell, List.getElem?_toArray, show 2 + j = j + 1 + 1 by omega, List.getElem?_cons_succ, List.getElem?_cons_succ, List.getElem?_append_left hj]
  exact hv
theorem said_r' {w : World} {g : Nat} {t : TypeId} {M N : Int} {h r : List Int} (k : Blk w g t (sdc M N h r)) (hh : h.length = 32) : w.rangeAt g 34 (u8s r) := fun j v hv => by
  rw [k.cell, List.getElem?_toArray, show 34 + j = 32 + j + 1 + 1 by omega, List.getElem?_cons_succ, List.getElem?_cons_succ, List.getElem?_append_right (by rw [u8s_length]; omega), u8s_length, hh, Nat.add_sub_cancel_left]
  exact hv
set_option maxHeartbeats 4000000 in
theorem jfew_any (A : Option Addr) (n c : Nat) (B : Option Addr) (m d : Nat) (w : World) : Calls Tryd.prog 31 #[.agg (tlc A n c B m d)] w fun e w' => e = .returned (.bool (decide (n ≤ 70) && decide (m ≤ 70))) ∧ Below w.heap.size w w' := by
  have k1 := Blk.new w 51 (tlc A n c B m d)
  have B1 := hid ((Below.refl w.heap.size w).alloc (Nat.le_refl _) (.cells (tlc A n c B m d) 51))
  have a0 := k1.cell 0; have a1 := k1.cell 1
  have e0 : (tlc A n c B m d)[0]? = some (.slice A n c) := rfl
  have e1 : (tlc A n c B m d)[1]? = some (.slice B m d) := rfl
  rw [e0] at a0; rw [e1] at a1
  clear k1 e0 e1
  by_cases h1 : n ≤ 70
  · have h1' : (n : Int) ≤ 70 := by omega
    rw [decide_eq_true h1, Bool.true_and]
    clear h1
    by_cases h2 : m ≤ 70
    · have h2' : (m : Int) ≤ 70 := by omega
      rw [decide_eq_true h2]
      clear h2
      go_enter Tryd.func31, Tryd.ntmps31
      go_wp2
      go_ret
      exact ⟨rfl, B1.out⟩
    · have h2' : ¬ (m : Int) ≤ 70 := by omega
      rw [decide_eq_false h2]
      clear h2
      go_enter Tryd.func31, Tryd.ntmps31
      go_wp2
      go_ret
      exact ⟨rfl, B1.out⟩
  · have h1' : ¬ (n : Int) ≤ 70 := by omega
    rw [decide_eq_false h1, Bool.false_and]
    clear h1
    go_enter Tryd.func31, Tryd.ntmps31
    go_wp2
    go_ret
    exact ⟨rfl, B1.out⟩
end Go.Proofs.YtoacjaecfabahaaDoor
