/-
  What is proved here: the fixed fact that each statement on hashes asks first, and which lists of parts are few.
-/
import Derived.Test.YtpponjmhgfikiaaDoorSum
import Derived.Lib.SlBytesConst
import Derived.Lib.SmallJoins
namespace Go.Proofs.YtpponjmhgfikiaaDoor
open Go.ChangeShapes Go.WideShapes Go.ChangeAt Go.RowKit
set_option linter.unusedVariables false

theorem sum_length (b : List Int) : (sum b).length = 32 := by unfold sum; simp
theorem info_hash (b : List Int) (h : b.length = 32) : (Tryd.prog.info? 25).map (·.size) = some (u8s b).toArray.size := by
  rw [List.size_toArray, u8s_length, h]; kernel_rfl
theorem abc_at (i : Nat) (v : Int) (h : [186, 120, 22, 191][i]? = some v) : (sum [97, 98, 99])[i]? = some v := by
  rw [← sum_abc, List.getElem?_take] at h
  split at h
  · exact h
  · cases h

set_option maxRecDepth 5000 in
set_option maxHeartbeats 1000000 in
theorem hawake_any (w : World) (ht : Tab w) :
    Calls Tryd.prog 8 #[] w fun e w' => e = .returned (.bool true) ∧ Below w.heap.size w w' := by
  obtain ⟨Z, HZ, hZ0, hZs⟩ := zero_Hash
  have HT := hid ht
  obtain ⟨S, hS⟩ : ∃ S, S = sum [97, 98, 99] := ⟨_, rfl⟩
  have HSL : Hid (S.length = 32) := by show _ = _; rw [hS]; exact sum_length _
  have HS0 : Hid (S[0]? = some 186) := by show _ = _; rw [hS]; exact abc_at 0 _ rfl
  have HS1 : Hid (S[1]? = some 120) := by show _ = _; rw [hS]; exact abc_at 1 _ rfl
  have HS2 : Hid (S[2]? = some 22) := by show _ = _; rw [hS]; exact abc_at 2 _ rfl
  have HS3 : Hid (S[3]? = some 191) := by show _ = _; rw [hS]; exact abc_at 3 _ rfl
  have HSUM := hid (fun (w1 : World) (A : Option Addr) (hb : Below w.heap.size w w1) (hr : Rp w1 none A [97, 98, 99]) => Sum_any A 3 [97, 98, 99] w1 hr (fun v hv => by simp at hv; omega) (by decide) (by decide) (ht.below hb))
  rw [← hS] at HSUM
  clear hS ht
  have kc := fun (w : World) (C : Array Value) (n c : Nat) => Lib.run_convert_bytes_const (P := Tryd.prog) w 22 5 C n c Tryd.underlying22 Tryd.underlying5
  have HSUM3 : Hid (∀ (w1 : World) (A : Option Addr), Below w.heap.size w w1 → Rp w1 none A [97, 98, 99] → Calls Tryd.prog 9 #[.slice A 3 3] w1 fun e w' => e = .returned (.agg (u8s S).toArray) ∧ Below w1.heap.size w1 w') := HSUM.out
  have HI32 : Hid ((Tryd.prog.info? 25).map (·.size) = some (u8s S).toArray.size) := info_hash S HSL.out
  have HZ32 : Hid (Z.size = (u8s S).toArray.size) := by
    show _ = _
    rw [HZ.out, List.size_toArray, List.size_toArray, u8s_length, u8s_length, HSL.out]; simp
  clear HSUM
  go_enter Tryd.func8, Tryd.ntmps8
  go_wp2_with fail
  have hw0 : Rp (w.alloc (.cells #[.int .u8 97, .int .u8 98, .int .u8 99] 5 (3, 4))) none (some ⟨w.heap.size, 0, none⟩) [97, 98, 99] := fun _ =>
    ⟨_, rfl, (fun ⟨a, e, _⟩ => by cases e), fun j hj => by
      rw [Addr.add_lit, Nat.zero_add, World.cell?_alloc_mark]
      match j, hj with
      | 0, _ => rfl
      | 1, _ => rfl
      | 2, _ => rfl⟩
  have hb0 : Below w.heap.size w (w.alloc (.cells #[.int .u8 97, .int .u8 98, .int .u8 99] 5 (3, 4))) := (Below.refl _ _).alloc (Nat.le_refl _) _
  refine (HSUM3.out _ _ hb0 hw0).mono ?_
  rintro e w1 ⟨rfl, hb1⟩
  have HB1 := hid (hb0.trans (hb1.mono hb0.size))
  clear hw0 hb0 hb1
  have hk : Blk ((w1.alloc (.cells Z 25)).setRow w1.heap.size (u8s S).toArray) w1.heap.size 25 (u8s S).toArray := (Blk.new w1 25 Z).row _
  have hb2 : Below w.heap.size w ((w1.alloc (.cells Z 25)).setRow w1.heap.size (u8s S).toArray) := below_setRow (HB1.out.alloc HB1.out.size _) HB1.out.size _
  have HB2 := hid hb2
  have HC : Hid (∀ i v, S[i]? = some v → ((w1.alloc (.cells Z 25)).setRow w1.heap.size (u8s S).toArray).cell? ⟨w1.heap.size, i, none⟩ = some (.int .u8 v)) := fun i v hv => by
    have hl := HSL.out
    have hi : i < S.length := by
      rcases Nat.lt_or_ge i S.length with h | h
      · exact h
      · rw [List.getElem?_eq_none h] at hv; cases hv
    rw [hk.cell, u8s_at S i hi, hv]; rfl
  clear hb2 hk
  go_wp2_with (refine wpList_store_row rfl 25 (.tmp 1) (.tmp 4) rfl w1.heap.size (u8s S).toArray rfl rfl 25 Z (Blk.new w1 25 Z) HI32.out HZ32.out (u8s_all S) ?_; have c0 := HC.out 0 _ HS0.out; have c1 := HC.out 1 _ HS1.out; have c2 := HC.out 2 _ HS2.out; have c3 := HC.out 3 _ HS3.out)
  go_ret
  exact ⟨rfl, HB2.out⟩
end Go.Proofs.YtpponjmhgfikiaaDoor
