/-
  What is proved here: all keys have the public key that the chapter says: the walk of the statement.
-/
import Derived.Test.YteiflhgmgdibgaaDoorMLmL
set_option linter.unusedSimpArgs false
set_option linter.unusedVariables false
namespace Go.Proofs.YteiflhgmgdibgaaDoor
open Go.ChangeShapes Go.WideShapes Go.ChangeAt Go.RowKit
set_option linter.unusedVariables false
set_option maxRecDepth 20000

set_option maxHeartbeats 4000000 in
theorem public_walk (k : Int) (id : List Int) (q : Int) (sd : List Int) (hid0 : id.length = 16 ∧ Bs id) (hq : 0 ≤ q ∧ q < 4294967296) (hs : Ky sd) (w : World) (ht : Tab w) :
    Calls Tryd.prog 3 #[.agg (lkeyC k id q sd)] w fun e w' => e = .returned (.bool true) ∧ Below w.heap.size w w' := by
  have hi : Idn id := ⟨hid0.1, hid0.2⟩
  obtain ⟨Z, HZ, hZ0, hZs⟩ := zero_Hash
  have hz32 : Z.size = 32 := by rw [HZ.out, List.size_toArray, u8s_length]; simp
  obtain ⟨K, n, hA, _⟩ := pub_ans k id q sd w hi hq hs ht
  have HC := hid hA.code; have HR := hid hA.ref
  have HI := hid (info_hash K hA.ky.len)
  have HIL := hid (hash_info hA.ky.len)
  have HZ32 : Hid (Z.size = (u8s K).toArray.size) := hz32.trans (hash_size hA.ky.len).symm
  have heq : ∀ w : World, (binOp .eql 26 (.agg (u8s K).toArray) (.agg (u8s K).toArray)).run Tryd.prog w = .ok (.bool true) w := fun w => by
    have h := eql_hash K K hA.ky.bs hA.ky.bs hA.ky.len hA.ky.len w
    rw [decide_eq_true rfl] at h
    exact h
  have HEQ := hid heq
  have IDI := hid (id_info hi); have SDI := hid (hash_info hs.len)
  have HII := hid hi
  have B0 : Hid (Below w.heap.size w (w.alloc (.cells (lkeyC k id q sd) 28))) := (Below.refl _ _).alloc (Nat.le_refl _) _
  have L0 := hid (Blk.new w 28 (lkeyC k id q sd))
  have c0 := lkey_0 L0.out; have c17 := lkey_17 L0.out hi
  clear hA hz32 heq hi hid0 hq hs ht
  go_enter Tryd.func3, Tryd.ntmps3
  go_wp2_with (first
    | (refine load_at rfl 23 (.tmp 10) rfl w.heap.size 1 rfl (u8s id) _ (lkey_id L0.out HII.out) Tryd.underlying23 rfl IDI.out (u8s id).toArray rfl ?_)
    | (refine load_at rfl 26 (.tmp 14) rfl w.heap.size 18 rfl (u8s sd) _ (lkey_sd L0.out HII.out) Tryd.underlying26 rfl SDI.out (u8s sd).toArray rfl ?_)
    | (go_at_call 8; refine (HC.out _ B0.out).mono ?_; rintro e w2 ⟨rfl, hb2⟩; have L2 := hid (L0.out.below hb2); have B2 := hid (B0.out.trans (hb2.mono B0.out.size)); clear hb2)
    | (refine wpList_store_row rfl 26 (.tmp 3) (.tmp 17) rfl w2.heap.size (u8s K).toArray rfl rfl 26 Z (Blk.new w2 26 Z) HI.out HZ32.out (u8s_all K) ?_; have A3 : Hid (Blk ((w2.alloc (.cells Z 26)).setRow w2.heap.size (u8s K).toArray) w2.heap.size 26 (u8s K).toArray) := (Blk.new w2 26 Z).row _; have L3 : Hid (Blk ((w2.alloc (.cells Z 26)).setRow w2.heap.size (u8s K).toArray) w.heap.size 28 (lkeyC k id q sd)) := (L2.out.alloc _).rowFar (Nat.ne_of_lt L2.out.lt) _; have B3 : Hid (Below w.heap.size w ((w2.alloc (.cells Z 26)).setRow w2.heap.size (u8s K).toArray)) := below_setRow (B2.out.alloc B2.out.size _) B2.out.size _; generalize (w2.alloc (.cells Z 26)).setRow w2.heap.size (u8s K).toArray = w3 at A3 L3 B3 ⊢; have d0 := lkey_0 L3.out; have d17 := lkey_17 L3.out HII.out)
    | (refine load_at rfl 23 (.tmp 22) rfl w.heap.size 1 rfl (u8s id) _ (lkey_id L3.out HII.out) Tryd.underlying23 rfl IDI.out (u8s id).toArray rfl ?_)
    | (refine load_at rfl 26 (.tmp 26) rfl w.heap.size 18 rfl (u8s sd) _ (lkey_sd L3.out HII.out) Tryd.underlying26 rfl SDI.out (u8s sd).toArray rfl ?_)
    | (go_at_call 9; refine (HR.out _).mono ?_; rintro e w4 ⟨rfl, hb4⟩; have A4 := hid (A3.out.below hb4); have B4 := hid (B3.out.trans (hb4.mono B3.out.size)); clear hb4)
    | (refine wpList_store_row rfl 26 (.tmp 5) (.tmp 29) rfl w4.heap.size (u8s K).toArray rfl rfl 26 Z (Blk.new w4 26 Z) HI.out HZ32.out (u8s_all K) ?_; have A5 : Hid (Blk ((w4.alloc (.cells Z 26)).setRow w4.heap.size (u8s K).toArray) w4.heap.size 26 (u8s K).toArray) := (Blk.new w4 26 Z).row _; have M5 : Hid (Blk ((w4.alloc (.cells Z 26)).setRow w4.heap.size (u8s K).toArray) w2.heap.size 26 (u8s K).toArray) := (A4.out.alloc _).rowFar (Nat.ne_of_lt A4.out.lt) _; have B5 : Hid (Below w.heap.size w ((w4.alloc (.cells Z 26)).setRow w4.heap.size (u8s K).toArray)) := below_setRow (B4.out.alloc B4.out.size _) B4.out.size _; generalize (w4.alloc (.cells Z 26)).setRow w4.heap.size (u8s K).toArray = w5 at A5 M5 B5 ⊢)
    | (go_at_call 10; refine (kawake_any _).mono ?_; rintro e w6 ⟨rfl, hb6⟩; have A6 := hid (A5.out.below hb6); have M6 := hid (M5.out.below hb6); have B6 := hid (B5.out.trans (hb6.mono B5.out.size)); have heq := HEQ.out; clear hb6)
    | (refine load_at rfl 26 (.tmp 3) rfl w2.heap.size 0 rfl (u8s K) _ (blk_row M6.out) Tryd.underlying26 rfl HIL.out (u8s K).toArray rfl ?_)
    | (refine load_at rfl 26 (.tmp 5) rfl w4.heap.size 0 rfl (u8s K) _ (blk_row A6.out) Tryd.underlying26 rfl HIL.out (u8s K).toArray rfl ?_))
  go_ret
  exact ⟨rfl, B6.out⟩
end Go.Proofs.YteiflhgmgdibgaaDoor
