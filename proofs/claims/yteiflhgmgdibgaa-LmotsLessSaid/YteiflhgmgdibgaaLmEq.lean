/-
  What is proved here: when two hashes are the same.
-/
import Derived.Test.YteiflhgmgdibgaaLmC3
import Derived.Stop.BytesEq
namespace Go.Proofs.Yteiflhgmgdibgaa
open Go.ChangeShapes Go.WideShapes Go.ChangeAt Go.RowKit
set_option linter.unusedVariables false
set_option maxRecDepth 20000

theorem to_u8 (l : List Int) (h : Bs l) : u8s l = (l.map fun v => UInt8.ofNat v.toNat).map Go.Extern.Stop.cell := by
  unfold u8s
  rw [List.map_map]
  apply List.map_congr_left
  intro v hv
  obtain ⟨h0, h1⟩ := h v hv
  show Value.int .u8 v = .int .u8 ((UInt8.ofNat v.toNat).toNat : Int)
  congr 1
  rw [UInt8.toNat_ofNat']
  omega
theorem u8_inj (a b : List Int) (ha : Bs a) (hb : Bs b) (h : (a.map fun v => UInt8.ofNat v.toNat) = b.map fun v => UInt8.ofNat v.toNat) : a = b := by
  have h2 : u8s a = u8s b := by rw [to_u8 a ha, to_u8 b hb, h]
  unfold u8s at h2
  have : Function.Injective (Value.int .u8) := fun x y e => by injection e
  exact (List.map_inj_right (fun x y e => this e)).1 h2
theorem eql_hash (a b : List Int) (ha : Bs a) (hb : Bs b) (la : a.length = 32) (lb : b.length = 32) (w : World) :
    (binOp .eql 23 (.agg (u8s a).toArray) (.agg (u8s b).toArray)).run Try.prog w = .ok (.bool (decide (a = b))) w := by
  have h := run_eql_bytes (P := Try.prog) w 23 5 32 Try.underlying23 Try.underlying5 (fun w => by kernel_rfl) (a.map fun v => UInt8.ofNat v.toNat) (b.map fun v => UInt8.ofNat v.toNat) (by simp [la]) (by simp [lb])
  rw [← to_u8 a ha, ← to_u8 b hb] at h
  rw [h]
  congr 2
  rw [Bool.eq_iff_iff, beq_iff_eq, decide_eq_true_iff]
  exact ⟨fun e => u8_inj a b ha hb e, fun e => by rw [e]⟩
theorem neq_hash (a b : List Int) (ha : Ky a) (hb : Ky b) (w : World) :
    (binOp .neq 23 (.agg (u8s a).toArray) (.agg (u8s b).toArray)).run Try.prog w = .ok (.bool (!decide (a = b))) w := by
  have h := run_equalIn_bytes (P := Try.prog) w 9998 23 5 32 Try.underlying23 Try.underlying5 (fun w => by kernel_rfl) (a.map fun v => UInt8.ofNat v.toNat) (b.map fun v => UInt8.ofNat v.toNat) (by simp [ha.len]) (by simp [hb.len])
  rw [← to_u8 a ha.bs, ← to_u8 b hb.bs] at h
  rw [run_neq_struct, h]
  simp only [Result.andThen]
  congr 3
  rw [Bool.eq_iff_iff, beq_iff_eq, decide_eq_true_iff]
  exact ⟨fun e => u8_inj a b ha.bs hb.bs e, fun e => by rw [e]⟩
end Go.Proofs.Yteiflhgmgdibgaa
