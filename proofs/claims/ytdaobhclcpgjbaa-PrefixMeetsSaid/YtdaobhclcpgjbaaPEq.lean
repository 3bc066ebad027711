/-
  What is proved here: two keys are the same just if their bytes are; two beginnings just if their lengths and bytes are.
-/
import Derived.Test.YtdaobhclcpgjbaaPQuiet
namespace Go.Proofs.Ytdaobhclcpgjbaa
open Go.ChangeShapes Go.WideShapes Go.ChangeAt Go.RowKit
set_option linter.unusedVariables false

theorem to_u8 (l : List Int) (h : Bs l) : u8s l = (l.map fun v => UInt8.ofNat v.toNat).map Go.Extern.Stop.cell := by
  unfold u8s
  rw [List.map_map]
  apply List.map_congr_left
  intro v hv
  obtain ⟨h0, h1⟩ := h v hv
  show Value.int .u8 v = .int .u8 ((UInt8.ofNat v.toNat).toNat : Int)
  congr 1
  rw [UInt8.toNat_ofNat']
  omega
theorem u8_inj (a b : List Int) (ha : Bs a) (hb : Bs b) (h : (a.map fun v => UInt8.ofNat v.toNat) = b.map fun v => UInt8.ofNat v.toNat) : a = b := by
  have h2 : u8s a = u8s b := by rw [to_u8 a ha, to_u8 b hb, h]
  unfold u8s at h2
  have : Function.Injective (Value.int .u8) := fun x y e => by injection e
  exact (List.map_inj_right (fun x y e => this e)).1 h2
theorem equal_key (d : Nat) (a b : List Int) (ha : Ky a) (hb : Ky b) (w : World) : (Op.equalIn (d + 2) 23 (.agg (kc a)) (.agg (kc b))).run Try.prog w = .ok (decide (a = b)) w := by
  have h := run_equalIn_bytes (P := Try.prog) w d 23 5 32 Try.underlying23 Try.underlying5 (fun w => by kernel_rfl) (a.map fun v => UInt8.ofNat v.toNat) (b.map fun v => UInt8.ofNat v.toNat) (by simp [ha.len]) (by simp [hb.len])
  rw [← to_u8 a ha.bs, ← to_u8 b hb.bs] at h
  show (Op.equalIn (d + 2) 23 (.agg (u8s a).toArray) (.agg (u8s b).toArray)).run Try.prog w = _
  rw [h]
  congr 1
  rw [Bool.eq_iff_iff, beq_iff_eq, decide_eq_true_iff]
  exact ⟨fun e => u8_inj a b ha.bs hb.bs e, fun e => by rw [e]⟩
theorem eql_key (a b : List Int) (ha : Ky a) (hb : Ky b) (w : World) : (binOp .eql 23 (.agg (kc a)) (.agg (kc b))).run Try.prog w = .ok (.bool (decide (a = b))) w := by
  rw [run_eql_struct, equal_key 9998 a b ha hb w]
  rfl
theorem pc_extract (l : Int) (B : List Int) (h : Ky B) : (pc l B).extract 1 33 = kc B := by
  apply Array.ext_getElem?
  intro i
  rw [Array.getElem?_extract]
  by_cases hi : i < 32
  · rw [if_pos (by rw [pc_size l h]; omega), Nat.add_comm 1 i, pc_at l h i hi, kc_at h i hi]
  · rw [if_neg (by rw [pc_size l h]; omega), Array.getElem?_eq_none (by rw [kc_size h]; omega)]
theorem part_len (l : Int) (B : List Int) (w : World) : (part 3 (pc l B) 0).run Try.prog w = .ok (.int .i64 l) w := by
  have h : (isAgg 3).run Try.prog w = .ok false w := by kernel_rfl
  unfold part
  simp [Sem.run_bind, h, Result.andThen_ok, pc_0]
theorem part_bits (l : Int) (B : List Int) (hB : Ky B) (w : World) : (part 23 (pc l B) 1).run Try.prog w = .ok (.agg (kc B)) w := by
  have h : (isAgg 23).run Try.prog w = .ok true w := by kernel_rfl
  unfold part
  simp [Sem.run_bind, h, Result.andThen_ok, pc_extract l B hB]
theorem eql_pre (l m : Int) (B C : List Int) (hB : Ky B) (hC : Ky C) (w : World) : (binOp .eql 30 (.agg (pc l B)) (.agg (pc m C))).run Try.prog w = .ok (.bool (decide (l = m ∧ B = C))) w := by
  have hf : ∃ f0 f1 : Field, (Try.prog.fieldsOf 30).toList = [f0, f1] ∧ f0.name ≠ "_" ∧ f1.name ≠ "_" ∧ f0.type = 3 ∧ f1.type = 23 ∧ f0.offset = 0 ∧ f1.offset = 1 := by
    refine ⟨_, _, by (have := Try.underlying30; unfold Program.fieldsOf; rw [this]), by decide, by decide, rfl, rfl, rfl, rfl⟩
  obtain ⟨f0, f1, e1, n0, n1, t0, t1, o0, o1⟩ := hf
  rw [run_eql_struct, run_equalIn_struct w 9999 30 _ _ (by kernel_rfl) (by kernel_rfl), e1]
  simp only [Op.eqFields, t0, t1, o0, o1]
  rw [if_pos n0, if_pos n1]
  simp only [Sem.run_bind, part_len, part_bits l B hB, part_bits m C hC, Result.andThen_ok, run_equalIn_int w 9998 3 .i64 .i64 l m Try.underlying3, equal_key 9997 B C hB hC, Sem.run_ite, Sem.run_pure]
  by_cases h1 : l = m
  · subst h1
    by_cases h2 : B = C
    · subst h2; simp
    · simp [h2]
  · simp [h1]
end Go.Proofs.Ytdaobhclcpgjbaa
