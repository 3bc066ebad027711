/-
  What is proved here: the beginning of a key, as the code cuts it.
-/
import Derived.Test.YtdaobhclcpgjbaaPCutR
import Derived.Deep.DeepCutAuto
import Derived.Deep.RegionLaw
namespace Go.Proofs.Ytdaobhclcpgjbaa
open Go.ChangeShapes Go.WideShapes Go.ChangeAt Go.RowKit
set_option linter.unusedVariables false

theorem built_pre : ∀ N : Int, Try.prog.built 30 [(0, .int .i64 N)] = some (pc N zk) := by
  intro N
  kernel_rfl
theorem built_lit : ∀ (N b0 b1 b2 b3 b4 b5 b6 b7 b8 b9 b10 b11 b12 b13 b14 b15 b16 b17 b18 b19 b20 b21 b22 b23 b24 b25 b26 b27 b28 b29 b30 b31 : Int), Try.prog.built 30 [(0, .int .i64 N), (1, .agg (kc [b0, b1, b2, b3, b4, b5, b6, b7, b8, b9, b10, b11, b12, b13, b14, b15, b16, b17, b18, b19, b20, b21, b22, b23, b24, b25, b26, b27, b28, b29, b30, b31]))] = some (pc N [b0, b1, b2, b3, b4, b5, b6, b7, b8, b9, b10, b11, b12, b13, b14, b15, b16, b17, b18, b19, b20, b21, b22, b23, b24, b25, b26, b27, b28, b29, b30, b31]) := by
  intro N b0 b1 b2 b3 b4 b5 b6 b7 b8 b9 b10 b11 b12 b13 b14 b15 b16 b17 b18 b19 b20 b21 b22 b23 b24 b25 b26 b27 b28 b29 b30 b31
  kernel_rfl
theorem len_32 (B : List Int) (h : B.length = 32) : ∃ b0 b1 b2 b3 b4 b5 b6 b7 b8 b9 b10 b11 b12 b13 b14 b15 b16 b17 b18 b19 b20 b21 b22 b23 b24 b25 b26 b27 b28 b29 b30 b31 : Int, B = [b0, b1, b2, b3, b4, b5, b6, b7, b8, b9, b10, b11, b12, b13, b14, b15, b16, b17, b18, b19, b20, b21, b22, b23, b24, b25, b26, b27, b28, b29, b30, b31] := by
  match B, h with
  | [b0, b1, b2, b3, b4, b5, b6, b7, b8, b9, b10, b11, b12, b13, b14, b15, b16, b17, b18, b19, b20, b21, b22, b23, b24, b25, b26, b27, b28, b29, b30, b31], _ => exact ⟨b0, b1, b2, b3, b4, b5, b6, b7, b8, b9, b10, b11, b12, b13, b14, b15, b16, b17, b18, b19, b20, b21, b22, b23, b24, b25, b26, b27, b28, b29, b30, b31, rfl⟩
theorem built_all (N : Int) (B : List Int) (hB : Ky B) : Try.prog.built 30 [(0, .int .i64 N), (1, .agg (kc B))] = some (pc N B) := by
  obtain ⟨b0, b1, b2, b3, b4, b5, b6, b7, b8, b9, b10, b11, b12, b13, b14, b15, b16, b17, b18, b19, b20, b21, b22, b23, b24, b25, b26, b27, b28, b29, b30, b31, rfl⟩ := len_32 B hB.len
  exact built_lit N b0 b1 b2 b3 b4 b5 b6 b7 b8 b9 b10 b11 b12 b13 b14 b15 b16 b17 b18 b19 b20 b21 b22 b23 b24 b25 b26 b27 b28 b29 b30 b31
theorem build_1 {ops : Array Oper} {rest : List Oper} {o : Oper} {a : Act} {w : World} {Q : Exit → Act → World → Prop} (hg : o.guard = none) (x : Operand) (ho : o.op = .build 30 #[(0, x)]) (N : Int) (hx : a.eval x = .int .i64 N)
    (h : wpList Try.prog ops Q rest (a.put o.dst (.agg (pc N zk))) w) : wpList Try.prog ops Q (o :: rest) a w := by
  have e : (Array.map (fun (i, x) => (i, a.eval x)) #[((0 : Nat), x)]).toList = [(0, .int .i64 N)] := by simp [hx]
  refine wpList_build hg 30 #[(0, x)] ho (by rw [e, built_pre]; rfl) ?_
  rw [e, built_pre]
  exact h
theorem build_2 {ops : Array Oper} {rest : List Oper} {o : Oper} {a : Act} {w : World} {Q : Exit → Act → World → Prop} (hg : o.guard = none) (x y : Operand) (ho : o.op = .build 30 #[(0, x), (1, y)]) (N : Int) (hx : a.eval x = .int .i64 N) (B : List Int) (hy : a.eval y = .agg (kc B)) (hB : Ky B)
    (h : wpList Try.prog ops Q rest (a.put o.dst (.agg (pc N B))) w) : wpList Try.prog ops Q (o :: rest) a w := by
  have e : (Array.map (fun (i, x) => (i, a.eval x)) #[((0 : Nat), x), (1, y)]).toList = [(0, .int .i64 N), (1, .agg (kc B))] := by simp [hx, hy]
  refine wpList_build hg 30 #[(0, x), (1, y)] ho (by rw [e, built_all N B hB]; rfl) ?_
  rw [e, built_all N B hB]
  exact h
/-- the first bytes of a key, noughts behind them -/
def cp (K : List Int) (m : Nat) : List Int := K.take m ++ zk.drop m
theorem cp_ky {K : List Int} (h : Ky K) (m : Nat) (hm : m ≤ 32) : Ky (cp K m) := ⟨by
  unfold cp
  rw [List.length_append, List.length_take, List.length_drop, h.len, zk_ky.len]; omega, fun v hv => by
  unfold cp at hv
  rcases List.mem_append.1 hv with h1 | h1
  · exact h.bs v (List.mem_of_mem_take h1)
  · exact zk_ky.bs v (List.mem_of_mem_drop h1)⟩
theorem zk_at (j : Nat) : zk[j]?.getD 0 = 0 := by
  unfold zk
  rw [List.getElem?_replicate]
  split <;> rfl
theorem cp_at {K : List Int} (h : Ky K) (m : Nat) (hm : m ≤ 32) (j : Nat) : (cp K m)[j]?.getD 0 = if j < m then K[j]?.getD 0 else 0 := by
  unfold cp
  have hl : (K.take m).length = m := by rw [List.length_take, h.len]; omega
  by_cases hj : j < m
  · rw [if_pos hj, List.getElem?_append_left (by omega), List.getElem?_take, if_pos hj]
  · rw [if_neg hj, List.getElem?_append_right (by omega), hl, List.getElem?_drop]
    exact zk_at _
theorem bt_0 (t : Nat) : bt 0 t = 0 := by unfold bt; simp
theorem cp_cut {K : List Int} (h : Ky K) (m : Nat) (hm : m ≤ 32) : cp K m = cut K (8 * m) :=
  eq_ofBits (cp_ky h m hm) (cutF01 K _) (fun i hi => by
    unfold cutF
    show bt ((cp K m)[i / 8]?.getD 0) (i % 8) = _
    rw [cp_at h m hm]
    by_cases e : i / 8 < m
    · rw [if_pos e, if_pos (by omega)]; rfl
    · rw [if_neg e, if_neg (by omega), bt_0])
theorem mask_f : ∀ r : Fin 8, ∀ b : Fin 256, 0 < r.val → 0 ≤ bits .andNot .u8 (b.val : Int) (255 / 2 ^ r.val) ∧ bits .andNot .u8 (b.val : Int) (255 / 2 ^ r.val) < 256 ∧ ∀ t : Fin 8, bt (bits .andNot .u8 (b.val : Int) (255 / 2 ^ r.val)) t.val = if t.val < r.val then bt (b.val : Int) t.val else 0 := by decide +kernel
theorem mask (b : Int) (hb : 0 ≤ b ∧ b < 256) (r : Nat) (h0 : 0 < r) (h8 : r < 8) : 0 ≤ bits .andNot .u8 b (255 / 2 ^ r) ∧ bits .andNot .u8 b (255 / 2 ^ r) < 256 ∧ ∀ t, t < 8 → bt (bits .andNot .u8 b (255 / 2 ^ r)) t = if t < r then bt b t else 0 := by
  obtain ⟨n, rfl⟩ : ∃ n : Nat, b = n := ⟨b.toNat, by omega⟩
  obtain ⟨h1, h2, h3⟩ := mask_f ⟨r, h8⟩ ⟨n, by omega⟩ h0
  exact ⟨h1, h2, fun t ht => h3 ⟨t, ht⟩⟩
theorem mask_cut {K : List Int} (h : Ky K) (m r : Nat) (hm : m < 32) (h0 : 0 < r) (h8 : r < 8) : (cp K m).set m (bits .andNot .u8 (K[m]?.getD 0) (255 / 2 ^ r)) = cut K (8 * m + r) := by
  obtain ⟨h1, h2, h3⟩ := mask _ (h.bs.at m) r h0 h8
  refine eq_ofBits (ky_set (cp_ky h m (by omega)) _ _ h1 h2) (cutF01 K _) (fun i hi => ?_)
  unfold cutF
  rw [bit_set (cp_ky h m (by omega)) m hm]
  by_cases e : i / 8 = m
  · rw [if_pos e, h3 _ (by omega)]
    by_cases e2 : i % 8 < r
    · rw [if_pos e2, if_pos (by omega)]
      unfold bit
      rw [e]
    · rw [if_neg e2, if_neg (by omega)]
  · rw [if_neg e]
    show bt ((cp K m)[i / 8]?.getD 0) (i % 8) = _
    rw [cp_at h m (by omega)]
    by_cases e2 : i / 8 < m
    · rw [if_pos e2, if_pos (by omega)]; rfl
    · rw [if_neg e2, if_neg (by omega), bt_0]
theorem splice_pre (N : Int) {K : List Int} (h : Ky K) (m : Nat) (hm : m ≤ 32) : (splice (.int .i64 N :: u8s zk) 1 (u8s (K.take m))).toArray = pc N (cp K m) := by
  unfold splice pc cp
  have e : 1 + (u8s (K.take m)).length = m + 1 := by rw [u8s_length, List.length_take, h.len]; omega
  rw [e]
  simp [u8s]
end Go.Proofs.Ytdaobhclcpgjbaa
