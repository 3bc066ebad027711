/-
  What is proved here: the iterator over writes, from the last one on.
-/
import Derived.Test.YtjdojnbpchommaaDvT0
namespace Go.Proofs.Ytjdojnbpchommaa
open Go.ChangeShapes Go.WideShapes Go.ChangeAt Go.RowKit Go.Shelf
set_option linter.unusedVariables false
set_option maxRecDepth 20000
attribute [local go_sem] Oper.semAt_some
set_option maxRecDepth 100000 in
set_option maxHeartbeats 4000000 in
theorem back_walk {m : Nat} (hm : m < 1000000) (l bs : Nat) (A : Option Addr) (c : Nat) (J Jx : List (Wx m) → World → Prop) (W : World)
    (hJ : AbidesFrom W.heap.size J)
    (hY : ∀ pre x W1, J pre W1 → pre.length < m → YieldAt Fence.wide 0 Try.prog l (encW x) W1 fun e W' =>
      (e = .returned (.bool true) ∧ J (pre ++ [x]) W' ∧ KpT bs A W1 W') ∨ (e = .returned (.bool false) ∧ Jx (pre ++ [x]) W'))
    (hc : ItB bs A m c W) (h0 : J [] W) :
    CallsIn Fence.wide 1 Try.prog 53 #[.func (.yield l) #[] #[], .pointer (some ⟨bs, 0, none⟩)] W fun e W' => (∃ v, e = .returned v) ∧
      ((∃ ys : List (Wx m), ys.map (·.1.val) = downs m m ∧ J ys W') ∨ (∃ pre : List (Wx m), True ∧ Jx pre W')) := by
  have HC := hid hc; have HY := hid hY; have HJ := hid hJ
  have H0 := hid h0
  have hmx : Try.prog.follows .mixedOrders = true := by kernel_rfl
  clear hY hJ h0
  refine callsIn_of_wp Try.func53 rfl trivial ?_ rfl
  simp only [Try.ntmps53, List.size_toArray, List.length_cons, List.length_nil, Nat.reduceAdd, Nat.reduceSub, Array.replicate_succ, Array.replicate_zero, List.push_toArray, List.append_toArray, List.nil_append, List.cons_append]
  have s0 : W.cell? ⟨bs, 0, none⟩ = some (.slice A m c) := hc.kb.cell 0
  have hm2 : (m : Int) < 1000000 := by omega
  have HM := hid hm
  clear hm
  clear hc
  gi_wp2
  clear s0
  gi_loopw [3] (fun i wr => ∃ r : Nat, r ≤ m ∧ i = .int .i64 ((r : Int) - 1) ∧ Hid (ItB bs A m c wr) ∧ ∃ pre : List (Wx m), Hid (pre.map (·.1.val) = downs m (m - r)) ∧ Hid (J pre wr)) (fun i _ => (intOf i + 1).toNat)
  case atStart => exact ⟨m, Nat.le_refl _, rfl, HC.out, [], by show _ = _; simp [downs], H0.out⟩
  case round =>
    obtain ⟨r, hr, rfl, HCR, pre, HP, HJR⟩ := hrel
    cases r with
    | zero =>
      have e0 : ((0 : Nat) : Int) - 1 = -1 := by simp
      rw [e0]
      gi_wp2
      go_end0
      exact ⟨⟨_, rfl⟩, .inl ⟨pre, by have := HP.out; rwa [Nat.sub_zero] at this, HJR.out⟩⟩
    | succ k =>
      have e0 : ((k + 1 : Nat) : Int) - 1 = (k : Int) := by omega
      rw [e0]
      obtain ⟨h, C, rfl, hC, hs⟩ := HCR.out.kh (by omega)
      obtain ⟨cs, hld⟩ := load_write hC k (by omega)
      have s0 : wr.cell? ⟨bs, 0, none⟩ = some (.slice (some ⟨h, 0, none⟩) m c) := HCR.out.kb.cell 0
      have HL : Hid (pre.length = m - (k + 1)) := by
        have := HP.out
        have := congrArg List.length this
        rw [List.length_map, downs_length] at this
        exact this
      obtain ⟨fn, tmps, assign, body, hy, hR⟩ := RoT.of (HY.out pre (⟨k, by omega⟩, cs) wr HJR.out (by rw [HL.out]; omega))
      have hy2 : (Instr.yield l #[.int .i64 (k : Int), .agg cs]).run Try.prog wr = .ok (.round l fn tmps assign body) wr := hy
      have HR := hid hR
      have hk : k < m := by omega
      clear hC hs hy hR

      gi_wp2_with (refine wpIn_value (.agg cs) (fun c h => by cases h) (exec_load 69 (.tmp 15) _ _ rfl rfl hld) ?_)
      refine HR.out.mono ?_
      rintro e W3 ⟨bb, rfl, h3⟩
      clear s0 hld hy2
      have KK : Hid (m - (k + 1) + 1 = m - k ∧ m - 1 - (m - (k + 1)) = k) := by show _ ∧ _; omega
      rcases h3 with ⟨rfl, hj3, hk3⟩ | ⟨rfl, hj3⟩
      · have HJ3 := hid hj3; have HK3 := hid hk3; clear hj3 hk3
        gi_wp2
        go_roundw
        case rel =>
          refine ⟨k, by omega, rfl, HCR.out.kp HK3.out, _, ?_, HJ3.out⟩
          show _ = _
          rw [List.map_append, HP.out, ← KK.out.1, downs_succ, KK.out.2]
          rfl
        case measure => simp [intOf]
      · have HJ3 := hid hj3; clear hj3
        gi_wp2
        refine bodyPost_ret (results_none rfl _ _ _) rfl ?_
        exact ⟨⟨_, rfl⟩, .inr ⟨_, trivial, HJ3.out⟩⟩
theorem back_stops {m : Nat} (hm : m < 1000000) (bs : Nat) (A : Option Addr) (c : Nat) (w : World) (hc : ItB bs A m c w) :
    SeqStopsK Fence.wide 1 Try.prog 53 #[.pointer (some ⟨bs, 0, none⟩)] (encW (m := m)) (KpT bs A) (fun ys => ys.map (·.1.val) = downs m m) (fun _ => True) m w :=
  fun l J Jx W hW hJ _ hY h0 => (back_walk hm l bs A c J Jx W hJ hY (hc.below (hW.mono (Nat.le_refl _))) h0)
theorem dBack_any (A : Option Addr) (n c : Nat) (w : World) :
    Calls Try.prog 44 #[.slice A n c] w fun e w' => e = .returned (.func (.func 53) #[] #[.pointer (some ⟨w.heap.size, 0, none⟩)]) ∧ w' = w.alloc (.cells #[.slice A n c] 60) := by
  go_enter Try.func44, Try.ntmps44
  go_wp2
  go_ret
  exact ⟨rfl, rfl⟩
end Go.Proofs.Ytjdojnbpchommaa
