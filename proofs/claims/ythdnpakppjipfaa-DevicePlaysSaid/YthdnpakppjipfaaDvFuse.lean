/-
  What is proved here: a fuse of n lets n operations be done, and no more; refused calls don't burn it.
-/
import Derived.Test.YthdnpakppjipfaaDvL
namespace Go.Proofs.Ythdnpakppjipfaa
open Go.ChangeShapes Go.WideShapes Go.ChangeAt Go.RowKit
set_option linter.unusedVariables false
set_option linter.unusedSimpArgs false
set_option maxRecDepth 20000

theorem make_128 : ∃ zb : Array Value, Hid (zb = (u8s zpg).toArray) ∧ ∀ u : World, (Instr.makeSlice 32 (.int .i64 128) (.int .i64 128)).run Try.prog u = .ok (.slice (some ⟨u.heap.size, 0, none⟩) 128 128) (u.alloc (.cells zb 5)) := by
  refine ⟨_, rfl, fun u => ?_⟩
  have := make_bytes 128 (by decide) u
  have e : (u8s zpg) = List.replicate 128 (Value.int .u8 0) := by unfold u8s zpg; rw [List.map_replicate]
  rw [e]; exact this
theorem zb_rp (u : World) : Rp (u.alloc (.cells (u8s zpg).toArray 5)) none (some ⟨u.heap.size, 0, none⟩) zpg := (Blk.new u 5 _).rp
def FuI (n0 : Nat) (b : Nat) (F : Int) (i : Nat) (w w' : World) : Prop := ∃ L Q, L.length = 3 ∧ Q.length ≤ i ∧ Dv n0 w' b L Q F false ∧ Below n0 w w'
set_option maxHeartbeats 8000000 in
theorem dfuse_walk (n : Int) (w : World) (hn : 0 ≤ n ∧ n ≤ 255) : Calls Try.prog 5 #[.int .u8 n] w fun e w' => e = .returned (.bool true) ∧ Below w.heap.size w w' := by
  obtain ⟨zb, HZB, hmk⟩ := make_128
  have CN := hid (Dv.new 3 w (by decide))
  obtain ⟨n0, hn0⟩ : ∃ n0, n0 = w.heap.size := ⟨_, rfl⟩
  obtain ⟨b, hb⟩ : ∃ b, b = w.heap.size + 1 := ⟨_, rfl⟩
  rw [← hb, ← hn0] at CN
  rw [← hn0]
  have HN0 := hid hn0
  obtain ⟨N, rfl⟩ : ∃ N : Nat, n = N := ⟨n.toNat, by omega⟩
  have hN : N < 256 := by omega
  have hN2 : (N : Int) < 256 := by omega
  have HNN := hid hN
  have cv : IntKind.i64.wrap (N : Int) = (N : Int) := IntWalk.i64_in _ (by omega)
  clear hn hb hn0 hN
  go_enter Try.func5, Try.ntmps5
  go_wp2_with (first
    | (go_at_call 10; refine CN.out.mono ?_; rintro e w1 ⟨rfl, hd, hb⟩; have D1 := hid hd; have B1 := hid hb; clear hd hb)
    | (go_at_call 8; refine (dawake_any _).mono ?_; rintro e w2 ⟨rfl, hb⟩; have D2 := hid (D1.out.below hb); have B2 := hid (B1.out.trans (hb.mono (by have := B1.out.size; rw [HN0.out]; exact this))); clear hb)
    | (go_at_call 21; refine (D2.out.setFuse (by have := B2.out.size; rw [HN0.out]; exact this) _ (by omega)).mono ?_; rintro e w3 ⟨rfl, hd, hb⟩; have D3 := hid hd; have B3 := hid (B2.out.trans hb); clear hd hb))
  have F3 : Hid (FuI n0 b N 0 w w3) := ⟨List.replicate 3 zpg, [], rfl, Nat.le_refl _, by have := D3.out; rwa [show max (N : Int) (-1) = N by omega] at this, B3.out⟩
  clear D3 B3 D1 D2 B1 B2
  go_loopw [5] (fun i wr => ∃ k : Nat, k ≤ N ∧ i = .int .i64 k ∧ Hid (FuI n0 b ((N : Int) - k) k w wr)) (fun i _ => N - (intOf i).toNat)
  case atStart => exact ⟨0, Nat.zero_le _, rfl, by show FuI n0 b ((N : Int) - ((0 : Nat) : Int)) 0 w w3; rw [show (N : Int) - ((0 : Nat) : Int) = N by omega]; exact F3.out⟩
  case round =>
    obtain ⟨k, hk, rfl, HF⟩ := hrel
    clear F3
    by_cases hlt : k < N
    · obtain ⟨L, Q, hL, hQ, hd, hb⟩ := HF.out
      have HL := hid hL; have HQ := hid hQ; have D4 := hid hd; have B4 := hid hb
      have S4 : Hid (n0 ≤ wr.heap.size) := by show _ ≤ _; have := hb.size; rw [HN0.out]; exact this
      have HFN : Hid (((N : Int) - k) ≠ 0) := by show _ ≠ _; omega
      have hk2 : (k : Int) < N := by omega
      clear hL hQ hd hb
      have CW : Hid (∀ A n c, Calls Try.prog 22 #[.pointer (some ⟨b, 0, none⟩), .int .i64 3, .slice A n c] wr fun e w' => e = .returned (.int .i64 4) ∧ wr = w') := fun A n c => D4.out.write_range 3 (by rw [HL.out]; omega) A n c
      have CA : Hid (∀ A n c, n ≠ 128 → n ≤ 9223372036854775807 → Calls Try.prog 22 #[.pointer (some ⟨b, 0, none⟩), .int .i64 0, .slice A n c] wr fun e w' => e = .returned (.int .i64 1) ∧ wr = w') := fun A n c h1 h2 => D4.out.write_arg 0 (by rw [HL.out]; omega) A n c h1 h2
      have CD := hid D4.out.down
      by_cases h2 : k % 3 = 2
      · have g1 : ((k : Int) % 3 == 2) = true := by simp; omega
        have g2 : (k : Int) % 3 = 2 := by omega
        have CF := hid (D4.out.flush_ok S4.out HFN.out)
        clear h2
        go_wp2_with (first
          | (go_at_call 22; (with_reducible refine (CW.out _ _ _).mono ?_); rintro e wq ⟨rfl, rfl⟩)
          | (go_at_call 22; (with_reducible refine (CA.out _ _ _ (by decide) (by decide)).mono ?_); rintro e wq ⟨rfl, rfl⟩)
          | (go_at_call 16; refine CD.out.mono ?_; rintro e wq ⟨rfl, rfl⟩)
          | (go_at_call 23; refine CF.out.mono ?_; rintro e w5 ⟨rfl, hd, hb⟩; have D5 := hid hd; have B5 := hid (B4.out.trans hb); clear hd hb))
        go_roundw
        case rel =>
          refine ⟨k + 1, by omega, by go_num, pg L Q, [], by rw [pg_length]; exact HL.out, Nat.zero_le _, ?_, B5.out⟩
          have := D5.out
          rwa [show bn ((N : Int) - k) = (N : Int) - ((k + 1 : Nat) : Int) by unfold bn; rw [if_pos (by omega)]; omega] at this
        case measure => simp [intOf]; omega
      · have g1 : ((k : Int) % 3 == 2) = false := by simp; omega
        have g2 : ¬ (k : Int) % 3 = 2 := by omega
        have g3 : decide ((k : Int) % 3 < 2) = true := by simp; omega
        have g4 : (k : Int) % 3 < 2 := by omega
        obtain ⟨j, hj⟩ : ∃ j : Nat, j = k % 3 := ⟨_, rfl⟩
        have hjk : (k : Int) % 3 = (j : Int) := by omega
        have HJ : Hid (j < 3) := by show _ < _; omega
        have HJK := hid hjk
        have CWO : Hid (Calls Try.prog 22 #[.pointer (some ⟨b, 0, none⟩), .int .i64 ((k : Int) % 3), .slice (some ⟨wr.heap.size, 0, none⟩) 128 128] (wr.alloc (.cells zb 5)) fun e w' => e = .returned (.int .i64 0) ∧ Dv n0 w' b L (Q ++ [(j, zpg)]) (bn ((N : Int) - k)) false ∧ Below n0 (wr.alloc (.cells zb 5)) w') := by
          rw [HJK.out, HZB.out]
          exact D4.out.write_ok ((Below.refl _ _).alloc (Nat.le_refl _) _) S4.out HFN.out j (by rw [HL.out]; exact HJ.out) _ 128 zpg rfl (zb_rp wr) (fun a ha => by injection ha with ha; subst ha; exact .inr (Nat.le_refl _)) (by have := HQ.out; have := HNN.out; omega)
        have B4a : Hid (Below n0 w (wr.alloc (.cells zb 5))) := B4.out.alloc S4.out _
        clear h2 hj hjk
        go_wp2_with (first
          | (go_at_call 22; (with_reducible refine (CW.out _ _ _).mono ?_); rintro e wq ⟨rfl, rfl⟩)
          | (go_at_call 22; (with_reducible refine (CA.out _ _ _ (by decide) (by decide)).mono ?_); rintro e wq ⟨rfl, rfl⟩)
          | (go_at_call 16; refine CD.out.mono ?_; rintro e wq ⟨rfl, rfl⟩)
          | (go_at_call 22; refine CWO.out.mono ?_; rintro e w5 ⟨rfl, hd, hb⟩; have D5 := hid hd; have B5 := hid (B4a.out.trans hb); clear hd hb))
        go_roundw
        case rel =>
          refine ⟨k + 1, by omega, by go_num, L, Q ++ [(j, zpg)], HL.out, by rw [List.length_append]; have := HQ.out; simp; omega, ?_, B5.out⟩
          have := D5.out
          rwa [show bn ((N : Int) - k) = (N : Int) - ((k + 1 : Nat) : Int) by unfold bn; rw [if_pos (by omega)]; omega] at this
        case measure => simp [intOf]; omega
    · obtain rfl : k = N := by omega
      obtain ⟨L, Q, hL, hQ, hd, hb⟩ := HF.out
      rw [show (k : Int) - k = 0 by omega] at hd
      have S4 : Hid (n0 ≤ wr.heap.size) := by show _ ≤ _; have := hb.size; rw [HN0.out]; exact this
      have B4 := hid hb
      have HQ : Hid (Q.length < 1000000) := by show _ < _; have := HNN.out; omega
      have CF := hid (hd.flush_out S4.out rfl)
      clear hL hQ hd hb HF
      go_wp2_with (first
        | (go_at_call 23; (with_reducible refine CF.out.mono ?_); rintro e w5 ⟨rfl, hd, hb⟩; have B5 := hid (B4.out.trans hb); have D5 := hid hd; have S5 : Hid (n0 ≤ w5.heap.size) := Nat.le_trans S4.out hb.size; have CR := hid (hd.read_down 0); have CW := hid ((hd.below ((Below.refl _ _).alloc (Nat.le_refl _) (.cells zb 5))).write_down 0 (some ⟨w5.heap.size, 0, none⟩) 128 128); have CD := hid ((hd.below ((Below.refl _ _).alloc (Nat.le_refl _) (.cells zb 5))).down); have CX := hid (hd.restart ((Below.refl _ _).alloc (Nat.le_refl _) (.cells zb 5)) S5.out none 0 [] (Ip.nil _ _) (fun a ha => by cases ha) (by decide) HQ.out); have B5a : Hid (Below n0 w (w5.alloc (.cells zb 5))) := B5.out.alloc S5.out _; have S5a : Hid (n0 ≤ (w5.alloc (.cells zb 5)).heap.size) := Nat.le_trans S5.out (by simp); clear hd hb)
        | (go_at_call 18; refine CR.out.mono ?_; rintro e wq ⟨rfl, rfl⟩)
        | (go_at_call 22; refine CW.out.mono ?_; rintro e wq ⟨rfl, rfl⟩)
        | (go_at_call 16; (with_reducible refine CD.out.mono ?_); rintro e wq ⟨rfl, rfl⟩)
        | (go_at_call 20; refine CX.out.mono ?_; rintro e w6 ⟨rfl, hd, hb⟩; have B6 := hid (B5a.out.trans hb); have S6 : Hid (n0 ≤ w6.heap.size) := Nat.le_trans S5a.out hb.size; have CD6 := hid hd.down; have CF6 := hid (hd.flush_ok S6.out (by decide)); clear hd hb)
        | (go_at_call 16; (with_reducible refine CD6.out.mono ?_); rintro e wq ⟨rfl, rfl⟩)
        | (go_at_call 23; refine CF6.out.mono ?_; rintro e w7 ⟨rfl, hd, hb⟩; have B7 := hid (B6.out.trans hb); clear hd hb))
      go_ret
      exact ⟨rfl, B7.out⟩
end Go.Proofs.Ythdnpakppjipfaa
