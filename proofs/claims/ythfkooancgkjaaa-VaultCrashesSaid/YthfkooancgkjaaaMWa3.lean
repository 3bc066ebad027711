/-
  What is proved here: the bytes of a record's page, as the code makes them.
-/
import Derived.Test.YthfkooancgkjaaaMWa2
import Derived.Test.YthfkooancgkjaaaMSlT
set_option linter.unusedSimpArgs false
set_option linter.unusedVariables false
namespace Go.Proofs.Ythfkooancgkjaaa
open Go.ChangeShapes Go.WideShapes Go.ChangeAt Go.RowKit
set_option linter.unusedVariables false
set_option maxRecDepth 20000

theorem shl_mark (g : Int) (h : 0 ≤ g ∧ g < 4294967296) : IntKind.u64.wrap (g * 4294967296) = g * 4294967296 := u64_keep _ (by omega) (by omega)
theorem or_mark (g p : Int) (hg : 0 ≤ g ∧ g < 4294967296) (hp : 0 ≤ p ∧ p < 4294967296) : bits .or .u64 (g * 4294967296) p = g * 4294967296 + p := by
  rw [u64_or _ _ (by omega) (by omega) hp.1 (by omega), nat_join 32 _ _ (by omega) (by omega)]
  omega
theorem be_one (x : Int) (h : 0 ≤ x ∧ x < 256) : be x 1 = [x] := by
  unfold be be
  rw [show (256 : Int) ^ 0 = 1 by decide, Int.ediv_one, Int.emod_eq_of_lt h.1 h.2]
theorem up_one (L : List Int) (x : Int) (h : 0 ≤ x ∧ x < 256) : (WS.good L).up 255 x 1 = .good (L ++ [x]) := by
  unfold WS.up
  rw [if_neg (by omega), be_one x h]
  rfl
theorem below_dn {w : World} (n : Nat) : Below w.heap.size w (w.drewN n) := ⟨rfl, rfl, rfl, Nat.le_refl _, fun _ _ => rfl⟩
set_option maxHeartbeats 2000000 in
theorem wpage_any (lb b a c j : Nat) (l : LS) (kd : Int) (A : Option Addr) (m cx : Nat) (v : List Int) (w : World) (hl : Blk w lb 90 (lgC b a c l)) (hg : 0 ≤ l.g ∧ l.g < 4294967296) (hj : j < 100000) (hkd : 0 ≤ kd ∧ kd ≤ 3) (hm : m = v.length) (hr : Rp w none A v) (hv : v.length ≤ 110) :
    Calls Try.prog 46 #[.pointer (some ⟨lb, 0, none⟩), .int .i64 j, .int .i64 kd, .slice A m cx] w fun e w' => ∃ B, e = .returned (.slice B 128 128) ∧ NewB w (wpg l.g ((j : Int) + 1) kd v) B w' := by
  have c4 : w.cell? ⟨lb, 4, none⟩ = some (.int .u32 l.g) := hl.cell 4
  obtain ⟨g, hgg⟩ : ∃ g, g = l.g := ⟨_, rfl⟩
  rw [← hgg] at c4 hg ⊢
  have CP := hid (fun w => wplace_any j w hj)
  have e1 : IntKind.u64.wrap g = g := u64_keep _ (by omega) (by omega)
  have e2 : IntKind.u64.wrap (g * 4294967296) = g * 4294967296 := shl_mark g hg
  have e3 : IntKind.u64.wrap ((j : Int) + 1) = (j : Int) + 1 := u64_keep _ (by omega) (by omega)
  have hp : 0 ≤ (j : Int) + 1 ∧ (j : Int) + 1 < 4294967296 := by omega
  obtain ⟨X, hX⟩ : ∃ X, X = g * 4294967296 + ((j : Int) + 1) := ⟨_, rfl⟩
  have e4 : bits .or .u64 (g * 4294967296) ((j : Int) + 1) = X := by rw [hX]; exact or_mark g _ hg hp
  have hXb : 0 ≤ X ∧ X < 18446744073709551616 := by omega
  have EM : mk g ((j : Int) + 1) = be X 8 := by rw [be_mk g _ hg hp, hX]
  clear hX
  obtain ⟨Z, hz, hz0, z0, z1, z2, z3, z4, hZs⟩ := zero_writer
  obtain ⟨k, hk⟩ : ∃ k, k = 110 - v.length := ⟨_, rfl⟩
  have hkm : (110 : Int) - (m : Int) = (k : Int) := by omega
  have hk110 : k ≤ 110 := by omega
  have hmk : ∀ u : World, (Instr.makeSlice 23 (.int .i64 (k : Int)) (.int .i64 (k : Int))).run Try.prog u = .ok (.slice (some ⟨u.heap.size, 0, none⟩) k k) (u.alloc (.cells (List.replicate k (Value.int .u8 0)).toArray 5)) := fun u => make_bytes k (by omega) u
  have hm110 : m ≤ 110 := by omega
  obtain ⟨L1, hL1⟩ : ∃ L, L = be X 8 := ⟨_, rfl⟩
  obtain ⟨L2, hL2⟩ : ∃ L, L = L1 ++ [kd] := ⟨_, rfl⟩
  obtain ⟨L3, hL3⟩ : ∃ L, L = L2 ++ [(m : Int)] := ⟨_, rfl⟩
  obtain ⟨L4, hL4⟩ : ∃ L, L = L3 ++ v := ⟨_, rfl⟩
  obtain ⟨L5, hL5⟩ : ∃ L, L = L4 ++ List.replicate k 0 := ⟨_, rfl⟩
  obtain ⟨L6, hL6⟩ : ∃ L, L = L5 ++ L1 := ⟨_, rfl⟩
  have l1 : L1.length = 8 := by rw [hL1, be_length]
  have l2 : L2.length = 9 := by rw [hL2, List.length_append, l1]; rfl
  have l3 : L3.length = 10 := by rw [hL3, List.length_append, l2]; rfl
  have l4 : L4.length = 10 + m := by rw [hL4, List.length_append, l3, hm]
  have l5 : L5.length = 120 := by rw [hL5, List.length_append, l4, List.length_replicate]; omega
  have l6 : L6.length = 128 := by rw [hL6, List.length_append, l5, l1]
  have E6 : Hid (L6 = wpg g ((j : Int) + 1) kd v) := by
    show _ = _
    rw [hL6, hL5, hL4, hL3, hL2, hL1, hm, hk]; unfold wpg; rw [EM]
    simp [List.append_assoc]
  have S1 := hid (show (WS.good []).put (be X 8) = .good L1 by rw [hL1]; rfl)
  have S2 := hid (show (WS.good L1).up 255 kd 1 = .good L2 by rw [hL2]; exact up_one _ _ (by omega))
  have S3 := hid (show (WS.good L2).up 255 m 1 = .good L3 by rw [hL3]; exact up_one _ _ (by omega))
  have S4 := hid (show (WS.good L3).put v = .good L4 by rw [hL4]; rfl)
  have S5 := hid (show (WS.good L4).put (List.replicate k 0) = .good L5 by rw [hL5]; rfl)
  have S6 := hid (show (WS.good L5).put (be X 8) = .good L6 by rw [hL6, hL1]; rfl)
  have I1 := hid l1; have I2 := hid l2; have I3 := hid l3; have I4 := hid l4; have I5 := hid l5; have I6 := hid l6
  clear hL1 hL2 hL3 hL4 hL5 hL6 l1 l2 l3 l4 l5 l6 EM
  obtain ⟨zb, hzb⟩ : ∃ zb, zb = (List.replicate k (Value.int .u8 0)).toArray := ⟨_, rfl⟩
  rw [← hzb] at hmk
  have HZB := hid hzb; have HXB := hid hXb; have HM := hid hm; have HR := hid hr; have HV := hid hv; have HK := hid hk
  rw [← E6.out]
  clear hl hgg hzb hXb hr hv hm hk
  go_enter Try.func46, Try.ntmps46
  go_wp2
  go_quiet ((go_at_call 64; exact Calls.quiet_of_same ((CP.out _).mono fun e w' h => ⟨h.1, h.2.symm⟩)))
  have BQ := hid (below_dn (w := w) nq)
  have RQ : Hid (Rp (w.drewN nq) none A v) := hid HR.out
  have HQ : Hid ((w.drewN nq).heap.size = w.heap.size) := rfl
  clear c4 e1 e2 e3 e4 CP
  generalize w.drewN nq = wq at BQ RQ HQ ⊢
  have hw : WAt (wq.alloc (.cells Z 81)) wq.heap.size [] := new_writer (Blk.new wq 81 Z) hz z0.out z1.out z2.out z3.out
  have B0 : Hid (Below w.heap.size w (wq.alloc (.cells Z 81))) := hid (BQ.out.trans (((Below.refl wq.heap.size wq).alloc (Nat.le_refl _) _).mono (by rw [HQ.out]; exact Nat.le_refl _)))
  have H1 := hid (WU64_any (some ⟨wq.heap.size, 0, none⟩) (.good []) X (wq.alloc (.cells Z 81)) ⟨_, rfl, hw⟩ HXB.out (by simp [WS.len]))
  have HOF := hid (of_lt (g := wq.heap.size) (n := w.heap.size) (by rw [HQ.out]; exact Nat.le_refl _))
  have R1 : Hid (Rp (wq.alloc (.cells Z 81)) (some ⟨wq.heap.size, 0, none⟩) A v) := (RQ.out.away (Nat.le_refl _)).same fun k hk _ => ((Below.refl wq.heap.size wq).alloc (Nat.le_refl _) _).block k hk
  clear hw z0 z1 z2 z3 z4
  go_wp2_with (first
    | (go_at_call 65; (with_reducible refine H1.out.mono ?_); rintro e w1 ⟨rfl, hw1, ho1⟩; rw [S1.out] at hw1; have R2 := hid (R1.out.keep ho1); have H2 := hid (WU8_any (some ⟨wq.heap.size, 0, none⟩) (.good L1) kd w1 hw1 (by show L1.length < _; rw [I1.out]; decide)); have B1 := hid (B0.out.trans (ho1.below B0.out.size HOF.out)); clear hw1 ho1)
    | (go_at_call 66; (with_reducible refine H2.out.mono ?_); rintro e w2 ⟨rfl, hw2, ho2⟩; rw [S2.out] at hw2; have R3 := hid (R2.out.keep ho2); have H3 := hid (WU8_any (some ⟨wq.heap.size, 0, none⟩) (.good L2) m w2 hw2 (by show L2.length < _; rw [I2.out]; decide)); have B2 := hid (B1.out.trans (ho2.below B1.out.size HOF.out)); clear hw2 ho2)
    | (go_at_call 66; (with_reducible refine H3.out.mono ?_); rintro e w3 ⟨rfl, hw3, ho3⟩; rw [S3.out] at hw3; have R4 := hid (R3.out.keep ho3); have H4 := WPlain_any (some ⟨wq.heap.size, 0, none⟩) (.good L3) A cx v w3 hw3 R4.out (by show L3.length + _ < _; rw [I3.out]; have := HV.out; omega); rw [← HM.out] at H4; have H4 := hid H4; have B3 := hid (B2.out.trans (ho3.below B2.out.size HOF.out)); clear hw3 ho3)
    | (go_at_call 67; (with_reducible refine H4.out.mono ?_); rintro e w4 ⟨rfl, hw4, ho4⟩; rw [S4.out] at hw4; have B4 := hid (B3.out.trans (ho4.below B3.out.size HOF.out)); have wlt : wq.heap.size < w4.heap.size := hw4.lt ⟨_, rfl, rfl⟩; have H5 := WPlain_any (some ⟨wq.heap.size, 0, none⟩) (.good L4) (some ⟨w4.heap.size, 0, none⟩) k (List.replicate k 0) (w4.alloc (.cells zb 5)) (hw4.alloc _) (by rw [HZB.out]; exact rp_zero w4 k _ wlt) (by show L4.length + _ < _; rw [I4.out, List.length_replicate]; omega); rw [List.length_replicate] at H5; have H5 := hid H5; have B5 := hid (B4.out.alloc B4.out.size (.cells zb 5)); clear hw4 ho4 wlt)
    | (go_at_call 67; refine H5.out.mono ?_; rintro e w5 ⟨rfl, hw5, ho5⟩; rw [S5.out] at hw5; have B6 := hid (B5.out.trans (ho5.below B5.out.size HOF.out)); have H6 := hid (WU64_any (some ⟨wq.heap.size, 0, none⟩) (.good L5) X w5 hw5 HXB.out (by show L5.length < _; rw [I5.out]; decide)); clear hw5 ho5)
    | (go_at_call 65; refine H6.out.mono ?_; rintro e w6 ⟨rfl, hw6, ho6⟩; rw [S6.out] at hw6; have B7 := hid (B6.out.trans (ho6.below B6.out.size HOF.out)); have H7 := Out_good _ L6 w6 hw6 (by rw [I6.out]; decide); rw [I6.out] at H7; have H7 := hid H7; clear hw6 ho6)
    | (go_at_call 42; refine H7.out.mono ?_; rintro e w7 ⟨rfl, hb7, ho7⟩; have HB7 := hid hb7; have B8 := hid (B7.out.trans (ho7.mono B7.out.size)); clear hb7 ho7))
  go_ret
  exact ⟨_, rfl, w6.heap.size, rfl, B7.out.size, HB7.out, B8.out⟩
end Go.Proofs.Ythfkooancgkjaaa
