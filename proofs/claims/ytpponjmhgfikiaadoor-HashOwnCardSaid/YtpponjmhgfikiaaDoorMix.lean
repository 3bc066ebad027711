/-
  What is proved here: what the code makes of a state and a block.
-/
import Derived.Test.YtpponjmhgfikiaaDoorStV
namespace Go.Proofs.YtpponjmhgfikiaaDoor
open Go.ChangeShapes Go.WideShapes Go.ChangeAt Go.RowKit
set_option linter.unusedVariables false

attribute [local go_sem] u_xor u_and u_or u_add u_not'
/-- what the loop of 'mix' keeps -/
def MixW (w wr : World) (g5 : Nat) (s1 s2 W : Array Value) : Prop :=
  Blk wr w.heap.size 41 s1 ∧ Blk wr (w.heap.size + 1) 41 s2 ∧ Blk wr g5 52 W ∧ Below w.heap.size w wr
theorem MixW.drewN {w wr : World} {g5 : Nat} {s1 s2 W : Array Value} (h : MixW w wr g5 s1 s2 W) (n : Nat) : MixW w (wr.drewN n) g5 s1 s2 W := ⟨h.1, h.2.1, h.2.2.1, below_drewN h.2.2.2 n⟩

set_option maxRecDepth 5000 in
set_option maxHeartbeats 6000000 in
theorem mix_any (s : St) (A : Option Addr) (c : Nat) (bs : List Int) (w : World) (hr : Rp w none A bs) (hb : Bs bs) (hl : bs.length = 64) (hc : 64 ≤ c) (ht : Tab w) :
    Calls Tryd.prog 20 #[stV s, .slice A 64 c] w fun e w' => e = .returned (stV (mixS s bs)) ∧ Below w.heap.size w w' := by
  obtain ⟨a, b, c_, d, e_, f, g, h⟩ := s
  obtain ⟨Z, HZ, hZ0, hZs⟩ := zero_A64
  have HSP := hid (fun (w1 : World) (hbl : Below w.heap.size w w1) => spread_any A c bs w1 (hr.belowN hbl) hb hl hc)
  have HT := hid ht
  obtain ⟨W, hW⟩ : ∃ W, W = ext 48 (blockWords bs) := ⟨_, rfl⟩
  have HWL : Hid (W.length = 64) := by show _ = _; rw [hW, ext_length]; simp [blockWords]
  obtain ⟨s0, hs0⟩ : ∃ s0 : St, s0 = ⟨a, b, c_, d, e_, f, g, h⟩ := ⟨_, rfl⟩
  obtain ⟨M, hM⟩ : ∃ M, M = mixS s0 bs := ⟨_, rfl⟩
  have HM : Hid (M = s0.add (s0.rounds K64 W 64)) := by show _ = _; rw [hM, hW]; rfl
  have HS0 := hid hs0
  rw [← hs0, ← hM]
  have e0 : stV s0 = .agg #[.int .u32 (u a), .int .u32 (u b), .int .u32 (u c_), .int .u32 (u d), .int .u32 (u e_), .int .u32 (u f), .int .u32 (u g), .int .u32 (u h)] := by rw [hs0]; rfl
  rw [e0]
  rw [← hW] at HSP
  have HI64 : Hid ((Tryd.prog.info? 52).map (·.size) = some (w32s W).size) := by show _ = _; rw [w32s_size, HWL.out]; exact info_A64
  have HZ64 : Hid (Z.size = (w32s W).size) := by show _ = _; rw [HZ.out, w32s_size, w32s_size, HWL.out]; simp
  clear hr hb hl ht hW hM hs0 e0
  go_enter Tryd.func20, Tryd.ntmps20
  go_wp2_with (first
    | (go_at_call 28; refine (HSP.out _ (((Below.refl _ _).alloc (Nat.le_refl _) _).alloc (by simp) _)).mono ?_; rintro e w1 ⟨rfl, hb1⟩; have HB1 := hid hb1; clear hb1)
    | (refine wpList_store_row rfl 52 (.tmp 5) (.tmp 18) rfl w1.heap.size (w32s W) rfl rfl 52 Z (Blk.new w1 52 Z) HI64.out HZ64.out (w32s_one W) ?_))
  have hk1 : Blk ((w.alloc (.cells #[.int .u32 (u a), .int .u32 (u b), .int .u32 (u c_), .int .u32 (u d), .int .u32 (u e_), .int .u32 (u f), .int .u32 (u g), .int .u32 (u h)] 41)).alloc (.cells #[.int .u32 0, .int .u32 0, .int .u32 0, .int .u32 0, .int .u32 0, .int .u32 0, .int .u32 0, .int .u32 0] 41)) w.heap.size 41 #[.int .u32 (u a), .int .u32 (u b), .int .u32 (u c_), .int .u32 (u d), .int .u32 (u e_), .int .u32 (u f), .int .u32 (u g), .int .u32 (u h)] := (Blk.new w 41 _).alloc _
  have hk2 : Blk ((w.alloc (.cells #[.int .u32 (u a), .int .u32 (u b), .int .u32 (u c_), .int .u32 (u d), .int .u32 (u e_), .int .u32 (u f), .int .u32 (u g), .int .u32 (u h)] 41)).alloc (.cells #[.int .u32 0, .int .u32 0, .int .u32 0, .int .u32 0, .int .u32 0, .int .u32 0, .int .u32 0, .int .u32 0] 41)) (w.heap.size + 1) 41 #[.int .u32 0, .int .u32 0, .int .u32 0, .int .u32 0, .int .u32 0, .int .u32 0, .int .u32 0, .int .u32 0] := by
    have := Blk.new (w.alloc (.cells #[.int .u32 (u a), .int .u32 (u b), .int .u32 (u c_), .int .u32 (u d), .int .u32 (u e_), .int .u32 (u f), .int .u32 (u g), .int .u32 (u h)] 41)) 41 #[.int .u32 0, .int .u32 0, .int .u32 0, .int .u32 0, .int .u32 0, .int .u32 0, .int .u32 0, .int .u32 0]
    rwa [show (w.alloc (.cells #[.int .u32 (u a), .int .u32 (u b), .int .u32 (u c_), .int .u32 (u d), .int .u32 (u e_), .int .u32 (u f), .int .u32 (u g), .int .u32 (u h)] 41)).heap.size = w.heap.size + 1 by simp] at this
  have hk0 : Below w.heap.size w ((w.alloc (.cells #[.int .u32 (u a), .int .u32 (u b), .int .u32 (u c_), .int .u32 (u d), .int .u32 (u e_), .int .u32 (u f), .int .u32 (u g), .int .u32 (u h)] 41)).alloc (.cells #[.int .u32 0, .int .u32 0, .int .u32 0, .int .u32 0, .int .u32 0, .int .u32 0, .int .u32 0, .int .u32 0] 41)) := ((Below.refl _ _).alloc (Nat.le_refl _) _).alloc (by simp) _
  have hb1 := HB1.out
  have l1 := hk1.lt
  have l2 := hk2.lt
  have hle : w.heap.size + 1 < w1.heap.size := Nat.lt_of_lt_of_le l2 hb1.size
  have k1 : Blk ((w1.alloc (.cells Z 52)).setRow w1.heap.size (w32s W)) w.heap.size 41 _ := ((hk1.same (hb1.block _ l1)).alloc (.cells Z 52)).rowFar (by omega) _
  have k2 : Blk ((w1.alloc (.cells Z 52)).setRow w1.heap.size (w32s W)) (w.heap.size + 1) 41 _ := ((hk2.same (hb1.block _ l2)).alloc (.cells Z 52)).rowFar (by omega) _
  have k3 : Blk ((w1.alloc (.cells Z 52)).setRow w1.heap.size (w32s W)) w1.heap.size 52 (w32s W) := (Blk.new w1 52 Z).row _
  have k0 : Below w.heap.size w ((w1.alloc (.cells Z 52)).setRow w1.heap.size (w32s W)) := below_setRow ((hk0.trans (hb1.mono hk0.size)).alloc (by omega) _) (by omega) _
  have K1 := hid k1; have K2 := hid k2; have K3 := hid k3; have K0 := hid k0
  clear hk1 hk2 hk0 hb1 l1 l2 k1 k2 k3 k0 HB1
  go_frame
  generalize (w1.alloc (.cells Z 52)).setRow w1.heap.size (w32s W) = w2 at K1 K2 K3 K0 ⊢
  obtain ⟨g5, hg5⟩ : ∃ g5, g5 = w1.heap.size := ⟨_, rfl⟩
  rw [← hg5] at K3 hle ⊢
  clear hg5
  have c0 : w2.cell? ⟨w.heap.size, 0, none⟩ = some (.int .u32 (u a)) := K1.out.cell 0
  have c1 : w2.cell? ⟨w.heap.size, 1, none⟩ = some (.int .u32 (u b)) := K1.out.cell 1
  have c2 : w2.cell? ⟨w.heap.size, 2, none⟩ = some (.int .u32 (u c_)) := K1.out.cell 2
  have c3 : w2.cell? ⟨w.heap.size, 3, none⟩ = some (.int .u32 (u d)) := K1.out.cell 3
  have c4 : w2.cell? ⟨w.heap.size, 4, none⟩ = some (.int .u32 (u e_)) := K1.out.cell 4
  have c5 : w2.cell? ⟨w.heap.size, 5, none⟩ = some (.int .u32 (u f)) := K1.out.cell 5
  have c6 : w2.cell? ⟨w.heap.size, 6, none⟩ = some (.int .u32 (u g)) := K1.out.cell 6
  have c7 : w2.cell? ⟨w.heap.size, 7, none⟩ = some (.int .u32 (u h)) := K1.out.cell 7
  go_region
  go_wp2
  go_region
  go_wp2
  clear c0 c1 c2 c3 c4 c5 c6 c7
  go_loopw [6, 7, 8, 9, 10, 11, 12, 13, 35] (fun v6 v7 v8 v9 v10 v11 v12 v13 i wr => ∃ (k : Nat) (S : St), k ≤ 64 ∧ i = .int .i64 k ∧ Hid (S = s0.rounds K64 W k) ∧ v6 = .int .u32 (u S.a) ∧ v7 = .int .u32 (u S.b) ∧ v8 = .int .u32 (u S.c) ∧ v9 = .int .u32 (u S.d) ∧ v10 = .int .u32 (u S.e) ∧ v11 = .int .u32 (u S.f) ∧ v12 = .int .u32 (u S.g) ∧ v13 = .int .u32 (u S.h) ∧ MixW w wr g5 #[.int .u32 (u a), .int .u32 (u b), .int .u32 (u c_), .int .u32 (u d), .int .u32 (u e_), .int .u32 (u f), .int .u32 (u g), .int .u32 (u h)] #[.int .u32 0, .int .u32 0, .int .u32 0, .int .u32 0, .int .u32 0, .int .u32 0, .int .u32 0, .int .u32 0] (w32s W)) (fun _ _ _ _ _ _ _ _ i _ => 64 - (intOf i).toNat)
  case atStart => exact ⟨0, s0, by omega, rfl, rfl, by rw [HS0.out], by rw [HS0.out], by rw [HS0.out], by rw [HS0.out], by rw [HS0.out], by rw [HS0.out], by rw [HS0.out], by rw [HS0.out], K1.out, K2.out, K3.out, below_drewN K0.out 2⟩
  case round =>
    obtain ⟨k, S, hk, rfl, HS, rfl, rfl, rfl, rfl, rfl, rfl, rfl, rfl, hw⟩ := hrel
    have HW := hid hw
    clear hw K0 K1 K2 K3
    obtain ⟨p, q, r, s, t, x, y, z⟩ := S
    simp only
    by_cases hlt : k < 64
    · have hkx : True := trivial
      as_aux_lemma =>
        have hT := (HT.out.below HW.out.2.2.2) k hlt
        have hW := w32s_get W k (by have := HWL.out; omega)
        rw [← HW.out.2.2.1.cell] at hW
        obtain ⟨kk, ek⟩ : ∃ v, v = K64[k]?.getD 0 := ⟨_, rfl⟩
        obtain ⟨ww, ew⟩ : ∃ v, v = W[k]?.getD 0 := ⟨_, rfl⟩
        rw [← ek] at hT
        rw [← ew] at hW
        have EK := hid ek; have EW := hid ew
        clear ek ew
        go_wp2
        refine wp_region_still_lit (by kernel_rfl) (by kernel_rfl) ?_
        repeat still_step
        refine wpStill_step (fun K hK => ?_)
        go_simp
        refine ⟨_, (tLow_any _ _).mono fun e w'' ⟨he, hw⟩ => ⟨he, hw.symm⟩, hK _ ?_⟩
        clear hK K
        repeat still_step
        refine wpStill_nil ?_
        go_wp2_with (go_at_call 30; refine (tHigh_any _ _).mono ?_; rintro e w'' ⟨rfl, rfl⟩)
        go_roundw
        case rel =>
          refine ⟨k + 1, (⟨p, q, r, s, t, x, y, z⟩ : St).round kk ww, by omega, by go_num, ?_, rfl, rfl, rfl, rfl, rfl, rfl, rfl, rfl, HW.out.drewN 1⟩
          show _ = (s0.rounds K64 W k).round (K64[k]?.getD 0) (W[k]?.getD 0)
          rw [← HS.out, ← EK.out, ← EW.out]
        case measure => simp [intOf]; omega
    · have hkx : True := trivial
      have hk64 : 64 ≤ k := by omega
      have c0 : wr.cell? ⟨w.heap.size, 0, none⟩ = some (.int .u32 (u a)) := HW.out.1.cell 0
      have c1 : wr.cell? ⟨w.heap.size, 1, none⟩ = some (.int .u32 (u b)) := HW.out.1.cell 1
      have c2 : wr.cell? ⟨w.heap.size, 2, none⟩ = some (.int .u32 (u c_)) := HW.out.1.cell 2
      have c3 : wr.cell? ⟨w.heap.size, 3, none⟩ = some (.int .u32 (u d)) := HW.out.1.cell 3
      have c4 : wr.cell? ⟨w.heap.size, 4, none⟩ = some (.int .u32 (u e_)) := HW.out.1.cell 4
      have c5 : wr.cell? ⟨w.heap.size, 5, none⟩ = some (.int .u32 (u f)) := HW.out.1.cell 5
      have c6 : wr.cell? ⟨w.heap.size, 6, none⟩ = some (.int .u32 (u g)) := HW.out.1.cell 6
      have c7 : wr.cell? ⟨w.heap.size, 7, none⟩ = some (.int .u32 (u h)) := HW.out.1.cell 7
      have hi8 : Hid ((Tryd.prog.info? 41).map (·.size) = some 8) := by show _ = _; kernel_rfl
      go_wp2_with (refine wpList_store_row rfl 41 (.tmp 4) (.tmp 118) rfl (w.heap.size + 1) _ rfl rfl 41 _ HW.out.2.1 hi8.out rfl (all8 _ _ _ _ _ _ _ _) ?_)
      go_frame
      have hfin : stV M = .agg #[.int .u32 (u (a + p)), .int .u32 (u (b + q)), .int .u32 (u (c_ + r)), .int .u32 (u (d + s)), .int .u32 (u (e_ + t)), .int .u32 (u (f + x)), .int .u32 (u (g + y)), .int .u32 (u (h + z))] := by
        have hs := HS.out
        rw [show k = 64 by omega] at hs
        rw [HM.out, ← hs, HS0.out]
        rfl
      rw [hfin]
      refine bodyPost_ret (results_cell_row Tryd.results20 _ _ (w.heap.size + 1) 41 #[.int .u32 (u (a + p)), .int .u32 (u (b + q)), .int .u32 (u (c_ + r)), .int .u32 (u (d + s)), .int .u32 (u (e_ + t)), .int .u32 (u (f + x)), .int .u32 (u (g + y)), .int .u32 (u (h + z))] (0, 0) _ rfl (HW.out.2.1.row _) Tryd.underlying41 rfl hi8.out) rfl ?_
      exact ⟨rfl, below_setRow HW.out.2.2.2 (by omega) _⟩
end Go.Proofs.YtpponjmhgfikiaaDoor
