/-
  What is proved here: what the document makes of a state and a block.
-/
import Derived.Test.YtpponjmhgfikiaaDoorRK
namespace Go.Proofs.YtpponjmhgfikiaaDoor
open Go.ChangeShapes Go.WideShapes Go.ChangeAt Go.RowKit
set_option linter.unusedVariables false
attribute [local go_sem] u_xor u_and u_or u_add u_not' u_mod u_wrap u_notS u_notS' ch_or mj_or

def RtkW (w wr : World) (g5 g6 g7 : Nat) (s1 W : Array Value) (S : St) : Prop :=
  Blk wr w.heap.size 41 s1 ∧ Blk wr (w.heap.size + 1) 41 #[.int .u32 0, .int .u32 0, .int .u32 0, .int .u32 0, .int .u32 0, .int .u32 0, .int .u32 0, .int .u32 0] ∧ Blk wr g5 52 W ∧ Blk wr g6 52 (w32s K64) ∧ Blk wr g7 41 (stC S) ∧ Below w.heap.size w wr

set_option maxRecDepth 5000 in
set_option maxHeartbeats 6000000 in
theorem rtk_any (s : St) (A : Option Addr) (c : Nat) (bs : List Int) (w : World) (hr : Rp w none A bs) (hb : Bs bs) (hl : bs.length = 64) (hc : 64 ≤ c) :
    Calls Tryd.prog 25 #[.agg #[.int .u32 (u s.a), .int .u32 (u s.b), .int .u32 (u s.c), .int .u32 (u s.d), .int .u32 (u s.e), .int .u32 (u s.f), .int .u32 (u s.g), .int .u32 (u s.h)], .slice A 64 c] w fun e w' => e = .returned (.agg (stC (mixS s bs))) ∧ Below w.heap.size w w' := by
  obtain ⟨Z, HZ, hZ0, hZs⟩ := zero_A64
  have HSP := hid (fun (w1 : World) (hbl : Below w.heap.size w w1) => rwords_any A c bs w1 (hr.belowN hbl) hb hl hc)
  obtain ⟨W, hW⟩ : ∃ W, W = ext 48 (blockWords bs) := ⟨_, rfl⟩
  have HWL : Hid (W.length = 64) := by show _ = _; rw [hW, ext_length]; simp [blockWords]
  have HI64 : Hid ((Tryd.prog.info? 52).map (·.size) = some (w32s W).size) := by show _ = _; rw [w32s_size, HWL.out]; exact info_A64
  have HZ64 : Hid (Z.size = (w32s W).size) := by show _ = _; rw [HZ.out, w32s_size, w32s_size, HWL.out]; simp
  have HZK : Hid (Z.size = (w32s K64).size) := by show _ = _; rw [HZ.out, w32s_size, w32s_size]; rfl
  have HK64 : Hid ((Tryd.prog.info? 52).map (·.size) = some (w32s K64).size) := K_cells
  obtain ⟨M, hM⟩ : ∃ M, M = mixS s bs := ⟨_, rfl⟩
  have HM : Hid (M = s.add (s.rounds K64 W 64)) := by show _ = _; rw [hM, hW]; rfl
  rw [← hM]
  rw [← hW] at HSP
  clear hr hb hl hW hM
  go_enter Tryd.func25, Tryd.ntmps25
  have hk1 : Blk ((w.alloc (.cells #[.int .u32 (u s.a), .int .u32 (u s.b), .int .u32 (u s.c), .int .u32 (u s.d), .int .u32 (u s.e), .int .u32 (u s.f), .int .u32 (u s.g), .int .u32 (u s.h)] 41)).alloc (.cells #[.int .u32 0, .int .u32 0, .int .u32 0, .int .u32 0, .int .u32 0, .int .u32 0, .int .u32 0, .int .u32 0] 41)) w.heap.size 41 (stC s) := (Blk.new w 41 _).alloc _
  have hk2 : Blk ((w.alloc (.cells #[.int .u32 (u s.a), .int .u32 (u s.b), .int .u32 (u s.c), .int .u32 (u s.d), .int .u32 (u s.e), .int .u32 (u s.f), .int .u32 (u s.g), .int .u32 (u s.h)] 41)).alloc (.cells #[.int .u32 0, .int .u32 0, .int .u32 0, .int .u32 0, .int .u32 0, .int .u32 0, .int .u32 0, .int .u32 0] 41)) (w.heap.size + 1) 41 #[.int .u32 0, .int .u32 0, .int .u32 0, .int .u32 0, .int .u32 0, .int .u32 0, .int .u32 0, .int .u32 0] := by
    have := Blk.new (w.alloc (.cells #[.int .u32 (u s.a), .int .u32 (u s.b), .int .u32 (u s.c), .int .u32 (u s.d), .int .u32 (u s.e), .int .u32 (u s.f), .int .u32 (u s.g), .int .u32 (u s.h)] 41)) 41 #[.int .u32 0, .int .u32 0, .int .u32 0, .int .u32 0, .int .u32 0, .int .u32 0, .int .u32 0, .int .u32 0]
    rwa [show (w.alloc (.cells #[.int .u32 (u s.a), .int .u32 (u s.b), .int .u32 (u s.c), .int .u32 (u s.d), .int .u32 (u s.e), .int .u32 (u s.f), .int .u32 (u s.g), .int .u32 (u s.h)] 41)).heap.size = w.heap.size + 1 by simp] at this
  have hk0 : Below w.heap.size w ((w.alloc (.cells #[.int .u32 (u s.a), .int .u32 (u s.b), .int .u32 (u s.c), .int .u32 (u s.d), .int .u32 (u s.e), .int .u32 (u s.f), .int .u32 (u s.g), .int .u32 (u s.h)] 41)).alloc (.cells #[.int .u32 0, .int .u32 0, .int .u32 0, .int .u32 0, .int .u32 0, .int .u32 0, .int .u32 0, .int .u32 0] 41)) := ((Below.refl _ _).alloc (Nat.le_refl _) _).alloc (by simp) _
  have K0 := hid hk0; have K1 := hid hk1; have K2 := hid hk2
  clear hk0 hk1 hk2
  go_wp2_with fail
  refine (HSP.out _ K0.out).mono ?_
  rintro e w1 ⟨rfl, hb1⟩
  have l2 := K2.out.lt
  have hle1 : w.heap.size + 1 < w1.heap.size := Nat.lt_of_lt_of_le l2 hb1.size
  have k1 := K1.out.same (hb1.block _ K1.out.lt)
  have k2 := K2.out.same (hb1.block _ K2.out.lt)
  have k0 := K0.out.trans (hb1.mono K0.out.size)
  have K1b : Hid (Blk ((w1.alloc (.cells Z 52)).setRow w1.heap.size (w32s W)) w.heap.size 41 (stC s)) := (k1.alloc (.cells Z 52)).rowFar (by omega) _
  have K2b : Hid (Blk ((w1.alloc (.cells Z 52)).setRow w1.heap.size (w32s W)) (w.heap.size + 1) 41 #[.int .u32 0, .int .u32 0, .int .u32 0, .int .u32 0, .int .u32 0, .int .u32 0, .int .u32 0, .int .u32 0]) := (k2.alloc (.cells Z 52)).rowFar (by omega) _
  have K3b : Hid (Blk ((w1.alloc (.cells Z 52)).setRow w1.heap.size (w32s W)) w1.heap.size 52 (w32s W)) := (Blk.new w1 52 Z).row _
  have K0b : Hid (Below w.heap.size w ((w1.alloc (.cells Z 52)).setRow w1.heap.size (w32s W))) := below_setRow (k0.alloc (by omega) _) (by omega) _
  clear hb1 l2 k1 k2 k0 K0 K1 K2
  go_wp2_with (refine wpList_store_row rfl 52 (.tmp 5) (.tmp 15) rfl w1.heap.size (w32s W) rfl rfl 52 Z (Blk.new w1 52 Z) HI64.out HZ64.out (w32s_one W) ?_)
  refine (RK_any _).mono ?_
  rintro e w2 ⟨rfl, hb2⟩
  obtain ⟨g5, hg5⟩ : ∃ g5, g5 = w1.heap.size := ⟨_, rfl⟩
  have k1 := K1b.out.same (hb2.block _ K1b.out.lt)
  have k2 := K2b.out.same (hb2.block _ K2b.out.lt)
  have k3 := K3b.out.same (hb2.block _ K3b.out.lt)
  have k0 := K0b.out.trans (hb2.mono K0b.out.size)
  have hle2 : w1.heap.size < w2.heap.size := k3.lt
  rw [← hg5] at k3 hle1 hle2 ⊢
  clear hb2 K0b K1b K2b K3b hg5
  have K1c : Hid (Blk ((w2.alloc (.cells Z 52)).setRow w2.heap.size (w32s K64)) w.heap.size 41 (stC s)) := (k1.alloc (.cells Z 52)).rowFar (by omega) _
  have K2c : Hid (Blk ((w2.alloc (.cells Z 52)).setRow w2.heap.size (w32s K64)) (w.heap.size + 1) 41 #[.int .u32 0, .int .u32 0, .int .u32 0, .int .u32 0, .int .u32 0, .int .u32 0, .int .u32 0, .int .u32 0]) := (k2.alloc (.cells Z 52)).rowFar (by omega) _
  have K3c : Hid (Blk ((w2.alloc (.cells Z 52)).setRow w2.heap.size (w32s K64)) g5 52 (w32s W)) := (k3.alloc (.cells Z 52)).rowFar (by omega) _
  have K4c : Hid (Blk ((w2.alloc (.cells Z 52)).setRow w2.heap.size (w32s K64)) w2.heap.size 52 (w32s K64)) := (Blk.new w2 52 Z).row _
  have K0c : Hid (Below w.heap.size w ((w2.alloc (.cells Z 52)).setRow w2.heap.size (w32s K64))) := below_setRow (k0.alloc (by omega) _) (by omega) _
  clear k1 k2 k3 k0
  go_wp2_with (refine wpList_store_row rfl 52 (.tmp 6) (.tmp 16) rfl w2.heap.size (w32s K64) rfl rfl 52 Z (Blk.new w2 52 Z) HK64.out HZK.out (w32s_one K64) ?_; have c0 : ((w2.alloc (.cells Z 52)).setRow w2.heap.size (w32s K64)).cell? ⟨w.heap.size, 0, none⟩ = some (.int .u32 (u s.a)) := K1c.out.cell 0; have c1 : ((w2.alloc (.cells Z 52)).setRow w2.heap.size (w32s K64)).cell? ⟨w.heap.size, 1, none⟩ = some (.int .u32 (u s.b)) := K1c.out.cell 1; have c2 : ((w2.alloc (.cells Z 52)).setRow w2.heap.size (w32s K64)).cell? ⟨w.heap.size, 2, none⟩ = some (.int .u32 (u s.c)) := K1c.out.cell 2; have c3 : ((w2.alloc (.cells Z 52)).setRow w2.heap.size (w32s K64)).cell? ⟨w.heap.size, 3, none⟩ = some (.int .u32 (u s.d)) := K1c.out.cell 3; have c4 : ((w2.alloc (.cells Z 52)).setRow w2.heap.size (w32s K64)).cell? ⟨w.heap.size, 4, none⟩ = some (.int .u32 (u s.e)) := K1c.out.cell 4; have c5 : ((w2.alloc (.cells Z 52)).setRow w2.heap.size (w32s K64)).cell? ⟨w.heap.size, 5, none⟩ = some (.int .u32 (u s.f)) := K1c.out.cell 5; have c6 : ((w2.alloc (.cells Z 52)).setRow w2.heap.size (w32s K64)).cell? ⟨w.heap.size, 6, none⟩ = some (.int .u32 (u s.g)) := K1c.out.cell 6; have c7 : ((w2.alloc (.cells Z 52)).setRow w2.heap.size (w32s K64)).cell? ⟨w.heap.size, 7, none⟩ = some (.int .u32 (u s.h)) := K1c.out.cell 7)
  try go_frame
  have hr1 : RtkW w (((w2.alloc (.cells Z 52)).setRow w2.heap.size (w32s K64)).alloc (.cells #[.int .u32 (u s.a), .int .u32 (u s.b), .int .u32 (u s.c), .int .u32 (u s.d), .int .u32 (u s.e), .int .u32 (u s.f), .int .u32 (u s.g), .int .u32 (u s.h)] 41)) g5 w2.heap.size (w2.heap.size + 1) (stC s) (w32s W) s := by
    have hsz : ((w2.alloc (.cells Z 52)).setRow w2.heap.size (w32s K64)).heap.size = w2.heap.size + 1 := by simp
    have hk7 := Blk.new ((w2.alloc (.cells Z 52)).setRow w2.heap.size (w32s K64)) 41 (stC s)
    rw [hsz] at hk7
    exact ⟨K1c.out.alloc _, K2c.out.alloc _, K3c.out.alloc _, K4c.out.alloc _, hk7, K0c.out.alloc K0c.out.size _⟩
  have HR1 := hid hr1
  clear hr1 K0c K1c K2c K3c K4c
  generalize (((w2.alloc (.cells Z 52)).setRow w2.heap.size (w32s K64)).alloc (.cells #[.int .u32 (u s.a), .int .u32 (u s.b), .int .u32 (u s.c), .int .u32 (u s.d), .int .u32 (u s.e), .int .u32 (u s.f), .int .u32 (u s.g), .int .u32 (u s.h)] 41)) = w3 at HR1 ⊢
  obtain ⟨g6, hg6⟩ : ∃ g6, g6 = w2.heap.size := ⟨_, rfl⟩
  rw [← hg6] at HR1 hle2 ⊢
  clear hg6
  go_loopw [8] (fun i wr => ∃ (k : Nat) (S : St), k ≤ 64 ∧ i = .int .i64 k ∧ Hid (S = s.rounds K64 W k) ∧ Hid (RtkW w wr g5 g6 (g6 + 1) (stC s) (w32s W) S)) (fun i _ => 64 - (intOf i).toNat)
  case atStart => exact ⟨0, s, by omega, rfl, rfl, HR1.out⟩
  case round =>
    obtain ⟨k, S, hk, rfl, HS, HW⟩ := hrel
    clear HR1
    by_cases hlt : k < 64
    · have hT := w32s_get K64 k (by show k < 64; exact hlt)
      rw [← HW.out.2.2.2.1.cell] at hT
      have hW := w32s_get W k (by have := HWL.out; omega)
      rw [← HW.out.2.2.1.cell] at hW
      obtain ⟨kk, ek⟩ : ∃ v, v = K64[k]?.getD 0 := ⟨_, rfl⟩
      obtain ⟨ww, ew⟩ : ∃ v, v = W[k]?.getD 0 := ⟨_, rfl⟩
      rw [← ek] at hT
      rw [← ew] at hW
      have EK := hid ek; have EW := hid ew
      clear ek ew
      have c0 : wr.cell? ⟨g6 + 1, 0, none⟩ = some (.int .u32 (u S.a)) := HW.out.2.2.2.2.1.cell 0
      have c1 : wr.cell? ⟨g6 + 1, 1, none⟩ = some (.int .u32 (u S.b)) := HW.out.2.2.2.2.1.cell 1
      have c2 : wr.cell? ⟨g6 + 1, 2, none⟩ = some (.int .u32 (u S.c)) := HW.out.2.2.2.2.1.cell 2
      have c3 : wr.cell? ⟨g6 + 1, 3, none⟩ = some (.int .u32 (u S.d)) := HW.out.2.2.2.2.1.cell 3
      have c4 : wr.cell? ⟨g6 + 1, 4, none⟩ = some (.int .u32 (u S.e)) := HW.out.2.2.2.2.1.cell 4
      have c5 : wr.cell? ⟨g6 + 1, 5, none⟩ = some (.int .u32 (u S.f)) := HW.out.2.2.2.2.1.cell 5
      have c6 : wr.cell? ⟨g6 + 1, 6, none⟩ = some (.int .u32 (u S.g)) := HW.out.2.2.2.2.1.cell 6
      have c7 : wr.cell? ⟨g6 + 1, 7, none⟩ = some (.int .u32 (u S.h)) := HW.out.2.2.2.2.1.cell 7
      have hi8 : Hid ((Tryd.prog.info? 41).map (·.size) = some 8) := by show _ = _; kernel_rfl
      have k0i : (0 : Int) ≤ (k : Int) := by omega
      have k64i : (k : Int) < 64 := by omega
      go_wp2
      refine wp_region_still_lit (by kernel_rfl) (by kernel_rfl) ?_
      repeat still_step
      refine wpStill_step (fun K hK => ?_)
      go_simp
      refine ⟨_, (rturned_6 _ _).mono fun e w'' ⟨he, hw⟩ => ⟨he, hw.symm⟩, hK _ ?_⟩
      clear hK K
      repeat still_step
      refine wpStill_step (fun K hK => ?_)
      go_simp
      refine ⟨_, (rturned_11 _ _).mono fun e w'' ⟨he, hw⟩ => ⟨he, hw.symm⟩, hK _ ?_⟩
      clear hK K
      repeat still_step
      refine wpStill_step (fun K hK => ?_)
      go_simp
      refine ⟨_, (rturned_25 _ _).mono fun e w'' ⟨he, hw⟩ => ⟨he, hw.symm⟩, hK _ ?_⟩
      clear hK K
      repeat still_step
      refine wpStill_nil ?_
      go_wp2
      change Code.wp _ _ _ _ wr.drew
      have HW2 : Hid (RtkW w wr.drew g5 g6 (g6 + 1) (stC s) (w32s W) S) := ⟨HW.out.1, HW.out.2.1, HW.out.2.2.1, HW.out.2.2.2.1, HW.out.2.2.2.2.1, HW.out.2.2.2.2.2.drew⟩
      clear c0 c1 c2 c3 c4 c5 c6 c7 hT hW
      generalize wr.drew = wd at HW2 ⊢
      have c0 : wd.cell? ⟨g6 + 1, 0, none⟩ = some (.int .u32 (u S.a)) := HW2.out.2.2.2.2.1.cell 0
      have c1 : wd.cell? ⟨g6 + 1, 1, none⟩ = some (.int .u32 (u S.b)) := HW2.out.2.2.2.2.1.cell 1
      have c2 : wd.cell? ⟨g6 + 1, 2, none⟩ = some (.int .u32 (u S.c)) := HW2.out.2.2.2.2.1.cell 2
      have c3 : wd.cell? ⟨g6 + 1, 3, none⟩ = some (.int .u32 (u S.d)) := HW2.out.2.2.2.2.1.cell 3
      have c4 : wd.cell? ⟨g6 + 1, 4, none⟩ = some (.int .u32 (u S.e)) := HW2.out.2.2.2.2.1.cell 4
      have c5 : wd.cell? ⟨g6 + 1, 5, none⟩ = some (.int .u32 (u S.f)) := HW2.out.2.2.2.2.1.cell 5
      have c6 : wd.cell? ⟨g6 + 1, 6, none⟩ = some (.int .u32 (u S.g)) := HW2.out.2.2.2.2.1.cell 6
      have c7 : wd.cell? ⟨g6 + 1, 7, none⟩ = some (.int .u32 (u S.h)) := HW2.out.2.2.2.2.1.cell 7
      refine wp_region_still_lit (by kernel_rfl) (by kernel_rfl) ?_
      repeat still_step
      refine wpStill_step (fun K hK => ?_)
      go_simp
      refine ⟨_, (rturned_2 _ _).mono fun e w'' ⟨he, hw⟩ => ⟨he, hw.symm⟩, hK _ ?_⟩
      clear hK K
      repeat still_step
      refine wpStill_step (fun K hK => ?_)
      go_simp
      refine ⟨_, (rturned_13 _ _).mono fun e w'' ⟨he, hw⟩ => ⟨he, hw.symm⟩, hK _ ?_⟩
      clear hK K
      repeat still_step
      refine wpStill_step (fun K hK => ?_)
      go_simp
      refine ⟨_, (rturned_22 _ _).mono fun e w'' ⟨he, hw⟩ => ⟨he, hw.symm⟩, hK _ ?_⟩
      clear hK K
      repeat still_step
      refine wpStill_nil ?_
      have HW3 : Hid (RtkW w wd.drew g5 g6 (g6 + 1) (stC s) (w32s W) S) := ⟨HW2.out.1, HW2.out.2.1, HW2.out.2.2.1, HW2.out.2.2.2.1, HW2.out.2.2.2.2.1, HW2.out.2.2.2.2.2.drew⟩
      go_wp2_with (refine wpList_store_row rfl 41 (.tmp 7) (.tmp 107) rfl (g6 + 1) (stC (S.round kk ww)) rfl rfl 41 (stC S) HW3.out.2.2.2.2.1 hi8.out rfl (stC_all _) ?_)
      refine ⟨⟨k + 1, S.round kk ww, by omega, by go_num, ?_, ?_⟩, by simp [intOf]; omega⟩
      · show _ = (s.rounds K64 W k).round (K64[k]?.getD 0) (W[k]?.getD 0)
        rw [← HS.out, ← EK.out, ← EW.out]
      · exact ⟨HW3.out.1.rowFar (by omega) _, HW3.out.2.1.rowFar (by omega) _, HW3.out.2.2.1.rowFar (by omega) _, HW3.out.2.2.2.1.rowFar (by omega) _, HW3.out.2.2.2.2.1.row _, below_setRow HW3.out.2.2.2.2.2 (by omega) _⟩
    · have hk64 : 64 ≤ k := by omega
      obtain ⟨wo, rfl⟩ : ∃ wo : World, wo = wr := ⟨_, rfl⟩
      go_wp2
      go_loopw [13] (fun i wr => ∃ (j : Nat) (l : List W32), j ≤ 8 ∧ i = .int .i64 j ∧ Hid (l.length = 8) ∧ Hid (∀ i, i < 8 → l[i]?.getD 0 = if i < j then s.list[i]?.getD 0 + S.list[i]?.getD 0 else s.list[i]?.getD 0) ∧ Hid (Blk wr w.heap.size 41 (w32s l)) ∧ Hid (Blk wr (w.heap.size + 1) 41 #[.int .u32 0, .int .u32 0, .int .u32 0, .int .u32 0, .int .u32 0, .int .u32 0, .int .u32 0, .int .u32 0]) ∧ Hid (Blk wr (g6 + 1) 41 (w32s S.list)) ∧ Hid (Below w.heap.size w wr)) (fun i _ => 8 - (intOf i).toNat)
      case atStart => exact ⟨0, s.list, by omega, rfl, rfl, fun i hi => by rw [if_neg (by omega)], HW.out.1, HW.out.2.1, HW.out.2.2.2.2.1, HW.out.2.2.2.2.2⟩
      case round =>
        obtain ⟨j, l, hj, rfl, HL, HI, HB1, HB2, HB3, HBL⟩ := hrel
        by_cases hlt2 : j < 8
        · have c1 : wr.cell? ⟨w.heap.size, j, none⟩ = some (.int .u32 (u (l[j]?.getD 0))) := by rw [HB1.out.cell]; exact w32s_get l j (by have := HL.out; omega)
          have c2 : wr.cell? ⟨g6 + 1, j, none⟩ = some (.int .u32 (u (S.list[j]?.getD 0))) := by rw [HB3.out.cell]; exact w32s_get _ j (by show j < 8; exact hlt2)
          have f1 : wr.frozen? ⟨w.heap.size, j, none⟩ = false := HB1.out.frozen j
          obtain ⟨a, ea⟩ : ∃ v, v = l[j]?.getD 0 := ⟨_, rfl⟩
          obtain ⟨b, eb⟩ : ∃ v, v = S.list[j]?.getD 0 := ⟨_, rfl⟩
          rw [← ea] at c1
          rw [← eb] at c2
          have EA := hid ea; have EB := hid eb
          clear ea eb
          go_wp2
          go_region
          go_wp2
          go_roundw
          case rel =>
            have g1 := (HB1.out.setd j (.int .u32 (u (a + b)))).drew
            rw [w32s_set] at g1
            refine ⟨j + 1, l.set j (a + b), by omega, by go_num, by (show _ = _; simp [HL.out]), fun i hi => ?_, g1, (HB2.out.far (by simp) _).drew, (HB3.out.far (by simp; omega) _).drew, (HBL.out.setCell (by simp) _).drew⟩
            have h1 := HI.out i hi
            have h2 := HL.out
            by_cases hij : i = j
            · subst hij
              rw [List.getElem?_set_self (by omega), if_pos (by omega)]
              rw [if_neg (by omega)] at h1
              rw [← h1, ← EA.out, ← EB.out]; rfl
            · rw [List.getElem?_set_ne (by omega), h1]
              by_cases hij2 : i < j
              · rw [if_pos hij2, if_pos (by omega)]
              · rw [if_neg hij2, if_neg (by omega)]
          case measure => simp [intOf]; omega
        · have hll := HL.out
          have hsum : w32s l = stC M := by
            have hs := HS.out
            rw [show k = 64 by omega] at hs
            have hM := HM.out
            rw [← hs] at hM
            rw [hM]
            show w32s l = w32s (s.add S).list
            congr 1
            apply List.ext_getElem?
            intro i
            rcases Nat.lt_or_ge i 8 with h | h
            · have h1 := HI.out i h
              rw [if_pos (by omega)] at h1
              rw [List.getElem?_eq_getElem (by omega)] at h1 ⊢
              simp only [Option.getD_some] at h1
              rw [h1]
              match i, h with
              | 0, _ => rfl
              | 1, _ => rfl
              | 2, _ => rfl
              | 3, _ => rfl
              | 4, _ => rfl
              | 5, _ => rfl
              | 6, _ => rfl
              | 7, _ => rfl
            · rw [List.getElem?_eq_none (by omega), List.getElem?_eq_none (by show 8 ≤ i; exact h)]
          have hi8 : Hid ((Tryd.prog.info? 41).map (·.size) = some (stC M).size) := by show _ = _; kernel_rfl
          have HB1' : Hid (Blk wr w.heap.size 41 (stC M)) := by rw [← hsum]; exact HB1.out
          clear hsum hll
          go_wp2_with (first
            | (refine wpList_load_row rfl 41 (.tmp 2) rfl w.heap.size rfl 41 (stC M) (0, 0) _ HB1'.out Tryd.underlying41 rfl hi8.out ?_)
            | (refine wpList_store_row rfl 41 (.tmp 4) (.tmp 120) rfl (w.heap.size + 1) (stC M) rfl rfl 41 _ HB2.out hi8.out rfl (stC_all M) ?_))
          try go_frame
          refine bodyPost_ret (results_cell_row Tryd.results25 _ _ (w.heap.size + 1) 41 (stC M) (0, 0) _ rfl (HB2.out.row _) Tryd.underlying41 rfl hi8.out) rfl ?_
          exact ⟨rfl, below_setRow HBL.out (by omega) _⟩
end Go.Proofs.YtpponjmhgfikiaaDoor
