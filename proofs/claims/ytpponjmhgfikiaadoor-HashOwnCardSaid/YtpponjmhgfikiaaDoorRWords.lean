/-
  What is proved here: the document's own words of a block.
-/
import Derived.Test.YtpponjmhgfikiaaDoorSpread
import Derived.Test.YtpponjmhgfikiaaDoorVal2
namespace Go.Proofs.YtpponjmhgfikiaaDoor
open Go.ChangeShapes Go.WideShapes Go.ChangeAt Go.RowKit
set_option linter.unusedVariables false
attribute [local go_sem] u_xor u_and u_or u_add

theorem rturned_7 (x : W32) (w : World) : Calls Tryd.prog 33 #[.int .u32 (u x), .int .u32 7] w fun e w' => e = .returned (.int .u32 (u (rr x 7))) ∧ w = w' := rturned_any x 7 (by decide) (by decide) w
theorem rturned_18 (x : W32) (w : World) : Calls Tryd.prog 33 #[.int .u32 (u x), .int .u32 18] w fun e w' => e = .returned (.int .u32 (u (rr x 18))) ∧ w = w' := rturned_any x 18 (by decide) (by decide) w
theorem rturned_17 (x : W32) (w : World) : Calls Tryd.prog 33 #[.int .u32 (u x), .int .u32 17] w fun e w' => e = .returned (.int .u32 (u (rr x 17))) ∧ w = w' := rturned_any x 17 (by decide) (by decide) w
theorem rturned_19 (x : W32) (w : World) : Calls Tryd.prog 33 #[.int .u32 (u x), .int .u32 19] w fun e w' => e = .returned (.int .u32 (u (rr x 19))) ∧ w = w' := rturned_any x 19 (by decide) (by decide) w
theorem rturned_6 (x : W32) (w : World) : Calls Tryd.prog 33 #[.int .u32 (u x), .int .u32 6] w fun e w' => e = .returned (.int .u32 (u (rr x 6))) ∧ w = w' := rturned_any x 6 (by decide) (by decide) w
theorem rturned_11 (x : W32) (w : World) : Calls Tryd.prog 33 #[.int .u32 (u x), .int .u32 11] w fun e w' => e = .returned (.int .u32 (u (rr x 11))) ∧ w = w' := rturned_any x 11 (by decide) (by decide) w
theorem rturned_25 (x : W32) (w : World) : Calls Tryd.prog 33 #[.int .u32 (u x), .int .u32 25] w fun e w' => e = .returned (.int .u32 (u (rr x 25))) ∧ w = w' := rturned_any x 25 (by decide) (by decide) w
theorem rturned_2 (x : W32) (w : World) : Calls Tryd.prog 33 #[.int .u32 (u x), .int .u32 2] w fun e w' => e = .returned (.int .u32 (u (rr x 2))) ∧ w = w' := rturned_any x 2 (by decide) (by decide) w
theorem rturned_13 (x : W32) (w : World) : Calls Tryd.prog 33 #[.int .u32 (u x), .int .u32 13] w fun e w' => e = .returned (.int .u32 (u (rr x 13))) ∧ w = w' := rturned_any x 13 (by decide) (by decide) w
theorem rturned_22 (x : W32) (w : World) : Calls Tryd.prog 33 #[.int .u32 (u x), .int .u32 22] w fun e w' => e = .returned (.int .u32 (u (rr x 22))) ∧ w = w' := rturned_any x 22 (by decide) (by decide) w
theorem u_div8 (x : W32) : u x / (8 : Int) = u (x >>> 3) := by rw [show (8 : Int) = 2 ^ 3 from rfl, u_shr]
theorem u_div1024 (x : W32) : u x / (1024 : Int) = u (x >>> 10) := by rw [show (1024 : Int) = 2 ^ 10 from rfl, u_shr]
theorem u_mod (x : W32) : u x % 4294967296 = u x := by have := u_lo x; have := u_hi x; omega
theorem u_tdiv8 (x : W32) : (u x).tdiv 8 = u (x >>> 3) := by rw [Int.tdiv_eq_ediv_of_nonneg (u_lo x)]; exact u_div8 x
theorem u_tdiv1024 (x : W32) : (u x).tdiv 1024 = u (x >>> 10) := by rw [Int.tdiv_eq_ediv_of_nonneg (u_lo x)]; exact u_div1024 x
theorem u_wrap (x : W32) : IntKind.u32.wrap (u x) = u x := by have h := wrap_nat x; exact h
attribute [local go_sem] u_div8 u_div1024 u_mod u_tdiv8 u_tdiv1024 u_wrap

set_option maxRecDepth 5000 in
set_option maxHeartbeats 4000000 in
theorem rwords_any (A : Option Addr) (c : Nat) (bs : List Int) (w : World) (hr : Rp w none A bs) (hb : Bs bs) (hl : bs.length = 64) (hc : 64 ≤ c) :
    Calls Tryd.prog 31 #[.slice A 64 c] w fun e w' => e = .returned (.agg (w32s (ext 48 (blockWords bs)))) ∧ Below w.heap.size w w' := by
  obtain ⟨ad, rfl, hcell⟩ := hr.get (by omega)
  obtain ⟨Z, HZ, hZ0, hZs⟩ := zero_A64
  have HC := hid hcell; have HB := hid hb; have HL := hid hl
  clear hr hb hl hcell
  go_enter Tryd.func31, Tryd.ntmps31
  go_wp2
  have hB0 : Below w.heap.size w ((w.alloc (.cells Z 52)).alloc (.cells Z 52)) := ((Below.refl _ _).alloc (Nat.le_refl _) _).alloc (by simp) _
  have hK1 : Blk ((w.alloc (.cells Z 52)).alloc (.cells Z 52)) w.heap.size 52 Z := (Blk.new w 52 Z).alloc _
  have hK2 : Blk ((w.alloc (.cells Z 52)).alloc (.cells Z 52)) (w.heap.size + 1) 52 Z := by
    have := Blk.new (w.alloc (.cells Z 52)) 52 Z
    rwa [show (w.alloc (.cells Z 52)).heap.size = w.heap.size + 1 by simp] at this
  have B0 := hid hB0; have K1 := hid hK1; have K2 := hid hK2
  clear hB0 hK1 hK2
  go_loopw [4] (fun i wr => ∃ (k : Nat) (l : List W32), k ≤ 16 ∧ i = .int .i64 k ∧ l.length = 64 ∧ (∀ j, j < k → l[j]? = (blockWords bs)[j]?) ∧ Blk wr (w.heap.size + 1) 52 (w32s l) ∧ Blk wr w.heap.size 52 Z ∧ Below w.heap.size w wr) (fun i _ => 16 - (intOf i).toNat)
  case atStart => exact ⟨0, List.replicate 64 0#32, by omega, rfl, by simp, fun j hj => by omega, by rw [← HZ.out]; exact K2.out, K1.out, B0.out⟩
  case round =>
    obtain ⟨k, l, hk, rfl, hll, hlj, hb1, hb2, hbel⟩ := hrel
    have HLL := hid hll; have HLJ := hid hlj; have HB1 := hid hb1; have HB2 := hid hb2; have HBL := hid hbel
    clear hll hlj hb1 hb2 hbel
    by_cases hlt : k < 16
    · have hcell : ∀ j, j < 64 → wr.cell? (ad.add j) = some (.int .u8 (bs[j]?.getD 0)) := by
        intro j hj
        have h := HC.out j (by have := HL.out; omega)
        exact (World.cell?_of_block (w := w) (HBL.out.block _ (block_lt_of_cell h))).trans h
      have ck : wr.cell? ⟨w.heap.size + 1, k, none⟩ = some (.int .u32 (u (l[k]?.getD 0))) := by rw [HB1.out.cell]; exact w32s_get l k (by have := HLL.out; omega)
      have fk : wr.frozen? ⟨w.heap.size + 1, k, none⟩ = false := HB1.out.frozen k
      obtain ⟨x, hx⟩ : ∃ x, x = wd (be4 (bs[4 * k]?.getD 0) (bs[4 * k + 1]?.getD 0) (bs[4 * k + 2]?.getD 0) (bs[4 * k + 3]?.getD 0)) := ⟨_, rfl⟩
      have hval : u x = val ((bs.drop (4 * k)).take 4) := by
        have y0 := HB.out.at (4 * k)
        have y1 := HB.out.at (4 * k + 1)
        have y2 := HB.out.at (4 * k + 2)
        have y3 := HB.out.at (4 * k + 3)
        rw [hx, val4 bs k (by have := HL.out; omega), u_wd _ (by unfold be4; omega) (by unfold be4; omega)]
      have hlen4 : ((bs.drop (4 * k)).take 4).length = 4 := by have := HL.out; rw [List.length_take, List.length_drop]; omega
      have hrp : Rp wr none (some (ad.add (4 * k))) ((bs.drop (4 * k)).take 4) := by
        intro _
        refine ⟨_, rfl, (fun ⟨a, e, _⟩ => by cases e), fun j hj => ?_⟩
        rw [hlen4] at hj
        rw [add_add, hcell _ (by omega), List.getElem?_take, if_pos (by omega), List.getElem?_drop]
      have hV := Value_any (some (ad.add (4 * k))) (c - 4 * k) ((bs.drop (4 * k)).take 4) wr hrp ((HB.out.drop _).take _) (by omega)
      rw [hlen4, ← hval] at hV
      have HV := hid hV
      have HX := hid hx
      clear hcell hV hlen4 hval hrp hx
      go_wp2_with (go_at_call 37; refine HV.out.mono ?_; rintro e w1 ⟨rfl, rfl⟩)
      go_roundw
      case rel =>
        have hll := HLL.out
        have g1 := HB1.out.setd k (.int .u32 (u x))
        have g2 := HB2.out.far (p := ⟨w.heap.size + 1, k, none⟩) (by simp) (.int .u32 (u x))
        rw [w32s_set] at g1
        refine ⟨k + 1, l.set k x, by omega, by go_num, by simp [hll], fun j hj => ?_, g1, g2, HBL.out.setCell (by simp) _⟩
        by_cases hjk : j = k
        · subst hjk
          rw [List.getElem?_set_self (by omega), bw_get bs j hlt, HX.out]
        · rw [List.getElem?_set_ne (by omega)]
          exact HLJ.out j (by omega)
      case measure => simp [intOf]; omega
    · have hk16 : 16 ≤ k := by omega
      go_wp2
      obtain ⟨wo, rfl⟩ : ∃ wo : World, wo = wr := ⟨_, rfl⟩
      have HLJ0 : Hid (∀ j, j < 16 → l[j]? = (ext 0 (blockWords bs))[j]?) := fun j hj => HLJ.out j (by omega)
      go_loopw [5] (fun i wr => ∃ (k : Nat) (l : List W32), 16 ≤ k ∧ k ≤ 64 ∧ i = .int .i64 k ∧ l.length = 64 ∧ (∀ j, j < k → l[j]? = (ext (k - 16) (blockWords bs))[j]?) ∧ Blk wr (w.heap.size + 1) 52 (w32s l) ∧ Blk wr w.heap.size 52 Z ∧ Below w.heap.size w wr) (fun i _ => 64 - (intOf i).toNat)
      case atStart => exact ⟨16, l, by omega, by omega, rfl, HLL.out, HLJ0.out, HB1.out, HB2.out, HBL.out⟩
      case round =>
        clear HLL HLJ HLJ0 HB1 HB2 HBL
        obtain ⟨k, l, hk1, hk2, rfl, hll, hlj, hb1, hb2, hbel⟩ := hrel
        have HLL := hid hll; have HLJ := hid hlj; have HB1 := hid hb1; have HB2 := hid hb2; have HBL := hid hbel
        clear hll hlj hb1 hb2 hbel
        by_cases hlt : k < 64
        · have hget : ∀ j, j < 64 → wr.cell? ⟨w.heap.size + 1, j, none⟩ = some (.int .u32 (u (l[j]?.getD 0))) := fun j hj => by
            rw [HB1.out.cell]; exact w32s_get l j (by have := HLL.out; omega)
          have ck := hget k hlt
          have c0 := hget (k - 16) (by omega)
          have c1 := hget (k - 15) (by omega)
          have c2 := hget (k - 7) (by omega)
          have c3 := hget (k - 2) (by omega)
          have fk : wr.frozen? ⟨w.heap.size + 1, k, none⟩ = false := HB1.out.frozen k
          obtain ⟨x0, e0⟩ : ∃ v, v = l[k - 16]?.getD 0 := ⟨_, rfl⟩
          obtain ⟨x1, e1⟩ : ∃ v, v = l[k - 15]?.getD 0 := ⟨_, rfl⟩
          obtain ⟨x2, e2⟩ : ∃ v, v = l[k - 7]?.getD 0 := ⟨_, rfl⟩
          obtain ⟨x3, e3⟩ : ∃ v, v = l[k - 2]?.getD 0 := ⟨_, rfl⟩
          obtain ⟨xk, ek⟩ : ∃ v, v = l[k]?.getD 0 := ⟨_, rfl⟩
          rw [← e0] at c0
          rw [← e1] at c1
          rw [← e2] at c2
          rw [← e3] at c3
          rw [← ek] at ck
          have E0 := hid e0; have E1 := hid e1; have E2 := hid e2; have E3 := hid e3
          clear hget e0 e1 e2 e3 ek
          go_wp2
          have q16a : (16 : Int) ≤ (k : Int) := by omega
          have q16d : (k : Int) - 16 < 64 := by omega
          have q16b : IntKind.i64.wrap ((k : Int) - 16) = (k : Int) - 16 := IntWalk.i64_in _ (by omega)
          have q16c : ((k : Int) - 16).toNat = k - 16 := by omega
          have q15a : (15 : Int) ≤ (k : Int) := by omega
          have q15d : (k : Int) - 15 < 64 := by omega
          have q15b : IntKind.i64.wrap ((k : Int) - 15) = (k : Int) - 15 := IntWalk.i64_in _ (by omega)
          have q15c : ((k : Int) - 15).toNat = k - 15 := by omega
          have q7a : (7 : Int) ≤ (k : Int) := by omega
          have q7d : (k : Int) - 7 < 64 := by omega
          have q7b : IntKind.i64.wrap ((k : Int) - 7) = (k : Int) - 7 := IntWalk.i64_in _ (by omega)
          have q7c : ((k : Int) - 7).toNat = k - 7 := by omega
          have q2a : (2 : Int) ≤ (k : Int) := by omega
          have q2d : (k : Int) - 2 < 64 := by omega
          have q2b : IntKind.i64.wrap ((k : Int) - 2) = (k : Int) - 2 := IntWalk.i64_in _ (by omega)
          have q2c : ((k : Int) - 2).toNat = k - 2 := by omega
          refine wp_region_still_tail 29 (by kernel_rfl) (by kernel_rfl) ?_
          simp only [List.take_succ_cons, List.take_zero, List.drop_succ_cons, List.drop_zero]
          repeat still_step
          refine wpStill_step (fun K hK => ?_)
          go_simp
          refine ⟨_, (rturned_7 _ _).mono fun e w'' ⟨he, hw⟩ => ⟨he, hw.symm⟩, hK _ ?_⟩
          clear hK K
          repeat still_step
          refine wpStill_step (fun K hK => ?_)
          go_simp
          refine ⟨_, (rturned_18 _ _).mono fun e w'' ⟨he, hw⟩ => ⟨he, hw.symm⟩, hK _ ?_⟩
          clear hK K
          repeat still_step
          refine wpStill_step (fun K hK => ?_)
          go_simp
          refine ⟨_, (rturned_17 _ _).mono fun e w'' ⟨he, hw⟩ => ⟨he, hw.symm⟩, hK _ ?_⟩
          clear hK K
          repeat still_step
          refine wpStill_step (fun K hK => ?_)
          go_simp
          refine ⟨_, (rturned_19 _ _).mono fun e w'' ⟨he, hw⟩ => ⟨he, hw.symm⟩, hK _ ?_⟩
          clear hK K
          repeat still_step
          clear q16a q16b q16c q16d q15a q15b q15c q15d q7a q7b q7c q7d q2a q2b q2c q2d
          refine wpStill_nil ?_
          change wpList _ _ _ _ _ wr.drew
          go_wp2
          go_roundw
          case rel =>
            have hll := HLL.out
            have g1 := (HB1.out.setd k (.int .u32 (u (x0 + lo0 x1 + x2 + lo1 x3)))).drew
            have g2 := (HB2.out.far (p := ⟨w.heap.size + 1, k, none⟩) (by simp) (.int .u32 (u (x0 + lo0 x1 + x2 + lo1 x3)))).drew
            rw [w32s_set] at g1
            have hbw : (blockWords bs).length = 16 := by simp [blockWords]
            refine ⟨k + 1, l.set k (x0 + lo0 x1 + x2 + lo1 x3), by omega, by omega, by go_num, by simp [hll], fun j hj => ?_, g1, g2, (HBL.out.setCell (by simp) _).drew⟩
            have e16 : k + 1 - 16 = (k - 16) + 1 := by omega
            rw [e16]
            by_cases hjk : j = k
            · subst hjk
              rw [List.getElem?_set_self (by omega)]
              rw [ext_at j _ (by omega) hbw, E0.out, E1.out, E2.out, E3.out, HLJ.out _ (by omega), HLJ.out _ (by omega), HLJ.out _ (by omega), HLJ.out _ (by omega)]
            · rw [List.getElem?_set_ne (by omega), ext_old _ _ _ (by rw [hbw]; omega)]
              exact HLJ.out j (by omega)
          case measure => simp [intOf]; omega
        · have hk64 : 64 ≤ k := by omega
          have hi64 : Hid ((Tryd.prog.info? 52).map (·.size) = some (w32s l).size) := by
            show _ = _
            rw [w32s_size, HLL.out]; exact info_A64
          have hz64 : Hid (Z.size = (w32s l).size) := by
            show _ = _
            rw [HZ.out, w32s_size, w32s_size, HLL.out]; simp
          go_wp2_with (first
            | (refine wpList_load_row rfl 52 (.tmp 3) rfl (w.heap.size + 1) rfl 52 (w32s l) (0, 0) _ HB1.out Tryd.underlying52 rfl hi64.out ?_)
            | (refine wpList_store_row rfl 52 (.tmp 2) (.tmp 64) rfl w.heap.size (w32s l) rfl rfl 52 Z HB2.out hi64.out hz64.out (w32s_one l) ?_))
          have hfin : l = ext 48 (blockWords bs) := by
            have hll := HLL.out
            have hbw : (blockWords bs).length = 16 := by simp [blockWords]
            apply List.ext_getElem?
            intro j
            rcases Nat.lt_or_ge j 64 with h | h
            · have := HLJ.out j (by omega)
              rw [show k - 16 = 48 by omega] at this
              exact this
            · rw [List.getElem?_eq_none (by omega), List.getElem?_eq_none (by rw [ext_length, hbw]; omega)]
          refine bodyPost_ret (results_cell_row Tryd.results31 _ _ w.heap.size 52 (w32s l) (0, 0) _ rfl (HB2.out.row _) Tryd.underlying52 rfl hi64.out) rfl ?_
          rw [hfin]
          exact ⟨rfl, below_setRow HBL.out (Nat.le_refl _) _⟩
end Go.Proofs.YtpponjmhgfikiaaDoor
