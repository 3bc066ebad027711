/-
  What is proved here: what the code makes of the words of a block.
-/
import Derived.Test.YtpponjmhgfikiaaDoorBase
import Derived.StillTailTactics
import Derived.RegionTactic
import Derived.LoopTactic
import Derived.Outline
namespace Go.Proofs.YtpponjmhgfikiaaDoor
open Go.ChangeShapes Go.WideShapes Go.ChangeAt Go.RowKit
set_option linter.unusedVariables false

theorem info_A64 : (Tryd.prog.info? 52).map (·.size) = some 64 := by kernel_rfl
theorem zero_A64 : ∃ Z : Array Value, Hid (Z = w32s (List.replicate 64 0#32)) ∧ (¬ Z = #[]) ∧ ∀ w : World, Sem.run Tryd.prog (zeroValue 52) w = Result.ok (.agg Z) w := by
  refine ⟨(List.replicate 64 (.int .u32 0)).toArray, ?_, ?_, fun w => by kernel_rfl⟩
  · show _ = _
    unfold w32s
    rw [List.map_replicate]; rfl
  · intro h
    have := congrArg Array.size h
    simp at this

theorem add_step (a : Addr) (k n : Nat) (h : 0 < n) : (⟨(a.add k).block, (a.add k).off + n, none⟩ : Addr) = a.add (k + n) := by
  rw [← add_add]
  generalize a.add k = b
  unfold Addr.add
  rw [if_neg (by omega)]
theorem bw_get (bs : List Int) (i : Nat) (h : i < 16) : (blockWords bs)[i]? = some (wd (be4 (bs[4 * i]?.getD 0) (bs[4 * i + 1]?.getD 0) (bs[4 * i + 2]?.getD 0) (bs[4 * i + 3]?.getD 0))) := by
  simp [blockWords, h]

set_option maxRecDepth 5000 in
set_option maxHeartbeats 1000000 in
theorem spread_any (A : Option Addr) (c : Nat) (bs : List Int) (w : World) (hr : Rp w none A bs) (hb : Bs bs) (hl : bs.length = 64) (hc : 64 ≤ c) :
    Calls Tryd.prog 28 #[.slice A 64 c] w fun e w' => e = .returned (.agg (w32s (ext 48 (blockWords bs)))) ∧ Below w.heap.size w w' := by
  obtain ⟨ad, rfl, hcell⟩ := hr.get (by omega)
  obtain ⟨Z, HZ, hZ0, hZs⟩ := zero_A64
  have HC := hid hcell; have HB := hid hb; have HL := hid hl
  clear hr hb hl hcell
  go_enter Tryd.func28, Tryd.ntmps28
  go_wp2
  have hB0 : Below w.heap.size w ((w.alloc (.cells Z 52)).alloc (.cells Z 52)) := ((Below.refl _ _).alloc (Nat.le_refl _) _).alloc (by simp) _
  have hK1 : Blk ((w.alloc (.cells Z 52)).alloc (.cells Z 52)) w.heap.size 52 Z := (Blk.new w 52 Z).alloc _
  have hK2 : Blk ((w.alloc (.cells Z 52)).alloc (.cells Z 52)) (w.heap.size + 1) 52 Z := by
    have := Blk.new (w.alloc (.cells Z 52)) 52 Z
    rwa [show (w.alloc (.cells Z 52)).heap.size = w.heap.size + 1 by simp] at this
  have B0 := hid hB0; have K1 := hid hK1; have K2 := hid hK2
  clear hB0 hK1 hK2
  go_loopw [7] (fun i wr => ∃ (k : Nat) (l : List W32), k ≤ 16 ∧ i = .int .i64 k ∧ l.length = 64 ∧ (∀ j, j < k → l[j]? = (blockWords bs)[j]?) ∧ Blk wr (w.heap.size + 1) 52 (w32s l) ∧ Blk wr w.heap.size 52 Z ∧ Below w.heap.size w wr) (fun i _ => 16 - (intOf i).toNat)
  case atStart => exact ⟨0, List.replicate 64 0#32, by omega, rfl, by simp, fun j hj => by omega, by rw [← HZ.out]; exact K2.out, K1.out, B0.out⟩
  case round =>
    obtain ⟨k, l, hk, rfl, hll, hlj, hb1, hb2, hbel⟩ := hrel
    have HLL := hid hll; have HLJ := hid hlj; have HB1 := hid hb1; have HB2 := hid hb2; have HBL := hid hbel
    clear hll hlj hb1 hb2 hbel
    by_cases hlt : k < 16
    · have hcell : ∀ j, j < 64 → wr.cell? (ad.add j) = some (.int .u8 (bs[j]?.getD 0)) := by
        intro j hj
        have h := HC.out j (by have := HL.out; omega)
        exact (World.cell?_of_block (w := w) (HBL.out.block _ (block_lt_of_cell h))).trans h
      have c0 := hcell (4 * k) (by omega)
      have c1 := hcell (4 * k + 1) (by omega)
      have c2 := hcell (4 * k + 2) (by omega)
      have c3 := hcell (4 * k + 3) (by omega)
      have ck : wr.cell? ⟨w.heap.size + 1, k, none⟩ = some (.int .u32 (u (l[k]?.getD 0))) := by rw [HB1.out.cell]; exact w32s_get l k (by have := HLL.out; omega)
      have fk : wr.frozen? ⟨w.heap.size + 1, k, none⟩ = false := HB1.out.frozen k
      have y0 := HB.out.at (4 * k)
      have y1 := HB.out.at (4 * k + 1)
      have y2 := HB.out.at (4 * k + 2)
      have y3 := HB.out.at (4 * k + 3)
      rw [← add_step ad (4 * k) 1 (by decide)] at c1
      rw [← add_step ad (4 * k) 2 (by decide)] at c2
      rw [← add_step ad (4 * k) 3 (by decide)] at c3
      obtain ⟨v0, e0⟩ : ∃ v, v = bs[4 * k]?.getD 0 := ⟨_, rfl⟩
      obtain ⟨v1, e1⟩ : ∃ v, v = bs[4 * k + 1]?.getD 0 := ⟨_, rfl⟩
      obtain ⟨v2, e2⟩ : ∃ v, v = bs[4 * k + 2]?.getD 0 := ⟨_, rfl⟩
      obtain ⟨v3, e3⟩ : ∃ v, v = bs[4 * k + 3]?.getD 0 := ⟨_, rfl⟩
      rw [← e0] at c0 y0
      rw [← e1] at c1 y1
      rw [← e2] at c2 y2
      rw [← e3] at c3 y3
      have E0 := hid e0; have E1 := hid e1; have E2 := hid e2; have E3 := hid e3
      clear hcell e0 e1 e2 e3
      go_wp2
      go_region
      rw [or4 v0 v1 v2 v3 y0 y1 y2 y3]
      go_wp2
      go_roundw
      case rel =>
        have hll := HLL.out
        have g1 := (HB1.out.setd k (.int .u32 (u (wd (be4 v0 v1 v2 v3))))).drew
        have g2 := (HB2.out.far (p := ⟨w.heap.size + 1, k, none⟩) (by simp) (.int .u32 (u (wd (be4 v0 v1 v2 v3))))).drew
        rw [w32s_set] at g1
        refine ⟨k + 1, l.set k (wd (be4 v0 v1 v2 v3)), by omega, by go_num, by simp [hll], fun j hj => ?_, g1, g2, (HBL.out.setCell (by simp) _).drew⟩
        by_cases hjk : j = k
        · subst hjk
          rw [List.getElem?_set_self (by omega), bw_get bs j hlt, E0.out, E1.out, E2.out, E3.out]
        · rw [List.getElem?_set_ne (by omega)]
          exact HLJ.out j (by omega)
      case measure => simp [intOf]; omega
    · have hk16 : 16 ≤ k := by omega
      go_wp2
      obtain ⟨wo, rfl⟩ : ∃ wo : World, wo = wr := ⟨_, rfl⟩
      have HLJ0 : Hid (∀ j, j < 16 → l[j]? = (ext 0 (blockWords bs))[j]?) := fun j hj => HLJ.out j (by omega)
      go_loopw [6] (fun i wr => ∃ (k : Nat) (l : List W32), 16 ≤ k ∧ k ≤ 64 ∧ i = .int .i64 k ∧ l.length = 64 ∧ (∀ j, j < k → l[j]? = (ext (k - 16) (blockWords bs))[j]?) ∧ Blk wr (w.heap.size + 1) 52 (w32s l) ∧ Blk wr w.heap.size 52 Z ∧ Below w.heap.size w wr) (fun i _ => 64 - (intOf i).toNat)
      case atStart => exact ⟨16, l, by omega, by omega, rfl, HLL.out, HLJ0.out, HB1.out, HB2.out, HBL.out⟩
      case round =>
        clear HLL HLJ HLJ0 HB1 HB2 HBL
        obtain ⟨k, l, hk1, hk2, rfl, hll, hlj, hb1, hb2, hbel⟩ := hrel
        have HLL := hid hll; have HLJ := hid hlj; have HB1 := hid hb1; have HB2 := hid hb2; have HBL := hid hbel
        clear hll hlj hb1 hb2 hbel
        by_cases hlt : k < 64
        · have hget : ∀ j, j < 64 → wr.cell? ⟨w.heap.size + 1, j, none⟩ = some (.int .u32 (u (l[j]?.getD 0))) := fun j hj => by
            rw [HB1.out.cell]; exact w32s_get l j (by have := HLL.out; omega)
          have ck := hget k hlt
          have c0 := hget (k - 16) (by omega)
          have c1 := hget (k - 15) (by omega)
          have c2 := hget (k - 7) (by omega)
          have c3 := hget (k - 2) (by omega)
          have fk : wr.frozen? ⟨w.heap.size + 1, k, none⟩ = false := HB1.out.frozen k
          obtain ⟨x0, e0⟩ : ∃ v, v = l[k - 16]?.getD 0 := ⟨_, rfl⟩
          obtain ⟨x1, e1⟩ : ∃ v, v = l[k - 15]?.getD 0 := ⟨_, rfl⟩
          obtain ⟨x2, e2⟩ : ∃ v, v = l[k - 7]?.getD 0 := ⟨_, rfl⟩
          obtain ⟨x3, e3⟩ : ∃ v, v = l[k - 2]?.getD 0 := ⟨_, rfl⟩
          obtain ⟨xk, ek⟩ : ∃ v, v = l[k]?.getD 0 := ⟨_, rfl⟩
          rw [← e0] at c0
          rw [← e1] at c1
          rw [← e2] at c2
          rw [← e3] at c3
          rw [← ek] at ck
          have E0 := hid e0; have E1 := hid e1; have E2 := hid e2; have E3 := hid e3
          clear hget e0 e1 e2 e3 ek
          go_wp2
          have q16a : (16 : Int) ≤ (k : Int) := by omega
          have q16d : (k : Int) - 16 < 64 := by omega
          have q16b : IntKind.i64.wrap ((k : Int) - 16) = (k : Int) - 16 := IntWalk.i64_in _ (by omega)
          have q16c : ((k : Int) - 16).toNat = k - 16 := by omega
          have q15a : (15 : Int) ≤ (k : Int) := by omega
          have q15d : (k : Int) - 15 < 64 := by omega
          have q15b : IntKind.i64.wrap ((k : Int) - 15) = (k : Int) - 15 := IntWalk.i64_in _ (by omega)
          have q15c : ((k : Int) - 15).toNat = k - 15 := by omega
          have q7a : (7 : Int) ≤ (k : Int) := by omega
          have q7d : (k : Int) - 7 < 64 := by omega
          have q7b : IntKind.i64.wrap ((k : Int) - 7) = (k : Int) - 7 := IntWalk.i64_in _ (by omega)
          have q7c : ((k : Int) - 7).toNat = k - 7 := by omega
          have q2a : (2 : Int) ≤ (k : Int) := by omega
          have q2d : (k : Int) - 2 < 64 := by omega
          have q2b : IntKind.i64.wrap ((k : Int) - 2) = (k : Int) - 2 := IntWalk.i64_in _ (by omega)
          have q2c : ((k : Int) - 2).toNat = k - 2 := by omega
          refine wp_region_still_tail 23 (by kernel_rfl) (by kernel_rfl) ?_
          simp only [List.take_succ_cons, List.take_zero, List.drop_succ_cons, List.drop_zero]
          repeat (first
            | still_step
            | (refine wpStill_step (fun K hK => ?_)
               go_simp
               with_reducible refine ⟨_, (sLow_any _ _).mono fun e w'' ⟨he, hw⟩ => ⟨he, hw.symm⟩, hK _ ?_⟩
               clear hK K)
            | (refine wpStill_step (fun K hK => ?_)
               go_simp
               with_reducible refine ⟨_, (sHigh_any _ _).mono fun e w'' ⟨he, hw⟩ => ⟨he, hw.symm⟩, hK _ ?_⟩
               clear hK K))
          clear q16a q16b q16c q16d q15a q15b q15c q15d q7a q7b q7c q7d q2a q2b q2c q2d
          refine wpStill_nil ?_
          change wpList _ _ _ _ _ wr.drew
          go_wp2
          rw [u_add4]
          go_roundw
          case rel =>
            have hll := HLL.out
            have g1 := (HB1.out.setd k (.int .u32 (u (x0 + lo0 x1 + x2 + lo1 x3)))).drew
            have g2 := (HB2.out.far (p := ⟨w.heap.size + 1, k, none⟩) (by simp) (.int .u32 (u (x0 + lo0 x1 + x2 + lo1 x3)))).drew
            rw [w32s_set] at g1
            have hbw : (blockWords bs).length = 16 := by simp [blockWords]
            refine ⟨k + 1, l.set k (x0 + lo0 x1 + x2 + lo1 x3), by omega, by omega, by go_num, by simp [hll], fun j hj => ?_, g1, g2, (HBL.out.setCell (by simp) _).drew⟩
            have e16 : k + 1 - 16 = (k - 16) + 1 := by omega
            rw [e16]
            by_cases hjk : j = k
            · subst hjk
              rw [List.getElem?_set_self (by omega)]
              rw [ext_at j _ (by omega) hbw, E0.out, E1.out, E2.out, E3.out, HLJ.out _ (by omega), HLJ.out _ (by omega), HLJ.out _ (by omega), HLJ.out _ (by omega)]
            · rw [List.getElem?_set_ne (by omega), ext_old _ _ _ (by rw [hbw]; omega)]
              exact HLJ.out j (by omega)
          case measure => simp [intOf]; omega
        · have hk64 : 64 ≤ k := by omega
          have hi64 : Hid ((Tryd.prog.info? 52).map (·.size) = some (w32s l).size) := by
            show _ = _
            rw [w32s_size, HLL.out]; exact info_A64
          have hz64 : Hid (Z.size = (w32s l).size) := by
            show _ = _
            rw [HZ.out, w32s_size, w32s_size, HLL.out]; simp
          go_wp2_with (first
            | (refine wpList_load_row rfl 52 (.tmp 3) rfl (w.heap.size + 1) rfl 52 (w32s l) (0, 0) _ HB1.out Tryd.underlying52 rfl hi64.out ?_)
            | (refine wpList_store_row rfl 52 (.tmp 2) (.tmp 69) rfl w.heap.size (w32s l) rfl rfl 52 Z HB2.out hi64.out hz64.out (w32s_one l) ?_))
          have hfin : l = ext 48 (blockWords bs) := by
            have hll := HLL.out
            have hbw : (blockWords bs).length = 16 := by simp [blockWords]
            apply List.ext_getElem?
            intro j
            rcases Nat.lt_or_ge j 64 with h | h
            · have := HLJ.out j (by omega)
              rw [show k - 16 = 48 by omega] at this
              exact this
            · rw [List.getElem?_eq_none (by omega), List.getElem?_eq_none (by rw [ext_length, hbw]; omega)]
          refine bodyPost_ret (results_cell_row Tryd.results28 _ _ w.heap.size 52 (w32s l) (0, 0) _ rfl (HB2.out.row _) Tryd.underlying52 rfl hi64.out) rfl ?_
          rw [hfin]
          exact ⟨rfl, below_setRow HBL.out (Nat.le_refl _) _⟩
end Go.Proofs.YtpponjmhgfikiaaDoor
