/-
  What is proved here: what 'Out' answers of a writer.
-/
import Derived.Test.YtjdojnbpchommaaOps
import Derived.Laws.CopyOwn
namespace Go.Proofs.Ytjdojnbpchommaa
open Go.ChangeShapes Go.WideShapes Go.ChangeAt Go.RowKit
set_option linter.unusedVariables false
set_option maxRecDepth 20000

theorem Out_nil (w : World) : Calls Try.prog 42 #[.pointer none] w fun e w' => e = .returned (.tuple #[.slice none 0 0, .int .i64 1]) ∧ w = w' := by
  go_enter Try.func42, Try.ntmps42
  go_wp2
  go_ret2
  exact ⟨rfl, rfl⟩

theorem Out_sp (b : Nat) (w : World) (h : WSp w b) : Calls Try.prog 42 #[.pointer (some ⟨b, 0, none⟩)] w fun e w' => e = .returned (.tuple #[.slice none 0 0, .int .i64 4]) ∧ w = w' := by
  obtain ⟨c, h1, h2, h3⟩ := h
  have h4 : w.cell? ⟨b, 258, none⟩ = some (.bool true) := by rw [h1.cell]; exact h3
  clear h1 h2 h3
  go_enter Try.func42, Try.ntmps42
  go_wp2
  go_ret2
  exact ⟨rfl, rfl⟩

set_option maxHeartbeats 1000000 in
theorem Out_ok (b : Nat) (bs : List Int) (w : World) (h : WAt w b bs) (hl : bs.length < 1000000000000) :
    Calls Try.prog 42 #[.pointer (some ⟨b, 0, none⟩)] w fun e w' => e = .returned (.tuple #[.slice (some ⟨w.heap.size, 0, none⟩) bs.length bs.length, .int .i64 0]) ∧
      Blk w' w.heap.size 5 (u8s bs).toArray ∧ Below w.heap.size w w' := by
  obtain ⟨c, full, b1, b2, b3, b4, b5, b6, b7, b8⟩ := h
  obtain ⟨n, hn⟩ : ∃ n, n = bs.length := ⟨_, rfl⟩
  rw [← hn] at hl b4 b7 b8 ⊢
  have c0 : w.cell? ⟨b, 0, none⟩ = some (.pointer full) := by rw [b1.cell]; exact b3
  have c257 : w.cell? ⟨b, 257, none⟩ = some (.int .i64 n) := by rw [b1.cell]; exact b4
  have c258 : w.cell? ⟨b, 258, none⟩ = some (.bool false) := by rw [b1.cell]; exact b5
  have hmk := make_bytes n hl
  obtain ⟨N, hN, hN0, hN1, hNs⟩ := size_arr
  have HN := hid hn; have H2 := hid b2; have H3 := hid b3; have H6 := hid b6; have H7 := hid b7; have H8 := hid b8; have HB := hid b1
  have hblt := b1.lt
  clear hn b2 b3 b4 b5 b6 b7 b8 b1
  obtain ⟨m, hm⟩ : ∃ m, m = n % 256 := ⟨_, rfl⟩
  have hm2 : m < 256 := by omega
  have hm1 : (n : Int) % 256 = m := by omega
  have hmn : m ≤ n := by omega
  have HM := hid hm
  clear hm
  obtain ⟨k0, hk⟩ : ∃ k0, k0 = n - m := ⟨_, rfl⟩
  have hk0 : (n : Int) - (m : Int) = (k0 : Int) := by omega
  have hk0n : k0 ≤ n := by omega
  have HK := hid hk
  clear hk
  go_enter Try.func42, Try.ntmps42
  go_wp2
  go_region
  go_wp2
  have G1 : Blk (w.alloc (Obj.cells (Array.replicate n (Value.int .u8 0)) 5)).drew w.heap.size 5 (List.replicate n (Value.int .u8 0)).toArray := by
    rw [List.toArray_replicate]; exact (Blk.new w 5 _).drew
  have B1 : Below w.heap.size w (w.alloc (Obj.cells (Array.replicate n (Value.int .u8 0)) 5)).drew := ((Below.refl _ _).alloc (Nat.le_refl _) _).drew
  have Hb1 := (HB.out.alloc (Obj.cells (Array.replicate n (Value.int .u8 0)) 5)).drew
  generalize (w.alloc (Obj.cells (Array.replicate n (Value.int .u8 0)) 5)).drew = W1 at G1 B1 Hb1 ⊢
  have hcs : (u8s (bs.drop k0)).length = Nat.min 256 (n - k0) := by
    have h1 := HK.out; have h2 := HN.out
    rw [u8s_length, List.length_drop, ← h2]
    show _ = min 256 (n - k0)
    omega
  have HG := hid G1.drew
  have HCS := hid hcs
  have HP : Hid (0 < (u8s (bs.drop k0)).length → (if n = k0 then some (⟨w.heap.size, 0, none⟩ : Addr) else some ⟨w.heap.size, k0, none⟩) = some ⟨w.heap.size, k0, none⟩ ∧ ∃ ad, some (⟨b, 1, none⟩ : Addr) = some ad ∧ ∀ j v, (u8s (bs.drop k0))[j]? = some v → W1.drew.cell? (ad.add j) = some v) := by
    intro hpos
    have h1 := HK.out; have h2 := HN.out; have h3 := HM.out
    rw [u8s_length, List.length_drop, ← h2] at hpos
    refine ⟨by rw [if_neg (by omega)], ⟨b, 1, none⟩, rfl, fun j v hv => ?_⟩
    have hj : j < (u8s (bs.drop k0)).length := by
      rcases Nat.lt_or_ge j (u8s (bs.drop k0)).length with h | h
      · exact h
      · rw [List.getElem?_eq_none h] at hv; cases hv
    rw [u8s_length, List.length_drop, ← h2] at hj
    rw [u8s_get _ _ (by rw [List.length_drop, ← h2]; exact hj), List.getElem?_drop] at hv
    have e : (⟨b, 1, none⟩ : Addr).add j = ⟨b, 1 + j, none⟩ := by unfold Addr.add; split <;> simp_all
    have h7 := H7.out j (by omega)
    rw [e, Hb1.drew.cell, h7, ← hv]
    have : k0 + j = n - n % 256 + j := by omega
    rw [this]
  have HF : Hid (k0 + (u8s (bs.drop k0)).length ≤ (List.replicate n (Value.int .u8 0)).length) := by
    show _ ≤ _
    have h2 := HN.out
    rw [u8s_length, List.length_drop, List.length_replicate, ← h2]; omega
  have B2 := B1.drew
  clear hcs G1
  go_region_law ((with_reducible refine step_copy_splice (d := .tmp 30) (s := .tmp 34) (dT := 31) (sT := 31) (elem := 5) (dp := if n = k0 then some (⟨w.heap.size, 0, none⟩ : Addr) else some ⟨w.heap.size, k0, none⟩) (sp := some (⟨b, 1, none⟩ : Addr)) (dLen := n - k0) (dCap := n - k0) (sLen := 256) (sCap := 256) (g := w.heap.size) (off := k0) (cur := List.replicate n (Value.int .u8 0)) (t := 5) (cs := u8s (bs.drop k0)) (B := w.heap.size) (w0 := w) ?_ ?_ ?_ ?_ ?_ ?_ ?_ ?_ ?_ ?_ ?_ ?_ ?_ ?_); rfl; rfl; exact Try.underlying31; kernel_rfl; go_simp; go_simp; exact HG.out; exact HCS.out; exact HP.out; exact HF.out; exact u8s_one _; exact B2; exact Nat.le_refl _; intro w4 hg4 hb4)
  generalize (if n = k0 then some (⟨w.heap.size, 0, none⟩ : Addr) else some ⟨w.heap.size, k0, none⟩) = dp1
  have c4 : w4.cell? ⟨b, 0, none⟩ = some (.pointer full) := (hb4.cell (p := ⟨b, 0, none⟩) hblt).trans c0
  go_wp2
  clear c4 c0 c257 c258 hmk
  go_loopw [5, 6] (fun at_ p wr => ∃ (j : Nat) (q : Option Addr) (cur : List Value), at_ = .int .i64 ((256 * j : Nat) : Int) ∧ 256 * j ≤ n ∧ p = .pointer q ∧ Chain w j q bs ∧ Blk wr w.heap.size 5 cur.toArray ∧ cur.length = n ∧
      (∀ i, 256 * j ≤ i → i < n → cur[i]? = some (.int .u8 (bs[i]?.getD 0))) ∧ Below w.heap.size w wr) (fun at_ _ _ => (intOf at_).toNat)
  case atStart =>
    have h1 := HK.out; have h2 := HN.out; have h3 := HM.out
    have hcs := HCS.out
    rw [u8s_length, List.length_drop, ← h2] at hcs
    have hf := HF.out
    have e : k0 = 256 * (n / 256) := by omega
    refine ⟨n / 256, full, splice (List.replicate n (Value.int .u8 0)) k0 (u8s (bs.drop k0)), by rw [e], by omega, rfl, H8.out, hg4.out, by rw [length_splice _ _ _ hf, List.length_replicate], fun i hi1 hi2 => ?_, hb4⟩
    rw [get_splice _ _ _ hf, if_neg (by omega), if_pos (by rw [u8s_length, List.length_drop, ← h2]; omega), u8s_get _ _ (by rw [List.length_drop, ← h2]; omega), List.getElem?_drop]
    have : k0 + (i - k0) = i := by omega
    rw [this]
  case round =>
    obtain ⟨j, q, cur, rfl, hjn, rfl, hch, hg, hcl, hcur, hbl⟩ := hrel
    cases j with
    | zero =>
      obtain rfl : q = none := hch
      have HG2 := hid hg; have HC := hid hcur; have HL := hid hcl
      clear hg hcur hcl hg4
      go_wp2
      go_ret2
      refine ⟨rfl, ?_, hbl⟩
      have e : cur = u8s bs := by
        have h2 := HN.out
        apply List.ext_getElem?
        intro i
        rcases Nat.lt_or_ge i n with h | h
        · rw [HC.out i (by omega) h, u8s_get _ _ (by omega)]
        · rw [List.getElem?_eq_none (by rw [HL.out]; exact h), List.getElem?_eq_none (by rw [u8s_length]; omega)]
      rw [← e]
      exact HG2.out
    | succ j =>
      obtain ⟨g, q', cc, rfl, hb, hcc, hc0, hcb, hch'⟩ := hch
      have hglt := hb.lt
      have hbr : Blk wr g 95 cc := (hbl.block g hglt).trans hb
      have d0 : wr.cell? ⟨g, 0, none⟩ = some (.pointer q') := by rw [hbr.cell]; exact hc0
      have hj0 : ((256 * (j + 1) : Nat) : Int) - 256 = ((256 * j : Nat) : Int) := by omega
      obtain ⟨a0, ha0⟩ : ∃ a0, a0 = 256 * (j + 1) := ⟨_, rfl⟩
      obtain ⟨a1, ha1⟩ : ∃ a1, a1 = 256 * j := ⟨_, rfl⟩
      rw [← ha0, ← ha1] at hj0
      rw [← ha0] at hcur hjn ⊢
      have ha1n : a1 ≤ n := by omega
      have HCUR := hid hcur; have HA0 := hid ha0; have HA1 := hid ha1; have HC := hid hcb; have HS := hid hcc; have HG2 := hid hg; have HL := hid hcl; have H0 := hid hc0; have HCH := hid hch'
      clear hcur ha0 ha1 hcb hcc hg hcl hc0 hch' hg4
      go_wp2
      have HCS2 : Hid ((u8s ((bs.drop a1).take 256)).length = Nat.min 256 (n - a1)) := by
        have h1 := HA0.out; have h2 := HN.out; have h3 := HA1.out
        show _ = min 256 (n - a1)
        rw [u8s_length, List.length_take, List.length_drop, ← h2]
      have HG3 := hid (HG2.out.drew)
      have HP2 : Hid (0 < (u8s ((bs.drop a1).take 256)).length → (if n = a1 then some (⟨w.heap.size, 0, none⟩ : Addr) else some ⟨w.heap.size, a1, none⟩) = some ⟨w.heap.size, a1, none⟩ ∧ ∃ ad, some (⟨g, 1, none⟩ : Addr) = some ad ∧ ∀ j v, (u8s ((bs.drop a1).take 256))[j]? = some v → wr.drew.cell? (ad.add j) = some v) := by
        intro hpos
        have h1 := HA0.out; have h2 := HN.out; have h3 := HA1.out
        refine ⟨by rw [if_neg (by omega)], ⟨g, 1, none⟩, rfl, fun i v hv => ?_⟩
        have hi : i < (u8s ((bs.drop a1).take 256)).length := by
          rcases Nat.lt_or_ge i (u8s ((bs.drop a1).take 256)).length with h | h
          · exact h
          · rw [List.getElem?_eq_none h] at hv; cases hv
        have hi2 := hi
        rw [u8s_length] at hi2
        rw [u8s_length, List.length_take, List.length_drop] at hi
        rw [u8s_get _ _ hi2, List.getElem?_take, if_pos (by omega), List.getElem?_drop] at hv
        have e : (⟨g, 1, none⟩ : Addr).add i = ⟨g, 1 + i, none⟩ := by unfold Addr.add; split <;> simp_all
        rw [e, hbr.drew.cell, HC.out i (by omega), ← hv]
        have : j * 256 + i = a1 + i := by omega
        rw [this]
      have HF2 : Hid (a1 + (u8s ((bs.drop a1).take 256)).length ≤ cur.length) := by
        have h1 := HA0.out; have h2 := HN.out; have h3 := HA1.out
        show _ ≤ _
        rw [u8s_length, List.length_take, List.length_drop, HL.out, ← h2]; omega
      have B3 := hbl.drew
      go_region_law ((with_reducible refine step_copy_splice (d := .tmp 50) (s := .tmp 54) (dT := 31) (sT := 31) (elem := 5) (dp := if n = a1 then some (⟨w.heap.size, 0, none⟩ : Addr) else some ⟨w.heap.size, a1, none⟩) (sp := some (⟨g, 1, none⟩ : Addr)) (dLen := n - a1) (dCap := n - a1) (sLen := 256) (sCap := 256) (g := w.heap.size) (off := a1) (cur := cur) (t := 5) (cs := u8s ((bs.drop a1).take 256)) (B := w.heap.size) (w0 := w) ?_ ?_ ?_ ?_ ?_ ?_ ?_ ?_ ?_ ?_ ?_ ?_ ?_ ?_); rfl; rfl; exact Try.underlying31; kernel_rfl; go_simp; go_simp; exact HG3.out; exact HCS2.out; exact HP2.out; exact HF2.out; exact u8s_one _; exact B3; exact Nat.le_refl _; intro w5 hg5 hb5)
      generalize (if n = a1 then some (⟨w.heap.size, 0, none⟩ : Addr) else some ⟨w.heap.size, a1, none⟩) = dp2
      have d5 : w5.cell? ⟨g, 0, none⟩ = some (.pointer q') := (cell_of_row w5 g 0 cc 95 (0, 0) ((hb5.block g hglt).trans hb)).trans H0.out
      go_wp2
      clear d5
      go_roundw
      case rel =>
        have h1 := HA0.out; have h2 := HN.out; have h3 := HA1.out
        have hf := HF2.out
        refine ⟨j, q', splice cur a1 (u8s ((bs.drop a1).take 256)), by rw [h3], by omega, rfl, HCH.out, hg5.out, by rw [length_splice _ _ _ hf, HL.out], fun i hi1 hi2 => ?_, hb5⟩
        rw [get_splice _ _ _ hf, if_neg (by omega)]
        by_cases hi : i < a1 + (u8s ((bs.drop a1).take 256)).length
        · rw [if_pos hi]
          rw [u8s_length] at hi
          rw [u8s_get _ _ (by omega), List.getElem?_take, if_pos (by rw [List.length_take] at hi; omega), List.getElem?_drop]
          have : a1 + (i - a1) = i := by omega
          rw [this]
        · rw [if_neg hi]
          rw [u8s_length, List.length_take, List.length_drop] at hi
          exact HCUR.out i (by omega) hi2
      case measure =>
        have h1 := HA0.out; have h3 := HA1.out
        simp [intOf]; omega
end Go.Proofs.Ytjdojnbpchommaa
