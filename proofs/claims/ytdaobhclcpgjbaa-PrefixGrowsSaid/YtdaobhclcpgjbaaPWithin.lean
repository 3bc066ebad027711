/-
  What is proved here: whether a beginning holds another one, as the code tells it; whether a beginning is one, and holds a key, as the document tells it.
-/
import Derived.Test.YtdaobhclcpgjbaaPHolds
namespace Go.Proofs.Ytdaobhclcpgjbaa
open Go.ChangeShapes Go.WideShapes Go.ChangeAt Go.RowKit
set_option linter.unusedVariables false

set_option maxHeartbeats 1000000 in
theorem pWithin_any (l m : Int) (B C : List Int) (hB : Ky B) (hC : Ky C) (w : World) :
    Calls Try.prog 26 #[.agg (pc l B), .agg (pc m C)] w fun e w' => e = .returned (.bool (wth l B m C)) ∧ Below w.heap.size w w' := by
  obtain ⟨hk1, hk2, hb0⟩ := one_blks w (pc l B) (pc m C) 30 30
  have cl := hk1.cell 0
  have cm := hk2.cell 0
  have K1 := hid hk1; have K2 := hid hk2; have B0 := hid hb0
  clear hk1 hk2 hb0 cl cm
  have CF := hid (fun w => pFormed_any m C hC w)
  have CH := hid (fun w => pHolds_any l B C hB hC w)
  unfold wth
  generalize frm m C = v1 at CF ⊢
  generalize hld l B C = v2 at CH ⊢
  cases v1
  · go_enter Try.func26, Try.ntmps26
    go_wp2_with (first
      | (refine load_at rfl 30 (.tmp 3) rfl (w.heap.size + 1) 0 rfl (.int .i64 m :: u8s C) _ (blk_pre K2.out) Try.underlying30 rfl (pcl_info m hC) (pc m C) rfl ?_)
      | (go_at_call 20; refine (CF.out _).mono ?_; rintro e w1 ⟨rfl, hb1⟩; have B1 := hid (B0.out.trans (hb1.mono B0.out.size)); clear hb1))
    go_ret
    exact ⟨rfl, B1.out⟩
  · by_cases hlm : l ≤ m
    · have hd : decide (l ≤ m) = true := decide_eq_true hlm
      go_enter Try.func26, Try.ntmps26
      go_wp2_with (first
        | (refine load_at rfl 30 (.tmp 3) rfl (w.heap.size + 1) 0 rfl (.int .i64 m :: u8s C) _ (blk_pre K2.out) Try.underlying30 rfl (pcl_info m hC) (pc m C) rfl ?_)
        | (go_at_call 20; refine (CF.out _).mono ?_; rintro e w1 ⟨rfl, hb1⟩; have L1 := hid (K1.out.below hb1); have L2 := hid (K2.out.below hb1); have B1 := hid (B0.out.trans (hb1.mono B0.out.size)); have cl : w1.cell? ⟨w.heap.size, 0, none⟩ = some (.int .i64 l) := L1.out.cell 0; have cm : w1.cell? ⟨w.heap.size + 1, 0, none⟩ = some (.int .i64 m) := L2.out.cell 0; clear hb1)
        | (refine load_at rfl 30 (.tmp 2) rfl w.heap.size 0 rfl (.int .i64 l :: u8s B) _ (blk_pre L1.out) Try.underlying30 rfl (pcl_info l hB) (pc l B) rfl ?_)
        | (refine load_at rfl 23 (.tmp 16) rfl (w.heap.size + 1) 1 rfl (u8s C) _ (pc_range L2.out) Try.underlying23 rfl (u8s_info hC) (kc C) rfl ?_)
        | (go_at_call 22; refine (CH.out _).mono ?_; rintro e w2 ⟨rfl, hb2⟩; have B2 := hid (B1.out.trans (hb2.mono B1.out.size)); clear hb2))
      go_ret
      refine ⟨?_, B2.out⟩
      rw [hd]
      exact congrArg (fun q : Bool => Ending.returned (.bool q)) (by simp)
    · have hd : decide (l ≤ m) = false := decide_eq_false hlm
      go_enter Try.func26, Try.ntmps26
      go_wp2_with (first
        | (refine load_at rfl 30 (.tmp 3) rfl (w.heap.size + 1) 0 rfl (.int .i64 m :: u8s C) _ (blk_pre K2.out) Try.underlying30 rfl (pcl_info m hC) (pc m C) rfl ?_)
        | (go_at_call 20; refine (CF.out _).mono ?_; rintro e w1 ⟨rfl, hb1⟩; have L1 := hid (K1.out.below hb1); have L2 := hid (K2.out.below hb1); have B1 := hid (B0.out.trans (hb1.mono B0.out.size)); have cl : w1.cell? ⟨w.heap.size, 0, none⟩ = some (.int .i64 l) := L1.out.cell 0; have cm : w1.cell? ⟨w.heap.size + 1, 0, none⟩ = some (.int .i64 m) := L2.out.cell 0; clear hb1))
      go_ret
      refine ⟨?_, B1.out⟩
      rw [hd]
      exact congrArg (fun q : Bool => Ending.returned (.bool q)) (by simp)

theorem frm_ref {l : Nat} {B : List Int} (hB : Ky B) (hl : l ≤ 256) (h : ∀ i, l ≤ i → i < 256 → bit B i = 0) : frm l B = true := by
  unfold frm
  refine decide_eq_true ⟨by omega, by omega, ?_⟩
  rw [show ((l : Int)).toNat = l by omega]
  refine (cut_is_iff hB).2 (fun i hi => ?_)
  by_cases hil : i < l
  · rw [if_pos hil]
  · rw [if_neg hil]; exact h i (by omega) hi
theorem frm_no {l : Nat} {B : List Int} (hB : Ky B) (i : Nat) (h1 : l ≤ i) (h2 : i < 256) (h : bit B i = 1) : frm l B = false := by
  unfold frm
  refine decide_eq_false ?_
  rintro ⟨_, _, h3⟩
  rw [show ((l : Int)).toNat = l by omega] at h3
  have := (cut_is_iff hB).1 h3 i h2
  rw [if_neg (by omega), h] at this
  omega
theorem frm_out {l : Int} {B : List Int} (h : l < 0 ∨ 256 < l) : frm l B = false := by
  unfold frm
  refine decide_eq_false ?_
  rintro ⟨_, _, _⟩
  omega
set_option maxHeartbeats 1000000 in
theorem rFormed_in (l : Nat) (B : List Int) (hB : Ky B) (hl : l ≤ 256) (w : World) :
    Calls Try.prog 21 #[.agg (pc l B)] w fun e w' => e = .returned (.bool (frm l B)) ∧ Below w.heap.size w w' := by
  have k1 : Blk (w.alloc (.cells (pc l B) 30)) w.heap.size 30 (pc l B) := Blk.new w 30 _
  have c1 : (w.alloc (.cells (pc l B) 30)).cell? ⟨w.heap.size, 0, none⟩ = some (.int .i64 l) := k1.cell 0
  have K1 := hid k1
  have B0 : Hid (Below w.heap.size w (w.alloc (.cells (pc l B) 30))) := (Below.refl _ _).alloc (Nat.le_refl _) _
  have i0 : (0 : Int) ≤ (l : Int) := by omega
  have i1 : (l : Int) ≤ 256 := by omega
  have HF := hid (fun h => frm_ref (l := l) hB hl h)
  have HN := hid (fun i h1 h2 h => frm_no (l := l) hB i h1 h2 h)
  generalize frm l B = v at HF HN ⊢
  clear k1
  go_enter Try.func21, Try.ntmps21
  go_wp2
  clear c1
  generalize w.alloc (.cells (pc l B) 30) = w0 at K1 B0 ⊢
  go_loopw [3] (fun i wr => ∃ k : Nat, l ≤ k ∧ k ≤ 256 ∧ i = .int .i64 k ∧ Hid (∀ j, l ≤ j → j < k → bit B j = 0) ∧ Hid (Blk wr w.heap.size 30 (pc l B)) ∧ Hid (Below w.heap.size w wr)) (fun i _ => 256 - (intOf i).toNat)
  case atStart => exact ⟨l, Nat.le_refl _, hl, rfl, fun j h1 h2 => by omega, K1.out, B0.out⟩
  case round =>
    obtain ⟨k, hk1, hk2, rfl, HA, HK, HB⟩ := hrel
    clear K1 B0
    by_cases hlt : k < 256
    · have hki : (k : Int) < 256 := by omega
      have CB := hid (fun w => rBit_in B hB k hlt w)
      have h01 := bit01 B k
      obtain ⟨x, hx⟩ : ∃ x, x = bit B k := ⟨_, rfl⟩
      rw [← hx] at CB h01
      have HX := hid hx
      clear hx
      rcases h01 with rfl | rfl
      · go_wp2_with (first
          | (refine load_at rfl 23 (.tmp 18) rfl w.heap.size 1 rfl (u8s B) _ (pc_range HK.out) Try.underlying23 rfl (u8s_info hB) (kc B) rfl ?_)
          | (go_at_call 11; refine (CB.out _).mono ?_; rintro e w1 ⟨rfl, hb1⟩; have L1 := hid (HK.out.below hb1); have B1 := hid (HB.out.trans (hb1.mono HB.out.size)); clear hb1))
        exact ⟨⟨k + 1, by omega, by omega, by go_num, fun j h1 h2 => by
          rcases Nat.lt_or_ge j k with h | h
          · exact HA.out j h1 h
          · rw [show j = k by omega]; exact HX.out.symm, L1.out, B1.out⟩, by simp [intOf]; omega⟩
      · have hv : Hid (v = false) := HN.out k hk1 hlt HX.out.symm
        go_wp2_with (first
          | (refine load_at rfl 23 (.tmp 18) rfl w.heap.size 1 rfl (u8s B) _ (pc_range HK.out) Try.underlying23 rfl (u8s_info hB) (kc B) rfl ?_)
          | (go_at_call 11; refine (CB.out _).mono ?_; rintro e w1 ⟨rfl, hb1⟩; have B1 := hid (HB.out.trans (hb1.mono HB.out.size)); clear hb1))
        go_ret
        exact ⟨by rw [hv.out]; rfl, B1.out⟩
    · obtain rfl : k = 256 := by omega
      have hv : Hid (v = true) := HF.out (fun i h1 h2 => HA.out i h1 h2)
      go_wp2
      go_ret
      exact ⟨by rw [hv.out]; rfl, HB.out⟩
set_option maxHeartbeats 1000000 in
theorem rFormed_out (l : Int) (B : List Int) (hB : Ky B) (h : l < 0 ∨ 256 < l) (w : World) :
    Calls Try.prog 21 #[.agg (pc l B)] w fun e w' => e = .returned (.bool (frm l B)) ∧ Below w.heap.size w w' := by
  rw [frm_out h]
  have k1 : Blk (w.alloc (.cells (pc l B) 30)) w.heap.size 30 (pc l B) := Blk.new w 30 _
  have c1 : (w.alloc (.cells (pc l B) 30)).cell? ⟨w.heap.size, 0, none⟩ = some (.int .i64 l) := k1.cell 0
  have B0 : Hid (Below w.heap.size w (w.alloc (.cells (pc l B) 30))) := (Below.refl _ _).alloc (Nat.le_refl _) _
  clear k1
  rcases h with h | h
  · go_enter Try.func21, Try.ntmps21
    go_wp2
    go_ret
    exact ⟨rfl, B0.out⟩
  · have h0 : ¬ l < 0 := by omega
    go_enter Try.func21, Try.ntmps21
    go_wp2
    go_ret
    exact ⟨rfl, B0.out⟩
theorem rFormed_any (l : Int) (B : List Int) (hB : Ky B) (w : World) :
    Calls Try.prog 21 #[.agg (pc l B)] w fun e w' => e = .returned (.bool (frm l B)) ∧ Below w.heap.size w w' := by
  by_cases h : l < 0 ∨ 256 < l
  · exact rFormed_out l B hB h w
  · obtain ⟨n, rfl⟩ : ∃ n : Nat, l = n := ⟨l.toNat, by omega⟩
    exact rFormed_in n B hB (by omega) w
end Go.Proofs.Ytdaobhclcpgjbaa
