/-
  What is proved here: a key with a bit made 1, as the document makes it.
-/
import Derived.Test.YtdaobhclcpgjbaaPQuiet
import Derived.Laws.Tables
namespace Go.Proofs.Ytdaobhclcpgjbaa
open Go.ChangeShapes Go.WideShapes Go.ChangeAt Go.RowKit
set_option linter.unusedVariables false

/-- no bit is 1 -/
def zk : List Int := List.replicate 32 0
theorem zk_ky : Ky zk := ⟨by simp [zk], fun v hv => by
  unfold zk at hv
  have := (List.mem_replicate.1 hv).2
  omega⟩
theorem zero_key : ∃ Z : Array Value, Hid (Z = kc zk) ∧ (¬ Z = #[]) ∧ ∀ w : World, Sem.run Try.prog (zeroValue 23) w = Result.ok (.agg Z) w := by
  refine ⟨kc zk, rfl, fun h => ?_, fun w => by kernel_rfl⟩
  have := congrArg Array.size h
  rw [kc_size zk_ky] at this
  simp at this
theorem zero_pre : ∃ Z : Array Value, Hid (Z = pc 0 zk) ∧ (¬ Z = #[]) ∧ ∀ w : World, Sem.run Try.prog (zeroValue 30) w = Result.ok (.agg Z) w := by
  refine ⟨pc 0 zk, rfl, fun h => ?_, fun w => by kernel_rfl⟩
  have := congrArg Array.size h
  rw [pc_size 0 zk_ky] at this
  simp at this
theorem kc_set (K : List Int) (i : Nat) (x : Int) : (kc K).setIfInBounds i (.int .u8 x) = kc (K.set i x) := by
  simp [kc, u8s, List.map_set]
theorem pc_set (l : Int) (K : List Int) (i : Nat) (x : Int) : (pc l K).setIfInBounds (1 + i) (.int .u8 x) = pc l (K.set i x) := by
  simp [pc, u8s, List.map_set, Nat.add_comm 1 i]
theorem ky_set {K : List Int} (h : Ky K) (j : Nat) (v : Int) (h0 : 0 ≤ v) (h1 : v < 256) : Ky (K.set j v) := ⟨by rw [List.length_set, h.len], fun u hu => by
  rcases List.mem_or_eq_of_mem_set hu with hu | rfl
  · exact h.bs u hu
  · exact ⟨h0, h1⟩⟩
theorem bit_set {K : List Int} (h : Ky K) (j : Nat) (hj : j < 32) (v : Int) (i : Nat) : bit (K.set j v) i = if i / 8 = j then bt v (i % 8) else bit K i := by
  unfold bit
  rw [List.getElem?_set]
  by_cases e : i / 8 = j
  · rw [if_pos e, if_pos e.symm, if_pos (by rw [h.len]; omega)]; rfl
  · rw [if_neg e, if_neg (fun h => e h.symm)]
theorem add_bit_f : ∀ b : Fin 256, ∀ t : Fin 8, bt (b.val : Int) t.val = 0 → (b.val : Int) + 2 ^ (7 - t.val) < 256 ∧ ∀ s : Fin 8, bt ((b.val : Int) + 2 ^ (7 - t.val)) s.val = if s.val = t.val then 1 else bt (b.val : Int) s.val := by decide +kernel
theorem add_bit (b : Int) (hb : 0 ≤ b ∧ b < 256) (t : Nat) (ht : t < 8) (h : bt b t = 0) : b + 2 ^ (7 - t) < 256 ∧ ∀ s, s < 8 → bt (b + 2 ^ (7 - t)) s = if s = t then 1 else bt b s := by
  obtain ⟨n, rfl⟩ : ∃ n : Nat, b = n := ⟨b.toNat, by omega⟩
  obtain ⟨h1, h2⟩ := add_bit_f ⟨n, by omega⟩ ⟨t, ht⟩ h
  exact ⟨h1, fun s hs => h2 ⟨s, hs⟩⟩
theorem set_add {K : List Int} (hK : Ky K) (i : Nat) (hi : i < 256) (h : bit K i = 0) : K.set (i / 8) (K[i / 8]?.getD 0 + 2 ^ (7 - i % 8)) = setb K i := by
  obtain ⟨h1, h2⟩ := add_bit _ (hK.bs.at (i / 8)) (i % 8) (by omega) h
  have hb := hK.bs.at (i / 8)
  have hp : (0 : Int) ≤ 2 ^ (7 - i % 8) := Int.pow_nonneg (by decide)
  refine eq_ofBits (ky_set hK _ _ (by omega) h1) (setF01 K i) (fun s hs => ?_)
  rw [bit_set hK _ (by omega)]
  unfold setF
  by_cases e : s / 8 = i / 8
  · rw [if_pos e, h2 _ (by omega)]
    by_cases e2 : s = i
    · rw [if_pos e2, if_pos (by rw [e2])]
    · rw [if_neg e2, if_neg (by omega)]
      show _ = bt (K[s / 8]?.getD 0) (s % 8)
      rw [e]
  · rw [if_neg e, if_neg (fun h => e (by rw [h]))]
theorem set_id {K : List Int} (hK : Ky K) (i : Nat) (hi : i < 256) (h : bit K i = 1) : K = setb K i :=
  eq_ofBits hK (setF01 K i) (fun s hs => by
    unfold setF
    by_cases e : s = i
    · rw [if_pos e, e, h]
    · rw [if_neg e])
theorem one_blks (w : World) (A B : Array Value) (t s : TypeId) : Blk ((w.alloc (.cells A t)).alloc (.cells B s)) w.heap.size t A ∧ Blk ((w.alloc (.cells A t)).alloc (.cells B s)) (w.heap.size + 1) s B ∧ Below w.heap.size w ((w.alloc (.cells A t)).alloc (.cells B s)) := by
  refine ⟨(Blk.new w t _).alloc _, ?_, ((Below.refl _ _).alloc (Nat.le_refl _) _).alloc (by simp) _⟩
  have := Blk.new (w.alloc (.cells A t)) s B
  rwa [show (w.alloc (.cells A t)).heap.size = w.heap.size + 1 by simp] at this
theorem pow_128 (k : Nat) (h : k < 8) : (128 : Int) / 2 ^ k = 2 ^ (7 - k) := by
  rcases lt8 h with rfl | rfl | rfl | rfl | rfl | rfl | rfl | rfl <;> decide

set_option maxHeartbeats 1000000 in
theorem rSet_any (K : List Int) (hK : Ky K) (i : Nat) (hi : i < 256) (w : World) :
    Calls Try.prog 31 #[.agg (kc K), .int .i64 i] w fun e w' => e = .returned (.agg (kc (setb K i))) ∧ Below w.heap.size w w' := by
  obtain ⟨Z, HZ, hZ0, hZs⟩ := zero_key
  obtain ⟨hk1, hk2, hb0⟩ := one_blks w (kc K) Z 23 23
  have K1 := hid hk1; have K2 := hid hk2; have B0 := hid hb0
  clear hk1 hk2 hb0
  have HZ32 : Hid (Z.size = (kc (setb K i)).size) := by show _ = _; rw [HZ.out, kc_size zk_ky, kc_size (setb_ky K i)]
  have HI32 := hid (kc_info (setb_ky K i))
  have CB := hid (fun w => rBit_in K hK i hi w)
  have h01 := bit01 K i
  have hs1 := set_id hK i hi
  have hs0 := set_add hK i hi
  have ha := fun h : bit K i = 0 => (add_bit _ (hK.bs.at (i / 8)) (i % 8) (by omega) h).1
  have hb := hK.bs.at (i / 8)
  generalize bit K i = v at CB h01 hs1 hs0 ha
  rcases h01 with rfl | rfl
  · have hv := ha rfl
    have hs := hs0 rfl
    clear hs1 hs0 ha
    have hcell := kc_at hK (i / 8) (by omega)
    generalize K[i / 8]?.getD 0 = b at hb hv hs hcell
    have hp : (0 : Int) ≤ 2 ^ (7 - i % 8) := Int.pow_nonneg (by decide)
    have hp2 : (2 : Int) ^ (7 - i % 8) ≤ 128 := by rw [← pow_128 (i % 8) (by omega)]; exact Int.ediv_le_self _ (by decide)
    obtain ⟨m, hm⟩ : ∃ m : Nat, m = i % 8 := ⟨_, rfl⟩
    have hpw := pow_128 (i % 8) (by omega)
    rw [← hm] at hs hv hp hp2 hpw
    have hm8 : m < 8 := by omega
    have hmi : (i : Int) % 8 = (m : Int) := by omega
    have HM := hid hm; have HS := hid hs; have HPW := hid hpw; have HC := hid hcell
    have HV : Hid (b + 2 ^ (7 - m) < 256) := hv
    have HP : Hid ((0 : Int) ≤ 2 ^ (7 - m)) := hp
    have HP2 : Hid ((2 : Int) ^ (7 - m) ≤ 128) := hp2
    obtain ⟨hb0, hb1⟩ := hb
    have hi0 : (0 : Int) ≤ (i : Int) / 8 := by omega
    have hi32 : (i : Int) / 8 < 32 := by omega
    have hit : ((i : Int) / 8).toNat = i / 8 := by omega
    clear hm hs hpw hcell hv hp hp2
    go_enter Try.func31, Try.ntmps31
    go_wp2_with (first
      | (refine load_at rfl 23 (.tmp 2) rfl w.heap.size 0 rfl (u8s K) _ (blk_key K1.out) Try.underlying23 rfl (u8s_info hK) (kc K) rfl ?_)
      | (go_at_call 11; refine (CB.out _).mono ?_; rintro e w1 ⟨rfl, hb1⟩; have K3 := hid (K1.out.below hb1); have K4 := hid (K2.out.below hb1); have B1 := hid (B0.out.trans (hb1.mono B0.out.size)); clear hb1))
    go_loop [5, 6] (fun x n => ∃ k : Nat, k ≤ m ∧ n = .int .i64 k ∧ x = .int .i64 (128 / 2 ^ k)) (fun _ n => m - (intOf n).toNat)
    case atStart => exact ⟨0, Nat.zero_le _, rfl, rfl⟩
    case round =>
      obtain ⟨k, hk, rfl, rfl⟩ := hrel
      have hq0 : (0 : Int) ≤ 128 / 2 ^ k := Int.ediv_nonneg (by decide) (Int.pow_nonneg (by decide))
      have hq1 : (128 : Int) / 2 ^ k ≤ 128 := Int.ediv_le_self _ (by decide)
      have HD := hid (div_step 128 k)
      by_cases hlt : k < m
      · go_wp2
        go_round
        case rel => exact ⟨k + 1, by omega, by go_num, by rw [← HD.out]⟩
        case measure => simp [intOf]; omega
      · have he : k = m := by omega
        subst he
        have hsum : b + 128 / 2 ^ k < 256 := by rw [HPW.out]; exact HV.out
        have c1 : w1.cell? ⟨w.heap.size, i / 8, none⟩ = some (.int .u8 b) := by rw [K3.out.cell]; exact HC.out
        have c2 : w1.frozen? ⟨w.heap.size, i / 8, none⟩ = false := K3.out.frozen _
        have k5 : Blk (w1.setCell ⟨w.heap.size, i / 8, none⟩ (.int .u8 (b + 128 / 2 ^ k))) w.heap.size 23 (kc (setb K i)) := by
          have := K3.out.setd (i / 8) (.int .u8 (b + 128 / 2 ^ k))
          rw [kc_set, HPW.out, HS.out] at this
          rwa [HPW.out]
        have k6 : Blk (w1.setCell ⟨w.heap.size, i / 8, none⟩ (.int .u8 (b + 128 / 2 ^ k))) (w.heap.size + 1) 23 Z := K4.out.far (by simp) _
        have b6 : Below w.heap.size w (w1.setCell ⟨w.heap.size, i / 8, none⟩ (.int .u8 (b + 128 / 2 ^ k))) := B1.out.setCell (by simp) _
        have K5 := hid k5; have K6 := hid k6; have B6 := hid b6
        clear k5 k6 b6
        generalize (128 : Int) / 2 ^ k = q at *
        go_wp2_with (first
          | (refine load_at rfl 23 (.tmp 2) rfl w.heap.size 0 rfl (u8s (setb K i)) _ (blk_key K5.out) Try.underlying23 rfl (u8s_info (setb_ky K i)) (kc (setb K i)) rfl ?_)
          | (refine wpList_store_row rfl 23 (.tmp 4) (.tmp 27) rfl (w.heap.size + 1) (kc (setb K i)) rfl rfl 23 Z K6.out HI32.out HZ32.out (kc_one _) ?_))
        try go_frame
        refine bodyPost_ret (results_cell_row Try.results31 _ _ (w.heap.size + 1) 23 (kc (setb K i)) (0, 0) _ rfl (K6.out.row _) Try.underlying23 rfl HI32.out) rfl ?_
        exact ⟨rfl, below_setRow B6.out (by omega) _⟩
  · have HS := hid (hs1 rfl)
    clear hs1 hs0 ha hb
    go_enter Try.func31, Try.ntmps31
    go_wp2_with (first
      | (refine load_at rfl 23 (.tmp 2) rfl w.heap.size 0 rfl (u8s K) _ (blk_key K1.out) Try.underlying23 rfl (u8s_info hK) (kc K) rfl ?_)
      | (go_at_call 11; refine (CB.out _).mono ?_; rintro e w1 ⟨rfl, hb1⟩; have K3 := hid (K1.out.below hb1); have K4 := hid (K2.out.below hb1); have B1 := hid (B0.out.trans (hb1.mono B0.out.size)); clear hb1)
      | (refine load_at rfl 23 (.tmp 2) rfl w.heap.size 0 rfl (u8s K) _ (blk_key K3.out) Try.underlying23 rfl (u8s_info hK) (kc K) rfl ?_)
      | (refine wpList_store_row rfl 23 (.tmp 4) (.tmp 27) rfl (w.heap.size + 1) (kc K) rfl rfl 23 Z K4.out (kc_info hK) (by rw [HZ.out, kc_size zk_ky, kc_size hK]) (kc_one K) ?_))
    try go_frame
    refine bodyPost_ret (results_cell_row Try.results31 _ _ (w.heap.size + 1) 23 (kc K) (0, 0) _ rfl (K4.out.row _) Try.underlying23 rfl (kc_info hK)) rfl ?_
    exact ⟨congrArg (fun q => Ending.returned (.agg (kc q))) HS.out, below_setRow B1.out (by omega) _⟩
end Go.Proofs.Ytdaobhclcpgjbaa
