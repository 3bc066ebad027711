/-
  What is proved here: the beginning of a key, as the document cuts it.
-/
import Derived.Test.YtdaobhclcpgjbaaPSet
namespace Go.Proofs.Ytdaobhclcpgjbaa
open Go.ChangeShapes Go.WideShapes Go.ChangeAt Go.RowKit
set_option linter.unusedVariables false

def putRow (cs : Array Value) : Nat → List Value → Array Value
  | _, [] => cs
  | o, v :: r => putRow (cs.setIfInBounds o v) (o + 1) r
theorem putRow_at : ∀ (vs : List Value) (cs : Array Value) (o i : Nat), o + vs.length ≤ cs.size → (putRow cs o vs)[i]? = if o ≤ i ∧ i < o + vs.length then vs[i - o]? else cs[i]?
  | [], cs, o, i, h => by
    unfold putRow
    rw [if_neg]
    simp only [List.length_nil]
    omega
  | v :: r, cs, o, i, h => by
    simp only [List.length_cons] at h ⊢
    unfold putRow
    rw [putRow_at r _ (o + 1) i (by rw [Array.size_setIfInBounds]; omega), Array.getElem?_setIfInBounds]
    by_cases h1 : o = i
    · subst h1
      rw [if_neg (by omega), if_pos rfl, if_pos (by omega), if_pos (by omega)]
      simp
    · rw [if_neg h1]
      by_cases h2 : o + 1 ≤ i ∧ i < o + 1 + r.length
      · rw [if_pos h2, if_pos (by omega), show i - o = (i - (o + 1)) + 1 by omega, List.getElem?_cons_succ]
      · rw [if_neg h2, if_neg (by omega)]
theorem Blk.putCells {g : Nat} {t : TypeId} : ∀ (vs : List Value) {w : World} {cs : Array Value} (h : Blk w g t cs) (o : Nat), Blk (w.setCells g o vs) g t (putRow cs o vs)
  | [], _, _, h, _ => h
  | v :: r, _, _, h, o => (h.setd o v).putCells r (o + 1)
theorem Blk.farCells {g k : Nat} (hk : k ≠ g) {t : TypeId} {cs : Array Value} : ∀ (vs : List Value) {w : World} (h : Blk w k t cs) (o : Nat), Blk (w.setCells g o vs) k t cs
  | [], _, h, _ => h
  | v :: r, _, h, o => (h.far hk v : Blk (World.setCell _ ⟨g, o, none⟩ v) k t cs).farCells hk r (o + 1)
theorem below_setCells {B g : Nat} (hg : B ≤ g) : ∀ (vs : List Value) {a w : World} (h : Below B a w) (o : Nat), Below B a (w.setCells g o vs)
  | [], _, _, h, _ => h
  | v :: r, _, _, h, o => below_setCells hg r (h.setCell hg v : Below B _ (World.setCell _ ⟨g, o, none⟩ v)) (o + 1)
theorem pc_put (l : Int) {A B : List Int} (hA : Ky A) (hB : Ky B) : putRow (pc l A) 1 (u8s B) = pc l B := by
  apply Array.ext_getElem?
  intro i
  rw [putRow_at _ _ _ _ (by rw [pc_size l hA, u8s_length, hB.len]; omega)]
  cases i with
  | zero => rw [if_neg (by omega)]; rfl
  | succ i =>
    by_cases hi : i < 32
    · rw [if_pos (by rw [u8s_length, hB.len]; omega), pc_at l hB i hi, Nat.add_sub_cancel, u8s_get B i (by rw [hB.len]; exact hi)]
    · rw [if_neg (by rw [u8s_length, hB.len]; omega), Array.getElem?_eq_none (by rw [pc_size l hA]; omega), Array.getElem?_eq_none (by rw [pc_size l hB]; omega)]
theorem pc_len (l m : Int) (B : List Int) : (pc l B).setIfInBounds 0 (.int .i64 m) = pc m B := rfl
theorem pc_there {w : World} {g : Nat} {l : Int} {B : List Int} (hB : Ky B) (h : Blk w g 30 (pc l B)) (C : List Int) (hC : Ky C) : w.there g 1 (kc C).size := fun j hj => by
  rw [kc_size hC] at hj
  refine ⟨?_, h.frozen _⟩
  rw [h.cell, Nat.add_comm 1 j, pc_at l hB j hj]
  rfl
/-- the bits of a beginning are stored -/
theorem store_bits {ops : Array Oper} {rest : List Oper} {op : Oper} {a : Act} {w : World} {Q : Exit → Act → World → Prop} (hgd : op.guard = none) (x y : Operand) (ho : op.op = .store 23 x y)
    (g : Nat) (hx : a.eval x = .pointer (some ⟨g, 1, none⟩)) (l : Int) (B C : List Int) (hy : a.eval y = .agg (kc C)) (hB : Ky B) (hC : Ky C) (hb : Blk w g 30 (pc l B))
    (h : ∀ w3, Blk w3 g 30 (pc l C) → (∀ k t cs, k ≠ g → Blk w k t cs → Blk w3 k t cs) → (∀ N v, N ≤ g → Below N v w → Below N v w3) → wpList Try.prog ops Q rest (a.put op.dst undef) w3) : wpList Try.prog ops Q (op :: rest) a w := by
  refine wpList_store_mid hgd 23 x y ho g 1 (kc C) hx hy (pc_there hB hb C hC) (kc_info hC) (kc_one C) ?_
  refine h _ ?_ (fun k t cs hk hbk => hbk.farCells hk _ _) (fun N v hN hv => below_setCells hN _ hv _)
  have := hb.putCells (u8s C) 1
  rwa [pc_put l hB hC] at this
theorem cut_0 (K : List Int) : cut K 0 = zk := (eq_ofBits zk_ky (cutF01 K 0) (fun i hi => by
  unfold cutF bit zk
  rw [if_neg (by omega), List.getElem?_replicate, if_pos (by omega)]
  simp [bt])).symm
theorem cut_1 (K : List Int) (k : Nat) (h : bit K k = 1) : setb (cut K k) k = cut K (k + 1) := by
  refine eq_ofBits (setb_ky _ _) (cutF01 K _) (fun i hi => ?_)
  rw [bit_setb _ _ _ hi, bit_cut _ _ _ hi]
  unfold cutF
  by_cases e : i = k
  · rw [if_pos e, if_pos (by omega), e, h]
  · rw [if_neg e]
    by_cases e2 : i < k
    · rw [if_pos e2, if_pos (by omega)]
    · rw [if_neg e2, if_neg (by omega)]
theorem cut_same (K : List Int) (k : Nat) (h : bit K k = 0) : cut K k = cut K (k + 1) := by
  refine eq_ofBits (cut_ky _ _) (cutF01 K _) (fun i hi => ?_)
  rw [bit_cut _ _ _ hi]
  unfold cutF
  by_cases e : i = k
  · rw [if_neg (by omega), if_pos (by omega), e, h]
  · by_cases e2 : i < k
    · rw [if_pos e2, if_pos (by omega)]
    · rw [if_neg e2, if_neg (by omega)]
/-- a length as it is taken: none below 0, 256 at most -/
def lim (n : Int) : Nat := min n.toNat 256
theorem lim_le (n : Int) : lim n ≤ 256 := by unfold lim; omega

theorem three_blks (w : World) (A B C : Array Value) (t s r : TypeId) : Blk (((w.alloc (.cells A t)).alloc (.cells B s)).alloc (.cells C r)) w.heap.size t A ∧ Blk (((w.alloc (.cells A t)).alloc (.cells B s)).alloc (.cells C r)) (w.heap.size + 1) s B ∧ Blk (((w.alloc (.cells A t)).alloc (.cells B s)).alloc (.cells C r)) (w.heap.size + 1 + 1) r C ∧ Below w.heap.size w (((w.alloc (.cells A t)).alloc (.cells B s)).alloc (.cells C r)) := by
  obtain ⟨h1, h2, h3⟩ := one_blks w A B t s
  have hs : ((w.alloc (.cells A t)).alloc (.cells B s)).heap.size = w.heap.size + 1 + 1 := by simp
  refine ⟨h1.alloc _, h2.alloc _, ?_, h3.alloc (by omega) _⟩
  have := Blk.new ((w.alloc (.cells A t)).alloc (.cells B s)) r C
  rwa [hs] at this

set_option maxHeartbeats 1000000 in
theorem rCut_any (K : List Int) (hK : Ky K) (n : Int) (w : World) :
    Calls Try.prog 19 #[.agg (kc K), .int .i64 n] w fun e w' => e = .returned (.agg (pc (lim n) (cut K (lim n)))) ∧ Below w.heap.size w w' := by
  obtain ⟨Z, HZ, hZ0, hZs⟩ := zero_pre
  obtain ⟨hk1, hk2, hk3, hb0⟩ := three_blks w (kc K) Z Z 23 30 30
  rw [HZ.out] at hk3
  rw [← HZ.out] at hk3
  have K1 := hid hk1; have K2 := hid hk2; have K3 := hid hk3; have B0 := hid hb0
  clear hk1 hk2 hk3 hb0
  go_enter Try.func19, Try.ntmps19
  go_wp2_with fail
  generalize ((w.alloc (.cells (kc K) 23)).alloc (.cells Z 30)).alloc (.cells Z 30) = w0 at K1 K2 K3 B0 ⊢
  go_loopw [6] (fun i wr => ∃ k : Nat, k ≤ 256 ∧ i = .int .i64 k ∧ Hid (k ≤ lim n) ∧ Hid (Blk wr w.heap.size 23 (kc K)) ∧ Hid (Blk wr (w.heap.size + 1) 30 Z) ∧ Hid (Blk wr (w.heap.size + 1 + 1) 30 (pc k (cut K k))) ∧ Hid (Below w.heap.size w wr)) (fun i _ => 256 - (intOf i).toNat)
  case atStart => exact ⟨0, Nat.zero_le _, rfl, Nat.zero_le _, K1.out, K2.out, by (show Blk w0 (w.heap.size + 1 + 1) 30 (pc 0 (cut K 0))); rw [cut_0, ← HZ.out]; exact K3.out, B0.out⟩
  case round =>
    obtain ⟨k, hk, rfl, HL, HK1, HK2, HK3, HB⟩ := hrel
    clear K1 K2 K3 B0
    by_cases hlt : k < 256 ∧ (k : Int) < n
    · obtain ⟨hk256, hkn⟩ := hlt
      have hki : (k : Int) < 256 := by omega
      have CB := hid (fun w => rBit_in K hK k hk256 w)
      have CS := hid (fun w => rSet_any (cut K k) (cut_ky K k) k hk256 w)
      have h01 := bit01 K k
      have hq1 := cut_1 K k
      have hq0 := cut_same K k
      have HL2 : Hid (k + 1 ≤ lim n) := by show _ ≤ min n.toNat 256; omega
      generalize bit K k = v at CB h01 hq1 hq0
      have c1 : wr.cell? ⟨w.heap.size + 1 + 1, 0, none⟩ = some (.int .i64 k) := by rw [HK3.out.cell]; rfl
      have c2 : wr.frozen? ⟨w.heap.size + 1 + 1, 0, none⟩ = false := HK3.out.frozen _
      have L1 : Hid (Blk (wr.setCell ⟨w.heap.size + 1 + 1, 0, none⟩ (.int .i64 (k + 1))) w.heap.size 23 (kc K)) := HK1.out.far (by simp <;> omega) _
      have L2 : Hid (Blk (wr.setCell ⟨w.heap.size + 1 + 1, 0, none⟩ (.int .i64 (k + 1))) (w.heap.size + 1) 30 Z) := HK2.out.far (by simp <;> omega) _
      have L3 : Hid (Blk (wr.setCell ⟨w.heap.size + 1 + 1, 0, none⟩ (.int .i64 (k + 1))) (w.heap.size + 1 + 1) 30 (pc ((k + 1 : Nat) : Int) (cut K k))) := HK3.out.setd 0 _
      have LB : Hid (Below w.heap.size w (wr.setCell ⟨w.heap.size + 1 + 1, 0, none⟩ (.int .i64 (k + 1)))) := HB.out.setCell (by simp; omega) _
      rcases h01 with rfl | rfl
      · have HQ := hid (hq0 rfl)
        clear hq0 hq1 HK1 HK2 HK3 HB
        go_wp2_with (first
          | (refine load_at rfl 23 (.tmp 2) rfl w.heap.size 0 rfl (u8s K) _ (blk_key L1.out) Try.underlying23 rfl (u8s_info hK) (kc K) rfl ?_)
          | (go_at_call 11; refine (CB.out _).mono ?_; rintro e w1 ⟨rfl, hb1⟩; have M1 := hid (L1.out.below hb1); have M2 := hid (L2.out.below hb1); have M3 := hid (L3.out.below hb1); have MB := hid (LB.out.trans (hb1.mono LB.out.size)); clear hb1 L1 L2 L3 LB))
        exact ⟨⟨k + 1, by omega, by go_num, HL2.out, M1.out, M2.out, by (show Blk _ _ _ _); rw [← HQ.out]; exact M3.out, MB.out⟩, by simp [intOf]; omega⟩
      · have HQ := hid (hq1 rfl)
        clear hq0 hq1 HK1 HK2 HK3 HB
        have hS := setb_ky (cut K k) k
        have hC := cut_ky K k
        rw [HQ.out] at CS hS
        go_wp2_with (first
          | (refine load_at rfl 23 (.tmp 2) rfl w.heap.size 0 rfl (u8s K) _ (blk_key L1.out) Try.underlying23 rfl (u8s_info hK) (kc K) rfl ?_)
          | (go_at_call 11; refine (CB.out _).mono ?_; rintro e w1 ⟨rfl, hb1⟩; have M1 := hid (L1.out.below hb1); have M2 := hid (L2.out.below hb1); have M3 := hid (L3.out.below hb1); have MB := hid (LB.out.trans (hb1.mono LB.out.size)); clear hb1 L1 L2 L3 LB)
          | (refine load_at rfl 23 (.tmp 24) rfl (w.heap.size + 1 + 1) 1 rfl (u8s (cut K k)) _ (pc_range M3.out) Try.underlying23 rfl (u8s_info hC) (kc (cut K k)) rfl ?_)
          | (go_at_call 31; refine (CS.out _).mono ?_; rintro e w2 ⟨rfl, hb2⟩; have N1 := hid (M1.out.below hb2); have N2 := hid (M2.out.below hb2); have N3 := hid (M3.out.below hb2); have NB := hid (MB.out.trans (hb2.mono MB.out.size)); clear hb2 M1 M2 M3 MB)
          | (refine store_bits rfl (.tmp 28) (.tmp 27) rfl (w.heap.size + 1 + 1) rfl ((k + 1 : Nat) : Int) (cut K k) (cut K (k + 1)) rfl hC hS N3.out ?_; intro w3 o3 of ob; have O3 := hid o3; have O1 := hid (of _ _ _ (by omega) N1.out); have O2 := hid (of _ _ _ (by omega) N2.out); have OB := hid (ob _ _ (by omega) NB.out); clear o3 of ob N1 N2 N3 NB))
        exact ⟨⟨k + 1, by omega, by go_num, HL2.out, O1.out, O2.out, O3.out, OB.out⟩, by simp [intOf]; omega⟩
    · have he : Hid (lim n = k) := by
        have := HL.out
        show min n.toNat 256 = k
        unfold lim at this
        omega
      have hx : 256 ≤ k ∨ ¬ (k : Int) < n := by omega
      have hC := cut_ky K k
      have HI := hid (pc_info k hC)
      have HZ33 : Hid (Z.size = (pc k (cut K k)).size) := by show _ = _; rw [HZ.out, pc_size 0 zk_ky, pc_size _ hC]
      clear hlt
      rcases hx with hx | hx
      · obtain rfl : k = 256 := by omega
        by_cases hn : (256 : Int) < n
        all_goals
          go_wp2_with (first
            | (refine load_at rfl 30 (.tmp 5) rfl (w.heap.size + 1 + 1) 0 rfl (.int .i64 (256 : Nat) :: u8s (cut K 256)) _ (blk_pre HK3.out) Try.underlying30 rfl (pcl_info _ hC) (pc (256 : Nat) (cut K 256)) rfl ?_)
            | (refine wpList_store_row rfl 30 (.tmp 4) (.tmp 29) rfl (w.heap.size + 1) (pc (256 : Nat) (cut K 256)) rfl rfl 30 Z HK2.out HI.out HZ33.out (pc_one _ _) ?_))
          try go_frame
          refine bodyPost_ret (results_cell_row Try.results19 _ _ (w.heap.size + 1) 30 (pc (256 : Nat) (cut K 256)) (0, 0) _ rfl (HK2.out.row _) Try.underlying30 rfl HI.out) rfl ?_
          rw [he.out]
          exact ⟨rfl, below_setRow HB.out (by omega) _⟩
      · go_wp2_with (first
            | (refine load_at rfl 30 (.tmp 5) rfl (w.heap.size + 1 + 1) 0 rfl (.int .i64 k :: u8s (cut K k)) _ (blk_pre HK3.out) Try.underlying30 rfl (pcl_info _ hC) (pc k (cut K k)) rfl ?_)
            | (refine wpList_store_row rfl 30 (.tmp 4) (.tmp 29) rfl (w.heap.size + 1) (pc k (cut K k)) rfl rfl 30 Z HK2.out HI.out HZ33.out (pc_one _ _) ?_))
        try go_frame
        refine bodyPost_ret (results_cell_row Try.results19 _ _ (w.heap.size + 1) 30 (pc k (cut K k)) (0, 0) _ rfl (HK2.out.row _) Try.underlying30 rfl HI.out) rfl ?_
        rw [he.out]
        exact ⟨rfl, below_setRow HB.out (by omega) _⟩
end Go.Proofs.Ytdaobhclcpgjbaa
