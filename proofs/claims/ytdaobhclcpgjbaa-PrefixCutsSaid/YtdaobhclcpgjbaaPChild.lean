/-
  What is proved here: a beginning with a bit more, as the code tells it.
-/
import Derived.Test.YtdaobhclcpgjbaaPMeetR
namespace Go.Proofs.Ytdaobhclcpgjbaa
open Go.ChangeShapes Go.WideShapes Go.ChangeAt Go.RowKit
set_option linter.unusedVariables false

/-- whether there is a beginning with a bit more -/
def chB (l : Int) (B : List Int) (b : Int) : Bool := frm l B && decide (l ≠ 256) && (decide (b = 0) || decide (b = 1))
/-- its bits -/
def chK (l : Int) (B : List Int) (b : Int) : List Int := if b = 1 then setb B l.toNat else B
def chV (l : Int) (B : List Int) (b : Int) : Value := if chB l B b = true then .tuple #[.agg (pc (l + 1) (chK l B b)), .bool true] else .tuple #[.agg (pc 0 zk), .bool false]
theorem results_child {P : Program} {fn : Func} {p q : Tmp} {ty : TypeId} (h : fn.results = #[.cell p ty, .tmp q]) (tmps : Array Value) (w : World) (g : Nat) (t : TypeId) (cs : Array Value) (fr : Nat × Nat) (d : TypeDesc)
    (hp : tmps.getD p undef = .pointer (some ⟨g, 0, none⟩)) (hg : w.heap[g]? = some (.cells cs t fr))
    (hu : P.underlying ty = some d) (hd : (match d with | .struct _ | .array _ _ => true | _ => false) = true) (hi : (P.info? ty).map (·.size) = some cs.size) :
    (results fn tmps).run P w = .ok (.tuple #[.agg cs, tmps.getD q undef]) w := by
  have hp' : tmps[p]?.getD undef = .pointer (some ⟨g, 0, none⟩) := by simpa using hp
  simp [results, h, hp', asAddr, run_loadVar_row w g t ty cs fr d hg hu hd hi]
theorem or_rot_f : ∀ t : Fin 8, ∀ x : Fin 256, bits .or .u8 (x.val : Int) (rot 0 (7 - t.val)) = x.val ∧ (bt (x.val : Int) t.val = 0 → bits .or .u8 (x.val : Int) (rot 1 (7 - t.val)) = (x.val : Int) + 2 ^ (7 - t.val)) := by decide +kernel
theorem or_rot (x : Int) (hx : 0 ≤ x ∧ x < 256) (t : Nat) (ht : t < 8) : bits .or .u8 x (rot 0 (7 - t)) = x ∧ (bt x t = 0 → bits .or .u8 x (rot 1 (7 - t)) = x + 2 ^ (7 - t)) := by
  obtain ⟨n, rfl⟩ : ∃ n : Nat, x = n := ⟨x.toNat, by omega⟩
  exact or_rot_f ⟨t, ht⟩ ⟨n, by omega⟩
theorem set_self {K : List Int} (hK : Ky K) (j : Nat) : K.set j (K[j]?.getD 0) = K := by
  apply List.ext_getElem?
  intro i
  rw [List.getElem?_set]
  by_cases e : j = i
  · subst e
    rw [if_pos rfl]
    by_cases h : j < K.length
    · rw [if_pos h]; simp [h]
    · rw [if_neg h, List.getElem?_eq_none (by omega)]
  · rw [if_neg e]
theorem frm_bit {l : Nat} {B : List Int} (hB : Ky B) (h : frm l B = true) (i : Nat) (h1 : l ≤ i) (h2 : i < 256) : bit B i = 0 := by
  have := (of_decide_eq_true h).2.2
  rw [show ((l : Int)).toNat = l by omega] at this
  have h3 := (cut_is_iff hB).1 this i h2
  rw [if_neg (by omega)] at h3
  exact h3

set_option maxHeartbeats 4000000 in
theorem pChild_no (l : Int) (B : List Int) (b : Int) (hB : Ky B) (w : World) (h : chB l B b = false) :
    Calls Try.prog 16 #[.agg (pc l B), .int .i64 b] w fun e w' => e = .returned (.tuple #[.agg (pc 0 zk), .bool false]) ∧ Below w.heap.size w w' := by
  obtain ⟨Z, HZ, hZ0, hZs⟩ := zero_pre
  obtain ⟨hk1, hk2, hb0⟩ := one_blks w (pc l B) Z 30 30
  have K1 := hid hk1; have K2 := hid hk2; have B0 := hid hb0
  clear hk1 hk2 hb0
  have CF := hid (fun w => pFormed_any l B hB w)
  have HI := hid (pc_info 0 zk_ky)
  have HZ33 : Hid (Z.size = (pc 0 zk).size) := by show _ = _; rw [HZ.out]
  unfold chB at h
  generalize frm l B = v at CF h
  have hcase : v = false ∨ v = true ∧ l = 256 ∨ v = true ∧ l ≠ 256 ∧ b ≠ 0 ∧ b ≠ 1 := by
    cases v
    · exact Or.inl rfl
    · by_cases h1 : l = 256
      · exact Or.inr (Or.inl ⟨rfl, h1⟩)
      · refine Or.inr (Or.inr ⟨rfl, h1, fun h2 => ?_, fun h2 => ?_⟩)
        · simp [h1, h2] at h
        · simp [h1, h2] at h
  clear h
  rcases hcase with rfl | ⟨rfl, rfl⟩ | ⟨rfl, hl, hb0, hb1⟩
  · go_enter Try.func16, Try.ntmps16
    go_wp2_with (first
      | (refine load_at rfl 30 (.tmp 2) rfl w.heap.size 0 rfl (.int .i64 l :: u8s B) _ (blk_pre K1.out) Try.underlying30 rfl (pcl_info l hB) (pc l B) rfl ?_)
      | (go_at_call 20; refine (CF.out _).mono ?_; rintro e w1 ⟨rfl, hb1⟩; have L1 := hid (K1.out.below hb1); have L2 := hid (K2.out.below hb1); have B1 := hid (B0.out.trans (hb1.mono B0.out.size)); have c1 : w1.cell? ⟨w.heap.size, 0, none⟩ = some (.int .i64 l) := L1.out.cell 0; clear hb1)
      | (refine build_0 rfl rfl ?_)
      | (refine wpList_store_row rfl 30 (.tmp 4) (.tmp 22) rfl (w.heap.size + 1) (pc 0 zk) rfl rfl 30 Z L2.out HI.out HZ33.out (pc_one _ _) ?_))
    try go_frame
    refine bodyPost_ret (results_child Try.results16 _ _ (w.heap.size + 1) 30 (pc 0 zk) (0, 0) _ rfl (L2.out.row _) Try.underlying30 rfl HI.out) rfl ?_
    exact ⟨rfl, below_setRow B1.out (by omega) _⟩
  · go_enter Try.func16, Try.ntmps16
    go_wp2_with (first
      | (refine load_at rfl 30 (.tmp 2) rfl w.heap.size 0 rfl (.int .i64 256 :: u8s B) _ (blk_pre K1.out) Try.underlying30 rfl (pcl_info 256 hB) (pc 256 B) rfl ?_)
      | (go_at_call 20; refine (CF.out _).mono ?_; rintro e w1 ⟨rfl, hb1⟩; have L1 := hid (K1.out.below hb1); have L2 := hid (K2.out.below hb1); have B1 := hid (B0.out.trans (hb1.mono B0.out.size)); have c1 : w1.cell? ⟨w.heap.size, 0, none⟩ = some (.int .i64 256) := L1.out.cell 0; clear hb1)
      | (refine build_0 rfl rfl ?_)
      | (refine wpList_store_row rfl 30 (.tmp 4) (.tmp 22) rfl (w.heap.size + 1) (pc 0 zk) rfl rfl 30 Z L2.out HI.out HZ33.out (pc_one _ _) ?_))
    try go_frame
    refine bodyPost_ret (results_child Try.results16 _ _ (w.heap.size + 1) 30 (pc 0 zk) (0, 0) _ rfl (L2.out.row _) Try.underlying30 rfl HI.out) rfl ?_
    exact ⟨rfl, below_setRow B1.out (by omega) _⟩
  · have e1 : (l == 256) = false := by simpa using hl
    have e2 : (b != 0) = true := by simpa using hb0
    have e3 : (b != 1) = true := by simpa using hb1
    go_enter Try.func16, Try.ntmps16
    go_wp2_with (first
      | (refine load_at rfl 30 (.tmp 2) rfl w.heap.size 0 rfl (.int .i64 l :: u8s B) _ (blk_pre K1.out) Try.underlying30 rfl (pcl_info l hB) (pc l B) rfl ?_)
      | (go_at_call 20; refine (CF.out _).mono ?_; rintro e w1 ⟨rfl, hb1⟩; have L1 := hid (K1.out.below hb1); have L2 := hid (K2.out.below hb1); have B1 := hid (B0.out.trans (hb1.mono B0.out.size)); have c1 : w1.cell? ⟨w.heap.size, 0, none⟩ = some (.int .i64 l) := L1.out.cell 0; clear hb1)
      | (refine build_0 rfl rfl ?_)
      | (refine wpList_store_row rfl 30 (.tmp 4) (.tmp 22) rfl (w.heap.size + 1) (pc 0 zk) rfl rfl 30 Z L2.out HI.out HZ33.out (pc_one _ _) ?_))
    try go_frame
    refine bodyPost_ret (results_child Try.results16 _ _ (w.heap.size + 1) 30 (pc 0 zk) (0, 0) _ rfl (L2.out.row _) Try.underlying30 rfl HI.out) rfl ?_
    exact ⟨rfl, below_setRow B1.out (by omega) _⟩
end Go.Proofs.Ytdaobhclcpgjbaa
