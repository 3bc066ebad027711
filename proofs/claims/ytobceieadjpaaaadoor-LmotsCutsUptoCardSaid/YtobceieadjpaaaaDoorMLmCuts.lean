/-
  What is proved here: a one-time signature without some bytes at its end, or with some more, or of another kind's number, leads nowhere: the walk of the statement.
-/
import Derived.Test.YtobceieadjpaaaaDoorMLmR1
import Derived.Test.YtobceieadjpaaaaDoorMLsU
import Derived.Test.YtobceieadjpaaaaDoorMLsy
import Derived.Test.YtobceieadjpaaaaDoorMLmL
import Derived.Test.YtobceieadjpaaaaDoorMKd1
import Derived.Test.YtobceieadjpaaaaDoorMHsCut
import Derived.Deep.DeepCutAuto
import Derived.Deep.RegionLaw
set_option linter.unusedSimpArgs false
set_option linter.unusedVariables false
namespace Go.Proofs.YtobceieadjpaaaaDoor
open Go.ChangeShapes Go.WideShapes Go.ChangeAt Go.RowKit
set_option linter.unusedVariables false
set_option maxRecDepth 20000

theorem rp_set {w : World} {g i : Nat} {cur : Array Value} {xs : List Int} (h : Blk w g 5 cur) (hc : ∀ j, j < xs.length → cur[j]? = some (.int .u8 (xs[j]?.getD 0))) (x : Int) (hi : i < xs.length) :
    Rp (w.setCell ⟨g, i, none⟩ (.int .u8 x)) none (some ⟨g, 0, none⟩) (xs.set i x) := fun _ => by
  refine ⟨_, rfl, (fun ⟨a, e, _⟩ => by cases e), fun j hj => ?_⟩
  rw [List.length_set] at hj
  rw [Addr.add_lit, Nat.zero_add, (h.setd i _).cell, Array.getElem?_setIfInBounds]
  have hj2 := hc j hj
  have hlt : i < cur.size := by
    have := hc i hi
    rcases Nat.lt_or_ge i cur.size with h1 | h1
    · exact h1
    · rw [Array.getElem?_eq_none h1] at this; cases this
  by_cases hij : i = j
  · subst hij
    rw [if_pos rfl, if_pos hlt, List.getElem?_set_self (by omega)]
    rfl
  · rw [if_neg hij, hj2, List.getElem?_set_ne hij]
theorem kind_4 {k : Int} (hk : Kd k) : ∃ m : Int, k % 4 = m ∧ k.tmod 4 = m ∧ 0 ≤ m ∧ m < 4 ∧ Kd (m + 1) ∧ m + 1 ≠ k := by
  rcases hk with rfl | rfl | rfl | rfl
  · exact ⟨1, rfl, rfl, by decide, by decide, .inr (.inl rfl), by decide⟩
  · exact ⟨2, rfl, rfl, by decide, by decide, .inr (.inr (.inl rfl)), by decide⟩
  · exact ⟨3, rfl, rfl, by decide, by decide, .inr (.inr (.inr rfl)), by decide⟩
  · exact ⟨0, rfl, rfl, by decide, by decide, .inl rfl, by decide⟩
theorem sign_take {k : Int} (hk : Kd k) (id : List Int) (q : Int) (sd msg : List Int) : (signK k id q sd msg).take 4 = be k 4 := by
  unfold signK
  rw [List.take_append_of_le_length (by rw [be_length]; omega), List.take_of_length_le (by rw [be_length]; omega)]
/-- a key lies where it lay -/
structure Qk (k : Int) (id : List Int) (q : Int) (sd : List Int) (kb : Nat) (w w' : World) : Prop where
  b0 : Blk w' (kb) 28 (lkeyC k id q sd)
  bl : Below w.heap.size w w'
section
variable {k : Int} {id : List Int} {q : Int} {sd : List Int} {kb : Nat} {w w' w2 : World}
theorem Qk.below (h : Qk k id q sd kb w w') (hb : Below w'.heap.size w' w2) : Qk k id q sd kb w w2 := ⟨h.b0.below hb, h.bl.trans (hb.mono h.bl.size)⟩
theorem Qk.drew (h : Qk k id q sd kb w w') : Qk k id q sd kb w w'.drew := h.below ((Below.refl _ _).drew)
theorem Qk.alloc (h : Qk k id q sd kb w w') (o : Obj) : Qk k id q sd kb w (w'.alloc o) := h.below ((Below.refl _ _).alloc (Nat.le_refl _) _)
theorem Qk.row (h : Qk k id q sd kb w w') {g : Nat} (n0 : kb ≠ g) (hg : w.heap.size ≤ g) (cs : Array Value) : Qk k id q sd kb w (w'.setRow g cs) := ⟨h.b0.rowFar n0 cs, below_setRow h.bl hg cs⟩
end
set_option maxHeartbeats 16000000 in
theorem cuts_walk (k : Int) (id : List Int) (q : Int) (sd : List Int) (A1 : Option Addr) (n1 c1 : Nat) (M : List Int) (A2 : Option Addr) (n2 c2 : Nat) (R : List Int) (w : World) (hid0 : id.length = 16 ∧ Bs id) (hq : 0 ≤ q ∧ q < 4294967296) (hs : Ky sd) (hin1 : InB w A1 n1 c1 M) (hc1 : n1 ≤ c1) (hin2 : InB w A2 n2 c2 R) (hc2 : n2 ≤ c2) (ht : Tab w) (hbig : n1 < 2000000) :
    Calls Tryd.prog 3 #[.agg (lkeyC k id q sd), .slice A1 n1 c1, .slice A2 n2 c2] w fun e w' => e = .returned (.bool true) ∧ Below w.heap.size w w' := by
  have hi : Idn id := ⟨hid0.1, hid0.2⟩
  have B0 : Hid (Below w.heap.size w (w.alloc (.cells (lkeyC k id q sd) 28))) := (Below.refl _ _).alloc (Nat.le_refl _) _
  have L0 := hid (Blk.new w 28 (lkeyC k id q sd))
  have IDI := hid (id_info hi); have SDI := hid (hash_info hs.len)
  have HII := hid hi
  obtain ⟨hL1, _, hb1, hr1⟩ := hin1
  obtain ⟨hL2, _, hb2, hr2⟩ := hin2
  by_cases hkn : ¬ (k = 1 ∨ k = 2 ∨ k = 3 ∨ k = 4)
  · have CN : Hid (∀ w1, Below w.heap.size w w1 → Calls Tryd.prog 12 #[.int .i64 k, .agg (u8s id).toArray, .int .u32 q, .agg (u8s sd).toArray, .slice A1 n1 c1] w1 fun e w' => e = .returned (.tuple #[.slice none 0 0, .int .i64 1]) ∧ Below w1.heap.size w1 w') := fun w1 _ => lSign_no k id q sd A1 n1 c1 w1 (by omega) hi hq hs
    clear hL1 hb1 hr1 hL2 hb2 hr2 hc1 hc2 hid0 hq hs ht hi hkn hbig
    by_cases g1 : (500 : Int) < (n1 : Int)
    · have d1 : decide ((500 : Int) < (n1 : Int)) = true := decide_eq_true g1
      go_enter Tryd.func3, Tryd.ntmps3
      go_upto_region 1 with (fail)
      generalize w.alloc (.cells (lkeyC k id q sd) 28) = w0 at L0 B0 ⊢
      have c0 := lkey_0 L0.out
      have c17 := lkey_17 L0.out HII.out
      go_wp2_with (first
        | (refine load_at rfl 23 (.tmp 20) rfl w.heap.size 1 rfl (u8s id) _ (lkey_id L0.out HII.out) Tryd.underlying23 rfl IDI.out (u8s id).toArray rfl ?_)
        | (refine load_at rfl 26 (.tmp 24) rfl w.heap.size 18 rfl (u8s sd) _ (lkey_sd L0.out HII.out) Tryd.underlying26 rfl SDI.out (u8s sd).toArray rfl ?_)
        | (go_at_call 12; refine (CN.out _ B0.out).mono ?_; rintro e w1 ⟨rfl, hb1⟩; have B1 := hid (B0.out.trans (hb1.mono B0.out.size)); clear hb1)
        | (go_at_call 13; (with_reducible refine (kawake_any w1).mono ?_); rintro e w2 ⟨rfl, hb2⟩; have B2 := hid (B1.out.trans (hb2.mono B1.out.size)); clear hb2)
        | (go_at_call 13; refine (kawake_any w2).mono ?_; rintro e w3 ⟨rfl, hb3⟩; have B3 := hid (B2.out.trans (hb3.mono B2.out.size)); clear hb3))
      go_ret
      exact ⟨rfl, B3.out⟩
    have d1 : decide ((500 : Int) < (n1 : Int)) = false := decide_eq_false g1
    by_cases g2 : (100 : Int) < (n2 : Int)
    · have d2 : decide ((100 : Int) < (n2 : Int)) = true := decide_eq_true g2
      go_enter Tryd.func3, Tryd.ntmps3
      go_upto_region 1 with (fail)
      generalize w.alloc (.cells (lkeyC k id q sd) 28) = w0 at L0 B0 ⊢
      have c0 := lkey_0 L0.out
      have c17 := lkey_17 L0.out HII.out
      go_wp2_with (first
        | (refine load_at rfl 23 (.tmp 20) rfl w.heap.size 1 rfl (u8s id) _ (lkey_id L0.out HII.out) Tryd.underlying23 rfl IDI.out (u8s id).toArray rfl ?_)
        | (refine load_at rfl 26 (.tmp 24) rfl w.heap.size 18 rfl (u8s sd) _ (lkey_sd L0.out HII.out) Tryd.underlying26 rfl SDI.out (u8s sd).toArray rfl ?_)
        | (go_at_call 12; refine (CN.out _ B0.out).mono ?_; rintro e w1 ⟨rfl, hb1⟩; have B1 := hid (B0.out.trans (hb1.mono B0.out.size)); clear hb1)
        | (go_at_call 13; (with_reducible refine (kawake_any w1).mono ?_); rintro e w2 ⟨rfl, hb2⟩; have B2 := hid (B1.out.trans (hb2.mono B1.out.size)); clear hb2)
        | (go_at_call 13; refine (kawake_any w2).mono ?_; rintro e w3 ⟨rfl, hb3⟩; have B3 := hid (B2.out.trans (hb3.mono B2.out.size)); clear hb3))
      go_ret
      exact ⟨rfl, B3.out⟩
    have d2 : decide ((100 : Int) < (n2 : Int)) = false := decide_eq_false g2
    by_cases g3 : (n2 : Int) = 0
    · have d3 : ((n2 : Int) == 0) = true := by rw [beq_iff_eq]; exact g3
      clear g3
      go_enter Tryd.func3, Tryd.ntmps3
      go_upto_region 1 with (fail)
      generalize w.alloc (.cells (lkeyC k id q sd) 28) = w0 at L0 B0 ⊢
      have c0 := lkey_0 L0.out
      have c17 := lkey_17 L0.out HII.out
      go_wp2_with (first
        | (refine load_at rfl 23 (.tmp 20) rfl w.heap.size 1 rfl (u8s id) _ (lkey_id L0.out HII.out) Tryd.underlying23 rfl IDI.out (u8s id).toArray rfl ?_)
        | (refine load_at rfl 26 (.tmp 24) rfl w.heap.size 18 rfl (u8s sd) _ (lkey_sd L0.out HII.out) Tryd.underlying26 rfl SDI.out (u8s sd).toArray rfl ?_)
        | (go_at_call 12; refine (CN.out _ B0.out).mono ?_; rintro e w1 ⟨rfl, hb1⟩; have B1 := hid (B0.out.trans (hb1.mono B0.out.size)); clear hb1)
        | (go_at_call 13; (with_reducible refine (kawake_any w1).mono ?_); rintro e w2 ⟨rfl, hb2⟩; have B2 := hid (B1.out.trans (hb2.mono B1.out.size)); clear hb2)
        | (go_at_call 13; refine (kawake_any w2).mono ?_; rintro e w3 ⟨rfl, hb3⟩; have B3 := hid (B2.out.trans (hb3.mono B2.out.size)); clear hb3))
      go_ret
      exact ⟨rfl, B3.out⟩
    have d3 : ((n2 : Int) == 0) = false := by rw [beq_eq_false_iff_ne]; exact g3
    go_enter Tryd.func3, Tryd.ntmps3
    go_upto_region 1 with (fail)
    generalize w.alloc (.cells (lkeyC k id q sd) 28) = w0 at L0 B0 ⊢
    have c0 := lkey_0 L0.out
    have c17 := lkey_17 L0.out HII.out
    go_wp2_with (first
      | (refine load_at rfl 23 (.tmp 20) rfl w.heap.size 1 rfl (u8s id) _ (lkey_id L0.out HII.out) Tryd.underlying23 rfl IDI.out (u8s id).toArray rfl ?_)
      | (refine load_at rfl 26 (.tmp 24) rfl w.heap.size 18 rfl (u8s sd) _ (lkey_sd L0.out HII.out) Tryd.underlying26 rfl SDI.out (u8s sd).toArray rfl ?_)
      | (go_at_call 12; refine (CN.out _ B0.out).mono ?_; rintro e w1 ⟨rfl, hb1⟩; have B1 := hid (B0.out.trans (hb1.mono B0.out.size)); clear hb1)
      | (go_at_call 13; (with_reducible refine (kawake_any w1).mono ?_); rintro e w2 ⟨rfl, hb2⟩; have B2 := hid (B1.out.trans (hb2.mono B1.out.size)); clear hb2)
      | (go_at_call 13; refine (kawake_any w2).mono ?_; rintro e w3 ⟨rfl, hb3⟩; have B3 := hid (B2.out.trans (hb3.mono B2.out.size)); clear hb3))
    go_ret
    exact ⟨rfl, B3.out⟩
  have hkd : Kd k := (Decidable.not_not.1 hkn : k = 1 ∨ k = 2 ∨ k = 3 ∨ k = 4)
  clear hkn
  have CN : Hid (∀ w1, Below w.heap.size w w1 → Calls Tryd.prog 12 #[.int .i64 k, .agg (u8s id).toArray, .int .u32 q, .agg (u8s sd).toArray, .slice A1 n1 c1] w1 fun e w' => ∃ g, e = .returned (.tuple #[.slice (some ⟨g, 0, none⟩) (ksize k) (ksize k), .int .i64 0]) ∧ w1.heap.size ≤ g ∧ Blk w' g 5 (u8s (signK k id q sd M)).toArray ∧ Below w1.heap.size w1 w') := fun w1 hb => lSign_kd k id q sd A1 n1 c1 M w1 hkd hi hq hs hL1.symm (hr1.belowN hb) hb1 (by omega) hc1 (ht.below hb)
  by_cases g1 : (500 : Int) < (n1 : Int)
  · have d1 : decide ((500 : Int) < (n1 : Int)) = true := decide_eq_true g1
    go_enter Tryd.func3, Tryd.ntmps3
    go_upto_region 1 with (fail)
    generalize w.alloc (.cells (lkeyC k id q sd) 28) = w0 at L0 B0 ⊢
    have c0 := lkey_0 L0.out
    have c17 := lkey_17 L0.out HII.out
    go_wp2_with (first
      | (refine load_at rfl 23 (.tmp 20) rfl w.heap.size 1 rfl (u8s id) _ (lkey_id L0.out HII.out) Tryd.underlying23 rfl IDI.out (u8s id).toArray rfl ?_)
      | (refine load_at rfl 26 (.tmp 24) rfl w.heap.size 18 rfl (u8s sd) _ (lkey_sd L0.out HII.out) Tryd.underlying26 rfl SDI.out (u8s sd).toArray rfl ?_)
      | (go_at_call 12; refine (CN.out _ B0.out).mono ?_; rintro e w1 ⟨gs, rfl, _, hgs, hb1⟩; have B1 := hid (B0.out.trans (hb1.mono B0.out.size)); clear hb1 hgs)
      | (go_at_call 13; (with_reducible refine (kawake_any w1).mono ?_); rintro e w2 ⟨rfl, hb2⟩; have B2 := hid (B1.out.trans (hb2.mono B1.out.size)); clear hb2)
      | (go_at_call 13; refine (kawake_any w2).mono ?_; rintro e w3 ⟨rfl, hb3⟩; have B3 := hid (B2.out.trans (hb3.mono B2.out.size)); clear hb3))
    go_ret
    exact ⟨rfl, B3.out⟩
  have d1 : decide ((500 : Int) < (n1 : Int)) = false := decide_eq_false g1
  by_cases g2 : (100 : Int) < (n2 : Int)
  · have d2 : decide ((100 : Int) < (n2 : Int)) = true := decide_eq_true g2
    go_enter Tryd.func3, Tryd.ntmps3
    go_upto_region 1 with (fail)
    generalize w.alloc (.cells (lkeyC k id q sd) 28) = w0 at L0 B0 ⊢
    have c0 := lkey_0 L0.out
    have c17 := lkey_17 L0.out HII.out
    go_wp2_with (first
      | (refine load_at rfl 23 (.tmp 20) rfl w.heap.size 1 rfl (u8s id) _ (lkey_id L0.out HII.out) Tryd.underlying23 rfl IDI.out (u8s id).toArray rfl ?_)
      | (refine load_at rfl 26 (.tmp 24) rfl w.heap.size 18 rfl (u8s sd) _ (lkey_sd L0.out HII.out) Tryd.underlying26 rfl SDI.out (u8s sd).toArray rfl ?_)
      | (go_at_call 12; refine (CN.out _ B0.out).mono ?_; rintro e w1 ⟨gs, rfl, _, hgs, hb1⟩; have B1 := hid (B0.out.trans (hb1.mono B0.out.size)); clear hb1 hgs)
      | (go_at_call 13; (with_reducible refine (kawake_any w1).mono ?_); rintro e w2 ⟨rfl, hb2⟩; have B2 := hid (B1.out.trans (hb2.mono B1.out.size)); clear hb2)
      | (go_at_call 13; refine (kawake_any w2).mono ?_; rintro e w3 ⟨rfl, hb3⟩; have B3 := hid (B2.out.trans (hb3.mono B2.out.size)); clear hb3))
    go_ret
    exact ⟨rfl, B3.out⟩
  have d2 : decide ((100 : Int) < (n2 : Int)) = false := decide_eq_false g2
  by_cases g3 : (n2 : Int) = 0
  · have d3 : ((n2 : Int) == 0) = true := by rw [beq_iff_eq]; exact g3
    clear g3
    go_enter Tryd.func3, Tryd.ntmps3
    go_upto_region 1 with (fail)
    generalize w.alloc (.cells (lkeyC k id q sd) 28) = w0 at L0 B0 ⊢
    have c0 := lkey_0 L0.out
    have c17 := lkey_17 L0.out HII.out
    go_wp2_with (first
      | (refine load_at rfl 23 (.tmp 20) rfl w.heap.size 1 rfl (u8s id) _ (lkey_id L0.out HII.out) Tryd.underlying23 rfl IDI.out (u8s id).toArray rfl ?_)
      | (refine load_at rfl 26 (.tmp 24) rfl w.heap.size 18 rfl (u8s sd) _ (lkey_sd L0.out HII.out) Tryd.underlying26 rfl SDI.out (u8s sd).toArray rfl ?_)
      | (go_at_call 12; refine (CN.out _ B0.out).mono ?_; rintro e w1 ⟨gs, rfl, _, hgs, hb1⟩; have B1 := hid (B0.out.trans (hb1.mono B0.out.size)); clear hb1 hgs)
      | (go_at_call 13; (with_reducible refine (kawake_any w1).mono ?_); rintro e w2 ⟨rfl, hb2⟩; have B2 := hid (B1.out.trans (hb2.mono B1.out.size)); clear hb2)
      | (go_at_call 13; refine (kawake_any w2).mono ?_; rintro e w3 ⟨rfl, hb3⟩; have B3 := hid (B2.out.trans (hb3.mono B2.out.size)); clear hb3))
    go_ret
    exact ⟨rfl, B3.out⟩
  have d3 : ((n2 : Int) == 0) = false := by rw [beq_eq_false_iff_ne]; exact g3
  have hgl := sign_length hkd id q sd M
  have htk := sign_take hkd id q sd M
  obtain ⟨m, hm1, hm2, hm3, hm4, hmk, hmn⟩ := kind_4 hkd
  have hks : 200 ≤ ksize k := by rcases hkd with rfl | rfl | rfl | rfl <;> decide
  have hks2 := ksize_le k
  have hkk : 1 ≤ k ∧ k ≤ 4 := by rcases hkd with rfl | rfl | rfl | rfl <;> decide
  have hgb := sgnK_bs k id q sd M
  have V1 : Hid (sigB (signK k id q sd M ++ R) = false) := sig_size hkd _ (by rw [List.take_append_of_le_length (by omega)]; exact htk) (by rw [List.length_append, hgl]; omega)
  have V2 : Hid (sigB ((signK k id q sd M).take (ksize k - n2)) = false) := sig_size hkd _ (by rw [List.take_take, Nat.min_eq_left (by omega)]; exact htk) (by rw [List.length_take, hgl]; omega)
  have V3 : Hid (sigB ((signK k id q sd M).set 3 (m + 1)) = false) := sig_size hmk _ (by rw [List.take_set, htk, be4_kind hkd, be4_kind hmk]; rfl) (by rw [List.length_set, hgl]; intro h; exact hmn (size_inj hmk hkd h.symm))
  have CRV : Hid (∀ (A : Option Addr) (n c : Nat) (SX : List Int) (w1 : World), sigB SX = false → n = SX.length → Rp w1 none A SX → Bs SX → SX.length < 1000000 → Below w.heap.size w w1 → Calls Tryd.prog 14 #[.agg (u8s id).toArray, .int .u32 q, .slice A1 n1 c1, .slice A n c] w1 fun e w' => ∃ HX : List Int, e = .returned (.tuple #[.agg (u8s HX).toArray, .bool false]) ∧ HX.length = 32 ∧ Below w1.heap.size w1 w') := fun A n c SX w1 hv h1 h2 h3 h4 hb => by
    have := lRecover_any id q A1 n1 c1 M A n c SX w1 hi hq hL1.symm (hr1.belowN hb) hb1 (by omega) hc1 h1 h2 h3 h4 (ht.below hb)
    rw [hv] at this
    exact this.mono fun e w' ⟨he, hb'⟩ => ⟨_, he, (by unfold recK; rw [hv]; simp [zeroK]), hb'⟩
  have HR2 := hid (fun (w1 : World) (hb : Below w.heap.size w w1) => hr2.belowN hb)
  have HB2 := hid hb2; have HL2 := hid hL2; have HGL := hid hgl; have HGB := hid hgb
  have HBO : Hid (Bs ((signK k id q sd M).set 3 (m + 1))) := by
    intro v hv
    rcases List.mem_or_eq_of_mem_set hv with h | h
    · exact hgb v h
    · omega
  generalize signK k id q sd M = SG at CN HGL HGB V1 V2 V3 HBO
  generalize ksize k = ks at CN HGL V2 hks hks2
  have HHS : Hid (200 ≤ ks ∧ ks ≤ 30000) := by show _ ∧ _; omega
  have HN2 : Hid (0 < n2 ∧ n2 ≤ 100) := by show _ ∧ _; omega
  obtain ⟨Z, HZ, hZ0, hZs⟩ := zero_Hash
  have hz32 : Z.size = 32 := by rw [HZ.out, List.size_toArray, u8s_length]; simp
  have HZ32 := hid hz32
  have hwm : IntKind.u8.wrap m = m := by simp [IntKind.wrap, IntKind.bits, IntKind.signed]; omega
  have hwm1 : IntKind.u8.wrap (m + 1) = m + 1 := by simp [IntKind.wrap, IntKind.bits, IntKind.signed]; omega
  have hw3 : IntKind.i64.wrap ((ks : Int) - (n2 : Int)) = (ks : Int) - (n2 : Int) := IntWalk.i64_in _ (by omega)
  have hk3 : (3 : Int) < (ks : Int) := by omega
  clear hL1 hb1 hr1 hL2 hb2 hr2 hc1 hc2 hid0 hq hs ht hi hkd hgl htk hmk hmn hks hks2 hkk hgb hbig hm3 hm4 hz32 g1 g2 g3
  go_enter Tryd.func3, Tryd.ntmps3
  go_upto_region 1 with (fail)
  generalize w.alloc (.cells (lkeyC k id q sd) 28) = w0 at L0 B0 ⊢
  have c0 := lkey_0 L0.out
  have c17 := lkey_17 L0.out HII.out
  go_upto_region 4 with (first
    | (refine load_at rfl 23 (.tmp 20) rfl w.heap.size 1 rfl (u8s id) _ (lkey_id L0.out HII.out) Tryd.underlying23 rfl IDI.out (u8s id).toArray rfl ?_)
    | (refine load_at rfl 26 (.tmp 24) rfl w.heap.size 18 rfl (u8s sd) _ (lkey_sd L0.out HII.out) Tryd.underlying26 rfl SDI.out (u8s sd).toArray rfl ?_)
    | (go_at_call 12; refine (CN.out _ B0.out).mono ?_; rintro e w1 ⟨gs, rfl, _, hgs, hb1⟩; have B1 := hid (B0.out.trans (hb1.mono B0.out.size)); have L1 := hid (L0.out.below hb1); have RS1 := hid hgs; clear hb1 hgs)
    | (go_at_call 13; refine (kawake_any w1).mono ?_; rintro e w2 ⟨rfl, hb2⟩; have B2 := hid (B1.out.trans (hb2.mono B1.out.size)); have L2 := hid (L1.out.below hb2); have RS2 := hid (RS1.out.below hb2); clear hb2))
  have Zw4 := hid ((Below.refl w2.heap.size w2).alloc (Nat.le_refl _) (.cells #[] 5))
  go_upto_region 5 with (first
    | (at_builtin; (refine append_rpm rfl (.tmp 52) (.tmp 53) rfl w2.heap.size w2.heap.size (.slice (some ⟨w2.heap.size, 0, none⟩) 0 0) [] rfl (own_lit0 w2) (some ⟨gs, 0, none⟩) ks ks SG HGL.out.symm rfl ((blk_rp RS2.out).belowN Zw4.out) (by rw [HGL.out]; have := HHS.out; show 0 + _ < _; omega) Zw4.out.size (Nat.le_refl _) ?_); intro va wa HOa HBa; have Ba := hid (Zw4.out.trans HBa.out))
    | (at_builtin; refine append_rpm rfl (.tmp 54) (.tmp 55) rfl w2.heap.size w2.heap.size va ([] ++ SG) rfl HOa.out A2 n2 c2 R HL2.out.symm rfl (HR2.out _ (B2.out.trans (Ba.out.mono B2.out.size))) (by rw [List.nil_append, HGL.out, HL2.out]; have := HHS.out; have := HN2.out; omega) Ba.out.size (Nat.le_refl _) ?_; intro vb wb HOb HBb; have Bb := hid (Ba.out.trans HBb.out)))
  obtain ⟨A4, c4, rfl, _, _, hfw4⟩ := fresh_of_own HOb.out (Nat.le_refl _)
  have R4 := hid hfw4.rp0
  rw [List.nil_append] at R4
  have HLw4 : Hid (([] ++ SG ++ R).length = ks + n2) := by show _ = _; rw [List.nil_append, List.length_append, HGL.out, HL2.out]
  rw [HLw4.out]
  have Lw4 := hid (Bb.out)
  clear HOa HBa Ba HOb HBb Bb hfw4 Zw4
  generalize wb = w4 at R4 Lw4 ⊢
  have B4 := hid (B2.out.trans (Lw4.out.mono B2.out.size))
  have RS4 := hid (RS2.out.below Lw4.out); have L4 := hid (L2.out.below Lw4.out)
  clear RS2 L2 Lw4 HLw4
  have Zw6 := hid ((Below.refl w4.heap.size w4).alloc (Nat.le_refl _) (.cells #[] 5))
  go_upto_region 6 with (at_builtin; refine append_rpm rfl (.tmp 57) (.tmp 58) rfl w4.heap.size w4.heap.size (.slice (some ⟨w4.heap.size, 0, none⟩) 0 0) [] rfl (own_lit0 w4) (some ⟨gs, 0, none⟩) ks ks SG HGL.out.symm rfl ((blk_rp RS4.out).belowN Zw6.out) (by rw [HGL.out]; have := HHS.out; show 0 + _ < _; omega) Zw6.out.size (Nat.le_refl _) ?_; intro va wa HOa HBa; have Ba := hid (Zw6.out.trans HBa.out))
  obtain ⟨hla, hra⟩ := HOa.out
  rw [List.nil_append] at hla hra
  rcases hra with ⟨_, h0⟩ | ⟨ga, cap, cur, hv, hbg, hha, hnc, hcm, hcs, htka⟩
  · exfalso; rw [HGL.out] at h0; have := HHS.out; omega
  rw [HGL.out] at hv hnc htka
  subst hv
  have hcur : ∀ j, j < SG.length → cur[j]? = some (.int .u8 (SG[j]?.getD 0)) := fun j hj => by
    have e : cur[j]? = (cur.toList.take (ks * 1))[j]? := by rw [List.getElem?_take, if_pos (by rw [← HGL.out]; omega), Array.getElem?_toList]
    rw [e, htka, u8s_get _ _ hj]
  have KA : Hid (Blk wa ga 5 cur) := hha
  have e3 : wa.cell? ⟨ga, 3, none⟩ = some (.int .u8 (SG[3]?.getD 0)) := by rw [KA.out.cell]; exact hcur 3 (by rw [HGL.out]; have := HHS.out; omega)
  have f3 : wa.frozen? ⟨ga, 3, none⟩ = false := KA.out.frozen 3
  have RO := hid (rp_set KA.out hcur (m + 1) (i := 3) (by rw [HGL.out]; have := HHS.out; omega))
  have B6 : Hid (Below w4.heap.size w4 (wa.setCell ⟨ga, 3, none⟩ (.int .u8 (m + 1)))) := Ba.out.setCell (p := ⟨ga, 3, none⟩) hbg _
  have La := hid (L4.out.below (Ba.out))
  have d0 := lkey_0 La.out
  clear hla hbg hha hnc hcm hcs htka hcur HOa HBa Zw6 KA
  go_upto_region 7 with (fail)
  clear e3 f3 d0
  generalize wa.setCell ⟨ga, 3, none⟩ (.int .u8 (m + 1)) = w6 at RO B6 ⊢
  have L6 := hid (L4.out.below B6.out); have R6 := hid (R4.out.belowN B6.out); have RS6 := hid (RS4.out.below B6.out)
  have BW6 := hid (B4.out.trans (B6.out.mono B4.out.size))
  have e17 := lkey_17 L6.out HII.out
  clear La L4 R4 RS4 Ba B6 B4
  go_upto_region 8 with (first
    | (refine load_at rfl 23 (.tmp 68) rfl w.heap.size 1 rfl (u8s id) _ (lkey_id L6.out HII.out) Tryd.underlying23 rfl IDI.out (u8s id).toArray rfl ?_)
    | (go_at_call 14; refine (CRV.out A4 (ks + n2) c4 (SG ++ R) w6 V1.out (by rw [List.length_append, HGL.out, HL2.out]) R6.out (bs_append HGB.out HB2.out) (by rw [List.length_append, HGL.out, HL2.out]; have := HHS.out; have := HN2.out; omega) BW6.out).mono ?_; rintro e w7 ⟨H7, rfl, hH7, hb7⟩; have HL7 := hid (info_hash H7 hH7); have HZ7 : Hid (Z.size = (u8s H7).toArray.size) := HZ32.out.trans (hash_size hH7).symm; have B7 := hid hb7; clear hb7)
    | (refine wpList_store_row rfl 26 (.tmp 11) (.tmp 75) rfl w7.heap.size (u8s H7).toArray rfl rfl 26 Z (Blk.new w7 26 Z) HL7.out HZ7.out (u8s_all H7) ?_; have hbb : Below w7.heap.size w7 ((w7.alloc (.cells Z 26)).setRow w7.heap.size (u8s H7).toArray) := below_setRow ((Below.refl _ _).alloc (Nat.le_refl _) _) (Nat.le_refl _) _; have B8 := hid (B7.out.trans (hbb.mono B7.out.size)); clear hbb; generalize (w7.alloc (.cells Z 26)).setRow w7.heap.size (u8s H7).toArray = w8 at B8 ⊢))
  have L8 := hid (L6.out.below B8.out); have RS8 := hid (RS6.out.below B8.out); have RO8 := hid (RO.out.belowN B8.out)
  have BW8 := hid (BW6.out.trans (B8.out.mono BW6.out.size))
  have WL8 : Hid (w.heap.size < w8.heap.size) := L8.out.lt
  have GT : Hid (Qk k id q sd w.heap.size w8 w8) := ⟨L8.out, Below.refl _ _⟩
  clear L6 RS6 RO R6 B8 BW6 e17 HL7 HZ7 B7
  go_cut [13, 14] (fun s13 s14 wx => ∃ g9, s13 = .pointer (some ⟨g9, 0, none⟩) ∧ s14 = .bool false ∧ Hid (Below w8.heap.size w8 wx))
  case first =>
    refine wp_region_held (S := fun w' => Hid (Qk k id q sd w.heap.size w8 w')) (by kernel_rfl) ?_
    change wpAnyH _ _ _ _ _ _ _ _ w8.drew
    have Gx0 : Hid (Qk k id q sd w.heap.size w8 w8.drew) := GT.out.drew
    have HBx0 : Below w8.heap.size w8 w8.drew := (Below.refl _ _).drew
    clear HBx0
    generalize w8.drew = x0 at Gx0  ⊢
    refine wpAnyH_take (i := 0) (oi := { dst := some 78, op := _, type := _, pos := _, after := _, guard := _ }) (v := ?_) rfl (by kernel_rfl) (by kernel_rfl) (by kernel_rfl) (fun _ _ _ h => h) (Or.inl ⟨by kernel_rfl, ?_⟩) (by assumption) ?_
    rotate_left
    · (intro w hSw; go_simp; try with_reducible rfl)
    try simp only [Act.put, List.setIfInBounds_toArray, List.set_cons_zero, List.set_cons_succ]
    refine wpAnyH_take (i := 1) (oi := { dst := some 79, op := _, type := _, pos := _, after := _, guard := _ }) (v := .agg ((u8s id).toArray)) rfl (by kernel_rfl) (by kernel_rfl) (by kernel_rfl) (fun _ _ _ h => h) (yieldsIf_load_mid (cs := u8s id) (by rfl) _ _ rfl _ _ rfl _ (fun w' hSw => (lkey_id (Hid.out hSw).b0 HII.out)) Tryd.underlying23 rfl IDI.out) (by assumption) ?_
    try simp only [Act.put, List.setIfInBounds_toArray, List.set_cons_zero, List.set_cons_succ]
    refine wpAnyH_take (i := 2) (oi := { dst := some 80, op := _, type := _, pos := _, after := _, guard := _ }) (v := ?_) rfl (by kernel_rfl) (by kernel_rfl) (by kernel_rfl) (fun _ _ _ h => h) (Or.inl ⟨by kernel_rfl, ?_⟩) (by assumption) ?_
    rotate_left
    · (intro w hSw; go_simp; try with_reducible rfl)
    try simp only [Act.put, List.setIfInBounds_toArray, List.set_cons_zero, List.set_cons_succ]
    refine wpAnyH_take (i := 3) (oi := { dst := some 81, op := _, type := _, pos := _, after := _, guard := _ }) (v := ?_) rfl (by kernel_rfl) (by kernel_rfl) (by kernel_rfl) (fun _ _ _ h => h) (Or.inl ⟨by kernel_rfl, ?_⟩) (by assumption) ?_
    rotate_left
    · (intro w hSw; have e17 := lkey_17 (Hid.out hSw).b0 HII.out; go_simp; try with_reducible rfl)
    try simp only [Act.put, List.setIfInBounds_toArray, List.set_cons_zero, List.set_cons_succ]
    refine wpAnyH_take (i := 4) (oi := { dst := some 82, op := _, type := _, pos := _, after := _, guard := _ }) (v := ?_) rfl (by kernel_rfl) (by kernel_rfl) (by kernel_rfl) (fun _ _ _ h => h) (Or.inl ⟨by kernel_rfl, ?_⟩) (by assumption) ?_
    rotate_left
    · (intro w hSw; go_simp; try with_reducible rfl)
    try simp only [Act.put, List.setIfInBounds_toArray, List.set_cons_zero, List.set_cons_succ]
    refine wpAnyH_take (i := 5) (oi := { dst := some 83, op := _, type := _, pos := _, after := _, guard := _ }) (v := ?_) rfl (by kernel_rfl) (by kernel_rfl) (by kernel_rfl) (fun _ _ _ h => h) (Or.inl ⟨by kernel_rfl, ?_⟩) (by assumption) ?_
    rotate_left
    · (intro w hSw; go_simp; try with_reducible rfl)
    try simp only [Act.put, List.setIfInBounds_toArray, List.set_cons_zero, List.set_cons_succ]
    refine wpAnyH_take (i := 6) (oi := { dst := some 84, op := _, type := _, pos := _, after := _, guard := _ }) (v := ?_) rfl (by kernel_rfl) (by kernel_rfl) (by kernel_rfl) (fun _ _ _ h => h) (Or.inl ⟨by kernel_rfl, ?_⟩) (by assumption) ?_
    rotate_left
    · (intro w hSw; go_simp; try with_reducible rfl)
    try simp only [Act.put, List.setIfInBounds_toArray, List.set_cons_zero, List.set_cons_succ]
    refine wpAnyH_take (i := 7) (oi := { dst := some 85, op := _, type := _, pos := _, after := _, guard := _ }) (v := ?_) rfl (by kernel_rfl) (by kernel_rfl) (by kernel_rfl) (fun _ _ _ h => h) (Or.inl ⟨by kernel_rfl, ?_⟩) (by assumption) ?_
    rotate_left
    · (intro w hSw; go_simp; try with_reducible rfl)
    try simp only [Act.put, List.setIfInBounds_toArray, List.set_cons_zero, List.set_cons_succ]
    refine wpAnyH_take (i := 8) (oi := { dst := some 86, op := _, type := _, pos := _, after := _, guard := _ }) (v := ?_) rfl (by kernel_rfl) (by kernel_rfl) (by kernel_rfl) (fun _ _ _ h => h) (Or.inl ⟨by kernel_rfl, ?_⟩) (by assumption) ?_
    rotate_left
    · (intro w hSw; go_simp; try with_reducible rfl)
    try simp only [Act.put, List.setIfInBounds_toArray, List.set_cons_zero, List.set_cons_succ]
    refine wpAnyH_take (i := 9) (oi := { dst := some 87, op := _, type := _, pos := _, after := _, guard := _ }) (v := ?_) rfl (by kernel_rfl) (by kernel_rfl) (by kernel_rfl) (fun _ _ _ h => h) (Or.inl ⟨by kernel_rfl, ?_⟩) (by assumption) ?_
    rotate_left
    · (intro w hSw; go_simp; try with_reducible rfl)
    try simp only [Act.put, List.setIfInBounds_toArray, List.set_cons_zero, List.set_cons_succ]
    refine wpAnyH_take (i := 10) (oi := { dst := some 88, op := _, type := _, pos := _, after := _, guard := _ }) (v := ?_) rfl (by kernel_rfl) (by kernel_rfl) (by kernel_rfl) (fun _ _ _ h => h) (Or.inl ⟨by kernel_rfl, ?_⟩) (by assumption) ?_
    rotate_left
    · (intro w hSw; go_simp; try with_reducible rfl)
    try simp only [Act.put, List.setIfInBounds_toArray, List.set_cons_zero, List.set_cons_succ]
    refine wpAnyH_take (i := 11) (oi := { dst := some 89, op := _, type := _, pos := _, after := _, guard := _ }) (v := .slice (some ⟨gs, 0, none⟩) (ks - n2) ks) rfl (by kernel_rfl) (by kernel_rfl) (by kernel_rfl) (fun _ _ _ h => h) (Or.inl ⟨by kernel_rfl, ?_⟩) (by assumption) ?_
    · (intro w hSw; have hA := HHS.out; have hB := HN2.out; go_simp; (first | (with_reducible rfl) | (intro hh; exfalso; have h9 := hh (by omega); omega)))
    try simp only [Act.put, List.setIfInBounds_toArray, List.set_cons_zero, List.set_cons_succ]
    refine wpAnyH_ready (rs := [12, 16]) (by kernel_rfl) (by simp) ?_
    refine (AllReadyH.cons (o := { dst := some 90, op := _, type := _, pos := _, after := _, guard := _ }) rfl (fun Qc hQc => ?_) (AllReadyH.cons (o := { dst := some 13, op := _, type := _, pos := _, after := _, guard := _ }) rfl (fun Qc hQc => ?_) AllReadyH.nil))
    ·
      go_simp
      go_at_call 14; refine (CRV.out (some ⟨gs, 0, none⟩) (ks - n2) ks (SG.take (ks - n2)) _ V2.out (by rw [List.length_take, HGL.out]; omega) (((blk_rp RS8.out).belowN Gx0.out.bl).take _) (HGB.out.take _) (by rw [List.length_take, HGL.out]; have := HHS.out; omega) (BW8.out.trans (Gx0.out.bl.mono BW8.out.size))).mono ?_; rintro e x1 ⟨H9, rfl, hH9, hbx1⟩; have HL9 := hid (info_hash H9 hH9); have HZ9 : Hid (Z.size = (u8s H9).toArray.size) := HZ32.out.trans (hash_size hH9).symm
      have Gx1 := hid (Gx0.out.below hbx1)
      clear hbx1
      go_wp2_with fail
      refine hQc.out _ _ Gx1 (fun hHeld => ?_)
      clear hQc Qc Gx0
      try simp only [Act.put, List.setIfInBounds_toArray, List.set_cons_zero, List.set_cons_succ]
      refine wpAnyH_take (i := 13) (oi := { dst := some 77, op := _, type := _, pos := _, after := _, guard := _ }) (v := ?_) rfl (by kernel_rfl) (by kernel_rfl) (by kernel_rfl) (fun _ _ _ h => h) (Or.inl ⟨by kernel_rfl, ?_⟩) (by assumption) ?_
      rotate_left
      · (intro w hSw; go_simp; try with_reducible rfl)
      try simp only [Act.put, List.setIfInBounds_toArray, List.set_cons_zero, List.set_cons_succ]
      refine wpAnyH_take (i := 14) (oi := { dst := some 91, op := _, type := _, pos := _, after := _, guard := _ }) (v := ?_) rfl (by kernel_rfl) (by kernel_rfl) (by kernel_rfl) (fun _ _ _ h => h) (Or.inl ⟨by kernel_rfl, ?_⟩) (by assumption) ?_
      rotate_left
      · (intro w hSw; go_simp; try with_reducible rfl)
      try simp only [Act.put, List.setIfInBounds_toArray, List.set_cons_zero, List.set_cons_succ]
      refine wpAnyH_take (i := 15) (oi := { dst := some 92, op := _, type := _, pos := _, after := _, guard := _ }) (v := ?_) rfl (by kernel_rfl) (by kernel_rfl) (by kernel_rfl) (fun _ _ _ h => h) (Or.inl ⟨by kernel_rfl, ?_⟩) (by assumption) ?_
      rotate_left
      · (intro w hSw; go_simp; try with_reducible rfl)
      try simp only [Act.put, List.setIfInBounds_toArray, List.set_cons_zero, List.set_cons_succ]
      refine wpAnyH_ready (rs := [16]) (by kernel_rfl) (by simp) ?_
      refine (AllReadyH.cons (o := { dst := some 13, op := _, type := _, pos := _, after := _, guard := _ }) rfl (fun Qc hQc => ?_) AllReadyH.nil)
      go_simp
      have Gx2 := hid (Gx1.out.alloc (.cells Z 26))
      have HBx2 : Below x1.heap.size x1 (x1.alloc (.cells Z 26)) := (Below.refl _ _).alloc (Nat.le_refl _) _
      have A := hid (Blk.new x1 26 Z)
      have LE : Hid (w8.heap.size ≤ x1.heap.size) := Gx1.out.bl.size
      clear HBx2
      refine hQc.out _ _ Gx2 (fun hHeld => ?_)
      clear hQc Qc Gx1
      generalize hgx2 : x1.heap.size = g9 at A LE  ⊢
      generalize x1.alloc (.cells Z 26) = x2 at Gx2 A  hHeld ⊢
      clear hgx2
      try simp only [Act.put, List.setIfInBounds_toArray, List.set_cons_zero, List.set_cons_succ]
      refine wpAnyH_ready (rs := [17]) (by kernel_rfl) (by simp) ?_
      refine (AllReadyH.cons (o := { dst := none, op := _, type := _, pos := _, after := _, guard := _ }) rfl (fun Qc hQc => ?_) AllReadyH.nil)
      rw [if_pos (by rfl)]
      refine wp_store_row 26 (.tmp 13) (.tmp 91) rfl (g9) (u8s H9).toArray rfl rfl 26 Z A.out HL9.out HZ9.out (u8s_all H9) ?_
      have Gx3 := hid (Gx2.out.row (g := g9) (by have := LE.out; have := WL8.out; omega) LE.out (u8s H9).toArray)
      have KWx3 := hid ((A.out).row (u8s H9).toArray)
      refine hQc.out _ _ Gx3 (fun hHeld => ?_)
      clear hQc Qc Gx2
      generalize x2.setRow (g9) (u8s H9).toArray = x3 at Gx3 KWx3 hHeld ⊢
      try simp only [Act.put, List.setIfInBounds_toArray, List.set_cons_zero, List.set_cons_succ]
      refine wpAnyH_take (i := 18) (oi := { dst := some 14, op := _, type := _, pos := _, after := _, guard := _ }) (v := ?_) rfl (by kernel_rfl) (by kernel_rfl) (by kernel_rfl) (fun _ _ _ h => h) (Or.inl ⟨by kernel_rfl, ?_⟩) (by assumption) ?_
      rotate_left
      · (intro w hSw; go_simp; try with_reducible rfl)
      try simp only [Act.put, List.setIfInBounds_toArray, List.set_cons_zero, List.set_cons_succ]
      refine wpAnyH_done (by kernel_rfl) ?_ _
      try simp only [Act.put, List.setIfInBounds_toArray, List.set_cons_zero, List.set_cons_succ]
      have GE := hid Gx3.out.bl
      go_wp2
      go_meet
      exact ⟨g9, rfl, rfl, GE⟩
    ·
      go_simp
      have Gx4 := hid (Gx0.out.alloc (.cells Z 26))
      have HBx4 : Below x0.heap.size x0 (x0.alloc (.cells Z 26)) := (Below.refl _ _).alloc (Nat.le_refl _) _
      have A := hid (Blk.new x0 26 Z)
      have LE : Hid (w8.heap.size ≤ x0.heap.size) := Gx0.out.bl.size
      clear HBx4
      refine hQc.out _ _ Gx4 (fun hHeld => ?_)
      clear hQc Qc Gx0
      generalize hgx4 : x0.heap.size = g9 at A LE  ⊢
      generalize x0.alloc (.cells Z 26) = x4 at Gx4 A  hHeld ⊢
      clear hgx4
      try simp only [Act.put, List.setIfInBounds_toArray, List.set_cons_zero, List.set_cons_succ]
      refine wpAnyH_ready (rs := [12]) (by kernel_rfl) (by simp) ?_
      refine (AllReadyH.cons (o := { dst := some 90, op := _, type := _, pos := _, after := _, guard := _ }) rfl (fun Qc hQc => ?_) AllReadyH.nil)
      go_simp
      go_at_call 14; refine (CRV.out (some ⟨gs, 0, none⟩) (ks - n2) ks (SG.take (ks - n2)) _ V2.out (by rw [List.length_take, HGL.out]; omega) (((blk_rp RS8.out).belowN Gx4.out.bl).take _) (HGB.out.take _) (by rw [List.length_take, HGL.out]; have := HHS.out; omega) (BW8.out.trans (Gx4.out.bl.mono BW8.out.size))).mono ?_; rintro e x5 ⟨H9, rfl, hH9, hbx5⟩; have HL9 := hid (info_hash H9 hH9); have HZ9 : Hid (Z.size = (u8s H9).toArray.size) := HZ32.out.trans (hash_size hH9).symm
      have Gx5 := hid (Gx4.out.below hbx5)
      have A := hid (A.out.below hbx5)
      clear hbx5
      go_wp2_with fail
      refine hQc.out _ _ Gx5 (fun hHeld => ?_)
      clear hQc Qc Gx4
      try simp only [Act.put, List.setIfInBounds_toArray, List.set_cons_zero, List.set_cons_succ]
      refine wpAnyH_take (i := 13) (oi := { dst := some 77, op := _, type := _, pos := _, after := _, guard := _ }) (v := ?_) rfl (by kernel_rfl) (by kernel_rfl) (by kernel_rfl) (fun _ _ _ h => h) (Or.inl ⟨by kernel_rfl, ?_⟩) (by assumption) ?_
      rotate_left
      · (intro w hSw; go_simp; try with_reducible rfl)
      try simp only [Act.put, List.setIfInBounds_toArray, List.set_cons_zero, List.set_cons_succ]
      refine wpAnyH_take (i := 14) (oi := { dst := some 91, op := _, type := _, pos := _, after := _, guard := _ }) (v := ?_) rfl (by kernel_rfl) (by kernel_rfl) (by kernel_rfl) (fun _ _ _ h => h) (Or.inl ⟨by kernel_rfl, ?_⟩) (by assumption) ?_
      rotate_left
      · (intro w hSw; go_simp; try with_reducible rfl)
      try simp only [Act.put, List.setIfInBounds_toArray, List.set_cons_zero, List.set_cons_succ]
      refine wpAnyH_take (i := 15) (oi := { dst := some 92, op := _, type := _, pos := _, after := _, guard := _ }) (v := ?_) rfl (by kernel_rfl) (by kernel_rfl) (by kernel_rfl) (fun _ _ _ h => h) (Or.inl ⟨by kernel_rfl, ?_⟩) (by assumption) ?_
      rotate_left
      · (intro w hSw; go_simp; try with_reducible rfl)
      try simp only [Act.put, List.setIfInBounds_toArray, List.set_cons_zero, List.set_cons_succ]
      refine wpAnyH_ready (rs := [17]) (by kernel_rfl) (by simp) ?_
      refine (AllReadyH.cons (o := { dst := none, op := _, type := _, pos := _, after := _, guard := _ }) rfl (fun Qc hQc => ?_) AllReadyH.nil)
      rw [if_pos (by rfl)]
      refine wp_store_row 26 (.tmp 13) (.tmp 91) rfl (g9) (u8s H9).toArray rfl rfl 26 Z A.out HL9.out HZ9.out (u8s_all H9) ?_
      have Gx6 := hid (Gx5.out.row (g := g9) (by have := LE.out; have := WL8.out; omega) LE.out (u8s H9).toArray)
      have KWx6 := hid ((A.out).row (u8s H9).toArray)
      refine hQc.out _ _ Gx6 (fun hHeld => ?_)
      clear hQc Qc Gx5
      generalize x5.setRow (g9) (u8s H9).toArray = x6 at Gx6 KWx6 hHeld ⊢
      try simp only [Act.put, List.setIfInBounds_toArray, List.set_cons_zero, List.set_cons_succ]
      refine wpAnyH_take (i := 18) (oi := { dst := some 14, op := _, type := _, pos := _, after := _, guard := _ }) (v := ?_) rfl (by kernel_rfl) (by kernel_rfl) (by kernel_rfl) (fun _ _ _ h => h) (Or.inl ⟨by kernel_rfl, ?_⟩) (by assumption) ?_
      rotate_left
      · (intro w hSw; go_simp; try with_reducible rfl)
      try simp only [Act.put, List.setIfInBounds_toArray, List.set_cons_zero, List.set_cons_succ]
      refine wpAnyH_done (by kernel_rfl) ?_ _
      try simp only [Act.put, List.setIfInBounds_toArray, List.set_cons_zero, List.set_cons_succ]
      have GE := hid Gx6.out.bl
      go_wp2
      go_meet
      exact ⟨g9, rfl, rfl, GE⟩
  case rest =>
  obtain ⟨g9, rfl, rfl, BX⟩ := hcut
  generalize wc = w9 at BX ⊢
  have L9 := hid (L8.out.below BX.out); have RO9 := hid (RO8.out.belowN BX.out)
  have BW9 := hid (BW8.out.trans (BX.out.mono BW8.out.size))
  have e17 := lkey_17 L9.out HII.out
  clear GT L8 RS8 RO8 BW8
  go_wp2_with (first
    | (refine load_at rfl 23 (.tmp 94) rfl w.heap.size 1 rfl (u8s id) _ (lkey_id L9.out HII.out) Tryd.underlying23 rfl IDI.out (u8s id).toArray rfl ?_)
    | (go_at_call 14; refine (CRV.out (some ⟨ga, 0, none⟩) ks _ (SG.set 3 (m + 1)) w9 V3.out (by rw [List.length_set, HGL.out]) RO9.out HBO.out (by rw [List.length_set, HGL.out]; have := HHS.out; omega) BW9.out).mono ?_; rintro e wd ⟨Hd, rfl, hHd, hbd⟩; have HLd := hid (info_hash Hd hHd); have HZd : Hid (Z.size = (u8s Hd).toArray.size) := HZ32.out.trans (hash_size hHd).symm; have Bd := hid (BW9.out.trans (hbd.mono BW9.out.size)); clear hbd)
    | (refine wpList_store_row rfl 26 (.tmp 15) (.tmp 101) rfl wd.heap.size (u8s Hd).toArray rfl rfl 26 Z (Blk.new wd 26 Z) HLd.out HZd.out (u8s_all Hd) ?_; have hbb : Below wd.heap.size wd ((wd.alloc (.cells Z 26)).setRow wd.heap.size (u8s Hd).toArray) := below_setRow ((Below.refl _ _).alloc (Nat.le_refl _) _) (Nat.le_refl _) _; have Be := hid (Bd.out.trans (hbb.mono Bd.out.size)); clear hbb; generalize (wd.alloc (.cells Z 26)).setRow wd.heap.size (u8s Hd).toArray = we at Be ⊢))
  go_ret
  exact ⟨rfl, Be.out⟩
end Go.Proofs.YtobceieadjpaaaaDoor
