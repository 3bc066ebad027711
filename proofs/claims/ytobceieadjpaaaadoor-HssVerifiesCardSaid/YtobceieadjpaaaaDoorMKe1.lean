/-
  What is proved here: the code's own numbers of a kind: its shape, the greatest digit, chains and size.
-/
import Derived.Test.YtobceieadjpaaaaDoorMKa2
import Derived.Test.YtobceieadjpaaaaDoorMWi1
import Derived.Test.YtobceieadjpaaaaDoorMKa1
set_option linter.unusedSimpArgs false
set_option linter.unusedVariables false
namespace Go.Proofs.YtobceieadjpaaaaDoor
open Go.ChangeShapes Go.WideShapes Go.ChangeAt Go.RowKit
set_option linter.unusedVariables false
set_option maxRecDepth 20000

/-- a kind's shape as cells -/
def shp (k : Int) : Array Value := #[.int .i64 (kbits k : Nat), .int .i64 (kchains k : Nat), .int .i64 (kshift k : Nat)]
theorem shp_1 : shp 1 = #[.int .i64 1, .int .i64 265, .int .i64 7] := rfl
theorem shp_2 : shp 2 = #[.int .i64 2, .int .i64 133, .int .i64 6] := rfl
theorem shp_3 : shp 3 = #[.int .i64 4, .int .i64 67, .int .i64 4] := rfl
theorem shp_4 : shp 4 = #[.int .i64 8, .int .i64 34, .int .i64 0] := rfl
theorem kshift_no {k : Int} (h : k ≠ 1 ∧ k ≠ 2 ∧ k ≠ 3 ∧ k ≠ 4) : kshift k = 0 := by
  unfold kshift
  rw [if_neg h.1, if_neg h.2.1, if_neg h.2.2.1]
theorem shp_no {k : Int} (h : k ≠ 1 ∧ k ≠ 2 ∧ k ≠ 3 ∧ k ≠ 4) : shp k = #[.int .i64 0, .int .i64 0, .int .i64 0] := by
  unfold shp
  rw [kbits_no h, kchains_no h, kshift_no h]; rfl
theorem kd_shp {k : Int} (hk : Kd k) : 0 < kbits k ∧ 0 < kchains k := by rcases hk with rfl | rfl | rfl | rfl <;> decide
set_option maxRecDepth 20000 in
set_option maxHeartbeats 1000000 in
theorem shapeOf_any (k : Int) (w : World) : Calls Tryd.prog 35 #[.int .i64 k] w fun e w' => e = .returned (.agg (shp k)) ∧ Below w.heap.size w w' := by
  rcases kd_cases k with rfl | rfl | rfl | rfl | h
  · rw [shp_1]
    go_enter Tryd.func35, Tryd.ntmps35; go_wp2
    refine bodyPost_ret (v := .agg #[.int .i64 1, .int .i64 265, .int .i64 7]) (by simp [results, Tryd.results35, go_sem]) rfl ⟨rfl, ?_⟩
    all_goals repeat (first | exact Below.refl _ _ | (refine Below.setCell ?_ (by simp) _) | (refine Below.alloc ?_ (by simp) _))
  · rw [shp_2]
    go_enter Tryd.func35, Tryd.ntmps35; go_wp2
    refine bodyPost_ret (v := .agg #[.int .i64 2, .int .i64 133, .int .i64 6]) (by simp [results, Tryd.results35, go_sem]) rfl ⟨rfl, ?_⟩
    all_goals repeat (first | exact Below.refl _ _ | (refine Below.setCell ?_ (by simp) _) | (refine Below.alloc ?_ (by simp) _))
  · rw [shp_3]
    go_enter Tryd.func35, Tryd.ntmps35; go_wp2
    refine bodyPost_ret (v := .agg #[.int .i64 4, .int .i64 67, .int .i64 4]) (by simp [results, Tryd.results35, go_sem]) rfl ⟨rfl, ?_⟩
    all_goals repeat (first | exact Below.refl _ _ | (refine Below.setCell ?_ (by simp) _) | (refine Below.alloc ?_ (by simp) _))
  · rw [shp_4]
    go_enter Tryd.func35, Tryd.ntmps35; go_wp2
    refine bodyPost_ret (v := .agg #[.int .i64 8, .int .i64 34, .int .i64 0]) (by simp [results, Tryd.results35, go_sem]) rfl ⟨rfl, ?_⟩
    all_goals repeat (first | exact Below.refl _ _ | (refine Below.setCell ?_ (by simp) _) | (refine Below.alloc ?_ (by simp) _))
  · rw [shp_no h]
    have e1 : (k == 1) = false := by simpa using h.1
    have e2 : (k == 2) = false := by simpa using h.2.1
    have e3 : (k == 3) = false := by simpa using h.2.2.1
    have e4 : (k == 4) = false := by simpa using h.2.2.2
    clear h
    go_enter Tryd.func35, Tryd.ntmps35; go_wp2
    refine bodyPost_ret (v := .agg #[.int .i64 0, .int .i64 0, .int .i64 0]) (by simp [results, Tryd.results35, go_sem]) rfl ⟨rfl, ?_⟩
    all_goals repeat (first | exact Below.refl _ _ | (refine Below.setCell ?_ (by simp) _) | (refine Below.alloc ?_ (by simp) _))
set_option maxRecDepth 20000 in
set_option maxHeartbeats 1000000 in
theorem greatest_any (k : Int) (w : World) (hk : Kd k) : Calls Tryd.prog 49 #[.agg (shp k)] w fun e w' => e = .returned (.int .i64 (kmost k)) ∧ Below w.heap.size w w' := by
  rcases hk with rfl | rfl | rfl | rfl
  · rw [shp_1, show kmost 1 = 1 from rfl]
    go_enter Tryd.func49, Tryd.ntmps49; go_wp2
    go_ret
    exact ⟨rfl, (Below.refl _ _).alloc (Nat.le_refl _) _⟩
  · rw [shp_2, show kmost 2 = 3 from rfl]
    go_enter Tryd.func49, Tryd.ntmps49; go_wp2
    go_ret
    exact ⟨rfl, (Below.refl _ _).alloc (Nat.le_refl _) _⟩
  · rw [shp_3, show kmost 3 = 15 from rfl]
    go_enter Tryd.func49, Tryd.ntmps49; go_wp2
    go_ret
    exact ⟨rfl, (Below.refl _ _).alloc (Nat.le_refl _) _⟩
  · rw [shp_4, show kmost 4 = 255 from rfl]
    go_enter Tryd.func49, Tryd.ntmps49; go_wp2
    go_ret
    exact ⟨rfl, (Below.refl _ _).alloc (Nat.le_refl _) _⟩
theorem field_chains (a b c : Int) (w : World) : Sem.run Tryd.prog (Instr.field 61 (Value.agg #[Value.int .i64 a, Value.int .i64 b, Value.int .i64 c]) 1) w = .ok (.int .i64 b) w := by kernel_rfl
set_option maxRecDepth 20000 in
set_option maxHeartbeats 1000000 in
theorem lChains_any (k : Int) (w : World) : Calls Tryd.prog 43 #[.int .i64 k] w fun e w' => e = .returned (.int .i64 (kchains k : Nat)) ∧ Below w.heap.size w w' := by
  have CS := hid (shapeOf_any k)
  have HS : Hid (shp k = #[.int .i64 (kbits k : Nat), .int .i64 (kchains k : Nat), .int .i64 (kshift k : Nat)]) := rfl
  rw [HS.out] at CS
  generalize kbits k = a at CS
  generalize kchains k = b at CS ⊢
  generalize kshift k = c at CS
  clear HS
  have FC := field_chains a b c
  go_enter Tryd.func43, Tryd.ntmps43
  go_wp2_with (go_at_call 35; refine (CS.out _).mono ?_; rintro e w1 ⟨rfl, hb1⟩; have HB := hid hb1; clear hb1)
  go_ret
  exact ⟨rfl, HB.out⟩
set_option maxRecDepth 20000 in
set_option maxHeartbeats 1000000 in
theorem lSize_any (k : Int) (w : World) : Calls Tryd.prog 44 #[.int .i64 k] w fun e w' => e = .returned (.int .i64 (ksize k : Nat)) ∧ Below w.heap.size w w' := by
  have CC := hid (lChains_any k)
  rcases kd_cases k with hk | hk | hk | hk | h
  · have CD : Hid (∀ w, Calls Tryd.prog 43 #[.int .i64 k] w fun e w' => e = .returned (.int .i64 265) ∧ Below w.heap.size w w') := by rw [hk] at CC ⊢; exact CC.out
    have hs : ksize k = 8516 := by rw [hk]; rfl
    rw [hs]
    clear CC hk hs
    go_enter Tryd.func44, Tryd.ntmps44
    go_wp2_with (go_at_call 43; refine (CD.out _).mono ?_; rintro e w1 ⟨rfl, hb1⟩; have HB := hid hb1; clear hb1)
    go_ret
    exact ⟨rfl, HB.out⟩
  · have CD : Hid (∀ w, Calls Tryd.prog 43 #[.int .i64 k] w fun e w' => e = .returned (.int .i64 133) ∧ Below w.heap.size w w') := by rw [hk] at CC ⊢; exact CC.out
    have hs : ksize k = 4292 := by rw [hk]; rfl
    rw [hs]
    clear CC hk hs
    go_enter Tryd.func44, Tryd.ntmps44
    go_wp2_with (go_at_call 43; refine (CD.out _).mono ?_; rintro e w1 ⟨rfl, hb1⟩; have HB := hid hb1; clear hb1)
    go_ret
    exact ⟨rfl, HB.out⟩
  · have CD : Hid (∀ w, Calls Tryd.prog 43 #[.int .i64 k] w fun e w' => e = .returned (.int .i64 67) ∧ Below w.heap.size w w') := by rw [hk] at CC ⊢; exact CC.out
    have hs : ksize k = 2180 := by rw [hk]; rfl
    rw [hs]
    clear CC hk hs
    go_enter Tryd.func44, Tryd.ntmps44
    go_wp2_with (go_at_call 43; refine (CD.out _).mono ?_; rintro e w1 ⟨rfl, hb1⟩; have HB := hid hb1; clear hb1)
    go_ret
    exact ⟨rfl, HB.out⟩
  · have CD : Hid (∀ w, Calls Tryd.prog 43 #[.int .i64 k] w fun e w' => e = .returned (.int .i64 34) ∧ Below w.heap.size w w') := by rw [hk] at CC ⊢; exact CC.out
    have hs : ksize k = 1124 := by rw [hk]; rfl
    rw [hs]
    clear CC hk hs
    go_enter Tryd.func44, Tryd.ntmps44
    go_wp2_with (go_at_call 43; refine (CD.out _).mono ?_; rintro e w1 ⟨rfl, hb1⟩; have HB := hid hb1; clear hb1)
    go_ret
    exact ⟨rfl, HB.out⟩
  · have hc := kchains_no h
    have CD : Hid (∀ w, Calls Tryd.prog 43 #[.int .i64 k] w fun e w' => e = .returned (.int .i64 0) ∧ Below w.heap.size w w') := by rw [hc] at CC; exact CC.out
    have hs : ksize k = 0 := by unfold ksize; rw [if_pos (kbits_no h)]
    rw [hs]
    clear CC h hc hs
    go_enter Tryd.func44, Tryd.ntmps44
    go_wp2_with (go_at_call 43; refine (CD.out _).mono ?_; rintro e w1 ⟨rfl, hb1⟩; have HB := hid hb1; clear hb1)
    go_ret
    exact ⟨rfl, HB.out⟩
end Go.Proofs.YtobceieadjpaaaaDoor
/-
  What is proved here: the library's own Grow of no bytes, and Concat of some bytes.
-/
namespace Go.Proofs.YtobceieadjpaaaaDoor
open Go.ChangeShapes Go.WideShapes Go.ChangeAt Go.RowKit
set_option linter.unusedVariables false
set_option maxRecDepth 20000

theorem zero_cells_u8 (n : Nat) : Builtin.zeroCells (Value.int .u8 0).cells n = Array.replicate n (.int .u8 0) := by
  refine Array.ext (by simp [Builtin.zeroCells, Value.cells]) (fun j h1 h2 => ?_)
  simp [Builtin.zeroCells, Value.cells, Nat.mod_one]
theorem run_append_made (w : World) (n : Nat) (hn : 0 < n) (hn2 : n < 1000000000) (ty : TypeId) :
    ∃ c', n ≤ c' ∧ c' ≤ maxLen ∧ (Builtin.append_ #[29, 3] ty #[.slice none 0 0, .int .i64 (n : Int)]).run Tryd.prog w = .ok (.slice (some ⟨w.heap.size, 0, none⟩) n c') (w.drew.alloc (.cells (Array.replicate c' (.int .u8 0)) 5)) := by
  obtain ⟨i0, hi, hz0, hz1, hz2⟩ := info_parts info_u8
  have hw : IntKind.i64.wrap (n : Int) = (n : Int) := IntWalk.i64_in _ (by omega)
  have h0 : ¬ ((n : Int) < 0) := by omega
  have hge := grownCap_ge w n 0 5
  refine ⟨grownCap w n 0 5, hge, grownCap_le_maxLen w n 0 5 (by unfold maxLen; omega), ?_⟩
  have h48 : ¬ ((281474976710656 : Int) < (n : Int) * (1 : Nat)) := by omega
  have hnc : Builtin.nextslicecap n 0 = n := nextslicecap_zero hn
  have hne : n ≠ 0 := by omega
  have hnk : ¬ (281474976710656 < Builtin.nextslicecap n 0 * 1) := by rw [hnc]; omega
  have hu1 : ¬ (281474976710656 < n) := by omega
  have hle : ¬ ((n : Int) ≤ 0) := by omega
  have hi48 : ¬ ((281474976710656 : Int) < (n : Int)) := by omega
  have hmx : max (n : Int) 0 = (n : Int) := by omega
  have hbig : ¬ (9223372036854775807 < (n : Int)) := by omega
  simp [Builtin.append_, run_underlying Tryd.underlying29, run_underlying Tryd.underlying3, sizeOf, typeInfo, zeroValue, hi, hz0, hz1, hz2, asInt, asIntOf, hw, hle, hi48, hmx, h0, hnk, hnc, hne, Question.forced, run_firstCells_none, newRow, grownCap, h48, hu1, hbig, zero_cells_u8]
  rw [show n + (Question.cut _ (w.tape w.drawn _) - n) = _ from Nat.add_sub_cancel' hge]
theorem wpList_append_made {w : World} {ops : Array Oper} {rest : List Oper} {o : Oper} {a : Act} {Q : Exit → Act → World → Prop} (hgd : o.guard = none) (s x : Operand)
    (ho : o.op = .call { callee := .builtin .append, args := #[s, x], argTypes := #[29, 3] }) (n : Nat) (hn : 0 < n) (hn2 : n < 1000000000) (hs : a.eval s = .slice none 0 0) (hx : a.eval x = .int .i64 (n : Int))
    (h : ∀ c' w', Hid (w'.ownsRow w.heap.size 5 1 (.slice (some ⟨w.heap.size, 0, none⟩) 0 c') 0 (u8s [])) → Hid (Below w.heap.size w w') → wpList Tryd.prog ops Q rest (a.put o.dst (.slice (some ⟨w.heap.size, 0, none⟩) n c')) w') : wpList Tryd.prog ops Q (o :: rest) a w := by
  refine wpList_plain hgd fun K hK => ?_
  obtain ⟨c', h1, h2, hrun⟩ := run_append_made w n hn hn2 o.type
  unfold Oper.wp execOp
  simp only [ho, resolve, invoke, builtin, Sem.run_bind, Sem.run_pure, Result.andThen_ok, List.map_toArray, List.map_cons, List.map_nil, hs, hx, hrun]
  refine hK _ _ (h c' _ ?_ ?_)
  · exact (own_made w.drew c' w.heap.size h2 (Nat.le_refl _))
  · exact ((Below.refl _ _).drew).alloc (Nat.le_refl _) _
set_option maxHeartbeats 1000000 in
theorem Grow_any (n : Nat) (hn : n < 1000000000) (w : World) :
    Calls Tryd.prog 101 #[.slice none 0 0, .int .i64 (n : Int)] w fun e w' => ∃ v, e = .returned v ∧ w'.ownsRow w.heap.size 5 1 v 0 (u8s []) ∧ Below w.heap.size w w' := by
  by_cases h0 : n = 0
  · subst h0
    go_enter Tryd.func101, Tryd.ntmps101
    go_wp2
    go_ret
    exact ⟨_, rfl, own_none w w.heap.size, Below.refl _ _⟩
  · have hpos : 0 < n := by omega
    go_enter Tryd.func101, Tryd.ntmps101
    go_wp2_with (at_builtin; refine wpList_append_made rfl (.tmp 20) (.tmp 21) rfl n hpos hn rfl rfl ?_; intro c' w1 HO HB)
    go_ret
    exact ⟨_, rfl, HO.out, HB.out⟩
end Go.Proofs.YtobceieadjpaaaaDoor
/-
  What is proved here: the library's own Concat of some rows of bytes.
-/
namespace Go.Proofs.YtobceieadjpaaaaDoor
open Go.ChangeShapes Go.WideShapes Go.ChangeAt Go.RowKit
set_option linter.unusedVariables false
set_option maxRecDepth 20000

theorem flat_take (L : List (List Int)) (k : Nat) (xs : List Int) (h : L[k]? = some xs) : (L.take (k + 1)).flatten = (L.take k).flatten ++ xs := by
  have hk : k < L.length := by
    rcases Nat.lt_or_ge k L.length with h1 | h1
    · exact h1
    · rw [List.getElem?_eq_none h1] at h; cases h
  rw [List.take_succ_eq_append_getElem hk, List.flatten_append]
  have e : L[k] = xs := by rw [List.getElem?_eq_getElem hk] at h; injection h
  simp [e]
theorem flat_bound (L : List (List Int)) (h : ∀ f ∈ L, f.length < 3000000) (k : Nat) (hk : k ≤ L.length) : (L.take k).flatten.length ≤ 3000000 * k := by
  induction k with
  | zero => simp
  | succ k ih =>
    have hlt : k < L.length := by omega
    rw [flat_take L k L[k] (List.getElem?_eq_getElem hlt), List.length_append]
    have := ih (by omega)
    have := h L[k] (List.getElem_mem hlt)
    omega
theorem flat_bs (L : List (List Int)) (h : ∀ f ∈ L, Bs f) : Bs L.flatten := fun v hv => by
  obtain ⟨f, hf, hv⟩ := List.mem_flatten.1 hv
  exact h f hf v hv
set_option maxHeartbeats 2000000 in
theorem Concat_any (A : Option Addr) (n c : Nat) (L : List (List Int)) (w : World) (h : InR w A n L) (hn : n ≤ 100) (hL : ∀ f ∈ L, f.length < 3000000) :
    Calls Tryd.prog 76 #[.slice A n c] w fun e w' => ∃ A' c', e = .returned (.slice A' L.flatten.length c') ∧ L.flatten.length ≤ c' ∧ Rp w' none A' L.flatten ∧ Below w.heap.size w w' := by
  have hl := h.1
  have hb := fun k => flat_bound L hL k
  obtain ⟨T, hT⟩ : ∃ T, T = L.flatten.length := ⟨_, rfl⟩
  have hTb : T ≤ 300000000 := by have := hb L.length (Nat.le_refl _); rw [List.take_length] at this; omega
  have H := hid h; have HL := hid hl; have HT := hid hT; have HB := hid hb
  have CG := hid (fun w => Grow_any T (by omega) w)
  rw [← hT]
  clear h hl hT hb
  go_enter Tryd.func76, Tryd.ntmps76
  go_wp2
  go_loop [3, 5, 11] (fun s _ i => ∃ k : Nat, k ≤ n ∧ i = .int .i64 k ∧ s = .int .i64 ((L.take k).flatten.length : Nat)) (fun _ _ i => n - (intOf i).toNat)
  case atStart => exact ⟨0, Nat.zero_le _, rfl, by simp⟩
  case round =>
    obtain ⟨k, hk, rfl, rfl⟩ := hrel
    by_cases hlt : k < n
    · obtain ⟨b, o, rfl, hbl, hat⟩ := H.out.2.2 (by omega)
      obtain ⟨B, cc, xs, h1, h2, h3, h4, h5, h6⟩ := hat k hlt
      have hS := flat_take L k xs h1
      have h7 := HB.out (k + 1) (by rw [HL.out]; omega)
      rw [hS, List.length_append] at h7
      have HS : Hid ((L.take (k + 1)).flatten.length = (L.take k).flatten.length + xs.length) := by show _ = _; rw [hS, List.length_append]
      obtain ⟨m, hm⟩ : ∃ m, m = xs.length := ⟨_, rfl⟩
      rw [← hm] at HS h2 h7
      generalize (L.take k).flatten.length = S at HS h7 ⊢
      clear hat h1 h3 h4 h5 h6 hS hm hbl
      go_wp2
      go_round
      case rel => exact ⟨k + 1, by omega, by go_num, by rw [HS.out]; go_num⟩
      case measure => simp [intOf]; omega
    · obtain rfl : k = n := by omega
      have e : (L.take k).flatten.length = T := by rw [List.take_of_length_le (by rw [HL.out]; omega), HT.out]
      rw [e]
      clear e
      go_wp2_with (go_at_call 101; refine (CG.out _).mono ?_; rintro e w1 ⟨v, rfl, ho, hb1⟩; have HO := hid ho; have HB1 := hid hb1; clear ho hb1)
      go_loopw [6, 8, 27] (fun v _ i wr => ∃ j : Nat, j ≤ k ∧ i = .int .i64 j ∧ Hid (wr.ownsRow w.heap.size 5 1 v (L.take j).flatten.length (u8s (L.take j).flatten)) ∧ Hid (Below w.heap.size w wr)) (fun _ _ i _ => k - (intOf i).toNat)
      case atStart => exact ⟨0, Nat.zero_le _, rfl, HO.out, HB1.out⟩
      case round =>
        obtain ⟨j, hj, rfl, HO2, HBW⟩ := hrel
        by_cases hlt2 : j < k
        · obtain ⟨b, o, rfl, hbl, hat⟩ := (H.out.below HBW.out).2.2 (by omega)
          obtain ⟨B, cc, xs, h1, h2, h3, h4, h5, h6⟩ := hat j hlt2
          have HS := hid (flat_take L j xs h1)
          have HR := hid h4
          have h7 := HB.out (j + 1) (by rw [HL.out]; omega)
          rw [HS.out, List.length_append] at h7
          have H7 : Hid ((L.take j).flatten.length + xs.length < 1000000000000) := by show _ < _; omega
          have HSZ := hid HBW.out.size
          obtain ⟨m, hm⟩ : ∃ m, m = xs.length := ⟨_, rfl⟩
          rw [← hm] at h2
          have HM := hid hm
          clear hat h1 h3 h4 h5 h6 h7 hm hbl
          go_wp2_with (at_builtin; refine append_rpm rfl (.tmp 31) (.tmp 32) rfl w.heap.size w.heap.size _ (L.take j).flatten rfl HO2.out B m cc xs HM.out rfl HR.out H7.out HSZ.out (Nat.le_refl _) ?_; intro v9 w9 O9 B9)
          exact ⟨⟨j + 1, by omega, by go_num, by (show World.ownsRow _ _ _ _ _ _ _); rw [HS.out]; exact O9.out, HBW.out.trans B9.out⟩, by simp [intOf]; omega⟩
        · obtain rfl : j = k := by omega
          have e : (L.take j).flatten = L.flatten := by rw [List.take_of_length_le (by rw [HL.out]; omega)]
          have HE := hid e
          rw [HE.out, ← HT.out] at HO2
          obtain ⟨A9, c9, rfl, _, hc9, hf9⟩ := fresh_of_own (w := w) HO2.out (Nat.le_refl _)
          have F9 := hid hf9.rp0; have HC9 := hid hc9
          clear hc9 hf9 e
          go_wp2
          go_ret
          exact ⟨A9, c9, rfl, HC9.out, F9.out, HBW.out⟩
end Go.Proofs.YtobceieadjpaaaaDoor
/-
  What is proved here: what all bytes that the code hashes under a key and a number begin with.
-/
namespace Go.Proofs.YtobceieadjpaaaaDoor
open Go.ChangeShapes Go.WideShapes Go.ChangeAt Go.RowKit
set_option linter.unusedVariables false
set_option maxRecDepth 20000

/-- a key as cells -/
def keyC (k : Int) (id : List Int) (q : Int) : Array Value := ((shp k).toList ++ (u8s id ++ [Value.int .u32 q])).toArray
theorem keyC_size (k : Int) {id : List Int} (hi : Idn id) (q : Int) : (keyC k id q).size = 20 := by
  unfold keyC
  simp [u8s_length, hi.len, shp]
theorem key_info0 : (Tryd.prog.info? 64).map (·.size) = some 20 := by kernel_rfl
theorem key_info (k : Int) {id : List Int} (hi : Idn id) (q : Int) : (Tryd.prog.info? 64).map (·.size) = some (keyC k id q).toList.length := by
  have h : (keyC k id q).toList.length = 20 := by have := keyC_size k hi q; simpa using this
  rw [h]; exact key_info0
theorem key_id (k : Int) {id : List Int} (hi : Idn id) (q : Int) (j : Nat) (hj : j < 16) : (keyC k id q)[3 + j]? = some (.int .u8 (id[j]?.getD 0)) := by
  unfold keyC
  have hs : (shp k).toList.length = 3 := rfl
  have hl := hi.len
  rw [List.getElem?_toArray, List.getElem?_append_right (by rw [hs]; omega), hs, show 3 + j - 3 = j by omega, List.getElem?_append_left (by rw [u8s_length]; omega), u8s_get _ _ (by omega)]
theorem key_q (k : Int) {id : List Int} (hi : Idn id) (q : Int) : (keyC k id q)[19]? = some (.int .u32 q) := by
  unfold keyC
  have hs : (shp k).toList.length = 3 := rfl
  rw [List.getElem?_toArray, List.getElem?_append_right (by rw [hs]; omega), hs, List.getElem?_append_right (by rw [u8s_length, hi.len]; omega), u8s_length, hi.len]
  rfl
theorem key_rp {w : World} {b : Nat} {k : Int} {id : List Int} {q : Int} (hi : Idn id) (h : Blk w b 64 (keyC k id q)) {p : Option Addr} (hp : ¬ Of p b) : Rp w p (some ⟨b, 3, none⟩) id := fun _ =>
  ⟨_, rfl, hp, fun j hj => by rw [Addr.add_lit, h.cell, key_id k hi q j (by rw [← hi.len]; exact hj)]⟩
theorem up_good (bs : List Int) (x : Int) (h : 0 ≤ x ∧ x < 65536) : (WS.good bs).up 65535 x 2 = .good (bs ++ be x 2) := by
  unfold WS.up
  rw [if_neg (by omega)]; rfl
set_option maxHeartbeats 2000000 in
theorem begin_any (k : Int) (id : List Int) (q i : Int) (w : World) (hi : Idn id) (hq : 0 ≤ q ∧ q < 4294967296) (hi2 : 0 ≤ i ∧ i < 65536) :
    Calls Tryd.prog 77 #[.agg (keyC k id q), .int .i64 i] w fun e w' => ∃ g, e = .returned (.slice (some ⟨g, 0, none⟩) 22 22) ∧ w.heap.size ≤ g ∧ Rp w' none (some ⟨g, 0, none⟩) (id ++ be q 4 ++ be i 2) ∧ Below w.heap.size w w' := by
  obtain ⟨Z, hz, hz0, z0, z1, z2, z3, z4, hZs⟩ := zero_writer
  obtain ⟨hk1, hk2, hb0⟩ := blks2 w (keyC k id q) Z 64 69
  have hw : WAt ((w.alloc (.cells (keyC k id q) 64)).alloc (.cells Z 69)) (w.heap.size + 1) [] := new_writer hk2 hz z0.out z1.out z2.out z3.out
  have hne : ¬ Of (some ⟨w.heap.size + 1, 0, none⟩) w.heap.size := by rintro ⟨a, ha, h⟩; injection ha with ha; subst ha; simp at h
  have h1 := WPlain_any (some ⟨w.heap.size + 1, 0, none⟩) (.good []) (some ⟨w.heap.size, 3, none⟩) 16 id _ ⟨_, rfl, hw⟩ (key_rp hi hk1 hne) (by simp [WS.len, hi.len])
  rw [hi.len] at h1
  have HP1 := hid h1
  have K1 := hid hk1
  have B0 := hid hb0
  have hof : ∀ g, Of (some ⟨w.heap.size + 1, 0, none⟩) g → w.heap.size ≤ g := by rintro g ⟨a, ha, rfl⟩; injection ha with ha; subst ha; show w.heap.size ≤ w.heap.size + 1; omega
  have HOF := hid hof; have HNE := hid hne
  have CQ := hid (key_q k hi q)
  have HI := hid hi; have HQ := hid hq; have HI2 := hid hi2
  have S0 : Hid (((w.alloc (.cells (keyC k id q) 64)).alloc (.cells Z 69)).heap.size = w.heap.size + 1 + 1) := by show _ = _; simp
  have HTL : Hid ((id ++ be q 4 ++ be i 2).length = 22) := by show _ = _; simp [be_length, hi.len]
  clear h1 hw z0 z1 z2 z3 z4 hof hne hk1 hk2 hb0 hi hq hi2
  go_enter Tryd.func77, Tryd.ntmps77
  go_wp2_with (first
    | (go_at_call 38; refine HP1.out.mono ?_; rintro e w1 ⟨rfl, hw1, ho1⟩; have H2 := hid (WU32_any (some ⟨w.heap.size + 1, 0, none⟩) (.good id) q w1 hw1 HQ.out (by simp [WS.len, HI.out.len])); have K2 := hid (K1.out.same (ho1.block _ K1.out.lt HNE.out)); have B1 := hid (B0.out.trans (ho1.below (by rw [S0.out]; omega) HOF.out)); have cq : w1.cell? ⟨w.heap.size, 19, none⟩ = some (.int .u32 q) := by { rw [K2.out.cell]; exact CQ.out }; clear hw1 ho1)
    | (go_at_call 37; refine H2.out.mono ?_; rintro e w2 ⟨rfl, hw2, ho2⟩; have H3 := hid (WU16_any (some ⟨w.heap.size + 1, 0, none⟩) (.good (id ++ be q 4)) i w2 hw2 (by simp [WS.len, HI.out.len, be_length])); rw [up_good _ _ HI2.out] at H3; have B2 := hid (B1.out.trans (ho2.below B1.out.size HOF.out)); clear hw2 ho2)
    | (go_at_call 91; refine H3.out.mono ?_; rintro e w3 ⟨rfl, hw3, ho3⟩; have H4 := hid (Out_good (some ⟨w.heap.size + 1, 0, none⟩) (id ++ be q 4 ++ be i 2) w3 hw3 (by rw [HTL.out]; decide)); rw [HTL.out] at H4; have B3 := hid (B2.out.trans (ho3.below B2.out.size HOF.out)); clear hw3 ho3)
    | (go_at_call 42; refine H4.out.mono ?_; rintro e w4 ⟨rfl, hw4, ho4⟩; have HW4 := hid hw4; have B4 := hid (B3.out.trans (ho4.mono B3.out.size)); clear hw4 ho4))
  go_ret
  exact ⟨_, rfl, B3.out.size, Blk.rp HW4.out, B4.out⟩
end Go.Proofs.YtobceieadjpaaaaDoor
/-
  What is proved here: the code's own hash of some parts under a key and a number; a chain's beginning; a chain's steps.
-/
namespace Go.Proofs.YtobceieadjpaaaaDoor
open Go.ChangeShapes Go.WideShapes Go.ChangeAt Go.RowKit
set_option linter.unusedVariables false
set_option maxRecDepth 20000

/-- a row of bytes as a cell -/
def rowCell (p : Option Addr × Nat × List Int) : Value := .slice p.1 p.2.2.length p.2.1
def RowOk (w : World) (p : Option Addr × Nat × List Int) : Prop := Rp w none p.1 p.2.2 ∧ Bs p.2.2 ∧ p.2.2.length ≤ p.2.1 ∧ p.2.2.length ≤ 9223372036854775807
theorem inR_of {w : World} {g : Nat} {t : TypeId} (ps : List (Option Addr × Nat × List Int)) (h : Blk w g t (ps.map rowCell).toArray) (hp : ∀ p ∈ ps, RowOk w p) (hl : ps.length ≤ 100) : InR w (some ⟨g, 0, none⟩) ps.length (ps.map (·.2.2)) := by
  refine ⟨by simp, by omega, fun _ => ⟨g, 0, rfl, h.lt, fun i hi => ?_⟩⟩
  have hpi := hp ps[i] (List.getElem_mem hi)
  refine ⟨ps[i].1, ps[i].2.1, ps[i].2.2, by simp [hi], ?_, hpi.2.1, hpi.1, hpi.2.2.1, hpi.2.2.2⟩
  rw [h.cell, Nat.zero_add, List.getElem?_toArray, List.getElem?_map, List.getElem?_eq_getElem hi]
  rfl
theorem inR_one {w : World} {A1 : Option Addr} {n1 c1 : Nat} {X : List Int} (e1 : n1 = X.length) (h1 : Rp w none A1 X) (b1 : Bs X) (k1 : X.length ≤ c1) (l1 : X.length < 3000000) :
    InR (w.alloc (.cells #[.slice A1 n1 c1] 29)) (some ⟨w.heap.size, 0, none⟩) 1 [X] := by
  subst e1
  have hb : Below w.heap.size w (w.alloc (.cells #[.slice A1 X.length c1] 29)) := (Below.refl _ _).alloc (Nat.le_refl _) _
  refine inR_of [(A1, c1, X)] (Blk.new w 29 #[.slice A1 X.length c1]) ?_ (by simp)
  intro p hp
  simp only [List.mem_cons, List.not_mem_nil, or_false] at hp
  subst hp
  exact ⟨h1.belowN hb, b1, k1, by show X.length ≤ _; omega⟩
theorem inR_two {w : World} {A1 A2 : Option Addr} {n1 n2 c1 c2 : Nat} {X Y : List Int} (e1 : n1 = X.length) (e2 : n2 = Y.length) (h1 : Rp w none A1 X) (h2 : Rp w none A2 Y) (b1 : Bs X) (b2 : Bs Y) (k1 : X.length ≤ c1) (k2 : Y.length ≤ c2) (l1 : X.length < 3000000) (l2 : Y.length < 3000000) :
    InR (w.alloc (.cells #[.slice A1 n1 c1, .slice A2 n2 c2] 29)) (some ⟨w.heap.size, 0, none⟩) 2 [X, Y] := by
  subst e1; subst e2
  have hb : Below w.heap.size w (w.alloc (.cells #[.slice A1 X.length c1, .slice A2 Y.length c2] 29)) := (Below.refl _ _).alloc (Nat.le_refl _) _
  refine inR_of [(A1, c1, X), (A2, c2, Y)] (Blk.new w 29 #[.slice A1 X.length c1, .slice A2 Y.length c2]) ?_ (by simp)
  intro p hp
  simp only [List.mem_cons, List.not_mem_nil, or_false] at hp
  rcases hp with rfl | rfl
  · exact ⟨h1.belowN hb, b1, k1, by show X.length ≤ _; omega⟩
  · exact ⟨h2.belowN hb, b2, k2, by show Y.length ≤ _; omega⟩
theorem inR_three {w : World} {A1 A2 A3 : Option Addr} {n1 n2 n3 c1 c2 c3 : Nat} {X Y Z : List Int} (e1 : n1 = X.length) (e2 : n2 = Y.length) (e3 : n3 = Z.length) (h1 : Rp w none A1 X) (h2 : Rp w none A2 Y) (h3 : Rp w none A3 Z) (b1 : Bs X) (b2 : Bs Y) (b3 : Bs Z) (k1 : X.length ≤ c1) (k2 : Y.length ≤ c2) (k3 : Z.length ≤ c3) (l1 : X.length < 3000000) (l2 : Y.length < 3000000) (l3 : Z.length < 3000000) :
    InR (w.alloc (.cells #[.slice A1 n1 c1, .slice A2 n2 c2, .slice A3 n3 c3] 29)) (some ⟨w.heap.size, 0, none⟩) 3 [X, Y, Z] := by
  subst e1; subst e2; subst e3
  have hb : Below w.heap.size w (w.alloc (.cells #[.slice A1 X.length c1, .slice A2 Y.length c2, .slice A3 Z.length c3] 29)) := (Below.refl _ _).alloc (Nat.le_refl _) _
  refine inR_of [(A1, c1, X), (A2, c2, Y), (A3, c3, Z)] (Blk.new w 29 #[.slice A1 X.length c1, .slice A2 Y.length c2, .slice A3 Z.length c3]) ?_ (by simp)
  intro p hp
  simp only [List.mem_cons, List.not_mem_nil, or_false] at hp
  rcases hp with rfl | rfl | rfl
  · exact ⟨h1.belowN hb, b1, k1, by show X.length ≤ _; omega⟩
  · exact ⟨h2.belowN hb, b2, k2, by show Y.length ≤ _; omega⟩
  · exact ⟨h3.belowN hb, b3, k3, by show Z.length ≤ _; omega⟩
set_option maxHeartbeats 4000000 in
theorem ksum_any (k : Int) (id : List Int) (q i : Int) (A : Option Addr) (n c : Nat) (L : List (List Int)) (w : World) (hi : Idn id) (hq : 0 ≤ q ∧ q < 4294967296) (hi2 : 0 ≤ i ∧ i < 65536) (h : InR w A n L) (hn : n ≤ 100) (hL : ∀ f ∈ L, f.length < 3000000) (hB : ∀ f ∈ L, Bs f) (hF : L.flatten.length < 2900000) (ht : Tab w) :
    Calls Tryd.prog 40 #[.agg (keyC k id q), .int .i64 i, .slice A n c] w fun e w' => e = .returned (.agg (u8s (under id q i L.flatten)).toArray) ∧ Below w.heap.size w w' := by
  obtain ⟨Z, HZ, hZ0, hZs⟩ := zero_Hash
  obtain ⟨hk1, hk2, hb0⟩ := blks2 w (keyC k id q) Z 64 26
  have K1 := hid hk1; have K2 := hid hk2; have B0 := hid hb0
  have S0 : Hid (((w.alloc (.cells (keyC k id q) 64)).alloc (.cells Z 26)).heap.size = w.heap.size + 1 + 1) := by show _ = _; simp
  have KI := hid (key_info k hi q)
  have CB := hid (fun w => begin_any k id q i w hi hq hi2)
  have C1 := hid (fun (w1 : World) (hb : Below w.heap.size w w1) => Concat_any A n c L w1 (h.below hb) hn hL)
  have HT := hid (fun (w1 : World) (hb : Below w.heap.size w w1) => ht.below hb)
  obtain ⟨F, hF2⟩ : ∃ F, F = L.flatten := ⟨_, rfl⟩
  rw [← hF2] at C1 hF ⊢
  have HBF : Hid (Bs F) := by rw [hF2]; exact flat_bs L hB
  obtain ⟨G, hG⟩ : ∃ G, G = id ++ be q 4 ++ be i 2 := ⟨_, rfl⟩
  rw [← hG] at CB
  have HGL : Hid (G.length = 22) := by show _ = _; rw [hG]; simp [be_length, hi.len]
  have HGB : Hid (Bs G) := by show Bs _; rw [hG]; exact bs_append (bs_append hi.bs (be_bs _ _)) (be_bs _ _)
  have HS : Hid (under id q i F = sum (G ++ F)) := by show _ = _; rw [hG]; rfl
  have HFL := hid hF
  have hS32 : (under id q i F).length = 32 := (under_ky id q i F).len
  have HI := hid (info_hash (under id q i F) hS32)
  have HZ32 : Hid (Z.size = (u8s (under id q i F)).toArray.size) := by
    show _ = _
    rw [HZ.out, List.size_toArray, List.size_toArray, u8s_length, u8s_length, hS32]; simp
  clear hk1 hk2 hb0 h hL hB hF ht hF2 hG hi hq hi2 hS32
  generalize under id q i F = S at HS HI HZ32 ⊢
  generalize keyC k id q = KC at K1 K2 B0 S0 KI CB ⊢
  obtain ⟨X, hX⟩ : ∃ X, X = G ++ F := ⟨_, rfl⟩
  rw [← hX] at HS
  have HL2 : Hid (X.length < 3000000) := by show _ < _; rw [hX, List.length_append, HGL.out]; have := HFL.out; omega
  have HBGF : Hid (Bs X) := by show Bs _; rw [hX]; exact bs_append HGB.out HBF.out
  have HFLT : Hid ([G, F].flatten = X) := by show _ = _; rw [hX]; simp
  have MAX : Hid (∀ f ∈ [G, F], f.length < 3000000) := by
    show ∀ f ∈ [G, F], f.length < 3000000
    intro f hf
    have := HFL.out; have := HGL.out
    simp only [List.mem_cons, List.not_mem_nil, or_false] at hf
    rcases hf with rfl | rfl <;> omega
  clear hX
  go_enter Tryd.func40, Tryd.ntmps40
  go_wp2_with (first
    | (refine load_at rfl 64 (.tmp 3) rfl w.heap.size 0 rfl KC.toList _ (blk_rng K1.out) Tryd.underlying64 rfl KI.out KC rfl ?_)
    | (go_at_call 77; refine (CB.out _).mono ?_; rintro e w1 ⟨g1, rfl, _, hr1, hb1⟩; have R1 := hid hr1; have B1 := hid (B0.out.trans (hb1.mono (by rw [S0.out]; omega))); have K3 := hid (K2.out.below hb1); clear hr1 hb1)
    | (go_at_call 76; refine (C1.out _ B1.out).mono ?_; clear C1; rintro e w2 ⟨A2, c2, rfl, hc2, hr2, hb2⟩; have HIN := hid (inR_two (n1 := 22) (n2 := F.length) (c1 := 22) (c2 := c2) HGL.out.symm rfl (R1.out.belowN hb2) hr2 HGB.out HBF.out (Nat.le_of_eq HGL.out) hc2 (MAX.out _ (by simp)) (MAX.out _ (by simp))); have C2 := hid (Concat_any (some ⟨w2.heap.size, 0, none⟩) 2 2 [G, F] _ HIN.out (by decide) MAX.out); rw [HFLT.out] at C2; have B2 := hid ((B1.out.trans (hb2.mono B1.out.size)).alloc (Nat.le_trans B1.out.size hb2.size) (.cells #[.slice (some ⟨g1, 0, none⟩) 22 22, .slice A2 F.length c2] 29)); have K4 := hid ((K3.out.below hb2).alloc (.cells #[.slice (some ⟨g1, 0, none⟩) 22 22, .slice A2 F.length c2] 29)); clear hc2 hr2 hb2)
    | (go_at_call 76; refine C2.out.mono ?_; clear C2; rintro e w3 ⟨A3, c3, rfl, hc3, hr3, hb3⟩; have B3 := hid (B2.out.trans (hb3.mono B2.out.size)); have K5 := hid (K4.out.below hb3); have CSM := hid (Sum_any A3 c3 X w3 hr3 HBGF.out (by have := HL2.out; omega) hc3 (HT.out _ B3.out)); unfold hashV at CSM; rw [← HS.out] at CSM; clear hc3 hr3 hb3)
    | (go_at_call 75; refine CSM.out.mono ?_; rintro e w4 ⟨rfl, hb4⟩; have B4 := hid (B3.out.trans (hb4.mono B3.out.size)); have K6 := hid (K5.out.below hb4); clear hb4)
    | (refine wpList_store_row rfl 26 (.tmp 6) (.tmp 14) rfl (w.heap.size + 1) (u8s S).toArray rfl rfl 26 Z K6.out HI.out HZ32.out (u8s_all S) ?_))
  try go_frame
  refine bodyPost_ret (results_cell_row Tryd.results40 _ _ (w.heap.size + 1) 26 (u8s S).toArray (0, 0) _ rfl (K6.out.row _) Tryd.underlying26 rfl HI.out) rfl ?_
  exact ⟨rfl, below_setRow B4.out (by omega) _⟩
end Go.Proofs.YtobceieadjpaaaaDoor
/-
  What is proved here: what only the seed leads to: a chain's beginning, or the salt, as the code makes it.
-/
namespace Go.Proofs.YtobceieadjpaaaaDoor
open Go.ChangeShapes Go.WideShapes Go.ChangeAt Go.RowKit
set_option linter.unusedVariables false
set_option maxRecDepth 20000

theorem Rp.below {w w' : World} {A : Option Addr} {xs : List Int} (h : Rp w none A xs) (hb : Below w.heap.size w w') : Rp w' none A xs := h.belowN hb
/-- the key and the seed lie where they lay -/
structure Sec (KC : Array Value) (seed : List Int) (w w' : World) : Prop where
  b0 : Blk w' (w.heap.size) 64 KC
  b1 : Blk w' (w.heap.size + 1) 26 (u8s seed).toArray
  bl : Below w.heap.size w w'
section
variable {KC : Array Value} {seed : List Int} {w w' w2 : World}
theorem Sec.below (h : Sec KC seed w w') (hb : Below w'.heap.size w' w2) : Sec KC seed w w2 := ⟨h.b0.below hb, h.b1.below hb, h.bl.trans (hb.mono h.bl.size)⟩
theorem Sec.drew (h : Sec KC seed w w') : Sec KC seed w w'.drew := h.below ((Below.refl _ _).drew)
theorem Sec.alloc (h : Sec KC seed w w') (o : Obj) : Sec KC seed w (w'.alloc o) := h.below ((Below.refl _ _).alloc (Nat.le_refl _) _)
theorem Sec.row (h : Sec KC seed w w') {g : Nat} (n0 : w.heap.size ≠ g) (n1 : w.heap.size + 1 ≠ g) (hg : w.heap.size ≤ g) (cs : Array Value) : Sec KC seed w (w'.setRow g cs) := ⟨h.b0.rowFar n0 cs, h.b1.rowFar n1 cs, below_setRow h.bl hg cs⟩
end
set_option maxHeartbeats 4000000 in
theorem secret_any (k : Int) (id : List Int) (q i : Int) (seed : List Int) (w : World) (hi : Idn id) (hq : 0 ≤ q ∧ q < 4294967296) (hi2 : 0 ≤ i ∧ i < 65536) (hs : Ky seed) (ht : Tab w) :
    Calls Tryd.prog 36 #[.agg (keyC k id q), .int .i64 i, .agg (u8s seed).toArray] w fun e w' => e = .returned (.agg (u8s (begn id q i seed)).toArray) ∧ Below w.heap.size w w' := by
  obtain ⟨Z, HZ, hZ0, hZs⟩ := zero_Hash
  obtain ⟨hk1, hk2, hk3, hb0⟩ := blks3 w (keyC k id q) (u8s seed).toArray Z 64 26 26
  have KI := hid (key_info k hi q)
  have HSL := hid hs.len; have HSB := hid hs.bs
  have B255 : Hid (Bs [255]) := fun v hv => by simp at hv; omega
  have HE : [[255], seed].flatten = 255 :: seed := by simp
  have HMAX : ∀ f ∈ [[255], seed], f.length < 3000000 := fun f hf => by
    simp only [List.mem_cons, List.not_mem_nil, or_false] at hf
    rcases hf with rfl | rfl
    · decide
    · rw [hs.len]; decide
  have HBS : ∀ f ∈ [[255], seed], Bs f := fun f hf => by
    simp only [List.mem_cons, List.not_mem_nil, or_false] at hf
    rcases hf with rfl | rfl
    · exact B255.out
    · exact hs.bs
  have CS := hid (fun (A : Option Addr) (w1 : World) (h : InR w1 A 2 [[255], seed]) (hb : Below w.heap.size w w1) => ksum_any k id q i A 2 2 [[255], seed] w1 hi hq hi2 h (by decide) HMAX HBS (by rw [HE]; simp [hs.len]) (ht.below hb))
  rw [HE] at CS
  have hR : under id q i (255 :: seed) = begn id q i seed := rfl
  rw [hR] at CS
  have hR32 : (begn id q i seed).length = 32 := (under_ky id q i _).len
  generalize begn id q i seed = R at CS hR32 ⊢
  have HI := hid (info_hash R hR32)
  have HZ32 : Hid (Z.size = (u8s R).toArray.size) := by
    show _ = _
    rw [HZ.out, List.size_toArray, List.size_toArray, u8s_length, u8s_length, hR32]; simp
  have G0 : Hid (Sec (keyC k id q) seed w (((w.alloc (.cells (keyC k id q) 64)).alloc (.cells (u8s seed).toArray 26)).alloc (.cells Z 26))) := ⟨hk1, hk2, hb0⟩
  have KZ := hid hk3
  generalize keyC k id q = KC at G0 KZ KI CS ⊢
  clear hk1 hk2 hk3 hb0 HE HMAX HBS hR hR32 hi hq hi2 hs ht
  go_enter Tryd.func36, Tryd.ntmps36
  go_wp2
  generalize ((w.alloc (.cells KC 64)).alloc (.cells (u8s seed).toArray 26)).alloc (.cells Z 26) = w0 at G0 KZ ⊢
  refine wp_region_held (S := fun w' => Hid (Sec KC seed w w')) (by kernel_rfl) ?_
  change wpAnyH _ _ _ _ _ _ _ _ w0.drew
  have Gx0 : Hid (Sec KC seed w w0.drew) := G0.out.drew
  have HBx0 : Below w0.heap.size w0 w0.drew := (Below.refl _ _).drew
  have KZ := hid (KZ.out.below HBx0)
  clear HBx0
  generalize w0.drew = x0 at Gx0 KZ ⊢
  refine wpAnyH_take (i := 0) (oi := { dst := some 7, op := _, type := _, pos := _, after := _, guard := _ }) (v := .agg (KC)) rfl (by kernel_rfl) (by kernel_rfl) (by kernel_rfl) (fun _ _ _ h => h) (yieldsIf_load_mid (cs := KC.toList) (by rfl) _ _ rfl _ _ rfl _ (fun w' hSw => blk_rng (Hid.out hSw).b0) Tryd.underlying64 rfl KI.out) (by assumption) ?_
  try simp only [Act.put, List.setIfInBounds_toArray, List.set_cons_zero, List.set_cons_succ]
  refine wpAnyH_take (i := 1) (oi := { dst := some 8, op := _, type := _, pos := _, after := _, guard := _ }) (v := ?_) rfl (by kernel_rfl) (by kernel_rfl) (by kernel_rfl) (fun _ _ _ h => h) (Or.inl ⟨by kernel_rfl, ?_⟩) (by assumption) ?_
  rotate_left
  · (intro w hSw; go_simp; try with_reducible rfl)
  try simp only [Act.put, List.setIfInBounds_toArray, List.set_cons_zero, List.set_cons_succ]
  refine wpAnyH_take (i := 3) (oi := { dst := some 10, op := _, type := _, pos := _, after := _, guard := _ }) (v := ?_) rfl (by kernel_rfl) (by kernel_rfl) (by kernel_rfl) (fun _ _ _ h => h) (Or.inl ⟨by kernel_rfl, ?_⟩) (by assumption) ?_
  rotate_left
  · (intro w hSw; go_simp; try with_reducible rfl)
  try simp only [Act.put, List.setIfInBounds_toArray, List.set_cons_zero, List.set_cons_succ]
  refine wpAnyH_ready (rs := [2]) (by kernel_rfl) (by simp) ?_
  refine (AllReadyH.cons (o := { dst := some 9, op := _, type := _, pos := _, after := _, guard := _ }) rfl (fun Qc hQc => ?_) AllReadyH.nil)
  go_simp
  have Gx1 := hid (Gx0.out.alloc (.cells #[.int .u8 255] 5))
  have HBx1 : Below x0.heap.size x0 (x0.alloc (.cells #[.int .u8 255] 5)) := (Below.refl _ _).alloc (Nat.le_refl _) _
  have KZ := hid (KZ.out.below HBx1)
  have N1 : Hid (Rp (x0.alloc (.cells #[.int .u8 255] 5)) none (some ⟨x0.heap.size, 0, none⟩) [255]) := Blk.rp (xs := [255]) (Blk.new x0 5 _)
  clear HBx1
  refine hQc.out _ _ Gx1 (fun hHeld => ?_)
  clear hQc Qc Gx0
  generalize x0.alloc (.cells #[.int .u8 255] 5) = x1 at Gx1 KZ N1 hHeld ⊢
  try simp only [Act.put, List.setIfInBounds_toArray, List.set_cons_zero, List.set_cons_succ]
  refine wpAnyH_ready (rs := [4]) (by kernel_rfl) (by simp) ?_
  refine (AllReadyH.cons (o := { dst := some 11, op := _, type := _, pos := _, after := _, guard := _ }) rfl (fun Qc hQc => ?_) AllReadyH.nil)
  go_simp
  have N1P := N1
  have GPP := Gx1
  have Gx2 := hid (Gx1.out.alloc (.cells #[.slice (some ⟨x0.heap.size, 0, none⟩) 1 1, .slice (some ⟨w.heap.size + 1, 0, none⟩) 32 32] 29))
  have HBx2 : Below x1.heap.size x1 (x1.alloc (.cells #[.slice (some ⟨x0.heap.size, 0, none⟩) 1 1, .slice (some ⟨w.heap.size + 1, 0, none⟩) 32 32] 29)) := (Below.refl _ _).alloc (Nat.le_refl _) _
  have KZ := hid (KZ.out.below HBx2)
  have N1 := hid (N1.out.below HBx2)
  have N2 : Hid (InR (x1.alloc (.cells #[.slice (some ⟨x0.heap.size, 0, none⟩) 1 1, .slice (some ⟨w.heap.size + 1, 0, none⟩) 32 32] 29)) (some ⟨x1.heap.size, 0, none⟩) 2 [[255], seed]) := inR_two rfl HSL.out.symm N1P.out (blk_rp GPP.out.b1) B255.out HSB.out (by decide) (Nat.le_of_eq HSL.out) (by decide) (by rw [HSL.out]; decide)
  clear HBx2
  refine hQc.out _ _ Gx2 (fun hHeld => ?_)
  clear hQc Qc Gx1 N1P GPP
  generalize x1.alloc (.cells #[.slice (some ⟨x0.heap.size, 0, none⟩) 1 1, .slice (some ⟨w.heap.size + 1, 0, none⟩) 32 32] 29) = x2 at Gx2 KZ N1 N2 hHeld ⊢
  try simp only [Act.put, List.setIfInBounds_toArray, List.set_cons_zero, List.set_cons_succ]
  refine wpAnyH_ready (rs := [5]) (by kernel_rfl) (by simp) ?_
  refine (AllReadyH.cons (o := { dst := some 12, op := _, type := _, pos := _, after := _, guard := _ }) rfl (fun Qc hQc => ?_) AllReadyH.nil)
  go_simp
  have CK := CS.out (some ⟨x1.heap.size, 0, none⟩) x2 N2.out Gx2.out.bl; go_at_call 40; refine CK.mono ?_; clear CK; rintro e x3 ⟨rfl, hbx3⟩
  have Gx3 := hid (Gx2.out.below hbx3)
  have KZ := hid (KZ.out.below hbx3)
  have N1 := hid (N1.out.below hbx3)
  have N2 := hid (N2.out.below hbx3)
  clear hbx3
  go_wp2_with fail
  refine hQc.out _ _ Gx3 (fun hHeld => ?_)
  clear hQc Qc Gx2
  try simp only [Act.put, List.setIfInBounds_toArray, List.set_cons_zero, List.set_cons_succ]
  refine wpAnyH_ready (rs := [6]) (by kernel_rfl) (by simp) ?_
  refine (AllReadyH.cons (o := { dst := none, op := _, type := _, pos := _, after := _, guard := _ }) rfl (fun Qc hQc => ?_) AllReadyH.nil)
  rw [if_pos (by rfl)]
  refine wp_store_row 26 (.tmp 6) (.tmp 12) rfl (w.heap.size + 1 + 1) (u8s R).toArray rfl rfl 26 Z KZ.out HI.out HZ32.out (u8s_all R) ?_
  have Gx4 := hid (Gx3.out.row (g := w.heap.size + 1 + 1) (by omega) (by omega) (by omega) (u8s R).toArray)
  have KWx4 := hid ((KZ.out).row (u8s R).toArray)
  refine hQc.out _ _ Gx4 (fun hHeld => ?_)
  clear hQc Qc Gx3
  generalize x3.setRow (w.heap.size + 1 + 1) (u8s R).toArray = x4 at Gx4 KWx4 hHeld ⊢
  try simp only [Act.put, List.setIfInBounds_toArray, List.set_cons_zero, List.set_cons_succ]
  refine wpAnyH_done (by kernel_rfl) ?_ _
  try simp only [Act.put, List.setIfInBounds_toArray, List.set_cons_zero, List.set_cons_succ]
  go_wp2
  refine bodyPost_ret (results_cell_row Tryd.results36 _ _ (w.heap.size + 1 + 1) 26 (u8s R).toArray (0, 0) _ rfl KWx4.out Tryd.underlying26 rfl HI.out) rfl ?_
  exact ⟨rfl, Gx4.out.bl⟩
end Go.Proofs.YtobceieadjpaaaaDoor
/-
  What is proved here: a chain's steps, as the code makes them.
-/
namespace Go.Proofs.YtobceieadjpaaaaDoor
open Go.ChangeShapes Go.WideShapes Go.ChangeAt Go.RowKit
set_option linter.unusedVariables false
set_option maxRecDepth 20000

theorem Rp.rowFar {w : World} {g o : Nat} {xs : List Int} (h : Rp w none (some ⟨g, o, none⟩) xs) {b : Nat} (hb : g ≠ b) (cs : Array Value) : Rp (w.setRow b cs) none (some ⟨g, o, none⟩) xs := fun hx => by
  obtain ⟨ad, e, hne, hc⟩ := h hx
  injection e with e
  subst e
  exact ⟨_, rfl, hne, fun j hj => (World.cell?_of_block (w := w) (setRow_other w b _ cs (by rw [add_block]; exact hb))).trans (hc j hj)⟩
set_option maxHeartbeats 4000000 in
theorem walk_any (k : Int) (id : List Int) (q i : Int) (h : List Int) (a t : Nat) (w : World) (hi : Idn id) (hq : 0 ≤ q ∧ q < 4294967296) (hi2 : 0 ≤ i ∧ i < 65536) (hh : Ky h) (ha : a < 256) (ht : t < 256) (htab : Tab w) :
    Calls Tryd.prog 41 #[.agg (keyC k id q), .int .i64 i, .agg (u8s h).toArray, .int .i64 (a : Int), .int .i64 (t : Int)] w fun e w' => e = .returned (.agg (u8s (steps id q i h a (t - a))).toArray) ∧ Below w.heap.size w w' := by
  obtain ⟨Z, HZ, hZ0, hZs⟩ := zero_Hash
  obtain ⟨hk1, hk2, hk3, hb0⟩ := blks3 w (keyC k id q) (u8s h).toArray Z 64 26 26
  have K1 := hid hk1; have K2 := hid hk2; have K3 := hid hk3; have B0 := hid hb0
  have KI := hid (key_info k hi q)
  have S0 : Hid ((((w.alloc (.cells (keyC k id q) 64)).alloc (.cells (u8s h).toArray 26)).alloc (.cells Z 26)).heap.size = w.heap.size + 1 + 1 + 1) := by show _ = _; simp
  have CB := hid (fun w => begin_any k id q i w hi hq hi2)
  have HT := hid (fun (w1 : World) (hb : Below w.heap.size w w1) => htab.below hb)
  have HSt := hid (fun n => steps_ky (id := id) (q := q) (i := i) hh a n)
  have HSt0 : Hid (steps id q i h a 0 = h) := rfl
  obtain ⟨G, hG⟩ : ∃ G, G = id ++ be q 4 ++ be i 2 := ⟨_, rfl⟩
  have HStS : Hid (∀ n, steps id q i h a (n + 1) = sum (G ++ (((a + n : Nat) : Int) :: steps id q i h a n))) := fun n => by rw [hG]; rfl
  rw [← hG] at CB
  have HGL : Hid (G.length = 22) := by show _ = _; rw [hG]; simp [be_length, hi.len]
  have HGB : Hid (Bs G) := by show Bs _; rw [hG]; exact bs_append (bs_append hi.bs (be_bs _ _)) (be_bs _ _)
  have HIh := hid (hash_info hh.len)
  have hz32 : Z.size = 32 := by rw [HZ.out, List.size_toArray, u8s_length]; simp
  have HZ32 := hid hz32
  obtain ⟨f, hf⟩ : ∃ f, f = steps id q i h a := ⟨_, rfl⟩
  rw [← hf] at HSt HSt0 HStS ⊢
  generalize keyC k id q = KC at K1 K2 K3 B0 S0 KI CB ⊢
  clear hk1 hk2 hk3 hb0 hG hz32 hf hi hq hi2 hh htab
  go_enter Tryd.func41, Tryd.ntmps41
  go_wp2_with (first
    | (refine load_at rfl 64 (.tmp 5) rfl w.heap.size 0 rfl KC.toList _ (blk_rng K1.out) Tryd.underlying64 rfl KI.out KC rfl ?_)
    | (go_at_call 77; refine (CB.out _).mono ?_; rintro e w1 ⟨g1, rfl, hg1, hr1, hb1⟩; have HG1 : Hid (w.heap.size + 1 + 1 + 1 ≤ g1) := by { show _ ≤ _; rw [← S0.out]; exact hg1 }; have R1 := hid hr1; have B1 := hid (B0.out.trans (hb1.mono (by rw [S0.out]; omega))); have K4 := hid (K2.out.below hb1); have K5 := hid (K3.out.below hb1); clear hr1 hb1 hg1))
  have hrep : Blk w1 (w.heap.size + 1) 26 (u8s (f 0)).toArray := by rw [HSt0.out]; exact K4.out
  have K6 := hid hrep
  clear hrep K1 K2 K3 K4
  go_loopw [12] (fun j wr => ∃ n : Nat, n ≤ t - a ∧ j = .int .i64 ((a + n : Nat) : Int) ∧ Hid (Blk wr (w.heap.size + 1) 26 (u8s (f n)).toArray) ∧ Hid (Blk wr (w.heap.size + 1 + 1) 26 Z) ∧ Hid (Rp wr none (some ⟨g1, 0, none⟩) G) ∧ Hid (Below w.heap.size w wr)) (fun j _ => t - (intOf j).toNat)
  case atStart => exact ⟨0, Nat.zero_le _, rfl, K6.out, K5.out, R1.out, B1.out⟩
  case round =>
    obtain ⟨n, hn, rfl, L1, L2, L3, LB⟩ := hrel
    by_cases hlt : a + n < t
    · obtain ⟨j, hj⟩ : ∃ j, j = a + n := ⟨_, rfl⟩
      have HStn := hid (HStS.out n)
      have HK0 := HSt.out n
      have HK1 := HSt.out (n + 1)
      have HN1 : Hid ((u8s (f (n + 1))).toArray.size = 32) := hash_size HK1.len
      have HIN1 := hid (info_hash (f (n + 1)) HK1.len)
      have HIC := hid HK0
      rw [← hj] at HStn hlt ⊢
      have HJ := hid hj
      have hj256 : j < 256 := by omega
      generalize hR : f (n + 1) = R at HStn HN1 HIN1
      have HR := hid hR
      clear hR
      generalize hcur : f n = C at HStn HIC L1 HK0
      clear hcur HK1 hj
      obtain ⟨X, hX⟩ : ∃ X, X = G ++ ((j : Int) :: C) := ⟨_, rfl⟩
      rw [← hX] at HStn
      have HX32 : Hid (X.length = 55) := by show _ = _; rw [hX, List.length_append, List.length_cons, HGL.out, HIC.out.len]
      have HBX : Hid (Bs X) := by show Bs _; rw [hX]; exact bs_append HGB.out (bs_cons (by omega) HIC.out.bs)
      have HFX : Hid ([G, [(j : Int)], C].flatten = X) := by show _ = _; rw [hX]; simp
      have hu8 : IntKind.u8.wrap (j : Int) = (j : Int) := by simp [IntKind.wrap, IntKind.bits, IntKind.signed]; omega
      have NB : Below wr.heap.size wr (wr.alloc (.cells #[.int .u8 (j : Int)] 5)) := (Below.refl _ _).alloc (Nat.le_refl _) _
      have NR : Rp (wr.alloc (.cells #[.int .u8 (j : Int)] 5)) none (some ⟨wr.heap.size, 0, none⟩) [(j : Int)] := Blk.rp (xs := [(j : Int)]) (Blk.new wr 5 _)
      have hin := inR_three (n1 := 22) (n2 := 1) (n3 := 32) (c1 := 22) (c2 := 1) (c3 := 32) (Y := [(j : Int)]) HGL.out.symm rfl HIC.out.len.symm (L3.out.belowN NB) NR (blk_rp (L1.out.below NB)) HGB.out (fun v hv => by simp at hv; omega) HIC.out.bs (Nat.le_of_eq HGL.out) (by simp) (Nat.le_of_eq HIC.out.len) (by rw [HGL.out]; decide) (by simp) (by rw [HIC.out.len]; decide)
      have MAX : ∀ f ∈ [G, [(j : Int)], C], f.length < 3000000 := by
        intro f hf
        have := HGL.out; have := HIC.out.len
        simp only [List.mem_cons, List.not_mem_nil, or_false] at hf
        rcases hf with rfl | rfl | rfl
        · omega
        · simp
        · omega
      have C2 := hid (Concat_any _ 3 3 [G, [(j : Int)], C] _ hin (by decide) MAX)
      rw [HFX.out, World.size_alloc] at C2
      obtain ⟨WA, hWA⟩ : ∃ WA, WA = (wr.alloc (.cells #[.int .u8 (j : Int)] 5)).alloc (.cells #[.slice (some ⟨g1, 0, none⟩) 22 22, .slice (some ⟨wr.heap.size, 0, none⟩) 1 1, .slice (some ⟨w.heap.size + 1, 0, none⟩) 32 32] 29) := ⟨_, rfl⟩
      have BA : Hid (Below wr.heap.size wr WA) := by show Below _ _ _; rw [hWA]; exact NB.alloc NB.size _
      have hji : (j : Int) < (t : Int) := by omega
      have HL1 := hid (L1.out.below BA.out); have HL2 := hid (L2.out.below BA.out); have HL3 := hid (L3.out.belowN BA.out)
      have HLB := hid (LB.out.trans (BA.out.mono LB.out.size))
      have HWA := hid hWA
      have HJ256 := hid hj256
      clear hX hin MAX NB NR L1 L2 L3 hWA hj256 HK0
      go_wp2_with fail
      rw [← HWA.out] at C2 ⊢
      (with_reducible refine C2.out.mono ?_)
      rintro e w3 ⟨A3, c3, rfl, hc3, hr3, hb3⟩
      have M1 := hid (HL1.out.below hb3); have M2 := hid (HL2.out.below hb3); have M3 := hid (HL3.out.belowN hb3)
      have MB := hid (HLB.out.trans (hb3.mono HLB.out.size))
      have CSM := hid (Sum_any A3 c3 X w3 hr3 HBX.out (by rw [HX32.out]; decide) hc3 (HT.out _ MB.out))
      unfold hashV at CSM
      rw [← HStn.out] at CSM
      clear hc3 hr3 hb3 C2 HWA
      go_wp2_with (first
        | (go_at_call 75; refine CSM.out.mono ?_; rintro e w4 ⟨rfl, hb4⟩; have N1 := hid (M1.out.below hb4); have N2 := hid (M2.out.below hb4); have N3 := hid (M3.out.belowN hb4); have NBB := hid (MB.out.trans (hb4.mono MB.out.size)); clear hb4)
        | (refine wpList_store_row rfl 26 (.tmp 7) (.tmp 29) rfl (w.heap.size + 1) (u8s R).toArray rfl rfl 26 (u8s C).toArray N1.out HIN1.out (by rw [HN1.out, hash_size HIC.out.len]) (u8s_all R) ?_))
      have hg := HG1.out
      refine ⟨⟨n + 1, by have := HJ.out; omega, by rw [HJ.out]; go_num, by rw [HR.out]; exact N1.out.row _, N2.out.rowFar (by omega) _, N3.out.rowFar (by omega) _, below_setRow NBB.out (by omega) _⟩, by simp [intOf]; omega⟩
    · have hnt : n = t - a := by omega
      subst hnt
      have HKf := HSt.out (t - a)
      generalize hR : f (t - a) = R at L1 HKf
      have HR := hid hR
      clear hR
      have HI := hid (info_hash R HKf.len)
      have HIR := hid (hash_info HKf.len)
      have HSZ : Hid (Z.size = (u8s R).toArray.size) := by show _ = _; rw [HZ32.out, hash_size HKf.len]
      clear HKf
      go_wp2_with (first
        | (refine load_at rfl 26 (.tmp 7) rfl (w.heap.size + 1) 0 rfl (u8s R) _ (blk_row L1.out) Tryd.underlying26 rfl HIR.out (u8s R).toArray rfl ?_)
        | (refine wpList_store_row rfl 26 (.tmp 10) (.tmp 30) rfl (w.heap.size + 1 + 1) (u8s R).toArray rfl rfl 26 Z L2.out HI.out HSZ.out (u8s_all R) ?_))
      try go_frame
      refine bodyPost_ret (results_cell_row Tryd.results41 _ _ (w.heap.size + 1 + 1) 26 (u8s R).toArray (0, 0) _ rfl (L2.out.row _) Tryd.underlying26 rfl HI.out) rfl ?_
      exact ⟨by rw [HR.out], below_setRow LB.out (by omega) _⟩
end Go.Proofs.YtobceieadjpaaaaDoor
