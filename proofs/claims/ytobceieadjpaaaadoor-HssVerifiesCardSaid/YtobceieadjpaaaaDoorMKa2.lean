/-
  What is proved here: the document's own digits of a hash and its check sum.
-/
import Derived.Test.YtobceieadjpaaaaDoorMHa2
import Derived.Test.YtobceieadjpaaaaDoorMKa1
set_option linter.unusedSimpArgs false
set_option linter.unusedVariables false
namespace Go.Proofs.YtobceieadjpaaaaDoor
open Go.ChangeShapes Go.WideShapes Go.ChangeAt Go.RowKit
set_option linter.unusedVariables false
set_option maxRecDepth 20000

/-- the cells of numbers -/
def i64s (xs : List Int) : List Value := xs.map (Value.int .i64)
theorem i64s_length (xs : List Int) : (i64s xs).length = xs.length := by simp [i64s]
theorem i64s_get (xs : List Int) (i : Nat) (h : i < xs.length) : (i64s xs)[i]? = some (.int .i64 (xs[i]?.getD 0)) := by simp [i64s, h]
theorem i64s_one (xs : List Int) : ∀ v ∈ i64s xs, v.oneCell' = true := by
  intro v hv
  simp only [i64s, List.mem_map] at hv
  obtain ⟨x, _, rfl⟩ := hv
  rfl
/-- the slice at A holds these numbers, from its block's first cell on -/
def RpI (w : World) (A : Option Addr) (xs : List Int) : Prop := 0 < xs.length → ∃ g cs, A = some ⟨g, 0, none⟩ ∧ w.heap[g]? = some (.cells cs 3 (0, 0)) ∧ ∀ j, j < xs.length → cs[j]? = some (.int .i64 (xs[j]?.getD 0))
theorem RpI.get {w : World} {A : Option Addr} {xs : List Int} (h : RpI w A xs) (hx : 0 < xs.length) : ∃ ad, A = some ad ∧ ∀ j, j < xs.length → w.cell? (ad.add j) = some (.int .i64 (xs[j]?.getD 0)) := by
  obtain ⟨g, cs, rfl, hh, hc⟩ := h hx
  refine ⟨_, rfl, fun j hj => ?_⟩
  have e1 : (⟨g, 0, none⟩ : Addr).add j = ⟨g, j, none⟩ := by unfold Addr.add; split <;> simp_all
  rw [e1, cell_of_row w g j cs 3 (0, 0) hh, hc j hj]
theorem RpI.same {w w' : World} {A : Option Addr} {xs : List Int} (h : RpI w A xs) (hb : ∀ (g : Nat) (cs : Array Value), w.heap[g]? = some (Obj.cells cs 3 (0, 0)) → w'.heap[g]? = w.heap[g]?) : RpI w' A xs := fun hx => by
  obtain ⟨g, cs, rfl, hh, hc⟩ := h hx
  exact ⟨g, cs, rfl, (hb g cs hh).trans hh, hc⟩
theorem RpI.below {w w' : World} {A : Option Addr} {xs : List Int} (h : RpI w A xs) (hb : Below w.heap.size w w') : RpI w' A xs := h.same fun g cs hh => hb.block g (by
  rcases Nat.lt_or_ge g w.heap.size with h2 | h2
  · exact h2
  · rw [Array.getElem?_eq_none h2] at hh; cases hh)
theorem info_int : (Tryd.prog.info? 3).map (fun i => (i.zero, i.size, i.bytes)) = some (some (.int .i64 0), 1, 8) := by kernel_rfl
theorem append_int {w : World} {ops : Array Oper} {rest : List Oper} {o : Oper} {a : Act} {Q : Exit → Act → World → Prop} (hgd : o.guard = none) (s x : Operand)
    (ho : o.op = .call { callee := .builtin .append, args := #[s, x], argTypes := #[79, 79] })
    (base B : Nat) (v : Value) (xs : List Int) (n : Nat) (hn : n = xs.length) (hs : a.eval s = v) (hown : w.ownsRow base 3 1 v n (i64s xs))
    (ad : Addr) (y : Int) (hx : a.eval x = .slice (some ad) 1 1) (hr : w.cell? ad = some (.int .i64 y)) (h63 : n < 1000000) (hbase : base ≤ w.heap.size) (hB : B ≤ base)
    (h : ∀ v' w', Hid (w'.ownsRow base 3 1 v' (n + 1) (i64s (xs ++ [y]))) → Hid (Below B w w') → wpList Tryd.prog ops Q rest (a.put o.dst v') w') : wpList Tryd.prog ops Q (o :: rest) a w := by
  obtain ⟨i0, hi, hz0, hz1, hz2⟩ := info_parts info_int
  refine wpList_append_own _ hgd s x 79 ho base 3 i0 (.int .i64 0) 1 8 Tryd.underlying79 hi hz0 hz1 hz2 rfl (by decide) v n (i64s xs) hs hown ad 1 1 (i64s [y]) hx (by rw [i64s_length]; simp) (fun j u hu => ?_) (i64s_one _) (by unfold maxLen; omega) (by omega) hbase ?_
  · cases j with
    | zero =>
      simp [i64s] at hu
      subst hu
      have e : ad.add 0 = ad := by unfold Addr.add; simp
      rw [e]; exact hr
    | succ j => simp [i64s] at hu
  · intro v' w' h1 h2 _
    refine h v' w' (show World.ownsRow _ _ _ _ _ _ _ from ?_) ((Below.refl _ _).grown h2 (by omega) (fun b hb => Nat.le_trans hB (hown.lt b hb).1))
    rw [show i64s (xs ++ [y]) = i64s xs ++ i64s [y] by simp [i64s]]
    exact h1
theorem ints_of_own {w1 : World} {base n : Nat} {v : Value} {xs : List Int} (h : w1.ownsRow base 3 1 v n (i64s xs)) :
    ∃ A c, v = .slice A n c ∧ xs.length = n ∧ RpI w1 A xs := by
  have hl := h.1
  rw [i64s_length, Nat.mul_one] at hl
  rcases h.2 with ⟨hv, h0⟩ | ⟨g, cap, cur, hv, hg, hh, hnc, hcm, hcs, htk⟩
  · exact ⟨none, 0, by rw [hv, h0], hl, fun hx => by omega⟩
  · refine ⟨some ⟨g, 0, none⟩, cap, hv, hl, fun _ => ⟨g, cur, rfl, hh, fun j hj => ?_⟩⟩
    have e : cur[j]? = (cur.toList.take (n * 1))[j]? := by rw [List.getElem?_take, if_pos (by omega), Array.getElem?_toList]
    rw [e, htk, i64s_get _ _ hj]
theorem own_none_int (w : World) (B : Nat) : w.ownsRow B 3 1 (.slice none 0 0) 0 (i64s []) := ⟨by simp [i64s], .inl ⟨rfl, rfl⟩⟩
theorem digits_take (k : Int) (h : List Int) (n : Nat) (hn : n < kchains k) : (digits k h).take (n + 1) = (digits k h).take n ++ [dig (kall k h) n (kbits k) (8 / kbits k)] := by
  rw [List.take_succ_eq_append_getElem (by rw [digits_length]; exact hn)]
  simp [digits]
theorem kDigits_no (k : Int) (h : List Int) (w : World) (hk : kbits k = 0) :
    Calls Tryd.prog 84 #[.int .i64 k, .agg (u8s h).toArray] w fun e w' => e = .returned (.slice none 0 0) ∧ Below w.heap.size w w' := by
  have CB := hid (kBits_any k)
  rw [hk] at CB
  clear hk
  go_enter Tryd.func84, Tryd.ntmps84
  go_wp2_with (go_at_call 82; refine (CB.out _).mono ?_; rintro e w1 ⟨rfl, rfl⟩)
  go_ret
  exact ⟨rfl, (Below.refl _ _).alloc (Nat.le_refl _) _⟩
end Go.Proofs.YtobceieadjpaaaaDoor
/-
  What is proved here: the document's own digits of a hash and its check sum.
-/
namespace Go.Proofs.YtobceieadjpaaaaDoor
open Go.ChangeShapes Go.WideShapes Go.ChangeAt Go.RowKit
set_option linter.unusedVariables false
set_option maxRecDepth 20000
theorem be2 (x : Int) (h0 : 0 ≤ x) (h1 : x < 65536) : be x 2 = [x / 256, x % 256] := by
  simp only [be]
  rw [show (256 : Int) ^ 1 = 256 by decide, show (256 : Int) ^ 0 = 1 by decide, Int.ediv_one, Int.emod_eq_of_lt (by omega) (by omega)]
set_option maxRecDepth 5000 in
set_option maxHeartbeats 4000000 in
theorem kDigits_1 (h : List Int) (w : World) (hh : Ky h) :
    Calls Tryd.prog 84 #[.int .i64 1, .agg (u8s h).toArray] w fun e w' => ∃ A c, e = .returned (.slice A 265 c) ∧ RpI w' A (digits 1 h) ∧ Below w.heap.size w w' := by
  have CB : Hid (∀ w, Calls Tryd.prog 82 #[.int .i64 1] w fun e w' => e = .returned (.int .i64 1) ∧ w = w') := kBits_any 1
  have CM : Hid (∀ w, Calls Tryd.prog 87 #[.int .i64 1] w fun e w' => e = .returned (.int .i64 1) ∧ w = w') := kMost_any 1
  have CC : Hid (∀ w, Calls Tryd.prog 83 #[.int .i64 1] w fun e w' => e = .returned (.int .i64 265) ∧ w = w') := kChains_any 1
  have K0 : Hid (Blk (w.alloc (.cells (u8s h).toArray 26)) w.heap.size 26 (u8s h).toArray) := Blk.new w 26 _
  have B0 : Hid (Below w.heap.size w (w.alloc (.cells (u8s h).toArray 26))) := (Below.refl _ _).alloc (Nat.le_refl _) _
  have HH := hid hh
  have RI := hid (blk_rp K0.out)
  have O0 := hid (own_none (w.alloc (.cells (u8s h).toArray 26)) (w.heap.size + 1))
  have S0 : Hid (w.heap.size + 1 ≤ (w.alloc (.cells (u8s h).toArray 26)).heap.size) := by show _ ≤ _; simp
  have HXX := hid (ksum_bound (k := 1) (by unfold Kd; omega) h)
  go_enter Tryd.func84, Tryd.ntmps84
  go_wp2_with (go_at_call 82; refine (CB.out _).mono ?_; rintro e w1 ⟨rfl, rfl⟩)
  generalize w.alloc (.cells (u8s h).toArray 26) = w0 at K0 B0 RI O0 S0 ⊢
  go_loop [7, 8] (fun s n => ∃ j : Nat, j ≤ 256 ∧ n = .int .i64 j ∧ s = .int .i64 (ksum 1 h j)) (fun _ n => 256 - (intOf n).toNat)
  case atStart => exact ⟨0, Nat.zero_le _, rfl, rfl⟩
  case round =>
    obtain ⟨j, hj, rfl, rfl⟩ := hrel
    have hs := ksum_lo 1 h j
    have hm1 : kmost 1 = 1 := rfl
    rw [hm1] at hs
    clear hm1
    have s0 : 0 ≤ ksum 1 h j := hs.1
    have s1 : ksum 1 h j ≤ 100000 := by omega
    clear hs
    have HS : Hid (ksum 1 h (j + 1) = ksum 1 h j + (1 - digH 1 h j)) := rfl
    have d0 := dig_lo h j 1 8
    have d1 := dig_hi h j 1 8
    have hd : digH 1 h j = dig h j 1 8 := rfl
    by_cases hlt : j < 256
    · have CD := hid (fun w1 hr => kdigit_1 (some ⟨w.heap.size, 0, none⟩) 32 h j w1 hr HH.out.bs (by rw [HH.out.len]; omega) (by omega))
      rw [HH.out.len, ← hd] at CD
      rw [← hd] at d0 d1
      clear hd
      generalize digH 1 h j = d at CD d0 d1 HS
      simp at d1
      have hji : (j : Int) < 256 := by omega
      go_wp2_with (first
        | (go_at_call 87; refine (CM.out _).mono ?_; rintro e w1 ⟨rfl, rfl⟩)
        | (go_at_call 102; refine (CD.out _ (blk_rp K0.out)).mono ?_; rintro e w1 ⟨rfl, rfl⟩))
      go_round
      case rel => exact ⟨j + 1, by omega, by go_num, by rw [HS.out]⟩
      case measure => simp [intOf]; omega
    · obtain rfl : j = 256 := by omega
      clear hd d0 d1 HS
      have HSU : Hid (kcheck 1 h = ksum 1 h 256 * 2 ^ 7) := rfl
      have HX := hid (ksum_lo 1 h 256)
      generalize ksum 1 h 256 = S at s0 s1 HSU HX ⊢
      have IX : ∀ w1 : World, (Instr.index 137 (.agg #[.int .i64 0, .int .i64 7, .int .i64 6, .int .i64 4, .int .i64 0]) (.int .i64 1)).run Tryd.prog w1 = .ok (.int .i64 7) w1 := fun _ => by kernel_rfl
      clear hlt hj
      go_wp2_with fail
      go_loop [7, 10] (fun s n => ∃ j : Nat, j ≤ 7 ∧ n = .int .i64 j ∧ s = .int .i64 (S * 2 ^ j)) (fun _ n => 7 - (intOf n).toNat)
      case atStart => exact ⟨0, Nat.zero_le _, rfl, by simp⟩
      case round =>
        obtain ⟨j, hj, rfl, rfl⟩ := hrel
        have hp := pow_le8 j (by omega)
        have hq : (0 : Int) < 2 ^ j := Int.pow_pos (by decide)
        have HS : Hid (S * 2 ^ (j + 1) = 2 * (S * 2 ^ j)) := by show _ = _; rw [Int.pow_succ, ← Int.mul_assoc, Int.mul_comm]
        have t0 : 0 ≤ S * 2 ^ j := Int.mul_nonneg s0 (by omega)
        have t1 : S * 2 ^ j ≤ 100000 * 256 := Int.mul_le_mul s1 hp (by omega) (by decide)
        clear hp hq
        by_cases hlt : j < 7
        · generalize S * 2 ^ j = y at t0 t1 HS ⊢
          have hji : (j : Int) < 7 := by omega
          go_wp2_with fail
          go_round
          case rel => exact ⟨j + 1, by omega, by go_num, by rw [HS.out]⟩
          case measure => simp [intOf]; omega
        · obtain rfl : j = 7 := by omega
          generalize S * 2 ^ 7 = T at t0 t1 HSU ⊢
          clear HS hlt hj
          have HT := HXX
          rw [HSU.out] at HT
          have tb := HT.out.2
          have s2 : IntKind.u64.wrap T = T := by simp [IntKind.wrap, IntKind.bits, IntKind.signed]; omega
          have NQ : Hid (∀ w, Calls Tryd.prog 89 #[.int .u64 T, .int .i64 2] w fun e w' => ∃ A c, e = .returned (.slice A 2 c) ∧ 2 ≤ c ∧ Fresh w w' A (be T 2) ∧ Below w.heap.size w w') := fun w => Number_any T 2 w ⟨t0, by omega⟩ (by decide)
          have HALL : Hid ([] ++ h ++ be T 2 = kall 1 h) := by show _ = _; rw [List.nil_append, be2 T HT.out.1 HT.out.2, kall, HSU.out]
          have L3 : Hid (([] ++ h).length + (be T 2).length < 1000000000000) := by show _ < _; simp [be_length, HH.out.len]
          clear HT HSU HXX HX
          go_wp2_with (first
            | (at_builtin; refine append_rpm rfl (.tmp 44) (.tmp 45) rfl (w.heap.size + 1) (w.heap.size + 1) _ [] rfl O0.out (some ⟨w.heap.size, 0, none⟩) 32 32 h HH.out.len.symm rfl RI.out (by rw [HH.out.len]; decide) S0.out (Nat.le_refl _) ?_; intro v1 w1 O1 B1; have Z1 := hid (Nat.le_trans S0.out B1.out.size))
            | (go_at_call 89; (with_reducible refine (NQ.out _).mono ?_); rintro e w2 ⟨A2, c2, rfl, hc2, hf2, hb2⟩; have F2 := hid hf2.rp0; have O2 := hid (own_below O1.out hb2); have B2 := hid (B1.out.trans (hb2.mono Z1.out)); have Z2 := hid (Nat.le_trans Z1.out hb2.size); clear hc2 hf2 hb2)
            | (at_builtin; refine append_rpm rfl (.tmp 47) (.tmp 50) rfl (w.heap.size + 1) (w.heap.size + 1) _ ([] ++ h) rfl O2.out A2 2 c2 (be T 2) (by rw [be_length]) rfl F2.out L3.out Z2.out (Nat.le_refl _) ?_; intro v3 w3 O3 B3; have Z3 := hid (Nat.le_trans Z2.out B3.out.size); have B4 := hid (B0.out.trans ((B2.out.trans B3.out).mono (by omega)))))
          rw [HALL.out] at O3
          obtain ⟨A7, c7, rfl, _, hc7, hf7⟩ := fresh_of_own (w := w) O3.out (by omega)
          have F7 := hid hf7.rp0
          have HDT : Hid (∀ n, n < 265 → (digits 1 h).take (n + 1) = (digits 1 h).take n ++ [dig (kall 1 h) n 1 8]) := fun n hn => digits_take 1 h n hn
          have HXB : Hid (Bs (kall 1 h)) := by show Bs _; rw [← HALL.out]; exact bs_append (by rw [List.nil_append]; exact HH.out.bs) (be_bs _ _)
          have HXL : Hid ((kall 1 h).length = 34) := by show _ = _; rw [← HALL.out]; simp [be_length, HH.out.len]
          have DL : Hid ((digits 1 h).length = 265) := digits_length 1 h
          clear hc7 hf7 O3 O2 O1 HALL F2
          generalize kall 1 h = X at F7 HDT HXB HXL ⊢
          obtain ⟨D, hD⟩ : ∃ D, D = digits 1 h := ⟨_, rfl⟩
          rw [← hD] at HDT DL
          have HDE := hid hD
          clear hD
          go_loopw [12, 13] (fun o n wr => ∃ j : Nat, j ≤ 265 ∧ n = .int .i64 j ∧ Hid (wr.ownsRow w3.heap.size 3 1 o j (i64s (D.take j))) ∧ Hid (Below w3.heap.size w3 wr)) (fun _ n _ => 265 - (intOf n).toNat)
          case atStart => exact ⟨0, Nat.zero_le _, rfl, own_none_int _ _, Below.refl _ _⟩
          case round =>
            obtain ⟨j, hj, rfl, HO, HBW⟩ := hrel
            by_cases hlt : j < 265
            · obtain ⟨d, hd⟩ : ∃ d, d = dig X j 1 8 := ⟨_, rfl⟩
              have CD := hid (kdigit_1 A7 c7 X j wr (F7.out.belowN HBW.out) HXB.out (by rw [HXL.out]; omega) (by omega))
              rw [← hd] at CD
              have HJ : Hid (D.take (j + 1) = D.take j ++ [d]) := by show _ = _; rw [hd]; exact HDT.out j hlt
              have HLJ : Hid (j = (D.take j).length) := by show _ = _; rw [List.length_take, DL.out]; omega
              have HOA := hid (HO.out.alloc (.cells #[.int .i64 d] 3))
              have HBA : Hid (Below w3.heap.size w3 (wr.alloc (.cells #[.int .i64 d] 3))) := HBW.out.alloc HBW.out.size _
              have HC : Hid ((wr.alloc (.cells #[.int .i64 d] 3)).cell? ⟨wr.heap.size, 0, none⟩ = some (.int .i64 d)) := by show _ = _; rw [(Blk.new wr 3 #[.int .i64 d]).cell]; rfl
              have hji : (j : Int) < 265 := by omega
              clear hd HO
              go_wp2_with (first
                | (go_at_call 83; refine (CC.out _).mono ?_; rintro e w1 ⟨rfl, rfl⟩)
                | (go_at_call 102; refine CD.out.mono ?_; rintro e w1 ⟨rfl, rfl⟩)
                | (at_builtin; refine append_int rfl (.tmp 58) (.tmp 63) rfl w3.heap.size w3.heap.size _ (D.take j) j HLJ.out rfl HOA.out ⟨wr.heap.size, 0, none⟩ d rfl HC.out (by omega) HBA.out.size (Nat.le_refl _) ?_; intro v9 w9 O9 B9))
              exact ⟨⟨j + 1, by omega, by go_num, by (show World.ownsRow _ _ _ _ _ _ _); rw [HJ.out]; exact O9.out, HBA.out.trans B9.out⟩, by simp [intOf]; omega⟩
            · obtain rfl : j = 265 := by omega
              obtain ⟨A9, c9, rfl, _, hr9⟩ := ints_of_own HO.out
              have H9 := hid hr9
              have HTK : Hid (D.take 265 = D) := by show _ = _; rw [← DL.out]; exact List.take_length
              rw [HTK.out] at H9
              clear hr9 HO
              go_wp2_with (go_at_call 83; refine (CC.out _).mono ?_; rintro e w1 ⟨rfl, rfl⟩)
              go_ret
              rw [← HDE.out]
              exact ⟨A9, c9, rfl, H9.out, B4.out.trans (HBW.out.mono B4.out.size)⟩
set_option maxRecDepth 5000 in
set_option maxHeartbeats 4000000 in
theorem kDigits_2 (h : List Int) (w : World) (hh : Ky h) :
    Calls Tryd.prog 84 #[.int .i64 2, .agg (u8s h).toArray] w fun e w' => ∃ A c, e = .returned (.slice A 133 c) ∧ RpI w' A (digits 2 h) ∧ Below w.heap.size w w' := by
  have CB : Hid (∀ w, Calls Tryd.prog 82 #[.int .i64 2] w fun e w' => e = .returned (.int .i64 2) ∧ w = w') := kBits_any 2
  have CM : Hid (∀ w, Calls Tryd.prog 87 #[.int .i64 2] w fun e w' => e = .returned (.int .i64 3) ∧ w = w') := kMost_any 2
  have CC : Hid (∀ w, Calls Tryd.prog 83 #[.int .i64 2] w fun e w' => e = .returned (.int .i64 133) ∧ w = w') := kChains_any 2
  have K0 : Hid (Blk (w.alloc (.cells (u8s h).toArray 26)) w.heap.size 26 (u8s h).toArray) := Blk.new w 26 _
  have B0 : Hid (Below w.heap.size w (w.alloc (.cells (u8s h).toArray 26))) := (Below.refl _ _).alloc (Nat.le_refl _) _
  have HH := hid hh
  have RI := hid (blk_rp K0.out)
  have O0 := hid (own_none (w.alloc (.cells (u8s h).toArray 26)) (w.heap.size + 1))
  have S0 : Hid (w.heap.size + 1 ≤ (w.alloc (.cells (u8s h).toArray 26)).heap.size) := by show _ ≤ _; simp
  have HXX := hid (ksum_bound (k := 2) (by unfold Kd; omega) h)
  go_enter Tryd.func84, Tryd.ntmps84
  go_wp2_with (go_at_call 82; refine (CB.out _).mono ?_; rintro e w1 ⟨rfl, rfl⟩)
  generalize w.alloc (.cells (u8s h).toArray 26) = w0 at K0 B0 RI O0 S0 ⊢
  go_loop [7, 8] (fun s n => ∃ j : Nat, j ≤ 128 ∧ n = .int .i64 j ∧ s = .int .i64 (ksum 2 h j)) (fun _ n => 128 - (intOf n).toNat)
  case atStart => exact ⟨0, Nat.zero_le _, rfl, rfl⟩
  case round =>
    obtain ⟨j, hj, rfl, rfl⟩ := hrel
    have hs := ksum_lo 2 h j
    have hm2 : kmost 2 = 3 := rfl
    rw [hm2] at hs
    clear hm2
    have s0 : 0 ≤ ksum 2 h j := hs.1
    have s1 : ksum 2 h j ≤ 100000 := by omega
    clear hs
    have HS : Hid (ksum 2 h (j + 1) = ksum 2 h j + (3 - digH 2 h j)) := rfl
    have d0 := dig_lo h j 2 4
    have d1 := dig_hi h j 2 4
    have hd : digH 2 h j = dig h j 2 4 := rfl
    by_cases hlt : j < 128
    · have CD := hid (fun w1 hr => kdigit_2 (some ⟨w.heap.size, 0, none⟩) 32 h j w1 hr HH.out.bs (by rw [HH.out.len]; omega) (by omega))
      rw [HH.out.len, ← hd] at CD
      rw [← hd] at d0 d1
      clear hd
      generalize digH 2 h j = d at CD d0 d1 HS
      simp at d1
      have hji : (j : Int) < 128 := by omega
      go_wp2_with (first
        | (go_at_call 87; refine (CM.out _).mono ?_; rintro e w1 ⟨rfl, rfl⟩)
        | (go_at_call 102; refine (CD.out _ (blk_rp K0.out)).mono ?_; rintro e w1 ⟨rfl, rfl⟩))
      go_round
      case rel => exact ⟨j + 1, by omega, by go_num, by rw [HS.out]⟩
      case measure => simp [intOf]; omega
    · obtain rfl : j = 128 := by omega
      clear hd d0 d1 HS
      have HSU : Hid (kcheck 2 h = ksum 2 h 128 * 2 ^ 6) := rfl
      have HX := hid (ksum_lo 2 h 128)
      generalize ksum 2 h 128 = S at s0 s1 HSU HX ⊢
      have IX : ∀ w1 : World, (Instr.index 137 (.agg #[.int .i64 0, .int .i64 7, .int .i64 6, .int .i64 4, .int .i64 0]) (.int .i64 2)).run Tryd.prog w1 = .ok (.int .i64 6) w1 := fun _ => by kernel_rfl
      clear hlt hj
      go_wp2_with fail
      go_loop [7, 10] (fun s n => ∃ j : Nat, j ≤ 6 ∧ n = .int .i64 j ∧ s = .int .i64 (S * 2 ^ j)) (fun _ n => 6 - (intOf n).toNat)
      case atStart => exact ⟨0, Nat.zero_le _, rfl, by simp⟩
      case round =>
        obtain ⟨j, hj, rfl, rfl⟩ := hrel
        have hp := pow_le8 j (by omega)
        have hq : (0 : Int) < 2 ^ j := Int.pow_pos (by decide)
        have HS : Hid (S * 2 ^ (j + 1) = 2 * (S * 2 ^ j)) := by show _ = _; rw [Int.pow_succ, ← Int.mul_assoc, Int.mul_comm]
        have t0 : 0 ≤ S * 2 ^ j := Int.mul_nonneg s0 (by omega)
        have t1 : S * 2 ^ j ≤ 100000 * 256 := Int.mul_le_mul s1 hp (by omega) (by decide)
        clear hp hq
        by_cases hlt : j < 6
        · generalize S * 2 ^ j = y at t0 t1 HS ⊢
          have hji : (j : Int) < 6 := by omega
          go_wp2_with fail
          go_round
          case rel => exact ⟨j + 1, by omega, by go_num, by rw [HS.out]⟩
          case measure => simp [intOf]; omega
        · obtain rfl : j = 6 := by omega
          generalize S * 2 ^ 6 = T at t0 t1 HSU ⊢
          clear HS hlt hj
          have HT := HXX
          rw [HSU.out] at HT
          have tb := HT.out.2
          have s2 : IntKind.u64.wrap T = T := by simp [IntKind.wrap, IntKind.bits, IntKind.signed]; omega
          have NQ : Hid (∀ w, Calls Tryd.prog 89 #[.int .u64 T, .int .i64 2] w fun e w' => ∃ A c, e = .returned (.slice A 2 c) ∧ 2 ≤ c ∧ Fresh w w' A (be T 2) ∧ Below w.heap.size w w') := fun w => Number_any T 2 w ⟨t0, by omega⟩ (by decide)
          have HALL : Hid ([] ++ h ++ be T 2 = kall 2 h) := by show _ = _; rw [List.nil_append, be2 T HT.out.1 HT.out.2, kall, HSU.out]
          have L3 : Hid (([] ++ h).length + (be T 2).length < 1000000000000) := by show _ < _; simp [be_length, HH.out.len]
          clear HT HSU HXX HX
          go_wp2_with (first
            | (at_builtin; refine append_rpm rfl (.tmp 44) (.tmp 45) rfl (w.heap.size + 1) (w.heap.size + 1) _ [] rfl O0.out (some ⟨w.heap.size, 0, none⟩) 32 32 h HH.out.len.symm rfl RI.out (by rw [HH.out.len]; decide) S0.out (Nat.le_refl _) ?_; intro v1 w1 O1 B1; have Z1 := hid (Nat.le_trans S0.out B1.out.size))
            | (go_at_call 89; (with_reducible refine (NQ.out _).mono ?_); rintro e w2 ⟨A2, c2, rfl, hc2, hf2, hb2⟩; have F2 := hid hf2.rp0; have O2 := hid (own_below O1.out hb2); have B2 := hid (B1.out.trans (hb2.mono Z1.out)); have Z2 := hid (Nat.le_trans Z1.out hb2.size); clear hc2 hf2 hb2)
            | (at_builtin; refine append_rpm rfl (.tmp 47) (.tmp 50) rfl (w.heap.size + 1) (w.heap.size + 1) _ ([] ++ h) rfl O2.out A2 2 c2 (be T 2) (by rw [be_length]) rfl F2.out L3.out Z2.out (Nat.le_refl _) ?_; intro v3 w3 O3 B3; have Z3 := hid (Nat.le_trans Z2.out B3.out.size); have B4 := hid (B0.out.trans ((B2.out.trans B3.out).mono (by omega)))))
          rw [HALL.out] at O3
          obtain ⟨A7, c7, rfl, _, hc7, hf7⟩ := fresh_of_own (w := w) O3.out (by omega)
          have F7 := hid hf7.rp0
          have HDT : Hid (∀ n, n < 133 → (digits 2 h).take (n + 1) = (digits 2 h).take n ++ [dig (kall 2 h) n 2 4]) := fun n hn => digits_take 2 h n hn
          have HXB : Hid (Bs (kall 2 h)) := by show Bs _; rw [← HALL.out]; exact bs_append (by rw [List.nil_append]; exact HH.out.bs) (be_bs _ _)
          have HXL : Hid ((kall 2 h).length = 34) := by show _ = _; rw [← HALL.out]; simp [be_length, HH.out.len]
          have DL : Hid ((digits 2 h).length = 133) := digits_length 2 h
          clear hc7 hf7 O3 O2 O1 HALL F2
          generalize kall 2 h = X at F7 HDT HXB HXL ⊢
          obtain ⟨D, hD⟩ : ∃ D, D = digits 2 h := ⟨_, rfl⟩
          rw [← hD] at HDT DL
          have HDE := hid hD
          clear hD
          go_loopw [12, 13] (fun o n wr => ∃ j : Nat, j ≤ 133 ∧ n = .int .i64 j ∧ Hid (wr.ownsRow w3.heap.size 3 1 o j (i64s (D.take j))) ∧ Hid (Below w3.heap.size w3 wr)) (fun _ n _ => 133 - (intOf n).toNat)
          case atStart => exact ⟨0, Nat.zero_le _, rfl, own_none_int _ _, Below.refl _ _⟩
          case round =>
            obtain ⟨j, hj, rfl, HO, HBW⟩ := hrel
            by_cases hlt : j < 133
            · obtain ⟨d, hd⟩ : ∃ d, d = dig X j 2 4 := ⟨_, rfl⟩
              have CD := hid (kdigit_2 A7 c7 X j wr (F7.out.belowN HBW.out) HXB.out (by rw [HXL.out]; omega) (by omega))
              rw [← hd] at CD
              have HJ : Hid (D.take (j + 1) = D.take j ++ [d]) := by show _ = _; rw [hd]; exact HDT.out j hlt
              have HLJ : Hid (j = (D.take j).length) := by show _ = _; rw [List.length_take, DL.out]; omega
              have HOA := hid (HO.out.alloc (.cells #[.int .i64 d] 3))
              have HBA : Hid (Below w3.heap.size w3 (wr.alloc (.cells #[.int .i64 d] 3))) := HBW.out.alloc HBW.out.size _
              have HC : Hid ((wr.alloc (.cells #[.int .i64 d] 3)).cell? ⟨wr.heap.size, 0, none⟩ = some (.int .i64 d)) := by show _ = _; rw [(Blk.new wr 3 #[.int .i64 d]).cell]; rfl
              have hji : (j : Int) < 133 := by omega
              clear hd HO
              go_wp2_with (first
                | (go_at_call 83; refine (CC.out _).mono ?_; rintro e w1 ⟨rfl, rfl⟩)
                | (go_at_call 102; refine CD.out.mono ?_; rintro e w1 ⟨rfl, rfl⟩)
                | (at_builtin; refine append_int rfl (.tmp 58) (.tmp 63) rfl w3.heap.size w3.heap.size _ (D.take j) j HLJ.out rfl HOA.out ⟨wr.heap.size, 0, none⟩ d rfl HC.out (by omega) HBA.out.size (Nat.le_refl _) ?_; intro v9 w9 O9 B9))
              exact ⟨⟨j + 1, by omega, by go_num, by (show World.ownsRow _ _ _ _ _ _ _); rw [HJ.out]; exact O9.out, HBA.out.trans B9.out⟩, by simp [intOf]; omega⟩
            · obtain rfl : j = 133 := by omega
              obtain ⟨A9, c9, rfl, _, hr9⟩ := ints_of_own HO.out
              have H9 := hid hr9
              have HTK : Hid (D.take 133 = D) := by show _ = _; rw [← DL.out]; exact List.take_length
              rw [HTK.out] at H9
              clear hr9 HO
              go_wp2_with (go_at_call 83; refine (CC.out _).mono ?_; rintro e w1 ⟨rfl, rfl⟩)
              go_ret
              rw [← HDE.out]
              exact ⟨A9, c9, rfl, H9.out, B4.out.trans (HBW.out.mono B4.out.size)⟩
set_option maxRecDepth 5000 in
set_option maxHeartbeats 4000000 in
theorem kDigits_3 (h : List Int) (w : World) (hh : Ky h) :
    Calls Tryd.prog 84 #[.int .i64 3, .agg (u8s h).toArray] w fun e w' => ∃ A c, e = .returned (.slice A 67 c) ∧ RpI w' A (digits 3 h) ∧ Below w.heap.size w w' := by
  have CB : Hid (∀ w, Calls Tryd.prog 82 #[.int .i64 3] w fun e w' => e = .returned (.int .i64 4) ∧ w = w') := kBits_any 3
  have CM : Hid (∀ w, Calls Tryd.prog 87 #[.int .i64 3] w fun e w' => e = .returned (.int .i64 15) ∧ w = w') := kMost_any 3
  have CC : Hid (∀ w, Calls Tryd.prog 83 #[.int .i64 3] w fun e w' => e = .returned (.int .i64 67) ∧ w = w') := kChains_any 3
  have K0 : Hid (Blk (w.alloc (.cells (u8s h).toArray 26)) w.heap.size 26 (u8s h).toArray) := Blk.new w 26 _
  have B0 : Hid (Below w.heap.size w (w.alloc (.cells (u8s h).toArray 26))) := (Below.refl _ _).alloc (Nat.le_refl _) _
  have HH := hid hh
  have RI := hid (blk_rp K0.out)
  have O0 := hid (own_none (w.alloc (.cells (u8s h).toArray 26)) (w.heap.size + 1))
  have S0 : Hid (w.heap.size + 1 ≤ (w.alloc (.cells (u8s h).toArray 26)).heap.size) := by show _ ≤ _; simp
  have HXX := hid (ksum_bound (k := 3) (by unfold Kd; omega) h)
  go_enter Tryd.func84, Tryd.ntmps84
  go_wp2_with (go_at_call 82; refine (CB.out _).mono ?_; rintro e w1 ⟨rfl, rfl⟩)
  generalize w.alloc (.cells (u8s h).toArray 26) = w0 at K0 B0 RI O0 S0 ⊢
  go_loop [7, 8] (fun s n => ∃ j : Nat, j ≤ 64 ∧ n = .int .i64 j ∧ s = .int .i64 (ksum 3 h j)) (fun _ n => 64 - (intOf n).toNat)
  case atStart => exact ⟨0, Nat.zero_le _, rfl, rfl⟩
  case round =>
    obtain ⟨j, hj, rfl, rfl⟩ := hrel
    have hs := ksum_lo 3 h j
    have hm3 : kmost 3 = 15 := rfl
    rw [hm3] at hs
    clear hm3
    have s0 : 0 ≤ ksum 3 h j := hs.1
    have s1 : ksum 3 h j ≤ 100000 := by omega
    clear hs
    have HS : Hid (ksum 3 h (j + 1) = ksum 3 h j + (15 - digH 3 h j)) := rfl
    have d0 := dig_lo h j 4 2
    have d1 := dig_hi h j 4 2
    have hd : digH 3 h j = dig h j 4 2 := rfl
    by_cases hlt : j < 64
    · have CD := hid (fun w1 hr => kdigit_4 (some ⟨w.heap.size, 0, none⟩) 32 h j w1 hr HH.out.bs (by rw [HH.out.len]; omega) (by omega))
      rw [HH.out.len, ← hd] at CD
      rw [← hd] at d0 d1
      clear hd
      generalize digH 3 h j = d at CD d0 d1 HS
      simp at d1
      have hji : (j : Int) < 64 := by omega
      go_wp2_with (first
        | (go_at_call 87; refine (CM.out _).mono ?_; rintro e w1 ⟨rfl, rfl⟩)
        | (go_at_call 102; refine (CD.out _ (blk_rp K0.out)).mono ?_; rintro e w1 ⟨rfl, rfl⟩))
      go_round
      case rel => exact ⟨j + 1, by omega, by go_num, by rw [HS.out]⟩
      case measure => simp [intOf]; omega
    · obtain rfl : j = 64 := by omega
      clear hd d0 d1 HS
      have HSU : Hid (kcheck 3 h = ksum 3 h 64 * 2 ^ 4) := rfl
      have HX := hid (ksum_lo 3 h 64)
      generalize ksum 3 h 64 = S at s0 s1 HSU HX ⊢
      have IX : ∀ w1 : World, (Instr.index 137 (.agg #[.int .i64 0, .int .i64 7, .int .i64 6, .int .i64 4, .int .i64 0]) (.int .i64 3)).run Tryd.prog w1 = .ok (.int .i64 4) w1 := fun _ => by kernel_rfl
      clear hlt hj
      go_wp2_with fail
      go_loop [7, 10] (fun s n => ∃ j : Nat, j ≤ 4 ∧ n = .int .i64 j ∧ s = .int .i64 (S * 2 ^ j)) (fun _ n => 4 - (intOf n).toNat)
      case atStart => exact ⟨0, Nat.zero_le _, rfl, by simp⟩
      case round =>
        obtain ⟨j, hj, rfl, rfl⟩ := hrel
        have hp := pow_le8 j (by omega)
        have hq : (0 : Int) < 2 ^ j := Int.pow_pos (by decide)
        have HS : Hid (S * 2 ^ (j + 1) = 2 * (S * 2 ^ j)) := by show _ = _; rw [Int.pow_succ, ← Int.mul_assoc, Int.mul_comm]
        have t0 : 0 ≤ S * 2 ^ j := Int.mul_nonneg s0 (by omega)
        have t1 : S * 2 ^ j ≤ 100000 * 256 := Int.mul_le_mul s1 hp (by omega) (by decide)
        clear hp hq
        by_cases hlt : j < 4
        · generalize S * 2 ^ j = y at t0 t1 HS ⊢
          have hji : (j : Int) < 4 := by omega
          go_wp2_with fail
          go_round
          case rel => exact ⟨j + 1, by omega, by go_num, by rw [HS.out]⟩
          case measure => simp [intOf]; omega
        · obtain rfl : j = 4 := by omega
          generalize S * 2 ^ 4 = T at t0 t1 HSU ⊢
          clear HS hlt hj
          have HT := HXX
          rw [HSU.out] at HT
          have tb := HT.out.2
          have s2 : IntKind.u64.wrap T = T := by simp [IntKind.wrap, IntKind.bits, IntKind.signed]; omega
          have NQ : Hid (∀ w, Calls Tryd.prog 89 #[.int .u64 T, .int .i64 2] w fun e w' => ∃ A c, e = .returned (.slice A 2 c) ∧ 2 ≤ c ∧ Fresh w w' A (be T 2) ∧ Below w.heap.size w w') := fun w => Number_any T 2 w ⟨t0, by omega⟩ (by decide)
          have HALL : Hid ([] ++ h ++ be T 2 = kall 3 h) := by show _ = _; rw [List.nil_append, be2 T HT.out.1 HT.out.2, kall, HSU.out]
          have L3 : Hid (([] ++ h).length + (be T 2).length < 1000000000000) := by show _ < _; simp [be_length, HH.out.len]
          clear HT HSU HXX HX
          go_wp2_with (first
            | (at_builtin; refine append_rpm rfl (.tmp 44) (.tmp 45) rfl (w.heap.size + 1) (w.heap.size + 1) _ [] rfl O0.out (some ⟨w.heap.size, 0, none⟩) 32 32 h HH.out.len.symm rfl RI.out (by rw [HH.out.len]; decide) S0.out (Nat.le_refl _) ?_; intro v1 w1 O1 B1; have Z1 := hid (Nat.le_trans S0.out B1.out.size))
            | (go_at_call 89; (with_reducible refine (NQ.out _).mono ?_); rintro e w2 ⟨A2, c2, rfl, hc2, hf2, hb2⟩; have F2 := hid hf2.rp0; have O2 := hid (own_below O1.out hb2); have B2 := hid (B1.out.trans (hb2.mono Z1.out)); have Z2 := hid (Nat.le_trans Z1.out hb2.size); clear hc2 hf2 hb2)
            | (at_builtin; refine append_rpm rfl (.tmp 47) (.tmp 50) rfl (w.heap.size + 1) (w.heap.size + 1) _ ([] ++ h) rfl O2.out A2 2 c2 (be T 2) (by rw [be_length]) rfl F2.out L3.out Z2.out (Nat.le_refl _) ?_; intro v3 w3 O3 B3; have Z3 := hid (Nat.le_trans Z2.out B3.out.size); have B4 := hid (B0.out.trans ((B2.out.trans B3.out).mono (by omega)))))
          rw [HALL.out] at O3
          obtain ⟨A7, c7, rfl, _, hc7, hf7⟩ := fresh_of_own (w := w) O3.out (by omega)
          have F7 := hid hf7.rp0
          have HDT : Hid (∀ n, n < 67 → (digits 3 h).take (n + 1) = (digits 3 h).take n ++ [dig (kall 3 h) n 4 2]) := fun n hn => digits_take 3 h n hn
          have HXB : Hid (Bs (kall 3 h)) := by show Bs _; rw [← HALL.out]; exact bs_append (by rw [List.nil_append]; exact HH.out.bs) (be_bs _ _)
          have HXL : Hid ((kall 3 h).length = 34) := by show _ = _; rw [← HALL.out]; simp [be_length, HH.out.len]
          have DL : Hid ((digits 3 h).length = 67) := digits_length 3 h
          clear hc7 hf7 O3 O2 O1 HALL F2
          generalize kall 3 h = X at F7 HDT HXB HXL ⊢
          obtain ⟨D, hD⟩ : ∃ D, D = digits 3 h := ⟨_, rfl⟩
          rw [← hD] at HDT DL
          have HDE := hid hD
          clear hD
          go_loopw [12, 13] (fun o n wr => ∃ j : Nat, j ≤ 67 ∧ n = .int .i64 j ∧ Hid (wr.ownsRow w3.heap.size 3 1 o j (i64s (D.take j))) ∧ Hid (Below w3.heap.size w3 wr)) (fun _ n _ => 67 - (intOf n).toNat)
          case atStart => exact ⟨0, Nat.zero_le _, rfl, own_none_int _ _, Below.refl _ _⟩
          case round =>
            obtain ⟨j, hj, rfl, HO, HBW⟩ := hrel
            by_cases hlt : j < 67
            · obtain ⟨d, hd⟩ : ∃ d, d = dig X j 4 2 := ⟨_, rfl⟩
              have CD := hid (kdigit_4 A7 c7 X j wr (F7.out.belowN HBW.out) HXB.out (by rw [HXL.out]; omega) (by omega))
              rw [← hd] at CD
              have HJ : Hid (D.take (j + 1) = D.take j ++ [d]) := by show _ = _; rw [hd]; exact HDT.out j hlt
              have HLJ : Hid (j = (D.take j).length) := by show _ = _; rw [List.length_take, DL.out]; omega
              have HOA := hid (HO.out.alloc (.cells #[.int .i64 d] 3))
              have HBA : Hid (Below w3.heap.size w3 (wr.alloc (.cells #[.int .i64 d] 3))) := HBW.out.alloc HBW.out.size _
              have HC : Hid ((wr.alloc (.cells #[.int .i64 d] 3)).cell? ⟨wr.heap.size, 0, none⟩ = some (.int .i64 d)) := by show _ = _; rw [(Blk.new wr 3 #[.int .i64 d]).cell]; rfl
              have hji : (j : Int) < 67 := by omega
              clear hd HO
              go_wp2_with (first
                | (go_at_call 83; refine (CC.out _).mono ?_; rintro e w1 ⟨rfl, rfl⟩)
                | (go_at_call 102; refine CD.out.mono ?_; rintro e w1 ⟨rfl, rfl⟩)
                | (at_builtin; refine append_int rfl (.tmp 58) (.tmp 63) rfl w3.heap.size w3.heap.size _ (D.take j) j HLJ.out rfl HOA.out ⟨wr.heap.size, 0, none⟩ d rfl HC.out (by omega) HBA.out.size (Nat.le_refl _) ?_; intro v9 w9 O9 B9))
              exact ⟨⟨j + 1, by omega, by go_num, by (show World.ownsRow _ _ _ _ _ _ _); rw [HJ.out]; exact O9.out, HBA.out.trans B9.out⟩, by simp [intOf]; omega⟩
            · obtain rfl : j = 67 := by omega
              obtain ⟨A9, c9, rfl, _, hr9⟩ := ints_of_own HO.out
              have H9 := hid hr9
              have HTK : Hid (D.take 67 = D) := by show _ = _; rw [← DL.out]; exact List.take_length
              rw [HTK.out] at H9
              clear hr9 HO
              go_wp2_with (go_at_call 83; refine (CC.out _).mono ?_; rintro e w1 ⟨rfl, rfl⟩)
              go_ret
              rw [← HDE.out]
              exact ⟨A9, c9, rfl, H9.out, B4.out.trans (HBW.out.mono B4.out.size)⟩
set_option maxRecDepth 5000 in
set_option maxHeartbeats 4000000 in
theorem kDigits_4 (h : List Int) (w : World) (hh : Ky h) :
    Calls Tryd.prog 84 #[.int .i64 4, .agg (u8s h).toArray] w fun e w' => ∃ A c, e = .returned (.slice A 34 c) ∧ RpI w' A (digits 4 h) ∧ Below w.heap.size w w' := by
  have CB : Hid (∀ w, Calls Tryd.prog 82 #[.int .i64 4] w fun e w' => e = .returned (.int .i64 8) ∧ w = w') := kBits_any 4
  have CM : Hid (∀ w, Calls Tryd.prog 87 #[.int .i64 4] w fun e w' => e = .returned (.int .i64 255) ∧ w = w') := kMost_any 4
  have CC : Hid (∀ w, Calls Tryd.prog 83 #[.int .i64 4] w fun e w' => e = .returned (.int .i64 34) ∧ w = w') := kChains_any 4
  have K0 : Hid (Blk (w.alloc (.cells (u8s h).toArray 26)) w.heap.size 26 (u8s h).toArray) := Blk.new w 26 _
  have B0 : Hid (Below w.heap.size w (w.alloc (.cells (u8s h).toArray 26))) := (Below.refl _ _).alloc (Nat.le_refl _) _
  have HH := hid hh
  have RI := hid (blk_rp K0.out)
  have O0 := hid (own_none (w.alloc (.cells (u8s h).toArray 26)) (w.heap.size + 1))
  have S0 : Hid (w.heap.size + 1 ≤ (w.alloc (.cells (u8s h).toArray 26)).heap.size) := by show _ ≤ _; simp
  have HXX := hid (ksum_bound (k := 4) (by unfold Kd; omega) h)
  go_enter Tryd.func84, Tryd.ntmps84
  go_wp2_with (go_at_call 82; refine (CB.out _).mono ?_; rintro e w1 ⟨rfl, rfl⟩)
  generalize w.alloc (.cells (u8s h).toArray 26) = w0 at K0 B0 RI O0 S0 ⊢
  go_loop [7, 8] (fun s n => ∃ j : Nat, j ≤ 32 ∧ n = .int .i64 j ∧ s = .int .i64 (ksum 4 h j)) (fun _ n => 32 - (intOf n).toNat)
  case atStart => exact ⟨0, Nat.zero_le _, rfl, rfl⟩
  case round =>
    obtain ⟨j, hj, rfl, rfl⟩ := hrel
    have hs := ksum_lo 4 h j
    have hm4 : kmost 4 = 255 := rfl
    rw [hm4] at hs
    clear hm4
    have s0 : 0 ≤ ksum 4 h j := hs.1
    have s1 : ksum 4 h j ≤ 100000 := by omega
    clear hs
    have HS : Hid (ksum 4 h (j + 1) = ksum 4 h j + (255 - digH 4 h j)) := rfl
    have d0 := dig_lo h j 8 1
    have d1 := dig_hi h j 8 1
    have hd : digH 4 h j = dig h j 8 1 := rfl
    by_cases hlt : j < 32
    · have CD := hid (fun w1 hr => kdigit_8 (some ⟨w.heap.size, 0, none⟩) 32 h j w1 hr HH.out.bs (by rw [HH.out.len]; omega) (by omega))
      rw [HH.out.len, ← hd] at CD
      rw [← hd] at d0 d1
      clear hd
      generalize digH 4 h j = d at CD d0 d1 HS
      simp at d1
      have hji : (j : Int) < 32 := by omega
      go_wp2_with (first
        | (go_at_call 87; refine (CM.out _).mono ?_; rintro e w1 ⟨rfl, rfl⟩)
        | (go_at_call 102; refine (CD.out _ (blk_rp K0.out)).mono ?_; rintro e w1 ⟨rfl, rfl⟩))
      go_round
      case rel => exact ⟨j + 1, by omega, by go_num, by rw [HS.out]⟩
      case measure => simp [intOf]; omega
    · obtain rfl : j = 32 := by omega
      clear hd d0 d1 HS
      have HSU : Hid (kcheck 4 h = ksum 4 h 32 * 2 ^ 0) := rfl
      have HX := hid (ksum_lo 4 h 32)
      generalize ksum 4 h 32 = S at s0 s1 HSU HX ⊢
      have IX : ∀ w1 : World, (Instr.index 137 (.agg #[.int .i64 0, .int .i64 7, .int .i64 6, .int .i64 4, .int .i64 0]) (.int .i64 4)).run Tryd.prog w1 = .ok (.int .i64 0) w1 := fun _ => by kernel_rfl
      clear hlt hj
      go_wp2_with fail
      go_loop [7, 10] (fun s n => ∃ j : Nat, j ≤ 0 ∧ n = .int .i64 j ∧ s = .int .i64 (S * 2 ^ j)) (fun _ n => 0 - (intOf n).toNat)
      case atStart => exact ⟨0, Nat.zero_le _, rfl, by simp⟩
      case round =>
        obtain ⟨j, hj, rfl, rfl⟩ := hrel
        have hp := pow_le8 j (by omega)
        have hq : (0 : Int) < 2 ^ j := Int.pow_pos (by decide)
        have HS : Hid (S * 2 ^ (j + 1) = 2 * (S * 2 ^ j)) := by show _ = _; rw [Int.pow_succ, ← Int.mul_assoc, Int.mul_comm]
        have t0 : 0 ≤ S * 2 ^ j := Int.mul_nonneg s0 (by omega)
        have t1 : S * 2 ^ j ≤ 100000 * 256 := Int.mul_le_mul s1 hp (by omega) (by decide)
        clear hp hq
        by_cases hlt : j < 0
        · generalize S * 2 ^ j = y at t0 t1 HS ⊢
          have hji : (j : Int) < 0 := by omega
          go_wp2_with fail
          go_round
          case rel => exact ⟨j + 1, by omega, by go_num, by rw [HS.out]⟩
          case measure => simp [intOf]; omega
        · obtain rfl : j = 0 := by omega
          generalize S * 2 ^ 0 = T at t0 t1 HSU ⊢
          clear HS hlt hj
          have HT := HXX
          rw [HSU.out] at HT
          have tb := HT.out.2
          have s2 : IntKind.u64.wrap T = T := by simp [IntKind.wrap, IntKind.bits, IntKind.signed]; omega
          have NQ : Hid (∀ w, Calls Tryd.prog 89 #[.int .u64 T, .int .i64 2] w fun e w' => ∃ A c, e = .returned (.slice A 2 c) ∧ 2 ≤ c ∧ Fresh w w' A (be T 2) ∧ Below w.heap.size w w') := fun w => Number_any T 2 w ⟨t0, by omega⟩ (by decide)
          have HALL : Hid ([] ++ h ++ be T 2 = kall 4 h) := by show _ = _; rw [List.nil_append, be2 T HT.out.1 HT.out.2, kall, HSU.out]
          have L3 : Hid (([] ++ h).length + (be T 2).length < 1000000000000) := by show _ < _; simp [be_length, HH.out.len]
          clear HT HSU HXX HX
          go_wp2_with (first
            | (at_builtin; refine append_rpm rfl (.tmp 44) (.tmp 45) rfl (w.heap.size + 1) (w.heap.size + 1) _ [] rfl O0.out (some ⟨w.heap.size, 0, none⟩) 32 32 h HH.out.len.symm rfl RI.out (by rw [HH.out.len]; decide) S0.out (Nat.le_refl _) ?_; intro v1 w1 O1 B1; have Z1 := hid (Nat.le_trans S0.out B1.out.size))
            | (go_at_call 89; (with_reducible refine (NQ.out _).mono ?_); rintro e w2 ⟨A2, c2, rfl, hc2, hf2, hb2⟩; have F2 := hid hf2.rp0; have O2 := hid (own_below O1.out hb2); have B2 := hid (B1.out.trans (hb2.mono Z1.out)); have Z2 := hid (Nat.le_trans Z1.out hb2.size); clear hc2 hf2 hb2)
            | (at_builtin; refine append_rpm rfl (.tmp 47) (.tmp 50) rfl (w.heap.size + 1) (w.heap.size + 1) _ ([] ++ h) rfl O2.out A2 2 c2 (be T 2) (by rw [be_length]) rfl F2.out L3.out Z2.out (Nat.le_refl _) ?_; intro v3 w3 O3 B3; have Z3 := hid (Nat.le_trans Z2.out B3.out.size); have B4 := hid (B0.out.trans ((B2.out.trans B3.out).mono (by omega)))))
          rw [HALL.out] at O3
          obtain ⟨A7, c7, rfl, _, hc7, hf7⟩ := fresh_of_own (w := w) O3.out (by omega)
          have F7 := hid hf7.rp0
          have HDT : Hid (∀ n, n < 34 → (digits 4 h).take (n + 1) = (digits 4 h).take n ++ [dig (kall 4 h) n 8 1]) := fun n hn => digits_take 4 h n hn
          have HXB : Hid (Bs (kall 4 h)) := by show Bs _; rw [← HALL.out]; exact bs_append (by rw [List.nil_append]; exact HH.out.bs) (be_bs _ _)
          have HXL : Hid ((kall 4 h).length = 34) := by show _ = _; rw [← HALL.out]; simp [be_length, HH.out.len]
          have DL : Hid ((digits 4 h).length = 34) := digits_length 4 h
          clear hc7 hf7 O3 O2 O1 HALL F2
          generalize kall 4 h = X at F7 HDT HXB HXL ⊢
          obtain ⟨D, hD⟩ : ∃ D, D = digits 4 h := ⟨_, rfl⟩
          rw [← hD] at HDT DL
          have HDE := hid hD
          clear hD
          go_loopw [12, 13] (fun o n wr => ∃ j : Nat, j ≤ 34 ∧ n = .int .i64 j ∧ Hid (wr.ownsRow w3.heap.size 3 1 o j (i64s (D.take j))) ∧ Hid (Below w3.heap.size w3 wr)) (fun _ n _ => 34 - (intOf n).toNat)
          case atStart => exact ⟨0, Nat.zero_le _, rfl, own_none_int _ _, Below.refl _ _⟩
          case round =>
            obtain ⟨j, hj, rfl, HO, HBW⟩ := hrel
            by_cases hlt : j < 34
            · obtain ⟨d, hd⟩ : ∃ d, d = dig X j 8 1 := ⟨_, rfl⟩
              have CD := hid (kdigit_8 A7 c7 X j wr (F7.out.belowN HBW.out) HXB.out (by rw [HXL.out]; omega) (by omega))
              rw [← hd] at CD
              have HJ : Hid (D.take (j + 1) = D.take j ++ [d]) := by show _ = _; rw [hd]; exact HDT.out j hlt
              have HLJ : Hid (j = (D.take j).length) := by show _ = _; rw [List.length_take, DL.out]; omega
              have HOA := hid (HO.out.alloc (.cells #[.int .i64 d] 3))
              have HBA : Hid (Below w3.heap.size w3 (wr.alloc (.cells #[.int .i64 d] 3))) := HBW.out.alloc HBW.out.size _
              have HC : Hid ((wr.alloc (.cells #[.int .i64 d] 3)).cell? ⟨wr.heap.size, 0, none⟩ = some (.int .i64 d)) := by show _ = _; rw [(Blk.new wr 3 #[.int .i64 d]).cell]; rfl
              have hji : (j : Int) < 34 := by omega
              clear hd HO
              go_wp2_with (first
                | (go_at_call 83; refine (CC.out _).mono ?_; rintro e w1 ⟨rfl, rfl⟩)
                | (go_at_call 102; refine CD.out.mono ?_; rintro e w1 ⟨rfl, rfl⟩)
                | (at_builtin; refine append_int rfl (.tmp 58) (.tmp 63) rfl w3.heap.size w3.heap.size _ (D.take j) j HLJ.out rfl HOA.out ⟨wr.heap.size, 0, none⟩ d rfl HC.out (by omega) HBA.out.size (Nat.le_refl _) ?_; intro v9 w9 O9 B9))
              exact ⟨⟨j + 1, by omega, by go_num, by (show World.ownsRow _ _ _ _ _ _ _); rw [HJ.out]; exact O9.out, HBA.out.trans B9.out⟩, by simp [intOf]; omega⟩
            · obtain rfl : j = 34 := by omega
              obtain ⟨A9, c9, rfl, _, hr9⟩ := ints_of_own HO.out
              have H9 := hid hr9
              have HTK : Hid (D.take 34 = D) := by show _ = _; rw [← DL.out]; exact List.take_length
              rw [HTK.out] at H9
              clear hr9 HO
              go_wp2_with (go_at_call 83; refine (CC.out _).mono ?_; rintro e w1 ⟨rfl, rfl⟩)
              go_ret
              rw [← HDE.out]
              exact ⟨A9, c9, rfl, H9.out, B4.out.trans (HBW.out.mono B4.out.size)⟩
theorem kDigits_any (k : Int) (h : List Int) (w : World) (hh : Ky h) :
    Calls Tryd.prog 84 #[.int .i64 k, .agg (u8s h).toArray] w fun e w' => ∃ A c, e = .returned (.slice A (kchains k) c) ∧ RpI w' A (digits k h) ∧ Below w.heap.size w w' := by
  rcases kd_cases k with rfl | rfl | rfl | rfl | hk
  · exact kDigits_1 h w hh
  · exact kDigits_2 h w hh
  · exact kDigits_3 h w hh
  · exact kDigits_4 h w hh
  · refine (kDigits_no k h w (kbits_no hk)).mono ?_
    rintro e w' ⟨rfl, hb⟩
    have h0 := kchains_no hk
    exact ⟨none, 0, by rw [h0], fun hx => by rw [digits_length, h0] at hx; omega, hb⟩
end Go.Proofs.YtobceieadjpaaaaDoor
/-
  What is proved here: the document's own public key.
-/
namespace Go.Proofs.YtobceieadjpaaaaDoor
open Go.ChangeShapes Go.WideShapes Go.ChangeAt Go.RowKit
set_option linter.unusedVariables false
set_option maxRecDepth 20000

theorem results_two {P : Program} {fn : Func} {p q : Tmp} {ty : TypeId} (h : fn.results = #[.cell p ty, .tmp q]) (tmps : Array Value) (w : World) (g : Nat) (t : TypeId) (cs : Array Value) (fr : Nat × Nat) (d : TypeDesc)
    (hp : tmps.getD p undef = .pointer (some ⟨g, 0, none⟩)) (hg : w.heap[g]? = some (.cells cs t fr))
    (hu : P.underlying ty = some d) (hd : (match d with | .struct _ | .array _ _ => true | _ => false) = true) (hi : (P.info? ty).map (·.size) = some cs.size) :
    (results fn tmps).run P w = .ok (.tuple #[.agg cs, tmps.getD q undef]) w := by
  have hp' : tmps[p]?.getD undef = .pointer (some ⟨g, 0, none⟩) := by simpa using hp
  simp [results, h, hp', asAddr, run_loadVar_row w g t ty cs fr d hg hu hd hi]
set_option maxRecDepth 5000 in
set_option maxHeartbeats 4000000 in
theorem kPublic_kd (k : Int) (id : List Int) (q : Int) (seed : List Int) (w : World) (hk : Kd k) (hi : Idn id) (hq : 0 ≤ q ∧ q < 4294967296) (hs : Ky seed) :
    Calls Tryd.prog 110 #[.int .i64 k, .agg (u8s id).toArray, .int .u32 q, .agg (u8s seed).toArray] w fun e w' => e = .returned (.tuple #[.agg (u8s (pubK k id q seed)).toArray, .int .i64 0]) ∧ Below w.heap.size w w' := by
  obtain ⟨Z, HZ, hZ0, hZs⟩ := zero_Hash
  have hz32 : Z.size = 32 := by rw [HZ.out, List.size_toArray, u8s_length]; simp
  obtain ⟨hk1, hk2, hk3, hb0⟩ := blks3 w (u8s id).toArray (u8s seed).toArray Z 23 26 26
  have K1 := hid hk1; have K2 := hid hk2; have K3 := hid hk3; have B0 := hid hb0
  have S0 : Hid (w.heap.size + 1 + 1 + 1 ≤ (((w.alloc (.cells (u8s id).toArray 23)).alloc (.cells (u8s seed).toArray 26)).alloc (.cells Z 26)).heap.size) := by show _ ≤ _; simp
  have O0 := hid (own_none (((w.alloc (.cells (u8s id).toArray 23)).alloc (.cells (u8s seed).toArray 26)).alloc (.cells Z 26)) (w.heap.size + 1 + 1 + 1))
  have CB := hid (kBits_any k)
  have CC := hid (kChains_any k)
  have hm0 : kmost k = (((kmost k).toNat : Nat) : Int) := by rcases hk with rfl | rfl | rfl | rfl <;> decide
  have hm1 : (kmost k).toNat < 256 := by rcases hk with rfl | rfl | rfl | rfl <;> decide
  have CM := hid (kMost_any k)
  rw [hm0] at CM
  have hch : kchains k ≤ 265 := kchains_le k
  have hb : ((kbits k : Nat) : Int) ≠ 0 := by rcases hk with rfl | rfl | rfl | rfl <;> decide
  have hbe : (((kbits k : Nat) : Int) == 0) = false := by simpa using hb
  have HP : Hid (pubK k id q seed = under id q 32896 (rowsOf (kchains k) fun i => steps id q i (begn id q i seed) 0 (kmost k).toNat)) := rfl
  generalize pubK k id q seed = PK at HP ⊢
  generalize (kmost k).toNat = mm at CM HP hm1
  generalize kchains k = ch at CC HP hch
  have CG := hid (fun (i : Nat) (w : World) (h : i < ch) => kBegin_any id q i seed w hi hq (by omega) hs)
  have CS : Hid (∀ (i : Nat) (w : World), i < ch → Calls Tryd.prog 86 #[.agg (u8s id).toArray, .int .u32 q, .int .i64 i, .agg (u8s (begn id q i seed)).toArray, .int .i64 0, .int .i64 mm] w fun e w' => e = .returned (.agg (u8s (steps id q i (begn id q i seed) 0 mm)).toArray) ∧ Below w.heap.size w w') :=
    fun i w h => kSteps_any id q i (begn id q i seed) 0 mm w hi hq (by omega) (under_ky _ _ _ _) (by omega) hm1
  have F32 : Hid (∀ i, (steps id q (i : Nat) (begn id q i seed) 0 mm).length = 32) := fun i => (steps_ky (under_ky _ _ _ _) _ _).len
  have FKY : Hid (∀ i, Ky (steps id q (i : Nat) (begn id q i seed) 0 mm)) := fun i => steps_ky (under_ky _ _ _ _) _ _
  have IDI := hid (id_info hi)
  have HSI := hid (hash_info hs.len)
  have HIN := hid hi
  have HQ := hid hq
  clear hb hk1 hk2 hk3 hb0 hm0 hm1 hk hi hq hs
  generalize ((kbits k : Nat) : Int) = bb at CB hbe
  go_enter Tryd.func110, Tryd.ntmps110
  go_wp2_with (go_at_call 82; refine (CB.out _).mono ?_; rintro e w1 ⟨rfl, rfl⟩)
  generalize ((w.alloc (.cells (u8s id).toArray 23)).alloc (.cells (u8s seed).toArray 26)).alloc (.cells Z 26) = w0 at K1 K2 K3 B0 S0 O0 ⊢
  go_loopw [10, 11] (fun a i wr => ∃ j : Nat, j ≤ ch ∧ i = .int .i64 j ∧ Hid (wr.ownsRow (w.heap.size + 1 + 1 + 1) 5 1 a (rowsOf j fun i => steps id q i (begn id q i seed) 0 mm).length (u8s (rowsOf j fun i => steps id q i (begn id q i seed) 0 mm))) ∧ Hid (Below (w.heap.size + 1 + 1 + 1) w0 wr)) (fun _ i _ => ch - (intOf i).toNat)
  case atStart => exact ⟨0, Nat.zero_le _, rfl, O0.out, Below.refl _ _⟩
  case round =>
    obtain ⟨j, hj, rfl, HO, HB⟩ := hrel
    have L1 := hid (K1.out.same (HB.out.block _ (by omega)))
    have L2 := hid (K2.out.same (HB.out.block _ (by omega)))
    by_cases hlt : j < ch
    · have hji : (j : Int) < ch := by omega
      have CG1 := hid (fun w => CG.out j w hlt)
      have CS1 := hid (fun w => CS.out j w hlt)
      have FK := FKY.out j
      have HR1 : Hid (rowsOf (j + 1) (fun i => steps id q i (begn id q i seed) 0 mm) = rowsOf j (fun i => steps id q i (begn id q i seed) 0 mm) ++ steps id q j (begn id q j seed) 0 mm) := rowsOf_succ _ _
      have HL : Hid ((rowsOf j fun i => steps id q i (begn id q i seed) 0 mm).length = 32 * j) := rowsOf_length _ _ F32.out
      generalize steps id q j (begn id q j seed) 0 mm = R at CS1 FK HR1
      generalize begn id q j seed = bg at CG1 CS1
      have HI := hid (info_hash R FK.len)
      have HZ32 : Hid (Z.size = (u8s R).toArray.size) := hz32.trans (hash_size FK.len).symm
      have H32 := hid FK.len
      clear FK
      go_wp2_with (go_at_call 83; refine (CC.out _).mono ?_; rintro e w1 ⟨rfl, rfl⟩)
      refine wp_region_held (S := fun w' => Hid (Below wr.heap.size wr w')) (by kernel_rfl) ?_
      change wpAnyH _ _ _ _ _ _ _ _ wr.drew
      have Gx0 : Hid (Below wr.heap.size wr wr.drew) := (Below.refl _ _).drew
      generalize wr.drew = x0 at Gx0 ⊢
      refine wpAnyH_take (i := 0) (oi := { dst := some 23, op := _, type := _, pos := _, after := _, guard := _ }) (v := .agg ((u8s id).toArray)) rfl (by kernel_rfl) (by kernel_rfl) (by kernel_rfl) (fun _ _ _ h => h) (yieldsIf_load_mid (cs := u8s id) (by rfl) _ _ rfl _ _ rfl _ (fun w' hSw => blk_row (L1.out.below (Hid.out hSw))) Tryd.underlying23 rfl IDI.out) (by assumption) ?_
      try simp only [Act.put, List.setIfInBounds_toArray, List.set_cons_zero, List.set_cons_succ]
      refine wpAnyH_take (i := 1) (oi := { dst := some 24, op := _, type := _, pos := _, after := _, guard := _ }) (v := ?_) rfl (by kernel_rfl) (by kernel_rfl) (by kernel_rfl) (fun _ _ _ h => h) (Or.inl ⟨by kernel_rfl, ?_⟩) (by assumption) ?_
      rotate_left
      · (intro w hSw; go_simp; try with_reducible rfl)
      try simp only [Act.put, List.setIfInBounds_toArray, List.set_cons_zero, List.set_cons_succ]
      refine wpAnyH_take (i := 2) (oi := { dst := some 25, op := _, type := _, pos := _, after := _, guard := _ }) (v := ?_) rfl (by kernel_rfl) (by kernel_rfl) (by kernel_rfl) (fun _ _ _ h => h) (Or.inl ⟨by kernel_rfl, ?_⟩) (by assumption) ?_
      rotate_left
      · (intro w hSw; go_simp; try with_reducible rfl)
      try simp only [Act.put, List.setIfInBounds_toArray, List.set_cons_zero, List.set_cons_succ]
      refine wpAnyH_take (i := 3) (oi := { dst := some 26, op := _, type := _, pos := _, after := _, guard := _ }) (v := .agg ((u8s id).toArray)) rfl (by kernel_rfl) (by kernel_rfl) (by kernel_rfl) (fun _ _ _ h => h) (yieldsIf_load_mid (cs := u8s id) (by rfl) _ _ rfl _ _ rfl _ (fun w' hSw => blk_row (L1.out.below (Hid.out hSw))) Tryd.underlying23 rfl IDI.out) (by assumption) ?_
      try simp only [Act.put, List.setIfInBounds_toArray, List.set_cons_zero, List.set_cons_succ]
      refine wpAnyH_take (i := 4) (oi := { dst := some 27, op := _, type := _, pos := _, after := _, guard := _ }) (v := ?_) rfl (by kernel_rfl) (by kernel_rfl) (by kernel_rfl) (fun _ _ _ h => h) (Or.inl ⟨by kernel_rfl, ?_⟩) (by assumption) ?_
      rotate_left
      · (intro w hSw; go_simp; try with_reducible rfl)
      try simp only [Act.put, List.setIfInBounds_toArray, List.set_cons_zero, List.set_cons_succ]
      refine wpAnyH_take (i := 5) (oi := { dst := some 28, op := _, type := _, pos := _, after := _, guard := _ }) (v := ?_) rfl (by kernel_rfl) (by kernel_rfl) (by kernel_rfl) (fun _ _ _ h => h) (Or.inl ⟨by kernel_rfl, ?_⟩) (by assumption) ?_
      rotate_left
      · (intro w hSw; go_simp; try with_reducible rfl)
      try simp only [Act.put, List.setIfInBounds_toArray, List.set_cons_zero, List.set_cons_succ]
      refine wpAnyH_take (i := 6) (oi := { dst := some 29, op := _, type := _, pos := _, after := _, guard := _ }) (v := .agg ((u8s seed).toArray)) rfl (by kernel_rfl) (by kernel_rfl) (by kernel_rfl) (fun _ _ _ h => h) (yieldsIf_load_mid (cs := u8s seed) (by rfl) _ _ rfl _ _ rfl _ (fun w' hSw => blk_row (L2.out.below (Hid.out hSw))) Tryd.underlying26 rfl HSI.out) (by assumption) ?_
      try simp only [Act.put, List.setIfInBounds_toArray, List.set_cons_zero, List.set_cons_succ]
      refine wpAnyH_take (i := 8) (oi := { dst := some 31, op := _, type := _, pos := _, after := _, guard := _ }) (v := ?_) rfl (by kernel_rfl) (by kernel_rfl) (by kernel_rfl) (fun _ _ _ h => h) (Or.inl ⟨by kernel_rfl, ?_⟩) (by assumption) ?_
      rotate_left
      · (intro w hSw; go_simp; try with_reducible rfl)
      try simp only [Act.put, List.setIfInBounds_toArray, List.set_cons_zero, List.set_cons_succ]
      refine wpAnyH_ready (rs := [7, 11]) (by kernel_rfl) (by simp) ?_
      refine (AllReadyH.cons (o := { dst := some 30, op := _, type := _, pos := _, after := _, guard := _ }) rfl (fun Qc hQc => ?_) (AllReadyH.cons (o := { dst := some 12, op := _, type := _, pos := _, after := _, guard := _ }) rfl (fun Qc hQc => ?_) AllReadyH.nil))
      ·
        go_simp
        go_at_call 111; refine (CG1.out _).mono ?_; rintro e x1 ⟨rfl, hbx1⟩; have Gx1 := hid (Gx0.out.trans (hbx1.mono Gx0.out.size)); clear hbx1
        go_wp2_with fail
        refine hQc.out _ _ Gx1 (fun hHeld => ?_)
        clear hQc Qc Gx0
        try simp only [Act.put, List.setIfInBounds_toArray, List.set_cons_zero, List.set_cons_succ]
        refine wpAnyH_ready (rs := [9, 11]) (by kernel_rfl) (by simp) ?_
        refine (AllReadyH.cons (o := { dst := some 32, op := _, type := _, pos := _, after := _, guard := _ }) rfl (fun Qc hQc => ?_) (AllReadyH.cons (o := { dst := some 12, op := _, type := _, pos := _, after := _, guard := _ }) rfl (fun Qc hQc => ?_) AllReadyH.nil))
        ·
          go_simp
          go_at_call 87; refine (CM.out _).mono ?_; rintro e w1 ⟨rfl, rfl⟩; have Gx2 := Gx1
          go_wp2_with fail
          refine hQc.out _ _ Gx2 (fun hHeld => ?_)
          clear hQc Qc
          generalize x1 = x2 at Gx2 hHeld ⊢
          clear Gx1
          try simp only [Act.put, List.setIfInBounds_toArray, List.set_cons_zero, List.set_cons_succ]
          refine wpAnyH_ready (rs := [10, 11]) (by kernel_rfl) (by simp) ?_
          refine (AllReadyH.cons (o := { dst := some 33, op := _, type := _, pos := _, after := _, guard := _ }) rfl (fun Qc hQc => ?_) (AllReadyH.cons (o := { dst := some 12, op := _, type := _, pos := _, after := _, guard := _ }) rfl (fun Qc hQc => ?_) AllReadyH.nil))
          ·
            go_simp
            go_at_call 86; refine (CS1.out _).mono ?_; rintro e x3 ⟨rfl, hbx3⟩; have Gx3 := hid (Gx2.out.trans (hbx3.mono Gx2.out.size)); clear hbx3
            go_wp2_with fail
            refine hQc.out _ _ Gx3 (fun hHeld => ?_)
            clear hQc Qc Gx2
            try simp only [Act.put, List.setIfInBounds_toArray, List.set_cons_zero, List.set_cons_succ]
            refine wpAnyH_ready (rs := [11]) (by kernel_rfl) (by simp) ?_
            refine (AllReadyH.cons (o := { dst := some 12, op := _, type := _, pos := _, after := _, guard := _ }) rfl (fun Qc hQc => ?_) AllReadyH.nil)
            go_simp
            have Gx4 := hid (Gx3.out.alloc Gx3.out.size (.cells Z 26))
            have Ax4 := hid (Blk.new x3 26 Z)
            have LEx4 := hid Gx3.out.size
            refine hQc.out _ _ Gx4 (fun hHeld => ?_)
            clear hQc Qc
            generalize hgx4 : x3.heap.size = g at Ax4 LEx4 hHeld ⊢
            generalize x3.alloc (.cells Z 26) = x4 at Gx4 Ax4 hHeld ⊢
            clear hgx4 Gx3
            try simp only [Act.put, List.setIfInBounds_toArray, List.set_cons_zero, List.set_cons_succ]
            refine wpAnyH_ready (rs := [12]) (by kernel_rfl) (by simp) ?_
            refine AllReadyH.cons (o := { dst := none, op := _, type := _, pos := _, after := _, guard := _ }) rfl (fun Qc hQc => ?_) AllReadyH.nil
            rw [if_pos (by rfl)]
            refine wp_store_row 26 (.tmp 12) (.tmp 33) rfl g (u8s R).toArray rfl rfl 26 Z Ax4.out HI.out HZ32.out (u8s_all R) ?_
            have GW := hid (below_setRow Gx4.out LEx4.out (u8s R).toArray)
            have KW := hid (Ax4.out.row (u8s R).toArray)
            refine hQc.out _ _ GW (fun hHeld => ?_)
            clear hQc Qc Gx4 Ax4
            generalize x4.setRow g (u8s R).toArray = xw at GW KW hHeld ⊢
            try simp only [Act.put, List.setIfInBounds_toArray, List.set_cons_zero, List.set_cons_succ]
            refine wpAnyH_done (by kernel_rfl) ?_ _
            try simp only [Act.put, List.setIfInBounds_toArray, List.set_cons_zero, List.set_cons_succ]
            have OX := hid (own_below HO.out GW.out)
            have RX := hid (blk_rp KW.out)
            have ZB := hid (Nat.le_trans S0.out HB.out.size)
            have ZX := hid (Nat.le_trans ZB.out GW.out.size)
            have BX := hid (HB.out.trans (GW.out.mono ZB.out))
            clear LEx4 HO
            go_wp2_with (at_builtin; refine append_rpm rfl (.tmp 34) (.tmp 35) rfl (w.heap.size + 1 + 1 + 1) (w.heap.size + 1 + 1 + 1) _ (rowsOf j fun i => steps id q i (begn id q i seed) 0 mm) rfl OX.out (some ⟨g, 0, none⟩) 32 32 R H32.out.symm rfl RX.out (by rw [HL.out, H32.out]; omega) ZX.out (Nat.le_refl _) ?_; intro v9 w9 O9 B9)
            exact ⟨⟨j + 1, by omega, by go_num, by (show World.ownsRow _ _ _ _ _ _ _); rw [HR1.out]; exact O9.out, BX.out.trans B9.out⟩, by simp [intOf]; omega⟩
          ·
            go_simp
            have Gx5 := hid (Gx2.out.alloc Gx2.out.size (.cells Z 26))
            have Ax5 := hid (Blk.new x2 26 Z)
            have LEx5 := hid Gx2.out.size
            refine hQc.out _ _ Gx5 (fun hHeld => ?_)
            clear hQc Qc
            generalize hgx5 : x2.heap.size = g at Ax5 LEx5 hHeld ⊢
            generalize x2.alloc (.cells Z 26) = x5 at Gx5 Ax5 hHeld ⊢
            clear hgx5 Gx2
            try simp only [Act.put, List.setIfInBounds_toArray, List.set_cons_zero, List.set_cons_succ]
            refine wpAnyH_ready (rs := [10]) (by kernel_rfl) (by simp) ?_
            refine (AllReadyH.cons (o := { dst := some 33, op := _, type := _, pos := _, after := _, guard := _ }) rfl (fun Qc hQc => ?_) AllReadyH.nil)
            go_simp
            go_at_call 86; refine (CS1.out _).mono ?_; rintro e x6 ⟨rfl, hbx6⟩; have Gx6 := hid (Gx5.out.trans (hbx6.mono Gx5.out.size)); have Ax6 := hid (Ax5.out.below hbx6); have LEx6 := LEx5; clear hbx6
            go_wp2_with fail
            refine hQc.out _ _ Gx6 (fun hHeld => ?_)
            clear hQc Qc Gx5 Ax5
            try simp only [Act.put, List.setIfInBounds_toArray, List.set_cons_zero, List.set_cons_succ]
            refine wpAnyH_ready (rs := [12]) (by kernel_rfl) (by simp) ?_
            refine AllReadyH.cons (o := { dst := none, op := _, type := _, pos := _, after := _, guard := _ }) rfl (fun Qc hQc => ?_) AllReadyH.nil
            rw [if_pos (by rfl)]
            refine wp_store_row 26 (.tmp 12) (.tmp 33) rfl g (u8s R).toArray rfl rfl 26 Z Ax6.out HI.out HZ32.out (u8s_all R) ?_
            have GW := hid (below_setRow Gx6.out LEx6.out (u8s R).toArray)
            have KW := hid (Ax6.out.row (u8s R).toArray)
            refine hQc.out _ _ GW (fun hHeld => ?_)
            clear hQc Qc Gx6 Ax6
            generalize x6.setRow g (u8s R).toArray = xw at GW KW hHeld ⊢
            try simp only [Act.put, List.setIfInBounds_toArray, List.set_cons_zero, List.set_cons_succ]
            refine wpAnyH_done (by kernel_rfl) ?_ _
            try simp only [Act.put, List.setIfInBounds_toArray, List.set_cons_zero, List.set_cons_succ]
            have OX := hid (own_below HO.out GW.out)
            have RX := hid (blk_rp KW.out)
            have ZB := hid (Nat.le_trans S0.out HB.out.size)
            have ZX := hid (Nat.le_trans ZB.out GW.out.size)
            have BX := hid (HB.out.trans (GW.out.mono ZB.out))
            clear LEx6 HO
            go_wp2_with (at_builtin; refine append_rpm rfl (.tmp 34) (.tmp 35) rfl (w.heap.size + 1 + 1 + 1) (w.heap.size + 1 + 1 + 1) _ (rowsOf j fun i => steps id q i (begn id q i seed) 0 mm) rfl OX.out (some ⟨g, 0, none⟩) 32 32 R H32.out.symm rfl RX.out (by rw [HL.out, H32.out]; omega) ZX.out (Nat.le_refl _) ?_; intro v9 w9 O9 B9)
            exact ⟨⟨j + 1, by omega, by go_num, by (show World.ownsRow _ _ _ _ _ _ _); rw [HR1.out]; exact O9.out, BX.out.trans B9.out⟩, by simp [intOf]; omega⟩
        ·
          go_simp
          have Gx7 := hid (Gx1.out.alloc Gx1.out.size (.cells Z 26))
          have Ax7 := hid (Blk.new x1 26 Z)
          have LEx7 := hid Gx1.out.size
          refine hQc.out _ _ Gx7 (fun hHeld => ?_)
          clear hQc Qc
          generalize hgx7 : x1.heap.size = g at Ax7 LEx7 hHeld ⊢
          generalize x1.alloc (.cells Z 26) = x7 at Gx7 Ax7 hHeld ⊢
          clear hgx7 Gx1
          try simp only [Act.put, List.setIfInBounds_toArray, List.set_cons_zero, List.set_cons_succ]
          refine wpAnyH_ready (rs := [9]) (by kernel_rfl) (by simp) ?_
          refine (AllReadyH.cons (o := { dst := some 32, op := _, type := _, pos := _, after := _, guard := _ }) rfl (fun Qc hQc => ?_) AllReadyH.nil)
          go_simp
          go_at_call 87; refine (CM.out _).mono ?_; rintro e w1 ⟨rfl, rfl⟩; have Gx8 := Gx7; have Ax8 := Ax7; have LEx8 := LEx7
          go_wp2_with fail
          refine hQc.out _ _ Gx8 (fun hHeld => ?_)
          clear hQc Qc
          generalize x7 = x8 at Gx8 Ax8 hHeld ⊢
          clear Gx7 Ax7
          try simp only [Act.put, List.setIfInBounds_toArray, List.set_cons_zero, List.set_cons_succ]
          refine wpAnyH_ready (rs := [10]) (by kernel_rfl) (by simp) ?_
          refine (AllReadyH.cons (o := { dst := some 33, op := _, type := _, pos := _, after := _, guard := _ }) rfl (fun Qc hQc => ?_) AllReadyH.nil)
          go_simp
          go_at_call 86; refine (CS1.out _).mono ?_; rintro e x9 ⟨rfl, hbx9⟩; have Gx9 := hid (Gx8.out.trans (hbx9.mono Gx8.out.size)); have Ax9 := hid (Ax8.out.below hbx9); have LEx9 := LEx8; clear hbx9
          go_wp2_with fail
          refine hQc.out _ _ Gx9 (fun hHeld => ?_)
          clear hQc Qc Gx8 Ax8
          try simp only [Act.put, List.setIfInBounds_toArray, List.set_cons_zero, List.set_cons_succ]
          refine wpAnyH_ready (rs := [12]) (by kernel_rfl) (by simp) ?_
          refine AllReadyH.cons (o := { dst := none, op := _, type := _, pos := _, after := _, guard := _ }) rfl (fun Qc hQc => ?_) AllReadyH.nil
          rw [if_pos (by rfl)]
          refine wp_store_row 26 (.tmp 12) (.tmp 33) rfl g (u8s R).toArray rfl rfl 26 Z Ax9.out HI.out HZ32.out (u8s_all R) ?_
          have GW := hid (below_setRow Gx9.out LEx9.out (u8s R).toArray)
          have KW := hid (Ax9.out.row (u8s R).toArray)
          refine hQc.out _ _ GW (fun hHeld => ?_)
          clear hQc Qc Gx9 Ax9
          generalize x9.setRow g (u8s R).toArray = xw at GW KW hHeld ⊢
          try simp only [Act.put, List.setIfInBounds_toArray, List.set_cons_zero, List.set_cons_succ]
          refine wpAnyH_done (by kernel_rfl) ?_ _
          try simp only [Act.put, List.setIfInBounds_toArray, List.set_cons_zero, List.set_cons_succ]
          have OX := hid (own_below HO.out GW.out)
          have RX := hid (blk_rp KW.out)
          have ZB := hid (Nat.le_trans S0.out HB.out.size)
          have ZX := hid (Nat.le_trans ZB.out GW.out.size)
          have BX := hid (HB.out.trans (GW.out.mono ZB.out))
          clear LEx9 HO
          go_wp2_with (at_builtin; refine append_rpm rfl (.tmp 34) (.tmp 35) rfl (w.heap.size + 1 + 1 + 1) (w.heap.size + 1 + 1 + 1) _ (rowsOf j fun i => steps id q i (begn id q i seed) 0 mm) rfl OX.out (some ⟨g, 0, none⟩) 32 32 R H32.out.symm rfl RX.out (by rw [HL.out, H32.out]; omega) ZX.out (Nat.le_refl _) ?_; intro v9 w9 O9 B9)
          exact ⟨⟨j + 1, by omega, by go_num, by (show World.ownsRow _ _ _ _ _ _ _); rw [HR1.out]; exact O9.out, BX.out.trans B9.out⟩, by simp [intOf]; omega⟩
      ·
        go_simp
        have Gx10 := hid (Gx0.out.alloc Gx0.out.size (.cells Z 26))
        have Ax10 := hid (Blk.new x0 26 Z)
        have LEx10 := hid Gx0.out.size
        refine hQc.out _ _ Gx10 (fun hHeld => ?_)
        clear hQc Qc
        generalize hgx10 : x0.heap.size = g at Ax10 LEx10 hHeld ⊢
        generalize x0.alloc (.cells Z 26) = x10 at Gx10 Ax10 hHeld ⊢
        clear hgx10 Gx0
        try simp only [Act.put, List.setIfInBounds_toArray, List.set_cons_zero, List.set_cons_succ]
        refine wpAnyH_ready (rs := [7]) (by kernel_rfl) (by simp) ?_
        refine (AllReadyH.cons (o := { dst := some 30, op := _, type := _, pos := _, after := _, guard := _ }) rfl (fun Qc hQc => ?_) AllReadyH.nil)
        go_simp
        go_at_call 111; refine (CG1.out _).mono ?_; rintro e x11 ⟨rfl, hbx11⟩; have Gx11 := hid (Gx10.out.trans (hbx11.mono Gx10.out.size)); have Ax11 := hid (Ax10.out.below hbx11); have LEx11 := LEx10; clear hbx11
        go_wp2_with fail
        refine hQc.out _ _ Gx11 (fun hHeld => ?_)
        clear hQc Qc Gx10 Ax10
        try simp only [Act.put, List.setIfInBounds_toArray, List.set_cons_zero, List.set_cons_succ]
        refine wpAnyH_ready (rs := [9]) (by kernel_rfl) (by simp) ?_
        refine (AllReadyH.cons (o := { dst := some 32, op := _, type := _, pos := _, after := _, guard := _ }) rfl (fun Qc hQc => ?_) AllReadyH.nil)
        go_simp
        go_at_call 87; refine (CM.out _).mono ?_; rintro e w1 ⟨rfl, rfl⟩; have Gx12 := Gx11; have Ax12 := Ax11; have LEx12 := LEx11
        go_wp2_with fail
        refine hQc.out _ _ Gx12 (fun hHeld => ?_)
        clear hQc Qc
        generalize x11 = x12 at Gx12 Ax12 hHeld ⊢
        clear Gx11 Ax11
        try simp only [Act.put, List.setIfInBounds_toArray, List.set_cons_zero, List.set_cons_succ]
        refine wpAnyH_ready (rs := [10]) (by kernel_rfl) (by simp) ?_
        refine (AllReadyH.cons (o := { dst := some 33, op := _, type := _, pos := _, after := _, guard := _ }) rfl (fun Qc hQc => ?_) AllReadyH.nil)
        go_simp
        go_at_call 86; refine (CS1.out _).mono ?_; rintro e x13 ⟨rfl, hbx13⟩; have Gx13 := hid (Gx12.out.trans (hbx13.mono Gx12.out.size)); have Ax13 := hid (Ax12.out.below hbx13); have LEx13 := LEx12; clear hbx13
        go_wp2_with fail
        refine hQc.out _ _ Gx13 (fun hHeld => ?_)
        clear hQc Qc Gx12 Ax12
        try simp only [Act.put, List.setIfInBounds_toArray, List.set_cons_zero, List.set_cons_succ]
        refine wpAnyH_ready (rs := [12]) (by kernel_rfl) (by simp) ?_
        refine AllReadyH.cons (o := { dst := none, op := _, type := _, pos := _, after := _, guard := _ }) rfl (fun Qc hQc => ?_) AllReadyH.nil
        rw [if_pos (by rfl)]
        refine wp_store_row 26 (.tmp 12) (.tmp 33) rfl g (u8s R).toArray rfl rfl 26 Z Ax13.out HI.out HZ32.out (u8s_all R) ?_
        have GW := hid (below_setRow Gx13.out LEx13.out (u8s R).toArray)
        have KW := hid (Ax13.out.row (u8s R).toArray)
        refine hQc.out _ _ GW (fun hHeld => ?_)
        clear hQc Qc Gx13 Ax13
        generalize x13.setRow g (u8s R).toArray = xw at GW KW hHeld ⊢
        try simp only [Act.put, List.setIfInBounds_toArray, List.set_cons_zero, List.set_cons_succ]
        refine wpAnyH_done (by kernel_rfl) ?_ _
        try simp only [Act.put, List.setIfInBounds_toArray, List.set_cons_zero, List.set_cons_succ]
        have OX := hid (own_below HO.out GW.out)
        have RX := hid (blk_rp KW.out)
        have ZB := hid (Nat.le_trans S0.out HB.out.size)
        have ZX := hid (Nat.le_trans ZB.out GW.out.size)
        have BX := hid (HB.out.trans (GW.out.mono ZB.out))
        clear LEx13 HO
        go_wp2_with (at_builtin; refine append_rpm rfl (.tmp 34) (.tmp 35) rfl (w.heap.size + 1 + 1 + 1) (w.heap.size + 1 + 1 + 1) _ (rowsOf j fun i => steps id q i (begn id q i seed) 0 mm) rfl OX.out (some ⟨g, 0, none⟩) 32 32 R H32.out.symm rfl RX.out (by rw [HL.out, H32.out]; omega) ZX.out (Nat.le_refl _) ?_; intro v9 w9 O9 B9)
        exact ⟨⟨j + 1, by omega, by go_num, by (show World.ownsRow _ _ _ _ _ _ _); rw [HR1.out]; exact O9.out, BX.out.trans B9.out⟩, by simp [intOf]; omega⟩
    · obtain rfl : j = ch := by omega
      have HRB : Hid (Bs (rowsOf j fun i => steps id q i (begn id q i seed) 0 mm)) := rowsOf_bs _ _ (fun i => (FKY.out i).bs)
      have HL : Hid ((rowsOf j fun i => steps id q i (begn id q i seed) 0 mm).length = 32 * j) := rowsOf_length _ _ F32.out
      have CU := hid (fun (A : Option Addr) (c : Nat) (w : World) (hr : Rp w none A (rowsOf j fun i => steps id q i (begn id q i seed) 0 mm)) => kUnder_any id q 32896 A (rowsOf j fun i => steps id q i (begn id q i seed) 0 mm).length c _ w HIN.out HQ.out (by decide) rfl hr HRB.out (by rw [HL.out]; omega))
      rw [← HP.out] at CU
      have hky : Ky PK := by rw [HP.out]; exact under_ky _ _ _ _
      have HI := hid (info_hash PK hky.len)
      have HZ32 : Hid (Z.size = (u8s PK).toArray.size) := hz32.trans (hash_size hky.len).symm
      have ZB := hid (Nat.le_trans S0.out HB.out.size)
      obtain ⟨A7, c7, rfl, _, hc7, hf7⟩ := fresh_of_own (w := w) HO.out (by omega)
      have F7 := hid hf7.rp0
      clear hc7 hf7 HO hky
      go_wp2_with (first
        | (go_at_call 83; refine (CC.out _).mono ?_; rintro e w1 ⟨rfl, rfl⟩)
        | (refine load_at rfl 23 (.tmp 5) rfl w.heap.size 0 rfl (u8s id) _ (blk_row L1.out) Tryd.underlying23 rfl IDI.out (u8s id).toArray rfl ?_)
        | (go_at_call 88; refine (CU.out A7 c7 _ F7.out).mono ?_; rintro e w8 ⟨rfl, hb8⟩; have B8 := hid (HB.out.trans (hb8.mono ZB.out)); have K8 := hid (K3.out.same (B8.out.block _ (by omega))); clear hb8)
        | (refine wpList_store_row rfl 26 (.tmp 8) (.tmp 40) rfl (w.heap.size + 1 + 1) (u8s PK).toArray rfl rfl 26 Z K8.out HI.out HZ32.out (u8s_all PK) ?_))
      try go_frame
      refine bodyPost_ret (results_two Tryd.results110 _ _ (w.heap.size + 1 + 1) 26 (u8s PK).toArray (0, 0) _ rfl (K8.out.row _) Tryd.underlying26 rfl HI.out) rfl ?_
      exact ⟨rfl, below_setRow (B0.out.trans (B8.out.mono (by omega))) (by omega) _⟩
set_option maxRecDepth 5000 in
set_option maxHeartbeats 4000000 in
theorem kPublic_no (k : Int) (id : List Int) (q : Int) (seed : List Int) (w : World) (hk : kbits k = 0) :
    Calls Tryd.prog 110 #[.int .i64 k, .agg (u8s id).toArray, .int .u32 q, .agg (u8s seed).toArray] w fun e w' => e = .returned (.tuple #[.agg (u8s zeroK).toArray, .int .i64 1]) ∧ Below w.heap.size w w' := by
  obtain ⟨Z, HZ, hZ0, hZs⟩ := zero_Hash
  obtain ⟨hk1, hk2, hk3, hb0⟩ := blks3 w (u8s id).toArray (u8s seed).toArray Z 23 26 26
  have K3 := hid hk3; have B0 := hid hb0
  have CB := hid (kBits_any k)
  rw [hk] at CB
  have HZZ : Hid (Z = (u8s zeroK).toArray) := HZ.out
  have hl : zeroK.length = 32 := by unfold zeroK; simp
  have HI := hid (info_hash zeroK hl)
  clear hk1 hk2 hk3 hb0 hl HZ
  rw [← HZZ.out] at HI ⊢
  have HZA : Hid (Z.all (·.oneCell') = true) := by rw [HZZ.out]; exact hid (u8s_all zeroK)
  clear hk
  go_enter Tryd.func110, Tryd.ntmps110
  go_wp2_with fail
  generalize ((w.alloc (.cells (u8s id).toArray 23)).alloc (.cells (u8s seed).toArray 26)).alloc (.cells Z 26) = w0 at K3 B0 ⊢
  refine (CB.out _).mono ?_; rintro e w1 ⟨rfl, rfl⟩
  go_wp2_with (refine wpList_store_row rfl 26 (.tmp 8) (.tmp 16) rfl (w.heap.size + 1 + 1) Z rfl rfl 26 Z K3.out HI.out rfl HZA.out ?_)
  try go_frame
  refine bodyPost_ret (results_two Tryd.results110 _ _ (w.heap.size + 1 + 1) 26 Z (0, 0) _ rfl (K3.out.row _) Tryd.underlying26 rfl HI.out) rfl ?_
  exact ⟨rfl, below_setRow B0.out (by omega) _⟩
theorem kbits_kd {k : Int} (h : kbits k ≠ 0) : Kd k := by
  rcases kd_cases k with h1 | h1 | h1 | h1 | h1
  · exact .inl h1
  · exact .inr (.inl h1)
  · exact .inr (.inr (.inl h1))
  · exact .inr (.inr (.inr h1))
  · exact absurd (kbits_no h1) h
end Go.Proofs.YtobceieadjpaaaaDoor
/-
  What is proved here: bytes appended to a row that this walk owns leave every row of numbers as it lay.
-/
namespace Go.Proofs.YtobceieadjpaaaaDoor
open Go.ChangeShapes Go.WideShapes Go.ChangeAt Go.RowKit
set_option linter.unusedVariables false
set_option maxRecDepth 20000

theorem append_rpi {w : World} {ops : Array Oper} {rest : List Oper} {o : Oper} {a : Act} {Q : Exit → Act → World → Prop} (hgd : o.guard = none) (s x : Operand)
    (ho : o.op = .call { callee := .builtin .append, args := #[s, x], argTypes := #[29, 29] })
    (base : Nat) (v : Value) (xs : List Int) (hs : a.eval s = v) (hown : w.ownsRow base 5 1 v xs.length (u8s xs))
    (ad : Addr) (m c : Nat) (ys : List Int) (hm : m = ys.length) (hx : a.eval x = .slice (some ad) m c) (hr : Rp w none (some ad) ys) (h63 : xs.length + ys.length < 1000000000000) (hbase : base ≤ w.heap.size)
    (h : ∀ v' w', Hid (w'.ownsRow base 5 1 v' (xs ++ ys).length (u8s (xs ++ ys))) → Hid (Below base w w') → Hid (∀ A ns, RpI w A ns → RpI w' A ns) → wpList Tryd.prog ops Q rest (a.put o.dst v') w') : wpList Tryd.prog ops Q (o :: rest) a w := by
  subst hm
  obtain ⟨i0, hi, hz0, hz1, hz2⟩ := info_parts info_u8
  refine wpList_append_own _ hgd s x 29 ho base 5 i0 (.int .u8 0) 1 1 Tryd.underlying29 hi hz0 hz1 hz2 rfl (by decide) v xs.length (u8s xs) hs hown ad ys.length c (u8s ys) hx (by rw [u8s_length]; omega) (fun j u hu => ?_) (u8s_one _) (by unfold maxLen; omega) (by omega) hbase ?_
  · rcases Nat.lt_or_ge j ys.length with hj | hj
    · obtain ⟨ad', e', hc⟩ := hr.get (by omega)
      injection e' with e'; subst e'
      rw [hc j hj, ← hu, u8s_get _ _ hj]
    · rw [List.getElem?_eq_none (by rw [u8s_length]; exact hj)] at hu; cases hu
  · intro v' w' h1 h2 _
    refine h v' w' (show World.ownsRow _ _ _ _ _ _ _ from ?_) ((Below.refl _ _).grown h2 (by omega) (fun b hb => (hown.lt b hb).1)) (show ∀ A ns, RpI w A ns → RpI w' A ns from fun A ns hA => hA.same fun g cs hh => h2.block g ?_ ?_)
    · rw [List.length_append, show u8s (xs ++ ys) = u8s xs ++ u8s ys by simp [u8s]]
      exact h1
    · rcases Nat.lt_or_ge g w.heap.size with h3 | h3
      · exact h3
      · rw [Array.getElem?_eq_none h3] at hh; cases hh
    · intro e
      rcases hown.2 with ⟨hv, _⟩ | ⟨g', cap, cur, hv, _, hh', _⟩
      · rw [hv] at e; cases e
      · rw [hv] at e
        injection e with e
        subst e
        have e3 : (some (Obj.cells cs 3 (0, 0))) = some (Obj.cells cur 5 (0, 0)) := hh.symm.trans hh'
        injection e3 with e3
        injection e3 with _ e4
        exact absurd e4 (by decide)
end Go.Proofs.YtobceieadjpaaaaDoor
/-
  What is proved here: the document's own signature.
-/
namespace Go.Proofs.YtobceieadjpaaaaDoor
open Go.ChangeShapes Go.WideShapes Go.ChangeAt Go.RowKit
set_option linter.unusedVariables false
set_option maxRecDepth 20000

theorem dgt_int (k : Int) (h : List Int) (i : Nat) : (digits k h)[i]?.getD 0 = ((dgt k h i : Nat) : Int) := by
  unfold dgt
  rw [Int.toNat_of_nonneg]
  unfold digits
  rw [List.getElem?_map]
  by_cases hi : i < kchains k
  · rw [List.getElem?_range hi]
    exact dig_lo _ _ _ _
  · rw [List.getElem?_eq_none (by simp; omega)]
    simp
theorem kmost_lt {k : Int} (hk : Kd k) : (kmost k).toNat < 256 := by rcases hk with rfl | rfl | rfl | rfl <;> decide
set_option maxRecDepth 5000 in
set_option maxHeartbeats 8000000 in
theorem kSign_kd (k : Int) (id : List Int) (q : Int) (seed : List Int) (A : Option Addr) (m c : Nat) (msg : List Int) (w : World) (hk : Kd k) (hi : Idn id) (hq : 0 ≤ q ∧ q < 4294967296) (hs : Ky seed) (hm : m = msg.length) (hr : Rp w none A msg) (hbs : Bs msg) (hl : msg.length < 100000) :
    Calls Tryd.prog 96 #[.int .i64 k, .agg (u8s id).toArray, .int .u32 q, .agg (u8s seed).toArray, .slice A m c] w fun e w' => ∃ A' c', e = .returned (.tuple #[.slice A' (signK k id q seed msg).length c', .int .i64 0]) ∧ Fresh w w' A' (signK k id q seed msg) ∧ Below w.heap.size w w' := by
  obtain ⟨Z, HZ, hZ0, hZs⟩ := zero_Hash
  have hz32 : Z.size = 32 := by rw [HZ.out, List.size_toArray, u8s_length]; simp
  obtain ⟨hk1, hk2, hb0⟩ := blks2 w (u8s id).toArray (u8s seed).toArray 23 26
  have K1 := hid hk1; have K2 := hid hk2; have B0 := hid hb0
  have hkr : 0 ≤ k ∧ k < 5 := by rcases hk with rfl | rfl | rfl | rfl <;> decide
  have hwk : IntKind.u64.wrap k = k := by simp [IntKind.wrap, IntKind.bits, IntKind.signed]; omega
  have CB := hid (kBits_any k)
  have CN : Hid (∀ w, Calls Tryd.prog 89 #[.int .u64 k, .int .i64 4] w fun e w' => ∃ v, e = .returned v ∧ w'.ownsRow w.heap.size 5 1 v 4 (u8s (be k 4)) ∧ Below w.heap.size w w') := fun w => Number_own k 4 w ⟨by omega, by omega⟩ (by decide)
  have hch : kchains k ≤ 265 := kchains_le k
  have hb : ((kbits k : Nat) : Int) ≠ 0 := by rcases hk with rfl | rfl | rfl | rfl <;> decide
  have hbe : (((kbits k : Nat) : Int) == 0) = false := by simpa using hb
  have HP : Hid (signK k id q seed msg = be k 4 ++ (saltOf id q seed ++ rowsOf (kchains k) fun i => steps id q i (begn id q i seed) 0 (dgt k (hashed id q (saltOf id q seed) msg) i))) := rfl
  have CG := hid (fun (i : Nat) (w : World) (h : i < 65536) => kBegin_any id q i seed w hi hq (by omega) hs)
  have CG0 : Hid (∀ w, Calls Tryd.prog 111 #[.agg (u8s id).toArray, .int .u32 q, .int .i64 65533, .agg (u8s seed).toArray] w fun e w' => e = .returned (.agg (u8s (saltOf id q seed)).toArray) ∧ Below w.heap.size w w') := fun w => kBegin_any id q 65533 seed w hi hq (by decide) hs
  have hsk : Ky (saltOf id q seed) := under_ky _ _ _ _
  have CH := hid (fun (g : Nat) (w1 : World) (h1 : Rp w1 none (some ⟨g, 0, none⟩) (saltOf id q seed)) (h2 : Rp w1 none A msg) => kHashed_any id q (some ⟨g, 0, none⟩) 32 32 (saltOf id q seed) A m c msg w1 hi hq hsk.len.symm h1 hsk.bs (by rw [hsk.len]; decide) hm h2 hbs hl)
  have HMS := hid (fun (w1 : World) (hb : Below w.heap.size w w1) => hr.belowN hb)
  have hhk : Ky (hashed id q (saltOf id q seed) msg) := under_ky _ _ _ _
  have CD := hid (fun w => kDigits_any k (hashed id q (saltOf id q seed) msg) w hhk)
  have DL : Hid ((digits k (hashed id q (saltOf id q seed) msg)).length = kchains k) := digits_length _ _
  have DG : Hid (∀ i, (digits k (hashed id q (saltOf id q seed) msg))[i]?.getD 0 = ((dgt k (hashed id q (saltOf id q seed) msg) i : Nat) : Int)) := fun i => dgt_int _ _ i
  have DLT : Hid (∀ i, dgt k (hashed id q (saltOf id q seed) msg) i < 256) := fun i => Nat.lt_of_le_of_lt (dgt_le hk _ i) (kmost_lt hk)
  generalize signK k id q seed msg = SG at HP ⊢
  generalize dgt k (hashed id q (saltOf id q seed) msg) = dg at HP DG DLT
  generalize digits k (hashed id q (saltOf id q seed) msg) = D at CD DL DG
  generalize hashed id q (saltOf id q seed) msg = hh at CH CD
  generalize saltOf id q seed = SL at HP CG0 hsk CH
  generalize kchains k = ch at HP hch CD DL
  have CS : Hid (∀ (i : Nat) (w : World), i < 65536 → Calls Tryd.prog 86 #[.agg (u8s id).toArray, .int .u32 q, .int .i64 i, .agg (u8s (begn id q i seed)).toArray, .int .i64 0, .int .i64 (dg i : Nat)] w fun e w' => e = .returned (.agg (u8s (steps id q i (begn id q i seed) 0 (dg i))).toArray) ∧ Below w.heap.size w w') :=
    fun i w h => kSteps_any id q i (begn id q i seed) 0 (dg i) w hi hq (by omega) (under_ky _ _ _ _) (by omega) (DLT.out i)
  have F32 : Hid (∀ i, (steps id q (i : Nat) (begn id q i seed) 0 (dg i)).length = 32) := fun i => (steps_ky (under_ky _ _ _ _) _ _).len
  have FKY : Hid (∀ i, Ky (steps id q (i : Nat) (begn id q i seed) 0 (dg i))) := fun i => steps_ky (under_ky _ _ _ _) _ _
  have IDI := hid (id_info hi)
  have HSI := hid (hash_info hs.len)
  have HIS := hid (info_hash SL hsk.len)
  have HZS : Hid (Z.size = (u8s SL).toArray.size) := hz32.trans (hash_size hsk.len).symm
  have HSL := hid hsk.len
  have LB4 : Hid ((be k 4).length = 4) := be_length k 4
  clear hb hk1 hk2 hb0 hkr hk hi hq hs hm hr hbs hl hsk hhk
  generalize ((kbits k : Nat) : Int) = bb at CB hbe
  go_enter Tryd.func96, Tryd.ntmps96
  go_wp2_with fail
  generalize (w.alloc (.cells (u8s id).toArray 23)).alloc (.cells (u8s seed).toArray 26) = w0 at K1 K2 B0 ⊢
  refine (CB.out _).mono ?_; rintro e w1 ⟨rfl, rfl⟩
  go_wp2_with (first
    | (refine load_at rfl 23 (.tmp 6) rfl w.heap.size 0 rfl (u8s id) _ (blk_row K1.out) Tryd.underlying23 rfl IDI.out (u8s id).toArray rfl ?_)
    | (refine load_at rfl 26 (.tmp 8) rfl (w.heap.size + 1) 0 rfl (u8s seed) _ (blk_row K2.out) Tryd.underlying26 rfl HSI.out (u8s seed).toArray rfl ?_)
    | (go_at_call 111; refine (CG0.out _).mono ?_; rintro e w1 ⟨rfl, hb1⟩; have G1 := hid hb1; clear hb1)
    | (refine wpList_store_row rfl 26 (.tmp 12) (.tmp 23) rfl w1.heap.size (u8s SL).toArray rfl rfl 26 Z (Blk.new w1 26 Z) HIS.out HZS.out (u8s_all SL) ?_; have KS := hid ((Blk.new w1 26 Z).row (u8s SL).toArray); have G2 := hid (below_setRow (G1.out.alloc G1.out.size (.cells Z 26)) G1.out.size (u8s SL).toArray); have LS := hid (Blk.lt KS.out); generalize (w1.alloc (.cells Z 26)).setRow w1.heap.size (u8s SL).toArray = w2 at KS G2 LS ⊢; generalize w1.heap.size = gs at KS LS ⊢)
    | (go_at_call 89; (with_reducible refine (CN.out _).mono ?_); rintro e w3 ⟨v3, rfl, ho3, hb3⟩; have O3 : Hid (w3.ownsRow w2.heap.size 5 1 v3 (be k 4).length (u8s (be k 4))) := (by show World.ownsRow _ _ _ _ _ _ _; rw [LB4.out]; exact ho3); have G3 := hid hb3; have R3 := hid (blk_rp (KS.out.below hb3)); clear ho3 hb3)
    | (at_builtin; refine append_rpm rfl (.tmp 27) (.tmp 28) rfl w2.heap.size w2.heap.size _ (be k 4) rfl O3.out (some ⟨gs, 0, none⟩) 32 32 SL HSL.out.symm rfl R3.out (by rw [LB4.out, HSL.out]; decide) G3.out.size (Nat.le_refl _) ?_; intro v4 w4 O4 B4; have G4 := hid (G3.out.trans B4.out)))
  have W2 := hid (B0.out.trans (G2.out.mono B0.out.size))
  have W4 := hid (W2.out.trans (G4.out.mono W2.out.size))
  have G24 := hid (G2.out.trans (G4.out.mono G2.out.size))
  have L1 := hid (K1.out.below G24.out)
  have KS4 := hid (KS.out.below G4.out)
  refine wp_region_held (S := fun w' => Hid (Below w4.heap.size w4 w')) (by kernel_rfl) ?_
  change wpAnyH _ _ _ _ _ _ _ _ w4.drew
  have Gx0 : Hid (Below w4.heap.size w4 w4.drew) := (Below.refl _ _).drew
  generalize w4.drew = x0 at Gx0 ⊢
  refine wpAnyH_take (i := 0) (oi := { dst := some 30, op := _, type := _, pos := _, after := _, guard := _ }) (v := ?_) rfl (by kernel_rfl) (by kernel_rfl) (by kernel_rfl) (fun _ _ _ h => h) (Or.inl ⟨by kernel_rfl, ?_⟩) (by assumption) ?_
  rotate_left
  · (intro w hSw; go_simp; try with_reducible rfl)
  try simp only [Act.put, List.setIfInBounds_toArray, List.set_cons_zero, List.set_cons_succ]
  refine wpAnyH_take (i := 1) (oi := { dst := some 31, op := _, type := _, pos := _, after := _, guard := _ }) (v := .agg ((u8s id).toArray)) rfl (by kernel_rfl) (by kernel_rfl) (by kernel_rfl) (fun _ _ _ h => h) (yieldsIf_load_mid (cs := u8s id) (by rfl) _ _ rfl _ _ rfl _ (fun w' hSw => blk_row (L1.out.below (Hid.out hSw))) Tryd.underlying23 rfl IDI.out) (by assumption) ?_
  try simp only [Act.put, List.setIfInBounds_toArray, List.set_cons_zero, List.set_cons_succ]
  refine wpAnyH_take (i := 2) (oi := { dst := some 32, op := _, type := _, pos := _, after := _, guard := _ }) (v := ?_) rfl (by kernel_rfl) (by kernel_rfl) (by kernel_rfl) (fun _ _ _ h => h) (Or.inl ⟨by kernel_rfl, ?_⟩) (by assumption) ?_
  rotate_left
  · (intro w hSw; go_simp; try with_reducible rfl)
  try simp only [Act.put, List.setIfInBounds_toArray, List.set_cons_zero, List.set_cons_succ]
  refine wpAnyH_take (i := 3) (oi := { dst := some 33, op := _, type := _, pos := _, after := _, guard := _ }) (v := ?_) rfl (by kernel_rfl) (by kernel_rfl) (by kernel_rfl) (fun _ _ _ h => h) (Or.inl ⟨by kernel_rfl, ?_⟩) (by assumption) ?_
  rotate_left
  · (intro w hSw; go_simp; try with_reducible rfl)
  try simp only [Act.put, List.setIfInBounds_toArray, List.set_cons_zero, List.set_cons_succ]
  refine wpAnyH_take (i := 4) (oi := { dst := some 34, op := _, type := _, pos := _, after := _, guard := _ }) (v := ?_) rfl (by kernel_rfl) (by kernel_rfl) (by kernel_rfl) (fun _ _ _ h => h) (Or.inl ⟨by kernel_rfl, ?_⟩) (by assumption) ?_
  rotate_left
  · (intro w hSw; go_simp; try with_reducible rfl)
  try simp only [Act.put, List.setIfInBounds_toArray, List.set_cons_zero, List.set_cons_succ]
  refine wpAnyH_ready (rs := [5]) (by kernel_rfl) (by simp) ?_
  refine (AllReadyH.cons (o := { dst := some 35, op := _, type := _, pos := _, after := _, guard := _ }) rfl (fun Qc hQc => ?_) AllReadyH.nil)
  go_simp
  go_at_call 85; refine (CH.out gs _ (blk_rp (KS4.out.below Gx0.out)) (HMS.out _ (W4.out.trans (Gx0.out.mono W4.out.size)))).mono ?_; rintro e x1 ⟨rfl, hb1⟩; have Gx1 := hid (Gx0.out.trans (hb1.mono Gx0.out.size)); clear hb1
  go_wp2_with fail
  refine hQc.out _ _ Gx1 (fun hHeld => ?_)
  clear hQc Qc Gx0
  try simp only [Act.put, List.setIfInBounds_toArray, List.set_cons_zero, List.set_cons_succ]
  refine wpAnyH_ready (rs := [6]) (by kernel_rfl) (by simp) ?_
  refine (AllReadyH.cons (o := { dst := some 36, op := _, type := _, pos := _, after := _, guard := _ }) rfl (fun Qc hQc => ?_) AllReadyH.nil)
  go_simp
  go_at_call 84; refine (CD.out _).mono ?_; rintro e x2 ⟨A9, c9, rfl, hri, hb2⟩; have Gx2 := hid (Gx1.out.trans (hb2.mono Gx1.out.size)); have HD0 := hid hri; clear hb2 hri
  go_wp2_with fail
  refine hQc.out _ _ Gx2 (fun hHeld => ?_)
  clear hQc Qc Gx1
  try simp only [Act.put, List.setIfInBounds_toArray, List.set_cons_zero, List.set_cons_succ]
  refine wpAnyH_take (i := 7) (oi := { dst := some 14, op := _, type := _, pos := _, after := _, guard := _ }) (v := ?_) rfl (by kernel_rfl) (by kernel_rfl) (by kernel_rfl) (fun _ _ _ h => h) (Or.inl ⟨by kernel_rfl, ?_⟩) (by assumption) ?_
  rotate_left
  · (intro w hSw; go_simp; try with_reducible rfl)
  try simp only [Act.put, List.setIfInBounds_toArray, List.set_cons_zero, List.set_cons_succ]
  refine wpAnyH_done (by kernel_rfl) ?_ _
  try simp only [Act.put, List.setIfInBounds_toArray, List.set_cons_zero, List.set_cons_succ]
  go_wp2_with fail
  have O5 := hid (own_below O4.out Gx2.out)
  have G25 := hid (G4.out.trans (Gx2.out.mono G4.out.size))
  have W5 := hid (W2.out.trans (G25.out.mono W2.out.size))
  have N1 := hid (K1.out.below (G2.out.trans (G25.out.mono G2.out.size)))
  have N2 := hid (K2.out.below (G2.out.trans (G25.out.mono G2.out.size)))
  have KB := hid (Nat.lt_of_lt_of_le K1.out.lt G2.out.size)
  have KB2 := hid (Nat.lt_of_lt_of_le K2.out.lt G2.out.size)
  have S2 := hid G25.out.size
  clear G24 L1 KS4 KS G2 G3 G4 B4 O3 O4 R3 Gx2 K1 K2 B0 G1 LS CH CD CG0 CN CB HMS
  have HAS : Hid (be k 4 ++ SL = (be k 4 ++ SL) ++ rowsOf 0 fun i => steps id q i (begn id q i seed) 0 (dg i)) := (List.append_nil _).symm
  have LH : Hid ((be k 4 ++ SL).length = 36) := by show _ = _; rw [List.length_append, LB4.out, HSL.out]
  rw [HAS.out] at O5
  go_loopw [13, 15] (fun a i wr => ∃ j : Nat, j ≤ ch ∧ i = .int .i64 j ∧ Hid (wr.ownsRow w2.heap.size 5 1 a ((be k 4 ++ SL) ++ rowsOf j fun i => steps id q i (begn id q i seed) 0 (dg i)).length (u8s ((be k 4 ++ SL) ++ rowsOf j fun i => steps id q i (begn id q i seed) 0 (dg i)))) ∧ Hid (RpI wr A9 D) ∧ Hid (Below w2.heap.size x2 wr)) (fun _ i _ => ch - (intOf i).toNat)
  case atStart => exact ⟨0, Nat.zero_le _, rfl, O5.out, HD0.out, Below.refl _ _⟩
  case round =>
    obtain ⟨j, hj, rfl, HO, HD, HB⟩ := hrel
    clear O5 HD0
    by_cases hlt : j < ch
    · have L1 := hid (N1.out.same (HB.out.block _ KB.out))
      have L2 := hid (N2.out.same (HB.out.block _ KB2.out))
      have hji : (j : Int) < ch := by omega
      have CG1 := hid (fun w => CG.out j w (by omega))
      have CS1 := hid (fun w => CS.out j w (by omega))
      have FK := FKY.out j
      have HL : Hid (((be k 4 ++ SL) ++ rowsOf j fun i => steps id q i (begn id q i seed) 0 (dg i)).length = 36 + 32 * j) := by show _ = _; rw [List.length_append, LH.out, rowsOf_length _ _ F32.out]
      have HR1 : Hid (((be k 4 ++ SL) ++ rowsOf (j + 1) fun i => steps id q i (begn id q i seed) 0 (dg i)) = ((be k 4 ++ SL) ++ rowsOf j fun i => steps id q i (begn id q i seed) 0 (dg i)) ++ steps id q j (begn id q j seed) 0 (dg j)) := by show _ = _; rw [rowsOf_succ, ← List.append_assoc]
      obtain ⟨ad, rfl, hcl⟩ := HD.out.get (by rw [DL.out]; omega)
      have HCELL : Hid (∀ w', Below wr.heap.size wr w' → w'.cell? (ad.add j) = some (.int .i64 (dg j : Nat))) := fun w' hb => by
        have h1 := hcl j (by rw [DL.out]; omega)
        rw [DG.out] at h1
        exact (World.cell?_of_block (hb.block _ (block_lt_of_cell h1))).trans h1
      generalize steps id q j (begn id q j seed) 0 (dg j) = R at CS1 FK HR1
      generalize begn id q j seed = bg at CG1 CS1
      generalize dg j = dj at CS1 HCELL
      have HI := hid (info_hash R FK.len)
      have HZ32 : Hid (Z.size = (u8s R).toArray.size) := hz32.trans (hash_size FK.len).symm
      have H32 := hid FK.len
      clear FK hcl
      go_wp2_with fail
      refine wp_region_held (S := fun w' => Hid (Below wr.heap.size wr w')) (by kernel_rfl) ?_
      change wpAnyH _ _ _ _ _ _ _ _ wr.drew
      have Gx0 : Hid (Below wr.heap.size wr wr.drew) := (Below.refl _ _).drew
      generalize wr.drew = x0 at Gx0 ⊢
      refine wpAnyH_take (i := 0) (oi := { dst := some 43, op := _, type := _, pos := _, after := _, guard := _ }) (v := .agg ((u8s id).toArray)) rfl (by kernel_rfl) (by kernel_rfl) (by kernel_rfl) (fun _ _ _ h => h) (yieldsIf_load_mid (cs := u8s id) (by rfl) _ _ rfl _ _ rfl _ (fun w' hSw => blk_row (L1.out.below (Hid.out hSw))) Tryd.underlying23 rfl IDI.out) (by assumption) ?_
      try simp only [Act.put, List.setIfInBounds_toArray, List.set_cons_zero, List.set_cons_succ]
      refine wpAnyH_take (i := 1) (oi := { dst := some 44, op := _, type := _, pos := _, after := _, guard := _ }) (v := ?_) rfl (by kernel_rfl) (by kernel_rfl) (by kernel_rfl) (fun _ _ _ h => h) (Or.inl ⟨by kernel_rfl, ?_⟩) (by assumption) ?_
      rotate_left
      · (intro w hSw; go_simp; try with_reducible rfl)
      try simp only [Act.put, List.setIfInBounds_toArray, List.set_cons_zero, List.set_cons_succ]
      refine wpAnyH_take (i := 2) (oi := { dst := some 45, op := _, type := _, pos := _, after := _, guard := _ }) (v := ?_) rfl (by kernel_rfl) (by kernel_rfl) (by kernel_rfl) (fun _ _ _ h => h) (Or.inl ⟨by kernel_rfl, ?_⟩) (by assumption) ?_
      rotate_left
      · (intro w hSw; go_simp; try with_reducible rfl)
      try simp only [Act.put, List.setIfInBounds_toArray, List.set_cons_zero, List.set_cons_succ]
      refine wpAnyH_take (i := 3) (oi := { dst := some 46, op := _, type := _, pos := _, after := _, guard := _ }) (v := .agg ((u8s id).toArray)) rfl (by kernel_rfl) (by kernel_rfl) (by kernel_rfl) (fun _ _ _ h => h) (yieldsIf_load_mid (cs := u8s id) (by rfl) _ _ rfl _ _ rfl _ (fun w' hSw => blk_row (L1.out.below (Hid.out hSw))) Tryd.underlying23 rfl IDI.out) (by assumption) ?_
      try simp only [Act.put, List.setIfInBounds_toArray, List.set_cons_zero, List.set_cons_succ]
      refine wpAnyH_take (i := 4) (oi := { dst := some 47, op := _, type := _, pos := _, after := _, guard := _ }) (v := ?_) rfl (by kernel_rfl) (by kernel_rfl) (by kernel_rfl) (fun _ _ _ h => h) (Or.inl ⟨by kernel_rfl, ?_⟩) (by assumption) ?_
      rotate_left
      · (intro w hSw; go_simp; try with_reducible rfl)
      try simp only [Act.put, List.setIfInBounds_toArray, List.set_cons_zero, List.set_cons_succ]
      refine wpAnyH_take (i := 5) (oi := { dst := some 48, op := _, type := _, pos := _, after := _, guard := _ }) (v := ?_) rfl (by kernel_rfl) (by kernel_rfl) (by kernel_rfl) (fun _ _ _ h => h) (Or.inl ⟨by kernel_rfl, ?_⟩) (by assumption) ?_
      rotate_left
      · (intro w hSw; go_simp; try with_reducible rfl)
      try simp only [Act.put, List.setIfInBounds_toArray, List.set_cons_zero, List.set_cons_succ]
      refine wpAnyH_take (i := 6) (oi := { dst := some 49, op := _, type := _, pos := _, after := _, guard := _ }) (v := .agg ((u8s seed).toArray)) rfl (by kernel_rfl) (by kernel_rfl) (by kernel_rfl) (fun _ _ _ h => h) (yieldsIf_load_mid (cs := u8s seed) (by rfl) _ _ rfl _ _ rfl _ (fun w' hSw => blk_row (L2.out.below (Hid.out hSw))) Tryd.underlying26 rfl HSI.out) (by assumption) ?_
      try simp only [Act.put, List.setIfInBounds_toArray, List.set_cons_zero, List.set_cons_succ]
      refine wpAnyH_take (i := 8) (oi := { dst := some 51, op := _, type := _, pos := _, after := _, guard := _ }) (v := ?_) rfl (by kernel_rfl) (by kernel_rfl) (by kernel_rfl) (fun _ _ _ h => h) (Or.inl ⟨by kernel_rfl, ?_⟩) (by assumption) ?_
      rotate_left
      · (intro w hSw; go_simp; try with_reducible rfl)
      try simp only [Act.put, List.setIfInBounds_toArray, List.set_cons_zero, List.set_cons_succ]
      refine wpAnyH_take (i := 9) (oi := { dst := some 52, op := _, type := _, pos := _, after := _, guard := _ }) (v := ?_) rfl (by kernel_rfl) (by kernel_rfl) (by kernel_rfl) (fun _ _ _ h => h) (Or.inl ⟨by kernel_rfl, ?_⟩) (by assumption) ?_
      rotate_left
      · (intro w hSw; go_simp; try with_reducible rfl)
      try simp only [Act.put, List.setIfInBounds_toArray, List.set_cons_zero, List.set_cons_succ]
      refine wpAnyH_take (i := 10) (oi := { dst := some 53, op := _, type := _, pos := _, after := _, guard := _ }) (v := ?_) rfl (by kernel_rfl) (by kernel_rfl) (by kernel_rfl) (fun _ _ _ h => h) (Or.inl ⟨by kernel_rfl, ?_⟩) (by assumption) ?_
      rotate_left
      · (intro w hSw; go_simp; try with_reducible rfl)
      try simp only [Act.put, List.setIfInBounds_toArray, List.set_cons_zero, List.set_cons_succ]
      refine wpAnyH_take (i := 11) (oi := { dst := some 54, op := _, type := _, pos := _, after := _, guard := _ }) (v := ?_) rfl (by kernel_rfl) (by kernel_rfl) (by kernel_rfl) (fun _ _ _ h => h) (Or.inl ⟨by kernel_rfl, ?_⟩) (by assumption) ?_
      rotate_left
      · (intro w hSw; have hcw := HCELL.out w (Hid.out hSw); go_simp; try with_reducible rfl)
      try simp only [Act.put, List.setIfInBounds_toArray, List.set_cons_zero, List.set_cons_succ]
      refine wpAnyH_ready (rs := [7, 13]) (by kernel_rfl) (by simp) ?_
      refine (AllReadyH.cons (o := { dst := some 50, op := _, type := _, pos := _, after := _, guard := _ }) rfl (fun Qc hQc => ?_) (AllReadyH.cons (o := { dst := some 16, op := _, type := _, pos := _, after := _, guard := _ }) rfl (fun Qc hQc => ?_) AllReadyH.nil))
      ·
        go_simp
        go_at_call 111; refine (CG1.out _).mono ?_; rintro e x1 ⟨rfl, hbx1⟩; have Gx1 := hid (Gx0.out.trans (hbx1.mono Gx0.out.size)); clear hbx1
        go_wp2_with fail
        refine hQc.out _ _ Gx1 (fun hHeld => ?_)
        clear hQc Qc Gx0
        try simp only [Act.put, List.setIfInBounds_toArray, List.set_cons_zero, List.set_cons_succ]
        refine wpAnyH_ready (rs := [12, 13]) (by kernel_rfl) (by simp) ?_
        refine (AllReadyH.cons (o := { dst := some 55, op := _, type := _, pos := _, after := _, guard := _ }) rfl (fun Qc hQc => ?_) (AllReadyH.cons (o := { dst := some 16, op := _, type := _, pos := _, after := _, guard := _ }) rfl (fun Qc hQc => ?_) AllReadyH.nil))
        ·
          go_simp
          go_at_call 86; refine (CS1.out _).mono ?_; rintro e x2 ⟨rfl, hbx2⟩; have Gx2 := hid (Gx1.out.trans (hbx2.mono Gx1.out.size)); clear hbx2
          go_wp2_with fail
          refine hQc.out _ _ Gx2 (fun hHeld => ?_)
          clear hQc Qc Gx1
          try simp only [Act.put, List.setIfInBounds_toArray, List.set_cons_zero, List.set_cons_succ]
          refine wpAnyH_ready (rs := [13]) (by kernel_rfl) (by simp) ?_
          refine (AllReadyH.cons (o := { dst := some 16, op := _, type := _, pos := _, after := _, guard := _ }) rfl (fun Qc hQc => ?_) AllReadyH.nil)
          go_simp
          have Gx3 := hid (Gx2.out.alloc Gx2.out.size (.cells Z 26))
          have Ax3 := hid (Blk.new x2 26 Z)
          have LEx3 := hid Gx2.out.size
          refine hQc.out _ _ Gx3 (fun hHeld => ?_)
          clear hQc Qc
          generalize hgx3 : x2.heap.size = g at Ax3 LEx3 hHeld ⊢
          generalize x2.alloc (.cells Z 26) = x3 at Gx3 Ax3 hHeld ⊢
          clear hgx3 Gx2
          try simp only [Act.put, List.setIfInBounds_toArray, List.set_cons_zero, List.set_cons_succ]
          refine wpAnyH_ready (rs := [14]) (by kernel_rfl) (by simp) ?_
          refine AllReadyH.cons (o := { dst := none, op := _, type := _, pos := _, after := _, guard := _ }) rfl (fun Qc hQc => ?_) AllReadyH.nil
          rw [if_pos (by rfl)]
          refine wp_store_row 26 (.tmp 16) (.tmp 55) rfl g (u8s R).toArray rfl rfl 26 Z Ax3.out HI.out HZ32.out (u8s_all R) ?_
          have GW := hid (below_setRow Gx3.out LEx3.out (u8s R).toArray)
          have KW := hid (Ax3.out.row (u8s R).toArray)
          refine hQc.out _ _ GW (fun hHeld => ?_)
          clear hQc Qc Gx3 Ax3
          generalize x3.setRow g (u8s R).toArray = xw at GW KW hHeld ⊢
          try simp only [Act.put, List.setIfInBounds_toArray, List.set_cons_zero, List.set_cons_succ]
          refine wpAnyH_done (by kernel_rfl) ?_ _
          try simp only [Act.put, List.setIfInBounds_toArray, List.set_cons_zero, List.set_cons_succ]
          have OX := hid (own_below HO.out GW.out)
          have IX := hid (HD.out.below GW.out)
          have RX := hid (blk_rp KW.out)
          have ZB := hid (Nat.le_trans S2.out HB.out.size)
          have ZX := hid (Nat.le_trans ZB.out GW.out.size)
          have BX := hid (HB.out.trans (GW.out.mono ZB.out))
          clear LEx3 HO HD
          go_wp2_with (at_builtin; refine append_rpi rfl (.tmp 56) (.tmp 57) rfl w2.heap.size _ ((be k 4 ++ SL) ++ rowsOf j fun i => steps id q i (begn id q i seed) 0 (dg i)) rfl OX.out ⟨g, 0, none⟩ 32 32 R H32.out.symm rfl RX.out (by rw [HL.out, H32.out]; omega) ZX.out ?_; intro v9 w9 O9 B9 I9)
          exact ⟨⟨j + 1, by omega, by go_num, by (show World.ownsRow _ _ _ _ _ _ _); rw [HR1.out]; exact O9.out, I9.out _ _ IX.out, BX.out.trans B9.out⟩, by simp [intOf]; omega⟩
        ·
          go_simp
          have Gx4 := hid (Gx1.out.alloc Gx1.out.size (.cells Z 26))
          have Ax4 := hid (Blk.new x1 26 Z)
          have LEx4 := hid Gx1.out.size
          refine hQc.out _ _ Gx4 (fun hHeld => ?_)
          clear hQc Qc
          generalize hgx4 : x1.heap.size = g at Ax4 LEx4 hHeld ⊢
          generalize x1.alloc (.cells Z 26) = x4 at Gx4 Ax4 hHeld ⊢
          clear hgx4 Gx1
          try simp only [Act.put, List.setIfInBounds_toArray, List.set_cons_zero, List.set_cons_succ]
          refine wpAnyH_ready (rs := [12]) (by kernel_rfl) (by simp) ?_
          refine (AllReadyH.cons (o := { dst := some 55, op := _, type := _, pos := _, after := _, guard := _ }) rfl (fun Qc hQc => ?_) AllReadyH.nil)
          go_simp
          go_at_call 86; refine (CS1.out _).mono ?_; rintro e x5 ⟨rfl, hbx5⟩; have Gx5 := hid (Gx4.out.trans (hbx5.mono Gx4.out.size)); have Ax5 := hid (Ax4.out.below hbx5); have LEx5 := LEx4; clear hbx5
          go_wp2_with fail
          refine hQc.out _ _ Gx5 (fun hHeld => ?_)
          clear hQc Qc Gx4 Ax4
          try simp only [Act.put, List.setIfInBounds_toArray, List.set_cons_zero, List.set_cons_succ]
          refine wpAnyH_ready (rs := [14]) (by kernel_rfl) (by simp) ?_
          refine AllReadyH.cons (o := { dst := none, op := _, type := _, pos := _, after := _, guard := _ }) rfl (fun Qc hQc => ?_) AllReadyH.nil
          rw [if_pos (by rfl)]
          refine wp_store_row 26 (.tmp 16) (.tmp 55) rfl g (u8s R).toArray rfl rfl 26 Z Ax5.out HI.out HZ32.out (u8s_all R) ?_
          have GW := hid (below_setRow Gx5.out LEx5.out (u8s R).toArray)
          have KW := hid (Ax5.out.row (u8s R).toArray)
          refine hQc.out _ _ GW (fun hHeld => ?_)
          clear hQc Qc Gx5 Ax5
          generalize x5.setRow g (u8s R).toArray = xw at GW KW hHeld ⊢
          try simp only [Act.put, List.setIfInBounds_toArray, List.set_cons_zero, List.set_cons_succ]
          refine wpAnyH_done (by kernel_rfl) ?_ _
          try simp only [Act.put, List.setIfInBounds_toArray, List.set_cons_zero, List.set_cons_succ]
          have OX := hid (own_below HO.out GW.out)
          have IX := hid (HD.out.below GW.out)
          have RX := hid (blk_rp KW.out)
          have ZB := hid (Nat.le_trans S2.out HB.out.size)
          have ZX := hid (Nat.le_trans ZB.out GW.out.size)
          have BX := hid (HB.out.trans (GW.out.mono ZB.out))
          clear LEx5 HO HD
          go_wp2_with (at_builtin; refine append_rpi rfl (.tmp 56) (.tmp 57) rfl w2.heap.size _ ((be k 4 ++ SL) ++ rowsOf j fun i => steps id q i (begn id q i seed) 0 (dg i)) rfl OX.out ⟨g, 0, none⟩ 32 32 R H32.out.symm rfl RX.out (by rw [HL.out, H32.out]; omega) ZX.out ?_; intro v9 w9 O9 B9 I9)
          exact ⟨⟨j + 1, by omega, by go_num, by (show World.ownsRow _ _ _ _ _ _ _); rw [HR1.out]; exact O9.out, I9.out _ _ IX.out, BX.out.trans B9.out⟩, by simp [intOf]; omega⟩
      ·
        go_simp
        have Gx6 := hid (Gx0.out.alloc Gx0.out.size (.cells Z 26))
        have Ax6 := hid (Blk.new x0 26 Z)
        have LEx6 := hid Gx0.out.size
        refine hQc.out _ _ Gx6 (fun hHeld => ?_)
        clear hQc Qc
        generalize hgx6 : x0.heap.size = g at Ax6 LEx6 hHeld ⊢
        generalize x0.alloc (.cells Z 26) = x6 at Gx6 Ax6 hHeld ⊢
        clear hgx6 Gx0
        try simp only [Act.put, List.setIfInBounds_toArray, List.set_cons_zero, List.set_cons_succ]
        refine wpAnyH_ready (rs := [7]) (by kernel_rfl) (by simp) ?_
        refine (AllReadyH.cons (o := { dst := some 50, op := _, type := _, pos := _, after := _, guard := _ }) rfl (fun Qc hQc => ?_) AllReadyH.nil)
        go_simp
        go_at_call 111; refine (CG1.out _).mono ?_; rintro e x7 ⟨rfl, hbx7⟩; have Gx7 := hid (Gx6.out.trans (hbx7.mono Gx6.out.size)); have Ax7 := hid (Ax6.out.below hbx7); have LEx7 := LEx6; clear hbx7
        go_wp2_with fail
        refine hQc.out _ _ Gx7 (fun hHeld => ?_)
        clear hQc Qc Gx6 Ax6
        try simp only [Act.put, List.setIfInBounds_toArray, List.set_cons_zero, List.set_cons_succ]
        refine wpAnyH_ready (rs := [12]) (by kernel_rfl) (by simp) ?_
        refine (AllReadyH.cons (o := { dst := some 55, op := _, type := _, pos := _, after := _, guard := _ }) rfl (fun Qc hQc => ?_) AllReadyH.nil)
        go_simp
        go_at_call 86; refine (CS1.out _).mono ?_; rintro e x8 ⟨rfl, hbx8⟩; have Gx8 := hid (Gx7.out.trans (hbx8.mono Gx7.out.size)); have Ax8 := hid (Ax7.out.below hbx8); have LEx8 := LEx7; clear hbx8
        go_wp2_with fail
        refine hQc.out _ _ Gx8 (fun hHeld => ?_)
        clear hQc Qc Gx7 Ax7
        try simp only [Act.put, List.setIfInBounds_toArray, List.set_cons_zero, List.set_cons_succ]
        refine wpAnyH_ready (rs := [14]) (by kernel_rfl) (by simp) ?_
        refine AllReadyH.cons (o := { dst := none, op := _, type := _, pos := _, after := _, guard := _ }) rfl (fun Qc hQc => ?_) AllReadyH.nil
        rw [if_pos (by rfl)]
        refine wp_store_row 26 (.tmp 16) (.tmp 55) rfl g (u8s R).toArray rfl rfl 26 Z Ax8.out HI.out HZ32.out (u8s_all R) ?_
        have GW := hid (below_setRow Gx8.out LEx8.out (u8s R).toArray)
        have KW := hid (Ax8.out.row (u8s R).toArray)
        refine hQc.out _ _ GW (fun hHeld => ?_)
        clear hQc Qc Gx8 Ax8
        generalize x8.setRow g (u8s R).toArray = xw at GW KW hHeld ⊢
        try simp only [Act.put, List.setIfInBounds_toArray, List.set_cons_zero, List.set_cons_succ]
        refine wpAnyH_done (by kernel_rfl) ?_ _
        try simp only [Act.put, List.setIfInBounds_toArray, List.set_cons_zero, List.set_cons_succ]
        have OX := hid (own_below HO.out GW.out)
        have IX := hid (HD.out.below GW.out)
        have RX := hid (blk_rp KW.out)
        have ZB := hid (Nat.le_trans S2.out HB.out.size)
        have ZX := hid (Nat.le_trans ZB.out GW.out.size)
        have BX := hid (HB.out.trans (GW.out.mono ZB.out))
        clear LEx8 HO HD
        go_wp2_with (at_builtin; refine append_rpi rfl (.tmp 56) (.tmp 57) rfl w2.heap.size _ ((be k 4 ++ SL) ++ rowsOf j fun i => steps id q i (begn id q i seed) 0 (dg i)) rfl OX.out ⟨g, 0, none⟩ 32 32 R H32.out.symm rfl RX.out (by rw [HL.out, H32.out]; omega) ZX.out ?_; intro v9 w9 O9 B9 I9)
        exact ⟨⟨j + 1, by omega, by go_num, by (show World.ownsRow _ _ _ _ _ _ _); rw [HR1.out]; exact O9.out, I9.out _ _ IX.out, BX.out.trans B9.out⟩, by simp [intOf]; omega⟩
    · obtain rfl : j = ch := by omega
      obtain ⟨A7, c7, rfl, _, _, hf7⟩ := fresh_of_own (w := w) HO.out W2.out.size
      have HF7 := hid hf7
      have HE : Hid (((be k 4 ++ SL) ++ rowsOf j fun i => steps id q i (begn id q i seed) 0 (dg i)) = SG) := by show _ = _; rw [HP.out, List.append_assoc]
      rw [HE.out] at HF7 ⊢
      clear hf7 HO HD
      go_wp2_with fail
      try go_frame
      refine bodyPost_ret (results_tmp2 Tryd.results96 _ _ _) rfl ?_
      exact ⟨A7, ⟨c7, rfl⟩, HF7.out, W5.out.trans (HB.out.mono W2.out.size)⟩
end Go.Proofs.YtobceieadjpaaaaDoor
