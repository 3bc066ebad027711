/-
  What is proved here: which calls, and which records, are few; whether records are the same ones, or the first of others; what the statements' fixed question answers.
-/
import Derived.Test.YtbglnljjkofbdaaMWaP
import Derived.Test.YtbglnljjkofbdaaMWaOpen
import Derived.Test.YtbglnljjkofbdaaMSameQ
import Derived.Lib.SlBytesConst
set_option linter.unusedSimpArgs false
set_option linter.unusedVariables false
namespace Go.Proofs.Ytbglnljjkofbdaa
open Go.ChangeShapes Go.WideShapes Go.ChangeAt Go.RowKit
set_option linter.unusedVariables false
set_option linter.unusedSimpArgs false
set_option maxRecDepth 20000

set_option maxHeartbeats 1000000 in
theorem RFew_nm (A : Option Addr) (n c : Nat) (L : List (List Int)) (w : World) (h : InR w A n L) (N M : Nat) (hN : N ≤ 200) (hM : M ≤ 100000) :
    Calls Try.prog 16 #[.slice A n c, .int .i64 N, .int .i64 M] w fun e w' => e = .returned (.bool (fewR L N M)) ∧ w = w' := by
  have hl := h.1
  have hmax := h.2.1
  obtain ⟨r, hr⟩ : ∃ r, r = fewR L N M := ⟨_, rfl⟩
  rw [← hr]
  have HR := hid hr; have H := hid h; have HL := hid hl
  clear hr h hl
  go_enter Try.func16, Try.ntmps16
  go_wp2
  go_loop [7] (fun i => ∃ k : Nat, k ≤ n ∧ k ≤ 200 ∧ i = .int .i64 k ∧ ((L.take k).all (fun f => decide (f.length ≤ M)) = true)) (fun i => n - (intOf i).toNat)
  case atStart => exact ⟨0, by omega, by omega, rfl, by simp⟩
  case round =>
    obtain ⟨k, hk, hk2, rfl, hall⟩ := hrel
    have HA := hid hall
    clear hall
    by_cases hlt : k < n
    · by_cases hlt2 : k < 200
      · obtain ⟨b, o, rfl, _, hat⟩ := H.out.2.2 (by omega)
        obtain ⟨B, cc, bb, h1, h9, h2, h3, h4, h6⟩ := hat k hlt
        obtain ⟨m, hm⟩ : ∃ m, m = bb.length := ⟨_, rfl⟩
        rw [← hm] at h9 h6
        have H1 := hid h1; have HM := hid hm
        clear hat h1 h2 h3 h4 hm hk
        have HK2 := hid hk2
        clear hk2
        by_cases hbig : M < m
        · have b1 : (M : Int) < (m : Int) := by omega
          have hf : r = false := by
            rw [HR.out]
            unfold fewR
            have hm := HM.out
            have hin : bb ∈ L.take 200 := by
              rw [List.mem_iff_getElem?]
              exact ⟨k, by rw [List.getElem?_take, if_pos hlt2]; exact H1.out⟩
            have : ((L.take 200).all fun f => decide (f.length ≤ M)) = false := by
              rw [List.all_eq_false]
              exact ⟨_, hin, by simp; omega⟩
            rw [this]; rfl
          have HF := hid hf
          clear hf
          go_wp2
          go_ret
          rw [HF.out]
          exact ⟨rfl, rfl⟩
        · have b1 : ¬ (M : Int) < (m : Int) := by omega
          go_wp2
          go_round
          case rel =>
            refine ⟨k + 1, by omega, by omega, by go_num, ?_⟩
            have hm := HM.out
            have hl := HL.out
            have h1 := H1.out
            have hkl : k < L.length := by omega
            rw [List.take_succ_eq_append_getElem hkl, List.all_append, HA.out]
            have e : L[k] = bb := by rw [List.getElem?_eq_getElem hkl] at h1; injection h1
            rw [e]; simp; omega
          case measure => simp [intOf]; omega
      · have hk3 : k = 200 := by omega
        subst hk3
        have hf : r = decide (n ≤ N) := by
          rw [HR.out]; unfold fewR; rw [HA.out, HL.out]
          simp
        have HF := hid hf
        clear hf
        go_wp2
        go_ret
        rw [HF.out]
        exact ⟨ret_bool (by rw [decide_eq_decide] <;> omega), rfl⟩
    · have hk3 : k = n := by omega
      subst hk3
      have hf : r = decide (k ≤ N) := by
        have hl := HL.out
        have ha := HA.out
        rw [List.take_of_length_le (by omega)] at ha
        rw [HR.out]; unfold fewR; rw [hl, List.take_of_length_le (by omega), ha]
        simp
      have HF := hid hf
      clear hf
      go_wp2
      go_ret
      rw [HF.out]
      exact ⟨ret_bool (by rw [decide_eq_decide] <;> omega), rfl⟩
theorem opC_at {w : World} {A : Option Addr} {n : Nat} {l : List Oq} (h : InOps w A n l) (hn : 0 < n) : ∃ g off, A = some ⟨g, off, none⟩ ∧ g < w.heap.size ∧ ∀ i, i < n → ∃ o B c E d, l[i]? = some o ∧ OpIn w o B c E d ∧ w.rangeAt g (off + i * 4) (opC o B c E d) := by
  obtain ⟨⟨g, off, s⟩, rfl, hat⟩ := h.2.2 hn
  obtain ⟨o, B, c, E, d, h1, h2, h3⟩ := hat 0 hn
  have h0 := h3 0 _ rfl
  have hs : s = none := by simpa [Addr.add] using World.cell?_spot h0
  subst hs
  refine ⟨g, off, rfl, ?_, fun i hi => ?_⟩
  · have := block_lt_of_cell h0; rwa [add_block] at this
  · obtain ⟨o, B, c, E, d, h1, h2, h3⟩ := hat i hi
    refine ⟨o, B, c, E, d, h1, h2, fun j v hv => ?_⟩
    have := h3 j v hv
    rw [Addr.add_mid] at this
    rw [← this]
    congr 2; omega
def SmallO (l : List Oq) (k : Nat) : Prop := ∀ j, j < k → ∀ o, l[j]? = some o → o.b.length ≤ 7000 ∧ o.l.length ≤ 200
def FewO (l : List Oq) (w : World) (e : Ending) (w' : World) : Prop := ∃ f, e = .returned (.bool f) ∧ w = w' ∧ (f = true ↔ l.length ≤ 40 ∧ SmallO l l.length)
set_option maxHeartbeats 1000000 in
theorem wFew_any (A : Option Addr) (n c : Nat) (l : List Oq) (w : World) (h : InOps w A n l) : Calls Try.prog 7 #[.slice A n c, .int .i64 40] w (FewO l w) := by
  have hl := h.1
  have hmax := h.2.1
  have H := hid h; have HL := hid hl
  clear h hl
  go_enter Try.func7, Try.ntmps7
  go_wp2
  go_loop [5] (fun i => ∃ k : Nat, k ≤ n ∧ k ≤ 200 ∧ i = .int .i64 k ∧ Hid (SmallO l k)) (fun i => n - (intOf i).toNat)
  case atStart => exact ⟨0, by omega, by omega, rfl, fun j hj => by omega⟩
  case round =>
    obtain ⟨k, hk, hk2, rfl, HA⟩ := hrel
    by_cases hlt : k < n
    · by_cases hlt2 : k < 200
      · obtain ⟨g, off, rfl, _, hat⟩ := opC_at H.out (by omega)
        obtain ⟨o, B, c1, E, d, h1, h2, h3⟩ := hat k hlt
        have z2 : w.cell? ⟨g, off + k * 4 + 2, none⟩ = some (.slice B o.b.length c1) := h3 2 _ rfl
        have z3 : w.cell? ⟨g, off + k * 4 + 3, none⟩ = some (.slice E o.l.length d) := h3 3 _ rfl
        have H1 := hid h1
        obtain ⟨m1, hm1⟩ : ∃ m, m = o.b.length := ⟨_, rfl⟩
        obtain ⟨m2, hm2⟩ : ∃ m, m = o.l.length := ⟨_, rfl⟩
        rw [← hm1] at z2
        rw [← hm2] at z3
        have HM := hid hm1; have HM2 := hid hm2
        clear hat h1 h2 h3 hm1 hm2
        have HK := hid hk; have HK2 := hid hk2
        clear hk hk2
        by_cases hb1 : 7000 < m1
        · have b1 : 7000 < (m1 : Int) := by omega
          have HF : Hid (¬ SmallO l l.length) := fun h => by
            have := (h k (by rw [HL.out]; exact hlt) o H1.out).1
            have := HM.out
            omega
          go_wp2
          go_ret
          exact ⟨false, rfl, rfl, fun h => (by cases h), fun h => (HF.out h.2).elim⟩
        · have b1 : ¬ 7000 < (m1 : Int) := by omega
          by_cases hb2 : 200 < m2
          · have b2 : 200 < (m2 : Int) := by omega
            have HF : Hid (¬ SmallO l l.length) := fun h => by
              have := (h k (by rw [HL.out]; exact hlt) o H1.out).2
              have := HM2.out
              omega
            go_wp2
            go_ret
            exact ⟨false, rfl, rfl, fun h => (by cases h), fun h => (HF.out h.2).elim⟩
          · have b2 : ¬ 200 < (m2 : Int) := by omega
            go_wp2
            go_round
            case rel =>
              refine ⟨k + 1, by omega, by omega, by go_num, fun j hj o' ho' => ?_⟩
              by_cases hjk : j = k
              · subst hjk
                rw [H1.out] at ho'
                injection ho' with ho'
                subst ho'
                have := HM.out; have := HM2.out
                omega
              · exact HA.out j (by omega) o' ho'
            case measure => simp [intOf]; omega
      · obtain rfl : k = 200 := by omega
        have hn40 : ¬ (n : Int) ≤ 40 := by omega
        have hf : decide ((n : Int) ≤ 40) = false := decide_eq_false hn40
        go_wp2
        go_ret
        exact ⟨false, by simp_all, rfl, fun h => (by cases h), fun h => by have := h.1; rw [HL.out] at this; omega⟩
    · obtain rfl : k = n := by omega
      by_cases hn40 : k ≤ 40
      · have hf : decide ((k : Int) ≤ 40) = true := decide_eq_true (by omega)
        go_wp2
        go_ret
        exact ⟨true, by simp_all, rfl, fun _ => ⟨by rw [HL.out]; exact hn40, by rw [HL.out]; exact HA.out⟩, fun _ => rfl⟩
      · have hf : decide ((k : Int) ≤ 40) = false := decide_eq_false (by omega)
        go_wp2
        go_ret
        exact ⟨false, by simp_all, rfl, fun h => (by cases h), fun h => by have := h.1; rw [HL.out] at this; omega⟩
theorem wFew_yes {A : Option Addr} {n c : Nat} {l : List Oq} {w : World} (h : InOps w A n l) (hf : l.length ≤ 40 ∧ SmallO l l.length) : Calls Try.prog 7 #[.slice A n c, .int .i64 40] w fun e w2 => e = .returned (.bool true) ∧ w = w2 :=
  (wFew_any A n c l w h).mono fun e w' ⟨f, h1, h2, h3⟩ => ⟨by rw [h1, h3.2 hf], h2⟩
theorem wFew_no {A : Option Addr} {n c : Nat} {l : List Oq} {w : World} (h : InOps w A n l) (hf : ¬ (l.length ≤ 40 ∧ SmallO l l.length)) : Calls Try.prog 7 #[.slice A n c, .int .i64 40] w fun e w2 => e = .returned (.bool false) ∧ w = w2 :=
  (wFew_any A n c l w h).mono fun e w' ⟨f, h1, h2, h3⟩ => ⟨by
    have : f = false := by
      cases f with
      | true => exact (hf (h3.1 rfl)).elim
      | false => rfl
    rw [h1, this], h2⟩
theorem InOps.below {w w' : World} {A : Option Addr} {n : Nat} {l : List Oq} (h : InOps w A n l) (hb : Below w.heap.size w w') : InOps w' A n l := by
  refine ⟨h.1, h.2.1, fun hn => ?_⟩
  obtain ⟨ad, e, hat⟩ := h.2.2 hn
  refine ⟨ad, e, fun i hi => ?_⟩
  obtain ⟨o, B, c, E, d, h1, h2, h3⟩ := hat i hi
  exact ⟨o, B, c, E, d, h1, ⟨h2.k, h2.i, ⟨h2.b.1, h2.b.2.1, h2.b.2.2.1, h2.b.2.2.2.belowN hb⟩, h2.bc, ⟨h2.l.1, h2.l.2.1, h2.l.2.2.below hb⟩, h2.lb⟩, fun j v hv => (hb.cell (block_lt_of_cell (h3 j v hv))).trans (h3 j v hv)⟩

set_option maxHeartbeats 1000000 in
theorem RSame_yes (A B : Option Addr) (n m c d : Nat) (L M : List (List Int)) (w : World) (hn : n = L.length) (hm : m = M.length) (hn9 : n < 100000) (hL : RAl w A L) (hM : RAl w B M) (h1 : ∀ f ∈ M, f.length ≤ 10000) (heq : L = M.take M.length) :
    Calls Try.prog 20 #[.slice A n c, .slice B m d] w fun e w' => e = .returned (.bool true) ∧ ∃ q, w' = w.drewN q := by
  have hle : n ≤ m := by have := congrArg List.length heq; simp only [List.length_take] at this; omega
  have EQ : Hid (∀ k, k < n → L[k]?.getD [] = M[k]?.getD [] ∧ (M[k]?.getD []).length ≤ 10000) := hid fun k hk => by
    have e : L[k]? = M[k]? := by rw [heq, List.getElem?_take, if_pos (by omega)]
    refine ⟨by rw [e], ?_⟩
    rw [List.getElem?_eq_getElem (show k < M.length by omega)]
    exact h1 _ (List.getElem_mem _)
  have hnm : n = m := by have := congrArg List.length heq; simp only [List.length_take] at this; omega
  subst hnm
  have HL := hid hL; have HM := hid hM; have HN := hid hn; have HMM := hid hm
  clear hL hM h1 heq hn hm
  go_enter Try.func20, Try.ntmps20
  go_wp2
  go_loopw [5] (fun i wr => ∃ k : Nat, k ≤ n ∧ i = .int .i64 k ∧ ∃ q, wr = w.drewN q) (fun i _ => n - (intOf i).toNat)
  case atStart => exact ⟨0, by omega, rfl, 0, rfl⟩
  case round =>
    obtain ⟨k, hk, rfl, q, hw⟩ := hrel
    by_cases hlt : k < n
    · obtain ⟨g1, o1, B1, c1, rfl, x1, x2⟩ := HL.out k (by have := HN.out; omega)
      obtain ⟨g2, o2, B2, c2, rfl, y1, y2⟩ := HM.out k (by have := HMM.out; omega)
      obtain ⟨e1, e2⟩ := EQ.out k hlt
      rw [e1] at x1 x2
      obtain ⟨xs, hxs⟩ : ∃ xs, xs = M[k]?.getD [] := ⟨_, rfl⟩
      rw [← hxs] at x1 x2 y1 y2 e2
      have hsq := fun W (hW : ∃ q, W = w.drewN q) => Same_quiet B1 B2 c1 c2 xs xs W (by obtain ⟨q, rfl⟩ := hW; exact x2) (by obtain ⟨q, rfl⟩ := hW; exact y2) (by omega) (by omega)
      rw [show decide (xs = xs) = true from decide_eq_true rfl] at hsq
      have z1 : wr.cell? ⟨g1, o1 + k, none⟩ = some (.slice B1 xs.length c1) := by rw [hw]; exact x1
      have z2 : wr.cell? ⟨g2, o2 + k, none⟩ = some (.slice B2 xs.length c2) := by rw [hw]; exact y1
      obtain ⟨ln, hln⟩ : ∃ ln, ln = xs.length := ⟨_, rfl⟩
      rw [← hln] at z1 z2 hsq
      have HSQ := hid hsq; have HW := hid hw
      clear x1 x2 y1 y2 e1 e2 hxs hsq hw hln
      go_wp2
      go_quiet ((go_at_call 31; exact Calls.quiet_of (HSQ.out _ ⟨_, by rw [HW.out, World.drewN_drewN]⟩)))
      go_wp2
      go_roundw
      case rel => exact ⟨k + 1, by omega, by go_num, q + nq, by rw [HW.out, World.drewN_drewN]⟩
      case measure => simp [intOf]; omega
    · have HW := hid hw
      clear hw
      obtain rfl : k = n := by omega
      go_wp2
      go_ret
      exact ⟨rfl, q, HW.out⟩
set_option maxHeartbeats 1000000 in
theorem xAhead_yes (A B : Option Addr) (n m c d : Nat) (L M : List (List Int)) (w : World) (hn : n = L.length) (hm : m = M.length) (hn9 : n < 100000) (hL : RAl w A L) (hM : RAl w B M) (h1 : ∀ f ∈ M, f.length ≤ 10000) (heq : L = M.take n) :
    Calls Try.prog 15 #[.slice A n c, .slice B m d] w fun e w' => e = .returned (.bool true) ∧ ∃ q, w' = w.drewN q := by
  have hle : n ≤ m := by have := congrArg List.length heq; simp only [List.length_take] at this; omega
  have EQ : Hid (∀ k, k < n → L[k]?.getD [] = M[k]?.getD [] ∧ (M[k]?.getD []).length ≤ 10000) := hid fun k hk => by
    have e : L[k]? = M[k]? := by rw [heq, List.getElem?_take, if_pos (by omega)]
    refine ⟨by rw [e], ?_⟩
    rw [List.getElem?_eq_getElem (show k < M.length by omega)]
    exact h1 _ (List.getElem_mem _)
  have hgt : ¬ (m : Int) < (n : Int) := by omega
  have HL := hid hL; have HM := hid hM; have HN := hid hn; have HMM := hid hm
  clear hL hM h1 heq hn hm
  go_enter Try.func15, Try.ntmps15
  go_wp2
  go_loopw [5] (fun i wr => ∃ k : Nat, k ≤ n ∧ i = .int .i64 k ∧ ∃ q, wr = w.drewN q) (fun i _ => n - (intOf i).toNat)
  case atStart => exact ⟨0, by omega, rfl, 0, rfl⟩
  case round =>
    obtain ⟨k, hk, rfl, q, hw⟩ := hrel
    by_cases hlt : k < n
    · obtain ⟨g1, o1, B1, c1, rfl, x1, x2⟩ := HL.out k (by have := HN.out; omega)
      obtain ⟨g2, o2, B2, c2, rfl, y1, y2⟩ := HM.out k (by have := HMM.out; omega)
      obtain ⟨e1, e2⟩ := EQ.out k hlt
      rw [e1] at x1 x2
      obtain ⟨xs, hxs⟩ : ∃ xs, xs = M[k]?.getD [] := ⟨_, rfl⟩
      rw [← hxs] at x1 x2 y1 y2 e2
      have hsq := fun W (hW : ∃ q, W = w.drewN q) => Same_quiet B1 B2 c1 c2 xs xs W (by obtain ⟨q, rfl⟩ := hW; exact x2) (by obtain ⟨q, rfl⟩ := hW; exact y2) (by omega) (by omega)
      rw [show decide (xs = xs) = true from decide_eq_true rfl] at hsq
      have z1 : wr.cell? ⟨g1, o1 + k, none⟩ = some (.slice B1 xs.length c1) := by rw [hw]; exact x1
      have z2 : wr.cell? ⟨g2, o2 + k, none⟩ = some (.slice B2 xs.length c2) := by rw [hw]; exact y1
      obtain ⟨ln, hln⟩ : ∃ ln, ln = xs.length := ⟨_, rfl⟩
      rw [← hln] at z1 z2 hsq
      have HSQ := hid hsq; have HW := hid hw
      clear x1 x2 y1 y2 e1 e2 hxs hsq hw hln
      go_wp2
      go_quiet ((go_at_call 31; exact Calls.quiet_of (HSQ.out _ ⟨_, by rw [HW.out, World.drewN_drewN]⟩)))
      go_wp2
      go_roundw
      case rel => exact ⟨k + 1, by omega, by go_num, q + nq, by rw [HW.out, World.drewN_drewN]⟩
      case measure => simp [intOf]; omega
    · have HW := hid hw
      clear hw
      obtain rfl : k = n := by omega
      go_wp2
      go_ret
      exact ⟨rfl, q, HW.out⟩

theorem scn_zero (g : Int) (T a c : Nat) (hf : a + c ≤ T) {l : Int} (hl : 0 < l) : scn ((⟨List.replicate T zpg, [], -1, false⟩ : SS).lp a) c c 0 l = ([], 0, l) := scn_low (G := 0) (fun k hk => by rw [lp_new hf k hk]; exact cg_zpg (Int.le_refl _)) hl c 0
theorem new_bs (T : Nat) : (⟨List.replicate T zpg, [], -1, false⟩ : SS).bs := ⟨fun p hp => by rw [List.eq_of_mem_replicate hp]; exact zpg_bs, fun q hq => by simp at hq⟩
theorem one_rp (w : World) : Rp (w.alloc (.cells #[.int .u8 97] 5 (1, 2))) none (some ⟨w.heap.size, 0, none⟩) [97] := fun _ =>
  ⟨_, rfl, (fun ⟨a, e, _⟩ => by cases e), fun j hj => by
    rw [Addr.add_lit, Nat.zero_add, World.cell?_alloc_mark]
    match j, hj with
    | 0, _ => rfl⟩
set_option maxHeartbeats 2000000 in
theorem wawake_any (w : World) : Calls Try.prog 6 #[] w fun e w' => e = .returned (.bool true) ∧ Below w.heap.size w w' := by
  have CN := hid (Dy.new 3 w (by decide))
  obtain ⟨s, hs⟩ : ∃ s, s = (⟨List.replicate 3 zpg, [], -1, false⟩ : SS) := ⟨_, rfl⟩
  have hbs : s.bs := by rw [hs]; exact new_bs 3
  have hsl : s.L.length = 3 := by rw [hs]; simp
  have hsq : s.Q.length = 0 := by rw [hs]; rfl
  have hsd : s.D = false := by rw [hs]
  have hsc : scn (s.lp 0) 3 3 0 1 = ([], 0, 1) := by rw [hs]; exact scn_zero 1 3 0 3 (by decide) (by decide)
  have hw : (s.ap 0 3 ⟨1, 0, false⟩ [97]).1 = 0 ∧ (s.ap 0 3 ⟨1, 0, false⟩ [97]).2.2 = ⟨1, 1, false⟩ := by
    have h := wi_new (T := 3) (a := 0) (c := 3) (by decide) (g := 1) ⟨by decide, by decide⟩
    rw [← hs] at h
    have hc : (cut [97]).length = 1 := by rw [cut_len]; rfl
    rcases wi_on h (by rw [hs]) hsd rfl (b := [97]) (fun y hy => by simp at hy; omega) with ⟨k, _⟩ | ⟨_, k, _⟩ | ⟨_, _, k1, k2, _⟩
    · simp at k
    · rw [hc] at k; simp at k
    · rw [hc] at k2; exact ⟨k1, k2⟩
  rw [← hs] at CN
  have CO : Hid (∀ b w1, Dy w.heap.size w1 b s → Calls Try.prog 9 #[.pointer (some ⟨b, 0, none⟩), .int .i64 0, .int .i64 3, .int .u32 1, .int .u32 1] w1 (OpA b 0 3 1 (s.lp 0) 1 w1)) := hid fun b w1 h => wOpen_any h hbs hsd 0 3 1 1 (by omega) (by decide) (by decide) ⟨by decide, by decide⟩
  have CA : Hid (∀ b lb w2, Dy w.heap.size w2 b s → w.heap.size ≤ w2.heap.size → w.heap.size ≤ lb → Blk w2 lb 55 (lgC b 0 3 ⟨1, 0, false⟩) → Calls Try.prog 10 #[.pointer (some ⟨lb, 0, none⟩), .slice (some ⟨w2.heap.size, 0, none⟩) 1 1] (w2.alloc (.cells #[.int .u8 97] 5 (1, 2))) (ApA w.heap.size b lb 0 3 (s.ap 0 3 ⟨1, 0, false⟩ [97]) (w2.alloc (.cells #[.int .u8 97] 5 (1, 2))))) := hid fun b lb w2 h1 h2 h3 h4 =>
    have hb : Below w2.heap.size w2 (w2.alloc (.cells #[.int .u8 97] 5 (1, 2))) := (Below.refl _ _).alloc (Nat.le_refl _) _
    wAppend_any (h1.below hb) (Nat.le_trans h2 hb.size) lb 0 3 ⟨1, 0, false⟩ h3 (h4.below hb) (by decide) (by decide) (by decide) ⟨by decide, by decide⟩ (some ⟨w2.heap.size, 0, none⟩) 1 1 [97] rfl (one_rp w2) (fun h => absurd h (by decide)) (by decide) (by decide) (by omega)
  obtain ⟨y, hy⟩ : ∃ y, y = s.ap 0 3 ⟨1, 0, false⟩ [97] := ⟨_, rfl⟩
  rw [← hy] at CA hw
  have HW := hid hw
  unfold OpA at CO
  rw [hsc] at CO
  clear hs hbs hsl hsq hsd hsc hw hy
  have kc := fun (w : World) (C : Array Value) (n c : Nat) => Lib.run_convert_bytes_const (P := Try.prog) w 34 5 C n c Try.underlying34 Try.underlying5
  go_enter Try.func6, Try.ntmps6
  go_wp2_with (first
    | (go_at_call 8; refine CN.out.mono ?_; rintro e w1 ⟨b, rfl, hd, hb1⟩; have HD := hid hd; have B1 := hid hb1; have CO1 := hid (CO.out b w1 hd); clear hd hb1)
    | (go_at_call 9; refine CO1.out.mono ?_; rintro e w2 ⟨lb, V, rfl, hlb, hlg, hal, hb2⟩; have HD2 := hid (HD.out.below hb2); have B2 := hid (B1.out.trans (hb2.mono B1.out.size)); have HLB := hid (Nat.le_trans B1.out.size hlb); have CA2 := hid (CA.out b lb w2 HD2.out B2.out.size HLB.out hlg); clear hlb hlg hal hb2)
    | (go_at_call 10; refine CA2.out.mono ?_; rintro e w3 ⟨he, h1, h2, h3, h4⟩; rw [HW.out.1] at he; subst he; have B3 := hid ((B2.out.alloc B2.out.size (.cells #[.int .u8 97] 5 (1, 2))).trans h4); have L3 : Blk w3 lb 55 (lgC b 0 3 ⟨1, 1, false⟩) := (by rw [← HW.out.2]; exact h2); have CR := hid (wroom_any lb b 0 3 ⟨1, 1, false⟩ w3 L3 (by decide) (by decide)); clear h1 h2 h3 h4 L3)
    | (go_at_call 18; refine CR.out.mono ?_; rintro e w4 ⟨rfl, q4, rfl⟩; have B4 := hid (B3.out.trans ((below_dn q4).mono B3.out.size))))
  go_ret
  exact ⟨rfl, B4.out⟩
end Go.Proofs.Ytbglnljjkofbdaa
