/-
  What is proved here: which calls, and which records, are few; whether records are the same ones, or the first of others; what the statements' fixed question answers.
-/
import Derived.Test.YthfkooancgkjaaaMWaP
import Derived.Test.YthfkooancgkjaaaMSameQ
import Derived.Lib.SlBytesConst
set_option linter.unusedSimpArgs false
set_option linter.unusedVariables false
namespace Go.Proofs.Ythfkooancgkjaaa
open Go.ChangeShapes Go.WideShapes Go.ChangeAt Go.RowKit
set_option linter.unusedVariables false
set_option linter.unusedSimpArgs false
set_option maxRecDepth 20000

set_option maxHeartbeats 1000000 in
theorem RFew_nm (A : Option Addr) (n c : Nat) (L : List (List Int)) (w : World) (h : InR w A n L) (N M : Nat) (hN : N ≤ 200) (hM : M ≤ 100000) :
    Calls Try.prog 21 #[.slice A n c, .int .i64 N, .int .i64 M] w fun e w' => e = .returned (.bool (fewR L N M)) ∧ w = w' := by
  have hl := h.1
  have hmax := h.2.1
  obtain ⟨r, hr⟩ : ∃ r, r = fewR L N M := ⟨_, rfl⟩
  rw [← hr]
  have HR := hid hr; have H := hid h; have HL := hid hl
  clear hr h hl
  go_enter Try.func21, Try.ntmps21
  go_wp2
  go_loop [7] (fun i => ∃ k : Nat, k ≤ n ∧ k ≤ 200 ∧ i = .int .i64 k ∧ ((L.take k).all (fun f => decide (f.length ≤ M)) = true)) (fun i => n - (intOf i).toNat)
  case atStart => exact ⟨0, by omega, by omega, rfl, by simp⟩
  case round =>
    obtain ⟨k, hk, hk2, rfl, hall⟩ := hrel
    have HA := hid hall
    clear hall
    by_cases hlt : k < n
    · by_cases hlt2 : k < 200
      · obtain ⟨b, o, rfl, _, hat⟩ := H.out.2.2 (by omega)
        obtain ⟨B, cc, bb, h1, h9, h2, h3, h4, h6⟩ := hat k hlt
        obtain ⟨m, hm⟩ : ∃ m, m = bb.length := ⟨_, rfl⟩
        rw [← hm] at h9 h6
        have H1 := hid h1; have HM := hid hm
        clear hat h1 h2 h3 h4 hm hk
        have HK2 := hid hk2
        clear hk2
        by_cases hbig : M < m
        · have b1 : (M : Int) < (m : Int) := by omega
          have hf : r = false := by
            rw [HR.out]
            unfold fewR
            have hm := HM.out
            have hin : bb ∈ L.take 200 := by
              rw [List.mem_iff_getElem?]
              exact ⟨k, by rw [List.getElem?_take, if_pos hlt2]; exact H1.out⟩
            have : ((L.take 200).all fun f => decide (f.length ≤ M)) = false := by
              rw [List.all_eq_false]
              exact ⟨_, hin, by simp; omega⟩
            rw [this]; rfl
          have HF := hid hf
          clear hf
          go_wp2
          go_ret
          rw [HF.out]
          exact ⟨rfl, rfl⟩
        · have b1 : ¬ (M : Int) < (m : Int) := by omega
          go_wp2
          go_round
          case rel =>
            refine ⟨k + 1, by omega, by omega, by go_num, ?_⟩
            have hm := HM.out
            have hl := HL.out
            have h1 := H1.out
            have hkl : k < L.length := by omega
            rw [List.take_succ_eq_append_getElem hkl, List.all_append, HA.out]
            have e : L[k] = bb := by rw [List.getElem?_eq_getElem hkl] at h1; injection h1
            rw [e]; simp; omega
          case measure => simp [intOf]; omega
      · have hk3 : k = 200 := by omega
        subst hk3
        have hf : r = decide (n ≤ N) := by
          rw [HR.out]; unfold fewR; rw [HA.out, HL.out]
          simp
        have HF := hid hf
        clear hf
        go_wp2
        go_ret
        rw [HF.out]
        exact ⟨ret_bool (by rw [decide_eq_decide] <;> omega), rfl⟩
    · have hk3 : k = n := by omega
      subst hk3
      have hf : r = decide (k ≤ N) := by
        have hl := HL.out
        have ha := HA.out
        rw [List.take_of_length_le (by omega)] at ha
        rw [HR.out]; unfold fewR; rw [hl, List.take_of_length_le (by omega), ha]
        simp
      have HF := hid hf
      clear hf
      go_wp2
      go_ret
      rw [HF.out]
      exact ⟨ret_bool (by rw [decide_eq_decide] <;> omega), rfl⟩
set_option maxHeartbeats 1000000 in
theorem RSame_yes (A B : Option Addr) (n m c d : Nat) (L M : List (List Int)) (w : World) (hn : n = L.length) (hm : m = M.length) (hn9 : n < 100000) (hL : RAl w A L) (hM : RAl w B M) (h1 : ∀ f ∈ M, f.length ≤ 10000) (heq : L = M.take M.length) :
    Calls Try.prog 17 #[.slice A n c, .slice B m d] w fun e w' => e = .returned (.bool true) ∧ ∃ q, w' = w.drewN q := by
  have hle : n ≤ m := by have := congrArg List.length heq; simp only [List.length_take] at this; omega
  have EQ : Hid (∀ k, k < n → L[k]?.getD [] = M[k]?.getD [] ∧ (M[k]?.getD []).length ≤ 10000) := hid fun k hk => by
    have e : L[k]? = M[k]? := by rw [heq, List.getElem?_take, if_pos (by omega)]
    refine ⟨by rw [e], ?_⟩
    rw [List.getElem?_eq_getElem (show k < M.length by omega)]
    exact h1 _ (List.getElem_mem _)
  have hnm : n = m := by have := congrArg List.length heq; simp only [List.length_take] at this; omega
  subst hnm
  have HL := hid hL; have HM := hid hM; have HN := hid hn; have HMM := hid hm
  clear hL hM h1 heq hn hm
  go_enter Try.func17, Try.ntmps17
  go_wp2
  go_loopw [5] (fun i wr => ∃ k : Nat, k ≤ n ∧ i = .int .i64 k ∧ ∃ q, wr = w.drewN q) (fun i _ => n - (intOf i).toNat)
  case atStart => exact ⟨0, by omega, rfl, 0, rfl⟩
  case round =>
    obtain ⟨k, hk, rfl, q, hw⟩ := hrel
    by_cases hlt : k < n
    · obtain ⟨g1, o1, B1, c1, rfl, x1, x2⟩ := HL.out k (by have := HN.out; omega)
      obtain ⟨g2, o2, B2, c2, rfl, y1, y2⟩ := HM.out k (by have := HMM.out; omega)
      obtain ⟨e1, e2⟩ := EQ.out k hlt
      rw [e1] at x1 x2
      obtain ⟨xs, hxs⟩ : ∃ xs, xs = M[k]?.getD [] := ⟨_, rfl⟩
      rw [← hxs] at x1 x2 y1 y2 e2
      have hsq := fun W (hW : ∃ q, W = w.drewN q) => Same_quiet B1 B2 c1 c2 xs xs W (by obtain ⟨q, rfl⟩ := hW; exact x2) (by obtain ⟨q, rfl⟩ := hW; exact y2) (by omega) (by omega)
      rw [show decide (xs = xs) = true from decide_eq_true rfl] at hsq
      have z1 : wr.cell? ⟨g1, o1 + k, none⟩ = some (.slice B1 xs.length c1) := by rw [hw]; exact x1
      have z2 : wr.cell? ⟨g2, o2 + k, none⟩ = some (.slice B2 xs.length c2) := by rw [hw]; exact y1
      obtain ⟨ln, hln⟩ : ∃ ln, ln = xs.length := ⟨_, rfl⟩
      rw [← hln] at z1 z2 hsq
      have HSQ := hid hsq; have HW := hid hw
      clear x1 x2 y1 y2 e1 e2 hxs hsq hw hln
      go_wp2
      go_quiet ((go_at_call 33; exact Calls.quiet_of (HSQ.out _ ⟨_, by rw [HW.out, World.drewN_drewN]⟩)))
      go_wp2
      go_roundw
      case rel => exact ⟨k + 1, by omega, by go_num, q + nq, by rw [HW.out, World.drewN_drewN]⟩
      case measure => simp [intOf]; omega
    · have HW := hid hw
      clear hw
      obtain rfl : k = n := by omega
      go_wp2
      go_ret
      exact ⟨rfl, q, HW.out⟩
set_option maxHeartbeats 1000000 in
theorem xAhead_yes (A B : Option Addr) (n m c d : Nat) (L M : List (List Int)) (w : World) (hn : n = L.length) (hm : m = M.length) (hn9 : n < 100000) (hL : RAl w A L) (hM : RAl w B M) (h1 : ∀ f ∈ M, f.length ≤ 10000) (heq : L = M.take n) :
    Calls Try.prog 16 #[.slice A n c, .slice B m d] w fun e w' => e = .returned (.bool true) ∧ ∃ q, w' = w.drewN q := by
  have hle : n ≤ m := by have := congrArg List.length heq; simp only [List.length_take] at this; omega
  have EQ : Hid (∀ k, k < n → L[k]?.getD [] = M[k]?.getD [] ∧ (M[k]?.getD []).length ≤ 10000) := hid fun k hk => by
    have e : L[k]? = M[k]? := by rw [heq, List.getElem?_take, if_pos (by omega)]
    refine ⟨by rw [e], ?_⟩
    rw [List.getElem?_eq_getElem (show k < M.length by omega)]
    exact h1 _ (List.getElem_mem _)
  have hgt : ¬ (m : Int) < (n : Int) := by omega
  have HL := hid hL; have HM := hid hM; have HN := hid hn; have HMM := hid hm
  clear hL hM h1 heq hn hm
  go_enter Try.func16, Try.ntmps16
  go_wp2
  go_loopw [5] (fun i wr => ∃ k : Nat, k ≤ n ∧ i = .int .i64 k ∧ ∃ q, wr = w.drewN q) (fun i _ => n - (intOf i).toNat)
  case atStart => exact ⟨0, by omega, rfl, 0, rfl⟩
  case round =>
    obtain ⟨k, hk, rfl, q, hw⟩ := hrel
    by_cases hlt : k < n
    · obtain ⟨g1, o1, B1, c1, rfl, x1, x2⟩ := HL.out k (by have := HN.out; omega)
      obtain ⟨g2, o2, B2, c2, rfl, y1, y2⟩ := HM.out k (by have := HMM.out; omega)
      obtain ⟨e1, e2⟩ := EQ.out k hlt
      rw [e1] at x1 x2
      obtain ⟨xs, hxs⟩ : ∃ xs, xs = M[k]?.getD [] := ⟨_, rfl⟩
      rw [← hxs] at x1 x2 y1 y2 e2
      have hsq := fun W (hW : ∃ q, W = w.drewN q) => Same_quiet B1 B2 c1 c2 xs xs W (by obtain ⟨q, rfl⟩ := hW; exact x2) (by obtain ⟨q, rfl⟩ := hW; exact y2) (by omega) (by omega)
      rw [show decide (xs = xs) = true from decide_eq_true rfl] at hsq
      have z1 : wr.cell? ⟨g1, o1 + k, none⟩ = some (.slice B1 xs.length c1) := by rw [hw]; exact x1
      have z2 : wr.cell? ⟨g2, o2 + k, none⟩ = some (.slice B2 xs.length c2) := by rw [hw]; exact y1
      obtain ⟨ln, hln⟩ : ∃ ln, ln = xs.length := ⟨_, rfl⟩
      rw [← hln] at z1 z2 hsq
      have HSQ := hid hsq; have HW := hid hw
      clear x1 x2 y1 y2 e1 e2 hxs hsq hw hln
      go_wp2
      go_quiet ((go_at_call 33; exact Calls.quiet_of (HSQ.out _ ⟨_, by rw [HW.out, World.drewN_drewN]⟩)))
      go_wp2
      go_roundw
      case rel => exact ⟨k + 1, by omega, by go_num, q + nq, by rw [HW.out, World.drewN_drewN]⟩
      case measure => simp [intOf]; omega
    · have HW := hid hw
      clear hw
      obtain rfl : k = n := by omega
      go_wp2
      go_ret
      exact ⟨rfl, q, HW.out⟩

theorem scn_zero (g : Int) (T a c : Nat) (hf : a + c ≤ T) {l : Int} (hl : 0 < l) : scn ((⟨List.replicate T zpg, [], -1, false⟩ : SS).lp a) c c 0 l = ([], 0, l) := scn_low (G := 0) (fun k hk => by rw [lp_new hf k hk]; exact cg_zpg (Int.le_refl _)) hl c 0
theorem new_bs (T : Nat) : (⟨List.replicate T zpg, [], -1, false⟩ : SS).bs := ⟨fun p hp => by rw [List.eq_of_mem_replicate hp]; exact zpg_bs, fun q hq => by simp at hq⟩
end Go.Proofs.Ythfkooancgkjaaa
