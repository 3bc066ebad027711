/-
  What this file is for: a tree's numbers and nodes in plain mathematics; and what both sides say of how many keys a tree has and how many bytes a signature.
-/
import Derived.Test.YtobceieadjpaaaaDoorMKe1
import Derived.Test.YtobceieadjpaaaaDoorMKa1
import Derived.Test.YtobceieadjpaaaaDoorMKa2
set_option linter.unusedSimpArgs false
set_option linter.unusedVariables false
namespace Go.Proofs.YtobceieadjpaaaaDoor
open Go.ChangeShapes Go.WideShapes Go.ChangeAt Go.RowKit
set_option linter.unusedVariables false
set_option maxRecDepth 20000

/-- how many keys a tree has: none, if there may be no such tree -/
def tkeys (h k : Int) : Nat := if 1 ≤ h ∧ h ≤ 4 ∧ kbits k ≠ 0 then 2 ^ h.toNat else 0
def tsize (h k : Int) : Nat := if tkeys h k = 0 then 0 else 4 + ksize k + 4 + 32 * h.toNat
theorem tkeys_ok {h k : Int} (h1 : 1 ≤ h ∧ h ≤ 4) (hk : Kd k) : tkeys h k = 2 ^ h.toNat := by
  unfold tkeys
  rw [if_pos ⟨h1.1, h1.2, by rcases hk with rfl | rfl | rfl | rfl <;> decide⟩]
theorem tkeys_kd {h k : Int} (hn : tkeys h k ≠ 0) : (1 ≤ h ∧ h ≤ 4) ∧ Kd k := by
  unfold tkeys at hn
  split at hn
  · rename_i hc
    exact ⟨⟨hc.1, hc.2.1⟩, kbits_kd hc.2.2⟩
  · exact absurd rfl hn
theorem tkeys_pos {h k : Int} (h1 : 1 ≤ h ∧ h ≤ 4) (hk : Kd k) : tkeys h k ≠ 0 := by
  rw [tkeys_ok h1 hk]
  exact Nat.pos_iff_ne_zero.1 (Nat.two_pow_pos _)
theorem ht4 {h : Int} (h1 : 1 ≤ h ∧ h ≤ 4) : h = 1 ∨ h = 2 ∨ h = 3 ∨ h = 4 := by omega
theorem tsize_ok {h k : Int} (h1 : 1 ≤ h ∧ h ≤ 4) (hk : Kd k) : tsize h k = 8 + ksize k + 32 * h.toNat := by
  unfold tsize
  rw [if_neg (tkeys_pos h1 hk)]
  omega
theorem kd_not {k : Int} (h : kbits k = 0) : kchains k = 0 := by
  rcases kd_cases k with h1 | h1 | h1 | h1 | h1
  · rw [h1] at h; exact absurd h (by decide)
  · rw [h1] at h; exact absurd h (by decide)
  · rw [h1] at h; exact absurd h (by decide)
  · rw [h1] at h; exact absurd h (by decide)
  · exact kchains_no h1
theorem kd_yes {k : Int} (h : Kd k) : 0 < kchains k := by rcases h with rfl | rfl | rfl | rfl <;> decide
theorem kbits_yes {k : Int} (h : Kd k) : 0 < kbits k := by rcases h with rfl | rfl | rfl | rfl <;> decide

theorem allowed_any (h k : Int) (w : World) : Calls Tryd.prog 51 #[.int .i64 h, .int .i64 k] w fun e w' => e = .returned (.bool (decide (tkeys h k ≠ 0))) ∧ Below w.heap.size w w' := by
  by_cases hb : kbits k = 0
  · have ht : decide (tkeys h k ≠ 0) = false := by unfold tkeys; rw [if_neg (fun hc => hc.2.2 hb)]; rfl
    rw [ht]
    have CC := hid (lChains_any k)
    rw [kd_not hb] at CC
    have B0 : Hid (Below w.heap.size w w) := Below.refl _ _
    clear hb ht
    by_cases h1 : 1 ≤ h
    · by_cases h2 : h ≤ 4
      · go_enter Tryd.func51, Tryd.ntmps51
        go_wp2_with (go_at_call 43; refine (CC.out _).mono ?_; rintro e w1 ⟨rfl, hb1⟩; have B0 := hid hb1; clear hb1)
        go_ret
        exact ⟨rfl, B0.out⟩
      · have h2' : 4 < h := by omega
        clear h2
        go_enter Tryd.func51, Tryd.ntmps51
        go_wp2_with fail
        go_ret
        exact ⟨rfl, B0.out⟩
    · have h1' : h < 1 := by omega
      clear h1
      go_enter Tryd.func51, Tryd.ntmps51
      go_wp2_with fail
      go_ret
      exact ⟨rfl, B0.out⟩
  · have hk := kbits_kd hb
    have hp := kd_yes hk
    have CC := hid (lChains_any k)
    have B0 : Hid (Below w.heap.size w w) := Below.refl _ _
    by_cases h1 : 1 ≤ h
    · by_cases h2 : h ≤ 4
      · have ht : decide (tkeys h k ≠ 0) = true := decide_eq_true (tkeys_pos ⟨h1, h2⟩ hk)
        rw [ht]
        have hp2 : (0 : Int) < (kchains k : Nat) := by omega
        clear hb hk ht hp
        generalize ((kchains k : Nat) : Int) = n at CC hp2
        go_enter Tryd.func51, Tryd.ntmps51
        go_wp2_with (go_at_call 43; refine (CC.out _).mono ?_; rintro e w1 ⟨rfl, hb1⟩; have B0 := hid hb1; clear hb1)
        go_ret
        exact ⟨rfl, B0.out⟩
      · have h2' : 4 < h := by omega
        have ht : decide (tkeys h k ≠ 0) = false := by unfold tkeys; rw [if_neg (fun hc => by omega)]; rfl
        rw [ht]
        clear h2 hb hk hp ht CC
        go_enter Tryd.func51, Tryd.ntmps51
        go_wp2_with fail
        go_ret
        exact ⟨rfl, B0.out⟩
    · have h1' : h < 1 := by omega
      have ht : decide (tkeys h k ≠ 0) = false := by unfold tkeys; rw [if_neg (fun hc => by omega)]; rfl
      rw [ht]
      clear h1 hb hk hp ht CC
      go_enter Tryd.func51, Tryd.ntmps51
      go_wp2_with fail
      go_ret
      exact ⟨rfl, B0.out⟩
theorem ksize_le (k : Int) : ksize k ≤ 10000 := by
  have := kchains_le k
  unfold ksize
  split <;> omega
theorem sSize_any (h k : Int) (w : World) : Calls Tryd.prog 52 #[.int .i64 h, .int .i64 k] w fun e w' => e = .returned (.int .i64 (tsize h k : Nat)) ∧ Below w.heap.size w w' := by
  have CA := hid (allowed_any h k)
  by_cases ht : tkeys h k = 0
  · have e1 : tsize h k = 0 := by unfold tsize; rw [if_pos ht]
    rw [e1]
    have e2 : decide (tkeys h k ≠ 0) = false := decide_eq_false (fun h => h ht)
    rw [e2] at CA
    clear ht e1 e2
    go_enter Tryd.func52, Tryd.ntmps52
    go_wp2_with (go_at_call 51; refine (CA.out _).mono ?_; rintro e w1 ⟨rfl, hb1⟩; have B0 := hid hb1; clear hb1)
    go_ret
    exact ⟨rfl, B0.out⟩
  · obtain ⟨h1, hk⟩ := tkeys_kd ht
    have e1 : ((tsize h k : Nat) : Int) = 4 + (ksize k : Nat) + 4 + 32 * h := by rw [tsize_ok h1 hk]; omega
    rw [e1]
    have e2 : decide (tkeys h k ≠ 0) = true := decide_eq_true ht
    rw [e2] at CA
    have CS := hid (lSize_any k)
    have hs := ksize_le k
    obtain ⟨sz, hsz⟩ : ∃ sz : Int, sz = (ksize k : Nat) := ⟨_, rfl⟩
    have hs0 : 0 ≤ sz ∧ sz ≤ 10000 := by omega
    rw [← hsz] at CS ⊢
    obtain ⟨ha, hb⟩ := h1
    have w1' : IntKind.i64.wrap (4 + sz) = 4 + sz := IntWalk.i64_in _ (by omega)
    have w2' : IntKind.i64.wrap (4 + sz + 4) = 4 + sz + 4 := IntWalk.i64_in _ (by omega)
    have w3' : IntKind.i64.wrap (32 * h) = 32 * h := IntWalk.i64_in _ (by omega)
    have w4' : IntKind.i64.wrap (4 + sz + 4 + 32 * h) = 4 + sz + 4 + 32 * h := IntWalk.i64_in _ (by omega)
    clear ht e1 e2 hk hs hsz
    go_enter Tryd.func52, Tryd.ntmps52
    go_wp2_with (first
      | (go_at_call 51; refine (CA.out _).mono ?_; rintro e w1 ⟨rfl, hb1⟩; have B1 := hid hb1; clear hb1)
      | (go_at_call 44; refine (CS.out _).mono ?_; rintro e w2 ⟨rfl, hb2⟩; have B2 := hid (B1.out.trans (hb2.mono B1.out.size)); clear hb2))
    go_ret
    exact ⟨by simp_all, B2.out⟩
set_option maxHeartbeats 1000000 in
theorem tKeys_any (h k : Int) (w : World) : Calls Tryd.prog 55 #[.int .i64 h, .int .i64 k] w fun e w' => e = .returned (.int .i64 (tkeys h k : Nat)) ∧ w = w' := by
  have CB := hid (kBits_any k)
  by_cases ht : tkeys h k = 0
  · rw [ht]
    by_cases h1 : 1 ≤ h
    · by_cases h2 : h ≤ 4
      · have hb : kbits k = 0 := by
          rcases Nat.eq_zero_or_pos (kbits k) with h0 | h0
          · exact h0
          · exact absurd ht (tkeys_pos ⟨h1, h2⟩ (kbits_kd (by omega)))
        rw [hb] at CB
        clear ht hb
        go_enter Tryd.func55, Tryd.ntmps55
        go_wp2_with (go_at_call 82; refine (CB.out _).mono ?_; rintro e w1 ⟨rfl, rfl⟩)
        go_ret
        exact ⟨rfl, rfl⟩
      · have h2' : 4 < h := by omega
        clear h2 ht CB
        go_enter Tryd.func55, Tryd.ntmps55
        go_wp2_with fail
        go_ret
        exact ⟨rfl, rfl⟩
    · have h1' : h < 1 := by omega
      clear h1 ht CB
      go_enter Tryd.func55, Tryd.ntmps55
      go_wp2_with fail
      go_ret
      exact ⟨rfl, rfl⟩
  · obtain ⟨h1, hk⟩ := tkeys_kd ht
    have hb := kbits_yes hk
    rw [tkeys_ok h1 hk]
    have hb0 : (((kbits k : Nat) : Int) == 0) = false := by simp; omega
    have hb1 : ((kbits k : Nat) : Int) ≠ 0 := by omega
    generalize ((kbits k : Nat) : Int) = bb at CB hb0 hb1
    obtain ⟨n, rfl⟩ : ∃ n : Nat, h = n := ⟨h.toNat, by omega⟩
    obtain ⟨ha1, ha2⟩ := h1
    have hn1 : 1 ≤ n := by omega
    have hn2 : n ≤ 4 := by omega
    rw [show ((n : Int)).toNat = n by omega]
    clear ht hk hb
    go_enter Tryd.func55, Tryd.ntmps55
    go_wp2_with (go_at_call 82; refine (CB.out _).mono ?_; rintro e w1 ⟨rfl, rfl⟩)
    go_loop [5, 6] (fun v i => ∃ j : Nat, j ≤ n ∧ i = .int .i64 j ∧ v = .int .i64 (2 ^ j : Nat)) (fun _ i => n - (intOf i).toNat)
    case atStart => exact ⟨0, Nat.zero_le _, rfl, rfl⟩
    case round =>
      obtain ⟨j, hj, rfl, rfl⟩ := hrel
      by_cases hlt : j < n
      · have hp : 2 ^ j ≤ 2 ^ 4 := Nat.pow_le_pow_right (by omega) (by omega)
        have hs : 2 ^ (j + 1) = 2 * 2 ^ j := by rw [Nat.pow_succ]; omega
        generalize 2 ^ j = x at hp hs ⊢
        go_wp2
        go_round
        case rel => exact ⟨j + 1, by omega, by go_num, by rw [hs]; go_num⟩
        case measure => simp [intOf]; omega
      · obtain rfl : j = n := by omega
        go_wp2
        go_ret
        exact ⟨rfl, rfl⟩
theorem tSize_any (h k : Int) (w : World) : Calls Tryd.prog 56 #[.int .i64 h, .int .i64 k] w fun e w' => e = .returned (.int .i64 (tsize h k : Nat)) ∧ w = w' := by
  have CA := hid (tKeys_any h k)
  by_cases ht : tkeys h k = 0
  · have e1 : tsize h k = 0 := by unfold tsize; rw [if_pos ht]
    rw [e1]
    rw [ht] at CA
    clear ht e1
    go_enter Tryd.func56, Tryd.ntmps56
    go_wp2_with (go_at_call 55; refine (CA.out _).mono ?_; rintro e w1 ⟨rfl, rfl⟩)
    go_ret
    exact ⟨rfl, rfl⟩
  · obtain ⟨h1, hk⟩ := tkeys_kd ht
    have e1 : ((tsize h k : Nat) : Int) = 4 + (ksize k : Nat) + 4 + 32 * h := by rw [tsize_ok h1 hk]; omega
    rw [e1]
    have e2 : (((tkeys h k : Nat) : Int) == 0) = false := by simp; exact ht
    have e3 : ((tkeys h k : Nat) : Int) ≠ 0 := by omega
    generalize ((tkeys h k : Nat) : Int) = tk at CA e2 e3
    have CS := hid (kSize_any k)
    have hs := ksize_le k
    obtain ⟨sz, hsz⟩ : ∃ sz : Int, sz = (ksize k : Nat) := ⟨_, rfl⟩
    have hs0 : 0 ≤ sz ∧ sz ≤ 10000 := by omega
    rw [← hsz] at CS ⊢
    obtain ⟨ha, hb⟩ := h1
    have w1' : IntKind.i64.wrap (4 + sz) = 4 + sz := IntWalk.i64_in _ (by omega)
    have w2' : IntKind.i64.wrap (4 + sz + 4) = 4 + sz + 4 := IntWalk.i64_in _ (by omega)
    have w3' : IntKind.i64.wrap (32 * h) = 32 * h := IntWalk.i64_in _ (by omega)
    have w4' : IntKind.i64.wrap (4 + sz + 4 + 32 * h) = 4 + sz + 4 + 32 * h := IntWalk.i64_in _ (by omega)
    clear ht e1 hk hs hsz
    go_enter Tryd.func56, Tryd.ntmps56
    go_wp2_with (first
      | (go_at_call 55; refine (CA.out _).mono ?_; rintro e w1 ⟨rfl, rfl⟩)
      | (go_at_call 57; refine (CS.out _).mono ?_; rintro e w2 ⟨rfl, rfl⟩))
    go_ret
    exact ⟨by simp_all, rfl⟩
end Go.Proofs.YtobceieadjpaaaaDoor
/-
  What this file is for: a tree's nodes, its public key, its paths and signatures, in plain mathematics. Nothing of the program is walked here.
-/
namespace Go.Proofs.YtobceieadjpaaaaDoor
open Go.ChangeShapes Go.WideShapes Go.ChangeAt Go.RowKit
set_option linter.unusedVariables false

/-- the node r of a tree of K keys -/
def nd (k : Int) (id sd : List Int) (K r : Nat) : List Int :=
  if K ≤ r ∨ r = 0 then under id r 33410 (pubK k id ((r : Int) - (K : Int)) sd) else under id r 33667 (nd k id sd K (2 * r) ++ nd k id sd K (2 * r + 1))
termination_by K - r
theorem nd_ky (k : Int) (id sd : List Int) (K r : Nat) : Ky (nd k id sd K r) := by
  unfold nd
  split <;> exact under_ky _ _ _ _
theorem nd_leaf (k : Int) (id sd : List Int) {K r : Nat} (h : K ≤ r) : nd k id sd K r = under id r 33410 (pubK k id ((r : Int) - (K : Int)) sd) := by
  unfold nd
  rw [if_pos (.inl h)]
theorem nd_branch (k : Int) (id sd : List Int) {K r : Nat} (h : r < K) (h0 : 0 < r) : nd k id sd K r = under id r 33667 (nd k id sd K (2 * r) ++ nd k id sd K (2 * r + 1)) := by
  rw [nd, if_neg (by omega)]
/-- the node beside -/
def bsd (r : Nat) : Nat := r + 1 - 2 * (r % 2)
/-- the path from r up, so many steps -/
def pth (f : Nat → List Int) : Nat → Nat → List Int
  | 0, _ => []
  | n + 1, r => f (bsd r) ++ pth f n (r / 2)
theorem pth_length (f : Nat → List Int) (hf : ∀ r, (f r).length = 32) (n r : Nat) : (pth f n r).length = 32 * n := by
  induction n generalizing r with
  | zero => rfl
  | succ n ih => unfold pth; rw [List.length_append, hf, ih]; omega
def pbt (h k : Int) (id sd : List Int) : List Int := be h 4 ++ be k 4 ++ id ++ nd k id sd (tkeys h k) 1
def sgt (h k : Int) (id sd : List Int) (q : Nat) (msg : List Int) : List Int :=
  be (q : Int) 4 ++ signK k id q sd msg ++ be h 4 ++ pth (nd k id sd (tkeys h k)) h.toNat (tkeys h k + q)
theorem pbt_length (h k : Int) {id : List Int} (hi : id.length = 16) (sd : List Int) : (pbt h k id sd).length = 56 := by
  unfold pbt
  simp only [List.length_append, be_length, hi, (nd_ky k id sd _ _).len]
/-- one step up: r's hash h, and the one beside -/
def upn (id : List Int) (r : Nat) (h b : List Int) : List Int := under id ((r / 2 : Nat) : Int) 33667 (if r % 2 = 0 then h ++ b else b ++ h)
/-- so many steps up by the path -/
def clm (id : List Int) : Nat → Nat → List Int → List Int → List Int
  | 0, _, h, _ => h
  | n + 1, r, h, p => clm id n (r / 2) (upn id r h (p.take 32)) (p.drop 32)
theorem clm_ky (id : List Int) (n r : Nat) (h p : List Int) (hh : Ky h) : Ky (clm id n r h p) := by
  induction n generalizing r h p with
  | zero => exact hh
  | succ n ih => exact ih _ _ _ (under_ky _ _ _ _)
/-- a tree's own path leads to its own node 1 -/
theorem climb_path (k : Int) (id sd : List Int) (K n r : Nat) (hr : 2 ^ n ≤ r ∧ r < 2 ^ (n + 1)) (hK : r < 2 * K) : clm id n r (nd k id sd K r) (pth (nd k id sd K) n r) = nd k id sd K 1 := by
  induction n generalizing r with
  | zero =>
    have : r = 1 := by simp at hr; omega
    subst this; rfl
  | succ n ih =>
    have h2 : 2 ^ (n + 1) = 2 * 2 ^ n := by rw [Nat.pow_succ]; omega
    have h3 : 2 ^ (n + 1 + 1) = 2 * 2 ^ (n + 1) := by rw [Nat.pow_succ]; omega
    have hp : 0 < 2 ^ n := Nat.two_pow_pos n
    unfold pth clm
    have hl : (nd k id sd K (bsd r)).length = 32 := (nd_ky _ _ _ _ _).len
    rw [List.take_append_of_le_length (by omega), List.take_of_length_le (by omega), List.drop_append_of_le_length (by omega), List.drop_of_length_le (by omega), List.nil_append]
    have hu : upn id r (nd k id sd K r) (nd k id sd K (bsd r)) = nd k id sd K (r / 2) := by
      rw [nd_branch k id sd (K := K) (r := r / 2) (by omega) (by omega)]
      unfold upn bsd
      rcases Nat.mod_two_eq_zero_or_one r with hm | hm
      · rw [if_pos hm, hm, show r + 1 - 2 * 0 = 2 * (r / 2) + 1 by omega, show r = 2 * (r / 2) by omega]
        rw [show 2 * (r / 2) / 2 = r / 2 by omega]
      · rw [if_neg (by omega), hm, show r + 1 - 2 * 1 = 2 * (r / 2) by omega]
        conv => lhs; rw [show nd k id sd K r = nd k id sd K (2 * (r / 2) + 1) by rw [show 2 * (r / 2) + 1 = r by omega]]
    rw [hu]
    exact ih (r / 2) ⟨by omega, by omega⟩ (by omega)
end Go.Proofs.YtobceieadjpaaaaDoor
