/-
  What is proved here: the log's small functions: the place of a page, what a part is of its record, how many parts there are, whether bytes are all noughts, whether a page goes on.
-/
import Derived.Test.YthfkooancgkjaaaMWaM
import Derived.Test.YthfkooancgkjaaaMRowsR
import Derived.Test.YthfkooancgkjaaaMB1
set_option linter.unusedSimpArgs false
set_option linter.unusedVariables false
namespace Go.Proofs.Ythfkooancgkjaaa
open Go.ChangeShapes Go.WideShapes Go.ChangeAt Go.RowKit
set_option linter.unusedVariables false
set_option maxRecDepth 20000

theorem wplace_any (j : Nat) (w : World) (h : j < 100000) : Calls Try.prog 64 #[.int .i64 j] w fun e w' => e = .returned (.int .u32 ((j : Int) + 1)) ∧ w = w' := by
  have e1 : IntKind.u32.wrap ((j : Int) + 1) = (j : Int) + 1 := by rw [(show ∀ x, IntKind.u32.wrap x = x % 4294967296 by intro x; rfl)]; omega
  go_enter Try.func64, Try.ntmps64
  go_wp2
  go_ret
  exact ⟨by simp_all, rfl⟩
theorem wkind_any (j n : Nat) (w : World) (hn : n < 100000) : Calls Try.prog 47 #[.int .i64 j, .int .i64 n] w fun e w' => e = .returned (.int .i64 (kdI j n)) ∧ w = w' := by
  unfold kdI
  by_cases h0 : j = 0
  · subst h0
    by_cases h1 : n = 1
    · subst h1
      go_enter Try.func47, Try.ntmps47
      go_wp2
      go_ret
      exact ⟨rfl, rfl⟩
    · have h2 : ¬ 0 + 1 = n := by omega
      have h3 : ((0 : Int) == (n : Int) - 1) = false := by simp; omega
      rw [if_pos rfl, if_neg h2]
      clear h1 h2
      go_enter Try.func47, Try.ntmps47
      go_wp2
      go_ret
      exact ⟨rfl, rfl⟩
  · have g0 : ((j : Int) == 0) = false := by simp; omega
    by_cases h1 : j + 1 = n
    · have h3 : ((j : Int) == (n : Int) - 1) = true := by simp; omega
      rw [if_neg h0, if_pos h1]
      clear h0 h1
      go_enter Try.func47, Try.ntmps47
      go_wp2
      go_ret
      exact ⟨rfl, rfl⟩
    · have h3 : ((j : Int) == (n : Int) - 1) = false := by simp; omega
      rw [if_neg h0, if_neg h1]
      clear h0 h1
      go_enter Try.func47, Try.ntmps47
      go_wp2
      go_ret
      exact ⟨rfl, rfl⟩
theorem wparts_any (n : Nat) (w : World) (hn : n < 1000000000000) : Calls Try.prog 30 #[.int .i64 n] w fun e w' => e = .returned (.int .i64 (np n)) ∧ w = w' := by
  have h0 : ¬ (n : Int) < 0 := by omega
  by_cases h1 : n = 0
  · subst h1
    go_enter Try.func30, Try.ntmps30
    go_wp2
    go_ret
    exact ⟨rfl, rfl⟩
  · have h2 : (1 : Int) ≤ (n : Int) := by omega
    have e1 : ((n : Int) - 1) / 110 + 1 = ((np n : Nat) : Int) := by unfold np; omega
    have E1 := hid e1
    clear e1
    go_enter Try.func30, Try.ntmps30
    go_wp2
    go_ret
    exact ⟨by rw [← E1.out]; rfl, rfl⟩

theorem xparts_any (n : Nat) (w : World) (hn : n < 1000000000000) : Calls Try.prog 18 #[.int .i64 n] w fun e w' => e = .returned (.int .i64 (np n)) ∧ w = w' := by
  have h0 : ¬ (n : Int) < 0 := by omega
  by_cases h1 : n = 0
  · subst h1
    go_enter Try.func18, Try.ntmps18
    go_wp2
    go_ret
    exact ⟨rfl, rfl⟩
  · have h2 : ((n : Int) == 0) = false := by simp; omega
    go_enter Try.func18, Try.ntmps18
    go_wp2
    go_loop [0, 3] (fun x k => ∃ i : Nat, k = .int .i64 i ∧ x = .int .i64 ((n : Int) - 110 * i) ∧ 110 * i < n + 110) (fun x _ => (intOf x).toNat)
    case atStart => exact ⟨0, rfl, by simp, by omega⟩
    case round =>
      obtain ⟨i, rfl, rfl, hi⟩ := hrel
      by_cases hlt : 0 < (n : Int) - 110 * i
      · have b1 : (0 : Int) < (n : Int) - 110 * i := hlt
        go_wp2
        go_round
        case rel => exact ⟨i + 1, by go_num, by simp; omega, by omega⟩
        case measure => simp [intOf]; omega
      · have e1 : i = np n := by unfold np; omega
        subst e1
        go_wp2
        go_ret
        exact ⟨rfl, rfl⟩
theorem wother_any (x : Int) (w : World) : Calls Try.prog 81 #[.int .u8 x] w fun e w' => e = .returned (.bool (x != 0)) ∧ w = w' := by
  go_enter Try.func81, Try.ntmps81
  go_wp2
  go_ret
  exact ⟨rfl, rfl⟩
/-- whether there is a byte other than nought -/
def oth (l : List Int) : Bool := l.any (fun y => y != 0)
theorem oth_iff (l : List Int) : oth l = false ↔ ∀ y ∈ l, y = 0 := by unfold oth; simp
theorem oth_drop {l : List Int} {k : Nat} (h : k < l.length) : oth (l.drop k) = ((l[k]?.getD 0 != 0) || oth (l.drop (k + 1))) := by
  rw [List.drop_eq_getElem_cons h, List.getElem?_eq_getElem h]; rfl
set_option maxHeartbeats 1000000 in
theorem windex_any (A : Option Addr) (n c : Nat) (xs : List Int) (w : World) (hr : Rp w none A xs) (hn : n = xs.length) (hx : n < 100000) :
    Calls Try.prog 82 #[.slice A n c, .func (.func 81) #[] #[]] w fun e w' => (∃ i : Int, e = .returned (.int .i64 i) ∧ decide (0 ≤ i) = oth xs) ∧ w = w' := by
  have HR := hid hr; have HN := hid hn
  clear hr hn
  go_enter Try.func82, Try.ntmps82
  go_wp2
  go_loop [8] (fun i => ∃ k : Nat, k ≤ n ∧ i = .int .i64 k ∧ Hid (oth xs = oth (xs.drop k))) (fun i => n - (intOf i).toNat)
  case atStart => exact ⟨0, by omega, rfl, by show _ = _; simp⟩
  case round =>
    obtain ⟨k, hk, rfl, HK⟩ := hrel
    by_cases hlt : k < n
    · obtain ⟨ad, rfl, hc⟩ := HR.out.get (by have := HN.out; omega)
      have hck := hc k (by have := HN.out; omega)
      obtain ⟨y, hy⟩ : ∃ y, y = xs[k]?.getD 0 := ⟨_, rfl⟩
      rw [← hy] at hck
      have HS : Hid (oth xs = ((y != 0) || oth (xs.drop (k + 1)))) := by show _ = _; rw [HK.out, oth_drop (by have := HN.out; omega), hy]
      clear hy hc
      have CO := hid (wother_any y w)
      by_cases h0 : y = 0
      · have g0 : (y != 0) = false := by simp [h0]
        rw [g0] at CO HS
        clear h0 g0
        go_wp2_with (go_at_call 81; refine CO.out.mono ?_; rintro e w1 ⟨rfl, rfl⟩)
        go_round
        case rel => exact ⟨k + 1, by omega, by go_num, by have := HS.out; show _ = _; simpa using this⟩
        case measure => simp [intOf]; omega
      · have g0 : (y != 0) = true := by simp [h0]
        rw [g0] at CO HS
        clear h0 g0
        go_wp2_with (go_at_call 81; refine CO.out.mono ?_; rintro e w1 ⟨rfl, rfl⟩)
        go_ret
        exact ⟨⟨_, rfl, by rw [HS.out]; simp⟩, rfl⟩
    · obtain rfl : k = n := by omega
      have HS : Hid (oth xs = false) := by show _ = _; rw [HK.out, List.drop_eq_nil_of_le (by have := HN.out; omega)]; rfl
      go_wp2
      go_ret
      exact ⟨⟨_, rfl, by rw [HS.out]; rfl⟩, rfl⟩
theorem wcontains_any (A : Option Addr) (n c : Nat) (xs : List Int) (w : World) (hr : Rp w none A xs) (hn : n = xs.length) (hx : n < 100000) :
    Calls Try.prog 80 #[.slice A n c, .func (.func 81) #[] #[]] w fun e w' => e = .returned (.bool (oth xs)) ∧ w = w' := by
  have CI := hid (windex_any A n c xs w hr hn hx)
  clear hr hn
  go_enter Try.func80, Try.ntmps80
  go_wp2_with (go_at_call 82; refine CI.out.mono ?_; rintro e w1 ⟨⟨i, rfl, hi⟩, rfl⟩; have HI := hid hi; clear hi)
  go_ret
  exact ⟨by rw [← HI.out]; rfl, rfl⟩
end Go.Proofs.Ythfkooancgkjaaa
