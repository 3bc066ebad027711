/-
  What is proved here: a log in memory; how many pages it has left; what it answers for its device's error; whether a page goes on from the one ahead.
-/
import Derived.Test.YthfkooancgkjaaaMWa1
set_option linter.unusedSimpArgs false
set_option linter.unusedVariables false
namespace Go.Proofs.Ythfkooancgkjaaa
open Go.ChangeShapes Go.WideShapes Go.ChangeAt Go.RowKit
set_option linter.unusedVariables false
set_option maxRecDepth 20000

/-- a log's cells -/
def lgC (b a c : Nat) (l : LS) : Array Value := #[.pointer (some ⟨b, 0, none⟩), .int .i64 a, .int .i64 c, .int .i64 l.n, .int .u32 l.g, .bool l.o]
theorem wroom_any (lb b a c : Nat) (l : LS) (w : World) (hl : Blk w lb 90 (lgC b a c l)) (hc : c < 100000) (hn : l.n ≤ c) :
    Calls Try.prog 34 #[.pointer (some ⟨lb, 0, none⟩)] w fun e w' => e = .returned (.int .i64 ((c : Int) - l.n)) ∧ ∃ q, w' = w.drewN q := by
  have c2 : w.cell? ⟨lb, 2, none⟩ = some (.int .i64 c) := hl.cell 2
  have c3 : w.cell? ⟨lb, 3, none⟩ = some (.int .i64 l.n) := hl.cell 3
  clear hl
  go_enter Try.func34, Try.ntmps34
  go_wp2
  go_region
  go_wp2
  go_ret
  exact ⟨rfl, _, rfl⟩
theorem wrefuse_any (lb b a c : Nat) (l : LS) (r : Int) (w : World) (hl : Blk w lb 90 (lgC b a c l)) (ho : l.o = false) :
    Calls Try.prog 48 #[.pointer (some ⟨lb, 0, none⟩), .int .i64 r] w fun e w' => e = .returned (.int .i64 r) ∧ Blk w' lb 90 (lgC b a c ⟨l.g, l.n, decide (r = 6)⟩) ∧ OnlyS (fun k => k = lb) w w' := by
  by_cases h6 : r = 6
  · subst h6
    have c5 : w.cell? ⟨lb, 5, none⟩ = some (.bool l.o) := hl.cell 5
    have f5 : w.frozen? ⟨lb, 5, none⟩ = false := hl.frozen 5
    have N0 : Hid (Blk (w.setCell ⟨lb, 5, none⟩ (.bool true)) lb 90 (lgC b a c ⟨l.g, l.n, decide ((6 : Int) = 6)⟩)) := hl.setd 5 _
    have HO : Hid (OnlyS (fun k => k = lb) w (w.setCell ⟨lb, 5, none⟩ (.bool true))) := hid (only_set (R := fun k => k = lb) rfl _ _)
    clear hl
    go_enter Try.func48, Try.ntmps48
    go_wp2
    go_ret
    exact ⟨rfl, N0.out, HO.out⟩
  · have g6 : (r == 6) = false := by simpa using h6
    have N0 : Hid (Blk w lb 90 (lgC b a c ⟨l.g, l.n, decide (r = 6)⟩)) := by show Blk _ _ _ _; rw [decide_eq_false h6, ← ho]; exact hl
    clear hl h6
    go_enter Try.func48, Try.ntmps48
    go_wp2
    go_ret
    exact ⟨rfl, N0.out, OnlyS.refl _ _⟩
/-- whether a page goes on from the one ahead -/
def fitB (begun : Bool) (l g kd : Int) : Bool := if begun then decide (kd % 2 = 0 ∧ g = l) else decide (kd % 2 = 1 ∧ l ≤ g)
theorem and_one (kd : Int) (h : 0 ≤ kd ∧ kd ≤ 3) : bits .and .i64 kd 1 = kd % 2 := by
  have : kd = 0 ∨ kd = 1 ∨ kd = 2 ∨ kd = 3 := by omega
  rcases this with rfl | rfl | rfl | rfl <;> decide
theorem and_two (kd : Int) (h : 0 ≤ kd ∧ kd ≤ 3) : bits .and .i64 kd 2 = if 2 ≤ kd then 2 else 0 := by
  have : kd = 0 ∨ kd = 1 ∨ kd = 2 ∨ kd = 3 := by omega
  rcases this with rfl | rfl | rfl | rfl <;> decide
set_option maxHeartbeats 1000000 in
theorem wfits_any (q g kd l : Int) (V : Option Addr) (n c : Nat) (begun : Bool) (w : World) (hk : 0 ≤ kd ∧ kd ≤ 3) :
    Calls Try.prog 75 #[.agg #[.int .u32 q, .int .u32 g, .int .i64 kd, .slice V n c], .bool begun, .int .u32 l] w fun e w' => e = .returned (.bool (fitB begun l g kd)) ∧ Below w.heap.size w w' := by
  have a1 := and_one kd hk
  have B0 : Hid (Below w.heap.size w (w.alloc (.cells #[.int .u32 q, .int .u32 g, .int .i64 kd, .slice V n c] 123))) := (Below.refl _ _).alloc (Nat.le_refl _) _
  obtain ⟨z, hz⟩ : ∃ z, z = kd % 2 := ⟨_, rfl⟩
  have hz2 : z = 0 ∨ z = 1 := by omega
  unfold fitB
  rw [← hz] at a1 ⊢
  clear hz hk
  cases begun with
  | true =>
    rw [if_pos rfl]
    rcases hz2 with rfl | rfl
    · by_cases hg : g = l
      · have hgl : (g == l) = true := by simpa using hg
        rw [decide_eq_true ⟨rfl, hg⟩]
        clear hg
        go_enter Try.func75, Try.ntmps75
        go_wp2
        go_ret
        exact ⟨rfl, B0.out⟩
      · have hgl : (g == l) = false := by simpa using hg
        rw [decide_eq_false (fun h => hg h.2)]
        clear hg
        go_enter Try.func75, Try.ntmps75
        go_wp2
        go_ret
        exact ⟨rfl, B0.out⟩
    · rw [decide_eq_false (fun h => by have := h.1; omega)]
      go_enter Try.func75, Try.ntmps75
      go_wp2
      go_ret
      exact ⟨rfl, B0.out⟩
  | false =>
    rw [if_neg (by decide)]
    rcases hz2 with rfl | rfl
    · rw [decide_eq_false (fun h => by have := h.1; omega)]
      go_enter Try.func75, Try.ntmps75
      go_wp2
      go_ret
      exact ⟨rfl, B0.out⟩
    · by_cases hg : l ≤ g
      · have hgl : decide (l ≤ g) = true := by simpa using hg
        rw [decide_eq_true (p := (1 : Int) = 1 ∧ l ≤ g) ⟨rfl, hg⟩]
        go_enter Try.func75, Try.ntmps75
        go_wp2
        go_ret
        exact ⟨by first | rfl | simp_all, B0.out⟩
      · have hgl : decide (l ≤ g) = false := by simpa using hg
        rw [decide_eq_false (p := (1 : Int) = 1 ∧ l ≤ g) (fun h => hg h.2)]
        go_enter Try.func75, Try.ntmps75
        go_wp2
        go_ret
        exact ⟨by first | rfl | simp_all, B0.out⟩
end Go.Proofs.Ythfkooancgkjaaa
