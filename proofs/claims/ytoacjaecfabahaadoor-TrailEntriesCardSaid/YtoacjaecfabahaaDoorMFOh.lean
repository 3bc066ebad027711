/-
  What is proved here: the document's Of refuses what may not be.
-/
import Derived.Test.YtoacjaecfabahaaDoorMFOg
set_option linter.unusedSimpArgs false
set_option linter.unusedVariables false
namespace Go.Proofs.YtoacjaecfabahaaDoor
open Go.ChangeShapes Go.WideShapes Go.ChangeAt Go.RowKit
set_option linter.unusedVariables false
set_option linter.unusedSimpArgs false
set_option maxRecDepth 20000

set_option maxHeartbeats 4000000 in
theorem gOf_no {w : World} {a : Int} {A : Option Addr} {n c : Nat} (hn : n < 1000000) (ha : -9223372036854775808 ≤ a ∧ a ≤ 9223372036854775807) (h : a < 0 ∨ 2147483647 - (n : Int) < a) : Calls Tryd.prog 14 #[.int .i64 a, .slice A n c] w (RgNo w) := by
  have KR := hid (Blk.new w 29 (rgc 0 0 (.slice none 0 0)))
  have B1 := hid ((Below.refl w.heap.size w).alloc (Nat.le_refl _) (.cells (rgc 0 0 (.slice none 0 0)) 29))
  have HI := hid (info_gRng 0 0 (.slice none 0 0))
  have hz := zero_gRng
  unfold RgNo
  go_enter Tryd.func14, Tryd.ntmps14
  by_cases h1 : a < 0
  · clear h
    go_wp2_with (first
      | (refine wpList_buildTo rfl 29 #[] rfl (some 22) rfl (rgc 0 0 (.slice none 0 0)) built_gRng0 ?_)
      | (refine wpList_store_row rfl 29 (.tmp 4) (.tmp 22) rfl w.heap.size (rgc 0 0 (.slice none 0 0)) rfl rfl 29 (rgc 0 0 (.slice none 0 0)) KR.out HI.out rfl rfl ?_))
    try go_frame
    refine bodyPost_ret (results_cell_slot Tryd.results14 _ _ w.heap.size 29 (rgc 0 0 (.slice none 0 0)) (0, 0) _ rfl KR.out Tryd.underlying29 rfl HI.out) rfl ?_
    exact ⟨rfl, B1.out⟩
  · by_cases h2 : (2147483647 : Int) < a
    · clear h
      go_wp2_with (first
        | (refine wpList_buildTo rfl 29 #[] rfl (some 22) rfl (rgc 0 0 (.slice none 0 0)) built_gRng0 ?_)
        | (refine wpList_store_row rfl 29 (.tmp 4) (.tmp 22) rfl w.heap.size (rgc 0 0 (.slice none 0 0)) rfl rfl 29 (rgc 0 0 (.slice none 0 0)) KR.out HI.out rfl rfl ?_))
      try go_frame
      refine bodyPost_ret (results_cell_slot Tryd.results14 _ _ w.heap.size 29 (rgc 0 0 (.slice none 0 0)) (0, 0) _ rfl KR.out Tryd.underlying29 rfl HI.out) rfl ?_
      exact ⟨rfl, B1.out⟩
    · have h3 : (2147483647 : Int) - a < (n : Int) := by omega
      clear h
      go_wp2_with (first
        | (refine wpList_buildTo rfl 29 #[] rfl (some 22) rfl (rgc 0 0 (.slice none 0 0)) built_gRng0 ?_)
        | (refine wpList_store_row rfl 29 (.tmp 4) (.tmp 22) rfl w.heap.size (rgc 0 0 (.slice none 0 0)) rfl rfl 29 (rgc 0 0 (.slice none 0 0)) KR.out HI.out rfl rfl ?_))
      try go_frame
      refine bodyPost_ret (results_cell_slot Tryd.results14 _ _ w.heap.size 29 (rgc 0 0 (.slice none 0 0)) (0, 0) _ rfl KR.out Tryd.underlying29 rfl HI.out) rfl ?_
      exact ⟨rfl, B1.out⟩
def OfA (w : World) (x y : Int) (Y : List (List Int)) (q : Int) (e : Ending) (w' : World) : Prop := ∃ A n c, e = .returned (.tuple #[.agg (rgc x y (.slice A n c)), .int .i64 q]) ∧ InH w' A n Y ∧ n ≤ c ∧ Below w.heap.size w w' ∧ ∀ b o, A = some ⟨b, o, none⟩ → w.heap.size ≤ b
theorem ofa_yes {w : World} {x y : Int} {Y : List (List Int)} {e : Ending} {w' : World} (h : RgYes w x y Y e w') : OfA w x y Y 0 e w' := by
  obtain ⟨v, he, ho, hb⟩ := h
  obtain ⟨A, c, hv, h1, h2⟩ := ho.len
  subst hv
  exact ⟨A, _, c, he, ho.in, by omega, hb, fun b o ha => (ho.lt b (by rw [ha]; rfl)).1⟩
theorem ofa_no {w : World} {e : Ending} {w' : World} (h : RgNo w e w') : OfA w 0 0 [] 1 e w' :=
  ⟨none, 0, 0, h.1, InH.nil _ _, Nat.le_refl _, h.2, fun b o e => by cases e⟩
/-- whether Of refuses -/
def ofB (a : Int) (n : Nat) : Prop := a < 0 ∨ 2147483647 - (n : Int) < a
instance (a : Int) (n : Nat) : Decidable (ofB a n) := by unfold ofB; infer_instance
/-- what Of answers: from, to, hashes, error -/
def ofX (a : Int) (n : Nat) : Int := if ofB a n then 0 else a
def ofY (a : Int) (n : Nat) : Int := if ofB a n then 0 else a + (n : Int)
def ofQ (a : Int) (n : Nat) : Int := if ofB a n then 1 else 0
def ofH (a : Int) (L : List (List Int)) : List (List Int) := if ofB a L.length then [] else hsT (tw ndF fun p => L[p - a.toNat]?.getD []) a.toNat (seg a.toNat (a.toNat + L.length))
theorem fOf_x {w : World} {a : Int} {A : Option Addr} {n c : Nat} {L : List (List Int)} (hIn : InH w A n L) (hn : n ≤ 800) (hT : Tab w) : Calls Tryd.prog 13 #[.int .i64 a, .slice A n c] w (OfA w (ofX a n) (ofY a n) (ofH a L) (ofQ a n)) := by
  have hl := hIn.1
  unfold ofX ofY ofH ofQ
  rw [hl]
  by_cases hb : ofB a n
  · simp only [if_pos hb]
    exact (fOf_no (by omega) hb).mono fun e w' h => ofa_no h
  · simp only [if_neg hb]
    unfold ofB at hb
    obtain ⟨x, rfl⟩ : ∃ x : Nat, a = (x : Int) := ⟨a.toNat, by omega⟩
    rw [Int.toNat_natCast]
    have h2 := lst_of [] x L
    rw [hl] at h2
    rw [h2] at hIn
    exact (fOf_yes hIn hn (by omega) hT).mono fun e w' h => ofa_yes h
theorem gOf_x {w : World} {a : Int} {A : Option Addr} {n c : Nat} {L : List (List Int)} (hIn : InH w A n L) (hn : n ≤ 800) (hnc : n ≤ c) (ha : -9223372036854775808 ≤ a ∧ a ≤ 9223372036854775807) : Calls Tryd.prog 14 #[.int .i64 a, .slice A n c] w (OfA w (ofX a n) (ofY a n) (ofH a L) (ofQ a n)) := by
  have hl := hIn.1
  unfold ofX ofY ofH ofQ
  rw [hl]
  by_cases hb : ofB a n
  · simp only [if_pos hb]
    exact (gOf_no (by omega) ha hb).mono fun e w' h => ofa_no h
  · simp only [if_neg hb]
    unfold ofB at hb
    obtain ⟨x, rfl⟩ : ∃ x : Nat, a = (x : Int) := ⟨a.toNat, by omega⟩
    rw [Int.toNat_natCast]
    have h2 := lst_of [] x L
    rw [hl] at h2
    rw [h2] at hIn
    exact (gOf_yes hIn hn hnc (by omega)).mono fun e w' h => ofa_yes h
end Go.Proofs.YtoacjaecfabahaaDoor
