/-
  What is proved here: a device of the code in memory; made; how many pages it has, and writes that wait; whether it is down; whether it has a page; its fuse.
-/
import Derived.Test.YtjdojnbpchommaaDMath
import Derived.Laws.Tables
namespace Go.Proofs.Ytjdojnbpchommaa
open Go.ChangeShapes Go.WideShapes Go.ChangeAt Go.RowKit
set_option linter.unusedVariables false
set_option maxRecDepth 20000

/-- the cells of a device -/
def devC (g n : Nat) (vW : Value) (fz : Bool) (fu : Int) (D : Bool) : Array Value := #[.slice (some ⟨g, 0, none⟩) n n, vW, .bool fz, .int .i64 fu, .bool D]
/-- a device lies at b: L lasts, Q waits, F is its fuse (none, if below 0), D: is it down; all of it in the blocks R -/
def DAt (w : World) (R : Nat → Prop) (b : Nat) (L : List (List Int)) (Q : List Wr) (F : Int) (D : Bool) : Prop :=
  ∃ g vW fz fu, Blk w b 62 (devC g L.length vW fz fu D) ∧ Blk w g 67 (pcs (pg L Q)).toArray ∧ w.ownsRow 0 69 129 vW Q.length (wcs (un L Q)) ∧
    R b ∧ R g ∧ (∀ k, vW.ownBlock = some k → R k) ∧ fz = decide (0 ≤ F) ∧ (0 ≤ F → fu = F) ∧ F ≤ 9223372036854775807 ∧ PgOk L ∧ QOk L.length Q ∧ L.length ≤ 4096
theorem own_same {w w' : World} {base e size n : Nat} {v : Value} {xs : List Value} (h : w.ownsRow base e size v n xs) (hk : ∀ k, k < w.heap.size → v.ownBlock = some k → w'.heap[k]? = w.heap[k]?) : w'.ownsRow base e size v n xs := by
  refine ⟨h.1, ?_⟩
  rcases h.2 with h1 | ⟨g, cap, cur, hv, hg, hh, r⟩
  · exact .inl h1
  · have hlt : g < w.heap.size := by
      rcases Nat.lt_or_ge g w.heap.size with h2 | h2
      · exact h2
      · rw [Array.getElem?_eq_none h2] at hh; cases hh
    exact .inr ⟨g, cap, cur, hv, hg, (hk g hlt (by rw [hv]; rfl)).trans hh, r⟩
section
variable {w w' : World} {R R' : Nat → Prop} {b : Nat} {L : List (List Int)} {Q : List Wr} {F : Int} {D : Bool}
theorem DAt.same (h : DAt w R b L Q F D) (hk : ∀ k, k < w.heap.size → R k → w'.heap[k]? = w.heap[k]?) : DAt w' R b L Q F D := by
  obtain ⟨g, vW, fz, fu, h1, h2, h3, r1, r2, r3, rest⟩ := h
  exact ⟨g, vW, fz, fu, h1.same (hk b h1.lt r1), h2.same (hk g h2.lt r2), own_same h3 (fun k hl hv => hk k hl (r3 k hv)), r1, r2, r3, rest⟩
theorem DAt.below (h : DAt w R b L Q F D) (hb : Below w.heap.size w w') : DAt w' R b L Q F D := h.same fun k hl _ => hb.block k hl
theorem DAt.mono (h : DAt w R b L Q F D) (hR : ∀ k, R k → R' k) : DAt w R' b L Q F D := by
  obtain ⟨g, vW, fz, fu, h1, h2, h3, r1, r2, r3, rest⟩ := h
  exact ⟨g, vW, fz, fu, h1, h2, h3, hR _ r1, hR _ r2, fun k hv => hR _ (r3 k hv), rest⟩
/-- what others do -/
theorem DAt.apart {S : Nat → Prop} (h : DAt w R b L Q F D) (ho : OnlyS S w w') (hS : ∀ k, R k → ¬ S k) : DAt w' R b L Q F D := h.same fun k hl hr => ho.block k hl (hS k hr)
theorem DAt.lt (h : DAt w R b L Q F D) : b < w.heap.size := by
  obtain ⟨g, vW, fz, fu, h1, _⟩ := h; exact h1.lt
theorem DAt.ok (h : DAt w R b L Q F D) : PgOk L ∧ QOk L.length Q ∧ L.length ≤ 4096 ∧ F ≤ 9223372036854775807 := by
  obtain ⟨g, vW, fz, fu, h1, h2, h3, r1, r2, r3, e1, e2, e3, e4, e5, e6⟩ := h; exact ⟨e4, e5, e6, e3⟩
end
/-- where what is new lies too -/
def Nw (R : Nat → Prop) (w w' : World) (k : Nat) : Prop := R k ∨ (w.heap.size ≤ k ∧ k < w'.heap.size)

theorem dDown_nil (w : World) : Calls Try.prog 24 #[.pointer none] w fun e w' => e = .returned (.bool true) ∧ w = w' := by
  go_enter Try.func24, Try.ntmps24
  go_wp2
  go_ret
  exact ⟨rfl, rfl⟩
section
variable {w : World} {R : Nat → Prop} {b : Nat} {L : List (List Int)} {Q : List Wr} {F : Int} {D : Bool} (h : DAt w R b L Q F D)
include h
theorem dDown_at : Calls Try.prog 24 #[.pointer (some ⟨b, 0, none⟩)] w fun e w' => e = .returned (.bool D) ∧ w = w' := by
  obtain ⟨g, vW, fz, fu, h1, _⟩ := h
  have c4 : w.cell? ⟨b, 4, none⟩ = some (.bool D) := h1.cell 4
  clear h1
  go_enter Try.func24, Try.ntmps24
  go_wp2
  go_ret
  exact ⟨by simp_all, rfl⟩
theorem dhas_yes (i : Nat) (hi : i < L.length) : Calls Try.prog 30 #[.pointer (some ⟨b, 0, none⟩), .int .i64 i] w fun e w' => e = .returned (.bool true) ∧ w = w' := by
  obtain ⟨g, vW, fz, fu, h1, _⟩ := h
  generalize L.length = n at h1 hi
  have c4 : w.cell? ⟨b, 0, none⟩ = some (.slice (some ⟨g, 0, none⟩) n n) := h1.cell 0
  clear h1
  have hb : decide (0 ≤ (i : Int)) = true := by simp
  have hb2 : decide ((i : Int) < (n : Int)) = true := by simp; omega
  have hb3 : decide (i < n) = true := by simp; omega
  go_enter Try.func30, Try.ntmps30
  go_wp2
  go_ret
  exact ⟨by simp_all, rfl⟩
theorem dhas_no (i : Int) (hi : i < 0 ∨ (L.length : Int) ≤ i) : Calls Try.prog 30 #[.pointer (some ⟨b, 0, none⟩), .int .i64 i] w fun e w' => e = .returned (.bool false) ∧ w = w' := by
  obtain ⟨g, vW, fz, fu, h1, _⟩ := h
  generalize L.length = n at h1 hi
  have c4 : w.cell? ⟨b, 0, none⟩ = some (.slice (some ⟨g, 0, none⟩) n n) := h1.cell 0
  clear h1
  by_cases h0 : i < 0
  · have hb : decide (0 ≤ i) = false := by simp; omega
    clear hi
    go_enter Try.func30, Try.ntmps30
    go_wp2
    go_ret
    exact ⟨by simp_all, rfl⟩
  · have hb : decide (0 ≤ i) = true := by simp; omega
    have hb2 : decide (i < (n : Int)) = false := by simp; omega
    clear hi h0
    go_enter Try.func30, Try.ntmps30
    go_wp2
    go_ret
    exact ⟨by simp_all, rfl⟩
end
end Go.Proofs.Ytjdojnbpchommaa
