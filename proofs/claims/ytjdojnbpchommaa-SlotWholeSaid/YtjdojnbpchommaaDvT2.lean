/-
  What this file is for: what is so behind a turned write, and behind all of them. Nothing of the program is walked here.
-/
import Derived.Test.YtjdojnbpchommaaDRound
namespace Go.Proofs.Ytjdojnbpchommaa
open Go.ChangeShapes Go.WideShapes Go.ChangeAt Go.RowKit
set_option linter.unusedVariables false
set_option maxRecDepth 20000

theorem itb_of {W : World} {bs m c : Nat} {A : Option Addr} {U : List Wr} (h : Blk W bs 60 #[.slice A m c]) (ho : W.ownsRow 0 69 129 (.slice A m c) m (wcs U)) : ItB bs A m c W := ⟨h, fun hm => by
  rcases ho.2 with ⟨_, h0⟩ | ⟨g, cap, C, hv, _, hh, hnc, hcm, hcs, htk⟩
  · omega
  · injection hv with hA _ hc
    exact ⟨g, C, hA, hh, by rw [hcs]; exact Nat.mul_le_mul_right _ hnc⟩⟩
theorem keeps_drew {W W' : World} (h : KeepsOthers W W') : KeepsOthers W W'.drew := h.trans (KeepsOthers.of_grownBy (below_grown ((Below.refl W'.heap.size W').drew)) (fun j o e => by cases e))
theorem page_at {w : World} {g : Nat} {P : List (List Int)} {p : List Int} (h : Blk w g 67 (pcs P).toArray) (hP : PgOk P) {i : Nat} (hi : i < P.length) (hp : p = P[i]?.getD []) : w.rangeAt g (i * 128) (u8s p) := by rw [hp]; exact page_range h hP hi
theorem wt_cells {bx b g n h k j : Nat} {a : Int} {w : World} (hw : WT bx b g n h k a w) (n1 : bx ≠ j) (n2 : b ≠ j) (n3 : h ≠ j) (o : Nat) (vs : List Value) : WT bx b g n h k a (w.setCells j o vs) :=
  ⟨(World.cell?_of_block (a := ⟨bx, 0, none⟩) (other_cells w j o vs n1)).trans hw.cx, (World.cell?_of_block (a := ⟨b, 0, none⟩) (other_cells w j o vs n2)).trans hw.c0, (World.cell?_of_block (a := ⟨h, k * 129, none⟩) (other_cells w j o vs n3)).trans hw.ca⟩
theorem wt_put {bx b g n h k : Nat} {a : Int} {w : World} (hw : WT bx b g n h k a w) (n1 : bx ≠ h) (n2 : b ≠ h) (vs : List Value) : WT bx b g n h k a (w.setCells h (k * 129 + 1) vs) :=
  ⟨(World.cell?_of_block (a := ⟨bx, 0, none⟩) (other_cells w h _ vs n1)).trans hw.cx, (World.cell?_of_block (a := ⟨b, 0, none⟩) (other_cells w h _ vs n2)).trans hw.c0, by
    rw [World.cell?_setCells_out h vs (k * 129 + 1) w ⟨h, k * 129, none⟩ (fun _ _ => by left; show k * 129 < _; omega)]
    exact hw.ca⟩
/-- what a turned write leaves -/
def TbS (g h m cap : Nat) (P : List (List Int)) (U : List Wr) (W w' : World) : Prop :=
  ∃ C2, Blk w' g 67 (pcs P).toArray ∧ Blk w' h 69 C2 ∧ C2.size = cap * 129 ∧ C2.toList.take (m * 129) = wcs U ∧ OnlyS (fun j => j = g ∨ j = h) W w' ∧ KeepsOthers W w'
/-- what stands when all writes are turned back -/
def TbP (b g n m c : Nat) (A : Option Addr) (fz D : Bool) (fu : Int) (R : Nat → Prop) (w : World) (S : List (List Int) × List Wr) (e : Ending) (w' : World) : Prop :=
  e = .returned (.tuple #[]) ∧ Blk w' b 62 (devC g n (.slice A m c) fz fu D) ∧ Blk w' g 67 (pcs S.1).toArray ∧ w'.ownsRow 0 69 129 (.slice A m c) m (wcs S.2) ∧ OnlyS R w w'
theorem bx_ne {bs m cap g h : Nat} {P : List (List Int)} {W : World} (hi : ItB bs (some ⟨h, 0, none⟩) m cap W) (hg : Blk W g 67 (pcs P).toArray) (hm : 0 < m) : bs ≠ g ∧ bs ≠ h := by
  obtain ⟨h', C, hA, hC, _⟩ := hi.kh hm
  injection hA with hA
  have e : h = h' := congrArg Addr.block hA
  subst e
  exact ⟨hi.kb.ne hg (by intro h; cases h), hi.kb.ne hC (by intro h; cases h)⟩
end Go.Proofs.Ytjdojnbpchommaa
