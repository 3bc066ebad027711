/-
  What is proved here: opening a log.
-/
import Derived.Test.YthfkooancgkjaaaMWaLd
set_option linter.unusedSimpArgs false
set_option linter.unusedVariables false
namespace Go.Proofs.Ythfkooancgkjaaa
open Go.ChangeShapes Go.WideShapes Go.ChangeAt Go.RowKit
set_option linter.unusedVariables false
set_option maxRecDepth 20000

/-- what Open answers -/
def OpA (b a c : Nat) (g : Int) (P : Nat → List Int) (l0 : Int) (w : World) (e : Ending) (w' : World) : Prop :=
  ∃ lb V, e = .returned (.tuple #[.pointer (some ⟨lb, 0, none⟩), V, .int .i64 0]) ∧ w.heap.size ≤ lb ∧ Blk w' lb 90 (lgC b a c ⟨g, (scn P c c 0 l0).2.1, false⟩) ∧ AllM w.heap.size 0 w' (scn P c c 0 l0).1 V ∧ Below w.heap.size w w'
set_option maxHeartbeats 1000000 in
theorem wOpen_any {n0 : Nat} {w : World} {b : Nat} {s : SS} (hD : Dy n0 w b s) (hbs : s.bs) (hdn : s.D = false) (a c : Nat) (g l0 : Int) (hf : a + c ≤ s.L.length) (hc : c ≤ 1000) (hl0 : 1 ≤ l0) (hg : l0 ≤ g ∧ g < 4294967296) :
    Calls Try.prog 44 #[.pointer (some ⟨b, 0, none⟩), .int .i64 a, .int .i64 c, .int .u32 l0, .int .u32 g] w (OpA b a c g (s.lp a) l0 w) := by
  have hT := hD.ok.2.2
  have CP := hid (hD.pages)
  obtain ⟨T, hTT⟩ : ∃ T, T = s.L.length := ⟨_, rfl⟩
  rw [← hTT] at CP hf hT
  have CL := hid (fun (u : World) (hb : Below w.heap.size w u) (lb : Nat) (hlb : w.heap.size ≤ lb) (hl : Blk u lb 90 (lgC b a c ⟨g, 0, false⟩)) => wload_any hD hbs hdn a c lb g l0 (by omega) hc hb hlb hl (by omega))
  have B0 : Hid (Below w.heap.size w (w.alloc (.cells #[.pointer (some ⟨b, 0, none⟩), .int .i64 a, .int .i64 c, .int .i64 0, .int .u32 g, .bool false] 90))) := hid ((Below.refl _ _).alloc (Nat.le_refl _) _)
  have L0 : Hid (Blk (w.alloc (.cells #[.pointer (some ⟨b, 0, none⟩), .int .i64 a, .int .i64 c, .int .i64 0, .int .u32 g, .bool false] 90)) w.heap.size 90 (lgC b a c ⟨g, 0, false⟩)) := hid (Blk.new w 90 _)
  have g1 : ¬ (a : Int) < 0 := by omega
  have g2 : ¬ (c : Int) < 0 := by omega
  have g3 : ¬ (T : Int) < (a : Int) := by omega
  have g4 : ¬ (T : Int) - (a : Int) < (c : Int) := by omega
  have g5 : (l0 == 0) = false := by simp; omega
  have g6 : ¬ g < l0 := by omega
  have CLL := hid (CL.out _ B0.out _ (Nat.le_refl _) L0.out)
  unfold OpA
  generalize scn (s.lp a) c c 0 l0 = SC at CLL ⊢
  clear hD hbs hdn hf hTT CL hl0 hg
  go_enter Try.func44, Try.ntmps44
  go_wp2_with (first
    | (go_at_call 22; refine CP.out.mono ?_; rintro e w1 ⟨rfl, rfl⟩)
    | (go_at_call 60; refine CLL.out.mono ?_; rintro e w2 ⟨V, rfl, hal, hlg, hbe⟩; have HAL := hid hal; have HLG := hid hlg; have HBE := hid hbe; clear hal hlg hbe))
  go_ret3
  exact ⟨_, V, rfl, Nat.le_refl _, HLG.out, HAL.out, HBE.out⟩
end Go.Proofs.Ythfkooancgkjaaa
