/-
  What is proved here: the fixed question that all statements of the layer ask first.
-/
import Derived.Test.YtdeohkgdmbfocaaDoorMX14
set_option linter.unusedSimpArgs false
set_option linter.unusedVariables false
namespace Go.Proofs.YtdeohkgdmbfocaaDoor
open Go.ChangeShapes Go.WideShapes Go.ChangeAt Go.RowKit
set_option linter.unusedVariables false
set_option linter.unusedSimpArgs false
set_option maxRecDepth 20000

def k1 (x : Int) : List Int := x :: List.replicate 31 0
theorem k1_ky (x : Int) (h : 0 ≤ x ∧ x < 256) : Ky (k1 x) := ⟨rfl, fun v hv => by
  rcases List.mem_cons.1 hv with rfl | hv
  · exact h
  · rw [List.eq_of_mem_replicate hv]; decide⟩
theorem built_k1 (x : Int) : Tryd.prog.built 24 [(0, .int .u8 x)] = some (kc (k1 x)) := by kernel_rfl
/-- a new forest -/
theorem fo_new {w : World} {f : Nat} (h : Blk w f 30 #[.slice none 0 0, .pointer none]) : Fo w f f f [] none 0 (.pointer none) :=
  ⟨h, ⟨rfl, .inl ⟨rfl, rfl⟩⟩, .inl ⟨rfl, rfl, rfl, rfl, rfl, rfl⟩, fun q hq => by simp at hq, by simp, ⟨by simp, by decide⟩⟩
theorem fr_new : FrOk hLf hIn [] := FrOk.nil hLf hIn
theorem built_forest : Tryd.prog.built 30 [] = some #[.slice none 0 0, .pointer none] := by kernel_rfl
set_option maxHeartbeats 4000000 in
theorem xawake_any (w : World) (ht : Tab w) : Calls Tryd.prog 9 #[] w fun e w' => e = .returned (.bool true) ∧ Below w.heap.size w w' := by
  have KF : Hid (Blk (w.alloc (.cells #[.slice none 0 0, .pointer none] 30)) w.heap.size 30 #[.slice none 0 0, .pointer none]) := Blk.new w 30 _
  have B0 : Hid (Below w.heap.size w (w.alloc (.cells #[.slice none 0 0, .pointer none] 30))) := (Below.refl _ _).alloc (Nat.le_refl _) _
  have CP := hid (put_none (fo_new KF.out) fr_new (k1_ky 1 (by decide)) (k1_ky 2 (by decide)) (by show (0 : Nat) < 100000; decide) (ht.below B0.out))
  have hb0 := built_forest
  have hb1 := built_k1 1
  have hb2 := built_k1 2
  obtain ⟨H1, hH1⟩ : ∃ H1, H1 = kc (k1 1) := ⟨_, rfl⟩
  obtain ⟨H2, hH2⟩ : ∃ H2, H2 = kc (k1 2) := ⟨_, rfl⟩
  rw [← hH1] at hb1 CP
  rw [← hH2] at hb2 CP
  clear ht hH1 hH2
  go_enter Tryd.func9, Tryd.ntmps9
  go_wp2_with (first
    | (refine wpList_buildC rfl 30 _ rfl #[.slice none 0 0, .pointer none] ?hc ?_; case hc => (simp only [List.map_toArray, List.map_cons, List.map_nil, Act.eval]; exact hb0))
    | (refine wpList_buildC rfl 24 _ rfl H1 ?hc ?_; case hc => (simp only [List.map_toArray, List.map_cons, List.map_nil, Act.eval]; exact hb1))
    | (refine wpList_buildC rfl 24 _ rfl H2 ?hc ?_; case hc => (simp only [List.map_toArray, List.map_cons, List.map_nil, Act.eval]; exact hb2))
    | (go_at_call 10; refine CP.out.mono ?_; rintro e w2 ⟨M, top, rfl, ⟨g', b', A', c', tv', hfo, hg, hb, ho⟩, hrep, hfr, hm⟩; have CZ := hid (xSize_at hfo); have h1 := hrep.lt; rw [List.nil_append] at h1; have ht0 : top = 0 := (by omega); subst ht0; have hM : ([] ++ M).length = 1 := (by rw [List.nil_append]; omega); rw [hM] at CZ; have B2 := hid (B0.out.trans (ho.below (B := w.heap.size) (by simp) (fun k hk => (by rcases hk with h | h | h <;> omega)))); clear hfo hg hb ho hrep hfr hm h1 hM)
    | (go_at_call 26; refine CZ.out.mono ?_; rintro e w3 ⟨rfl, rfl⟩))
  go_ret
  exact ⟨rfl, B2.out⟩
end Go.Proofs.YtdeohkgdmbfocaaDoor
