/-
  What is proved here: any node that is asked for, and when an inner node may stand.
-/
import Derived.Test.YtjhaamffgkialaaGreatDoorMX19
import Derived.Test.YtjhaamffgkialaaGreatDoorMX23
set_option linter.unusedSimpArgs false
set_option linter.unusedVariables false
namespace Go.Proofs.YtjhaamffgkialaaGreatDoor
open Go.ChangeShapes Go.WideShapes Go.ChangeAt Go.RowKit
set_option linter.unusedVariables false
set_option linter.unusedSimpArgs false
set_option maxRecDepth 20000

theorem xNode_two {w : World} {f g b : Nat} {N : List Nd} {A : Option Addr} {c : Nat} {tv : Value} (h : Fo w f g b N A c tv) (i : Int) : ∃ (q : Nd) (r : Bool), r = isNd N.length i ∧ NdOk q ∧ (r = true → q = N[i.toNat]?.getD ndZ) ∧
    ∀ w', Below w.heap.size w w' → Calls Tryz.prog 33 #[.pointer (some ⟨f, 0, none⟩), .int .i64 i] w' fun e w'' => e = .returned (.tuple #[.agg (nc q).toArray, .bool r]) ∧ Below w'.heap.size w' w'' := by
  obtain ⟨r, hi⟩ : ∃ r, r = isNd N.length i := ⟨_, rfl⟩
  cases r with
  | false => exact ⟨ndZ, false, hi, ndZ_ok, (fun h => by cases h), (fun w' hb => xNode_no (h.below hb) i hi.symm)⟩
  | true =>
    have hi' := hi.symm
    unfold isNd at hi'
    rw [decide_eq_true_eq] at hi'
    obtain ⟨k, rfl⟩ : ∃ k : Nat, i = k := ⟨i.toNat, by omega⟩
    have hlt : k < N.length := by omega
    have hk : N[k]? = some N[k] := List.getElem?_eq_getElem hlt
    exact ⟨N[k], true, hi, h.ok _ (List.getElem_mem hlt), (fun _ => by rw [Int.toNat_natCast, hk]; rfl), (fun w' hb => xNode_at (h.below hb) k _ hk)⟩
theorem ch_ok {l : Int} {B : List Int} (hf : frm l B = true) (hl : l < 256) : chB l B 0 = true ∧ chB l B 1 = true := by
  unfold chB
  rw [hf, decide_eq_true (show l ≠ 256 by omega)]
  exact ⟨rfl, rfl⟩
theorem may_yes {N : List Nd} {l a d : Int} {B : List Int} (h1 : isNd N.length a = true) (h2 : isNd N.length d = true) (hf : frm l B = true) (hl : l < 256) :
    mayB N l B a d = (wth (l + 1) B (N[a.toNat]?.getD ndZ).pn (N[a.toNat]?.getD ndZ).pb && wth (l + 1) (setb B l.toNat) (N[d.toNat]?.getD ndZ).pn (N[d.toNat]?.getD ndZ).pb) := by
  unfold mayB fitB
  rw [(ch_ok hf hl).1, (ch_ok hf hl).2, h1, h2]
  rfl
end Go.Proofs.YtjhaamffgkialaaGreatDoor
