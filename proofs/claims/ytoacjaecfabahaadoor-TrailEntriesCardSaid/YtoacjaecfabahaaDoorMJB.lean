/-
  What is proved here: the texts of a trail and of a list are few, and bytes.
-/
import Derived.Test.YtoacjaecfabahaaDoorMJV
import Derived.Deep.QuietTactic
set_option linter.unusedSimpArgs false
set_option linter.unusedVariables false
namespace Go.Proofs.YtoacjaecfabahaaDoor
open Go.ChangeShapes Go.WideShapes Go.ChangeAt Go.RowKit
set_option linter.unusedVariables false
set_option linter.unusedSimpArgs false
set_option maxRecDepth 20000

theorem txs_ok {P : List Pr} (h : ∀ p ∈ P, PrOk p) : (∀ x ∈ txs P, Bs x) ∧ ∀ x ∈ txs P, x.length < 20000 := by
  refine ⟨fun x hx => ?_, fun x hx => ?_⟩
  · obtain ⟨p, hp, rfl⟩ := List.mem_map.1 hx
    obtain ⟨h1, h2⟩ := h p hp
    intro v hv
    have hv' : v ∈ (1 : Int) :: (p.1 ++ p.2) := by have : txp p = 1 :: (p.1 ++ p.2) := by simp [txp, ndT]
                                                   rw [← this]; exact hv
    rcases List.mem_cons.1 hv' with rfl | hv'
    · decide
    · exact (List.mem_append.1 hv').elim (h1.bs v) (h2.bs v)
  · obtain ⟨p, hp, rfl⟩ := List.mem_map.1 hx
    obtain ⟨h1, h2⟩ := h p hp
    have := ndt_len h1 h2
    have e : (txp p).length = (ndT p.1 p.2).length := rfl
    rw [e, this]; decide
theorem jX_few : ∀ (f : Nat) {a : Nat} {E : List Nat} {L : List (List Int)}, (jX f a E L).length ≤ f
  | 0, _, _, _ => Nat.zero_le _
  | f + 1, a, E, L => by
    unfold jX joinX
    cases fstM a E with
    | none => exact Nat.zero_le _
    | some i => exact Nat.succ_le_succ (jX_few f)
theorem fX_few : ∀ (f : Nat) {L : List (List Int)}, (fX f L).length ≤ f
  | 0, _ => Nat.zero_le _
  | f + 1, L => by
    unfold fX foldX
    split
    · exact Nat.zero_le _
    · exact Nat.succ_le_succ (fX_few f)
theorem joinH_few : ∀ (f : Nat) {a : Nat} {E : List Nat} {L : List (List Int)}, L.length = E.length → (joinH ndF [] f a E L).length ≤ L.length
  | 0, _, _, _, _ => Nat.le_refl _
  | f + 1, a, E, L, h => by
    unfold joinH
    cases hf : fstM a E with
    | none => exact Nat.le_refl _
    | some i =>
      obtain ⟨h1, h2⟩ := fst_lt hf
      have h3 := mdL_len (L := L) (i := i) (by omega)
      have h4 := joinH_few f (a := a) (E := mdE E i) (L := mdL ndF [] L i) (by omega)
      simp only
      omega
theorem allX_few {a : Nat} {E : List Nat} {L : List (List Int)} (hl : L.length = E.length) (hn : E.length ≤ 200) : (txs (allX a E L)).length ≤ 1000 := by
  rw [txs_len]
  unfold allX
  rw [List.length_append]
  have h1 := jX_few E.length (a := a) (E := E) (L := L)
  have h2 := fX_few (joinHs ndF [] a E L).length (L := joinHs ndF [] a E L)
  have h3 : (joinHs ndF [] a E L).length ≤ L.length := joinH_few _ hl
  omega
end Go.Proofs.YtoacjaecfabahaaDoor
