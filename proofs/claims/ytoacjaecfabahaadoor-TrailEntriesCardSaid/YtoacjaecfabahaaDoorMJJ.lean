/-
  What is proved here: two ranges joined, whatever they are, by the code and by the document, in the same words.
-/
import Derived.Test.YtoacjaecfabahaaDoorMJG
set_option linter.unusedSimpArgs false
set_option linter.unusedVariables false
namespace Go.Proofs.YtoacjaecfabahaaDoor
open Go.ChangeShapes Go.WideShapes Go.ChangeAt Go.RowKit
set_option linter.unusedVariables false
set_option linter.unusedSimpArgs false
set_option maxRecDepth 20000

/-- what Join answers: from, to, error, hashes -/
def jnX (a b a' b' : Int) (n m : Nat) : Int := if jn a b a' b' n m = true then a else 0
def jnY (a b a' b' : Int) (n m : Nat) : Int := if jn a b a' b' n m = true then b' else 0
def jnQ (a b a' b' : Int) (n m : Nat) : Int := if jn a b a' b' n m = true then 0 else 1
def jnH (a b a' b' : Int) (L M : List (List Int)) : List (List Int) := if jn a b a' b' L.length M.length = true then joinHs ndF [] a.toNat (seg a.toNat b.toNat ++ seg b.toNat b'.toNat) (L ++ M) else []
theorem jn_yes {a b a' b' : Int} {n m : Nat} (h : jn a b a' b' n m = true) : ∃ x y z : Nat, a = (x : Int) ∧ b = (y : Int) ∧ a' = (y : Int) ∧ b' = (z : Int) ∧ x ≤ y ∧ y ≤ z ∧ z ≤ 2147483647 ∧ n = (seg x y).length ∧ m = (seg y z).length := by
  unfold jn at h
  rw [Bool.and_eq_true, Bool.and_eq_true, decide_eq_true_eq] at h
  obtain ⟨h1, h2, h3⟩ := h
  obtain ⟨x, y, e1, e2, g1, g2, g3⟩ := frm_yes h1
  obtain ⟨y', z, f1, f2, k1, k2, k3⟩ := frm_yes h2
  have : y' = y := by omega
  subst this
  exact ⟨x, y', z, e1, e2, f1, f2, g1, k1, k2, g3, k3⟩
theorem jn_join {x y z : Nat} {L M : List (List Int)} {T : Nat → Nat → List Int} (hL : L.length = (seg x y).length) (hM : M.length = (seg y z).length) (hC : Cv ndF T x z (zipS (seg x y) L ++ zipS (seg y z) M)) : joinHs ndF [] x (seg x y ++ seg y z) (L ++ M) = hsT T x (seg x z) := by
  have h := joinH_cv ndF [] (zipS (seg x y) L ++ zipS (seg y z) M).length (Nat.le_refl _) hC
  have e1 : exps (zipS (seg x y) L ++ zipS (seg y z) M) = seg x y ++ seg y z := by rw [exps_append, zip_exps hL.symm, zip_exps hM.symm]
  have e2 : hshs (zipS (seg x y) L ++ zipS (seg y z) M) = L ++ M := by
    unfold hshs
    rw [List.map_append]
    have h1 := zip_hshs hL.symm
    have h2 := zip_hshs hM.symm
    unfold hshs at h1 h2
    rw [h1, h2]
  rw [e1, e2] at h
  have e3 : (zipS (seg x y) L ++ zipS (seg y z) M).length = (seg x y ++ seg y z).length := by rw [← e1]; simp [exps]
  rw [e3] at h
  exact h
theorem fJoin_x {w : World} {a b a' b' : Int} {A B : Option Addr} {n m c d : Nat} {L M : List (List Int)} (hL : InH w A n L) (hM : InH w B m M) (hn : n < 1000000) (hm : m < 1000000) (hTb : Tab w) (hTd : TabD w) :
    Calls Tryd.prog 20 #[.agg (rgc a b (.slice A n c)), .agg (rgc a' b' (.slice B m d))] w (OfA w (jnX a b a' b' n m) (jnY a b a' b' n m) (jnH a b a' b' L M) (jnQ a b a' b' n m)) := by
  have hl := hL.1; have hl2 := hM.1
  unfold jnX jnY jnH jnQ
  rw [hl, hl2]
  by_cases h : jn a b a' b' n m = true
  · simp only [if_pos h]
    obtain ⟨x, y, z, rfl, rfl, rfl, rfl, h1, h2, h3, h4, h5⟩ := jn_yes h
    obtain ⟨T, hT⟩ := two_any ndF [] h1 h2 (L := L) (M := M) (by omega) (by omega)
    rw [Int.toNat_natCast, Int.toNat_natCast, Int.toNat_natCast, jn_join (by omega) (by omega) hT]
    exact (fJoin_yes hL hM h1 h2 h3 h4 h5 hTb hTd hT).mono fun e w' h => ofa_yes h
  · simp only [if_neg h]
    exact (fJoin_no hn hm hTd (by simpa using h)).mono fun e w' h => ofa_no h
theorem gJoin_x {w : World} {a b a' b' : Int} {A B : Option Addr} {n m c d : Nat} {L M : List (List Int)} (hL : InH w A n L) (hM : InH w B m M) (hn : n < 1000000) (hm : m < 1000000) (hnc : n ≤ c) (hmd : m ≤ d) :
    Calls Tryd.prog 21 #[.agg (rgc a b (.slice A n c)), .agg (rgc a' b' (.slice B m d))] w (OfA w (jnX a b a' b' n m) (jnY a b a' b' n m) (jnH a b a' b' L M) (jnQ a b a' b' n m)) := by
  have hl := hL.1; have hl2 := hM.1
  unfold jnX jnY jnH jnQ
  rw [hl, hl2]
  by_cases h : jn a b a' b' n m = true
  · simp only [if_pos h]
    obtain ⟨x, y, z, rfl, rfl, rfl, rfl, h1, h2, h3, h4, h5⟩ := jn_yes h
    rw [Int.toNat_natCast, Int.toNat_natCast, Int.toNat_natCast]
    exact (gJoin_yes hL hM hnc hmd h1 h2 h3 h4 h5).mono fun e w' h => ofa_yes h
  · simp only [if_neg h]
    exact (gJoin_no hn hm (by simpa using h)).mono fun e w' h => ofa_no h
theorem jnH_few {a b a' b' : Int} {L M : List (List Int)} : (jnH a b a' b' L M).length ≤ 62 := by
  unfold jnH
  split
  · rename_i h
    obtain ⟨x, y, z, rfl, rfl, rfl, rfl, h1, h2, h3, h4, h5⟩ := jn_yes h
    obtain ⟨T, hT⟩ := two_any ndF [] h1 h2 (L := L) (M := M) (by omega) (by omega)
    rw [Int.toNat_natCast, Int.toNat_natCast, Int.toNat_natCast, jn_join (by omega) (by omega) hT, hs_len]
    exact seg_few (by omega)
  · simp
end Go.Proofs.YtoacjaecfabahaaDoor
