/-
  What is proved here: the texts that are hashed on the way to a root, in pairs; where none clashes, what leads to the list's root is the list's own.
-/
import Derived.Test.YtoacjaecfabahaaDoorMFTM
import Derived.Test.YtoacjaecfabahaaDoorMJX
import Derived.Test.YtoacjaecfabahaaDoorMKM
set_option linter.unusedSimpArgs false
set_option linter.unusedVariables false
namespace Go.Proofs.YtoacjaecfabahaaDoor
open Go.ChangeShapes Go.WideShapes Go.ChangeAt Go.RowKit
set_option linter.unusedVariables false
set_option linter.unusedSimpArgs false

abbrev Pr := List Int × List Int
def txp (p : Pr) : List Int := ndT p.1 p.2
def PrOk (p : Pr) : Prop := H32 p.1 ∧ H32 p.2
theorem txp_inj {p q : Pr} (hp : PrOk p) (hq : PrOk q) (h : txp p = txp q) : p = q := by
  obtain ⟨a, b⟩ := p
  obtain ⟨c, e⟩ := q
  have h1 : (1 : Int) :: (a ++ b) = 1 :: (c ++ e) := by
    have : ndT a b = ndT c e := h
    simpa [ndT] using this
  injection h1 with _ h2
  obtain ⟨h3, h4⟩ := List.append_inj h2 (by rw [hp.1.len, hq.1.len])
  rw [h3, h4]
theorem txp_sum (p : Pr) : sum (txp p) = ndF p.1 p.2 := rfl
abbrev jX (f a : Nat) (E : List Nat) (L : List (List Int)) : List Pr := joinX ndF [] Prod.mk f a E L
abbrev fX (f : Nat) (L : List (List Int)) : List Pr := foldX ndF [] Prod.mk f L
abbrev tX (L : List (List Int)) : List Pr := ltree ndF emp Prod.mk L
theorem getD_ok {L : List (List Int)} (h : ∀ f ∈ L, H32 f) {i : Nat} (hi : i < L.length) : H32 (L[i]?.getD []) := by
  rw [List.getElem?_eq_getElem hi]; exact h _ (List.getElem_mem hi)
theorem mdL_ok {L : List (List Int)} (h : ∀ f ∈ L, H32 f) (i : Nat) : ∀ f ∈ mdL ndF [] L i, H32 f := fun q hq => by
  unfold mdL at hq
  rcases List.mem_append.1 hq with hq | hq
  · exact h q (List.mem_of_mem_take hq)
  · rcases List.mem_cons.1 hq with rfl | hq
    · exact h32_sum _
    · exact h q (List.mem_of_mem_drop hq)
theorem mdL_len {L : List (List Int)} {i : Nat} (hi : i + 1 < L.length) : (mdL ndF [] L i).length + 1 = L.length := by
  unfold mdL
  rw [List.length_append, List.length_cons, List.length_take, List.length_drop]; omega
theorem fst_lt {a i : Nat} {E : List Nat} (h : fstM a E = some i) : i + 1 < E.length ∧ (mdE E i).length + 1 = E.length := by
  obtain ⟨A, m, B, rfl, rfl, hd⟩ := fstM_some h
  refine ⟨by simp, ?_⟩
  rw [mdE_mid]; simp; omega
theorem jX_ok : ∀ (f : Nat) {a : Nat} {E : List Nat} {L : List (List Int)}, L.length = E.length → (∀ q ∈ L, H32 q) → ∀ p ∈ jX f a E L, PrOk p
  | 0, _, _, _, _, _, p, hp => by cases hp
  | f + 1, a, E, L, hl, hL, p, hp => by
    unfold jX joinX at hp
    cases hf : fstM a E with
    | none => rw [hf] at hp; cases hp
    | some i =>
      rw [hf] at hp
      obtain ⟨h1, h2⟩ := fst_lt hf
      rcases List.mem_cons.1 hp with rfl | hp
      · exact ⟨getD_ok hL (by omega), getD_ok hL (by omega)⟩
      · exact jX_ok f (by have := mdL_len (L := L) (i := i) (by omega); omega) (mdL_ok hL i) p hp
theorem jH_ok {f a : Nat} {E : List Nat} {L : List (List Int)} (hL : ∀ q ∈ L, H32 q) : ∀ q ∈ joinH ndF [] f a E L, H32 q := by
  induction f generalizing E L with
  | zero => exact hL
  | succ f ih =>
    unfold joinH
    cases fstM a E with
    | none => exact hL
    | some i => exact ih (mdL_ok hL i)
theorem foldL_ok {L : List (List Int)} (hL : ∀ q ∈ L, H32 q) : ∀ q ∈ L.take (L.length - 2) ++ [ndF (L[L.length - 2]?.getD []) (L[L.length - 1]?.getD [])], H32 q := fun q hq => by
  rcases List.mem_append.1 hq with hq | hq
  · exact hL q (List.mem_of_mem_take hq)
  · rw [List.mem_singleton.1 hq]; exact h32_sum _
theorem fX_ok : ∀ (f : Nat) {L : List (List Int)}, (∀ q ∈ L, H32 q) → ∀ p ∈ fX f L, PrOk p
  | 0, _, _, p, hp => by cases hp
  | f + 1, L, hL, p, hp => by
    unfold fX foldX at hp
    by_cases h1 : L.length ≤ 1
    · rw [if_pos h1] at hp; cases hp
    · rw [if_neg h1] at hp
      rcases List.mem_cons.1 hp with rfl | hp
      · exact ⟨getD_ok hL (by omega), getD_ok hL (by omega)⟩
      · exact fX_ok f (foldL_ok hL) p hp
theorem treeX_ok : ∀ (f : Nat) {L : List (List Int)}, (∀ q ∈ L, H32 q) → ∀ p ∈ treeX ndF emp Prod.mk f L, PrOk p
  | 0, _, _, p, hp => by cases hp
  | f + 1, L, hL, p, hp => by
    unfold treeX at hp
    by_cases h1 : L.length < 2
    · rw [if_pos h1] at hp; cases hp
    · rw [if_neg h1] at hp
      rcases List.mem_append.1 hp with hp | hp
      · exact treeX_ok f (fun q hq => hL q (List.mem_of_mem_take hq)) p hp
      · rcases List.mem_append.1 hp with hp | hp
        · exact treeX_ok f (fun q hq => hL q (List.mem_of_mem_drop hq)) p hp
        · rw [List.mem_singleton.1 hp]
          exact ⟨root_ok (fun q hq => hL q (List.mem_of_mem_take hq)), root_ok (fun q hq => hL q (List.mem_of_mem_drop hq))⟩
/-- no clash of texts: two pairs with one hash are the same -/
theorem no_clash {A B : List Pr} (hA : ∀ p ∈ A, PrOk p) (hB : ∀ p ∈ B, PrOk p) (h : clashV (A.map txp) (B.map txp) = false) : ∀ x ∈ A, ∀ y ∈ B, ndF x.1 x.2 = ndF y.1 y.2 → x = y := fun x hx y hy he => by
  refine txp_inj (hA x hx) (hB y hy) ?_
  by_cases hxy : txp x = txp y
  · exact hxy
  · exfalso
    have : clashV (A.map txp) (B.map txp) = true := by
      unfold clashV
      rw [List.any_eq_true]
      refine ⟨txp x, List.mem_map_of_mem hx, ?_⟩
      rw [List.any_eq_true]
      refine ⟨txp y, List.mem_map_of_mem hy, ?_⟩
      rw [txp_sum, txp_sum, decide_eq_false hxy, decide_eq_true he]; rfl
    rw [h] at this; cases this
theorem foldR_d {d e : List Int} : ∀ {L : List (List Int)}, L ≠ [] → foldR ndF d L = foldR ndF e L
  | [], h => absurd rfl h
  | [x], _ => rfl
  | x :: y :: L, _ => by
    show ndF x (foldR ndF d (y :: L)) = ndF x (foldR ndF e (y :: L))
    rw [foldR_d (d := d) (e := e) (List.cons_ne_nil y L)]
theorem rootL_d {d e : List Int} {L : List (List Int)} (h : 0 < L.length) : rootL ndF d L = rootL ndF e L := by
  have h1 := lst_of [] 0 L
  rw [h1, ← fold_root0, ← fold_root0]
  refine foldR_d fun hc => ?_
  have h2 := congrArg List.length hc
  rw [hs_len, seg_cons h] at h2
  simp at h2
theorem treeX_d {d e : List Int} : ∀ (f : Nat) (L : List (List Int)), treeX ndF d Prod.mk f L = treeX ndF e Prod.mk f L
  | 0, _ => rfl
  | f + 1, L => by
    unfold treeX
    by_cases h1 : L.length < 2
    · rw [if_pos h1, if_pos h1]
    · have hs := spl_is (n := L.length) (by omega)
      have hp := pow_pos2 (spl L.length)
      have h4 := hs.1
      rw [if_neg h1, if_neg h1, treeX_d (d := d) (e := e) f, treeX_d (d := d) (e := e) f, rootL_d (d := d) (e := e) (L := L.take _) (by rw [List.length_take]; omega), rootL_d (d := d) (e := e) (L := L.drop _) (by rw [List.length_drop]; omega)]
/-- all texts of hashes that are joined from the left -/
def allX (a : Nat) (E : List Nat) (L : List (List Int)) : List Pr := jX E.length a E L ++ fX (joinHs ndF [] a E L).length (joinHs ndF [] a E L)
theorem allX_ok {a : Nat} {E : List Nat} {L : List (List Int)} (hl : L.length = E.length) (hL : ∀ q ∈ L, H32 q) : ∀ p ∈ allX a E L, PrOk p := fun p hp => by
  rcases List.mem_append.1 hp with hp | hp
  · exact jX_ok _ hl hL p hp
  · exact fX_ok _ (jH_ok hL) p hp
/-- the heart, of hashes: without a clash the cover's hashes are the list's own -/
theorem own_hashes {F : Nat → List Int} {n : Nat} {E : List Nat} {L : List (List Int)} (hn : 0 < n) (hl : L.length = E.length) (hL : ∀ q ∈ L, H32 q) (hF : ∀ q ∈ lst F 0 n, H32 q) (hA : Al 0 E n)
    (hc : clashV ((allX 0 E L).map txp) ((tX (lst F 0 n)).map txp) = false) (hr : foldR ndF emp (joinHs ndF [] 0 E L) = rootL ndF emp (lst F 0 n)) : L = hsT (tw ndF F) 0 E := by
  have hno := no_clash (allX_ok (a := 0) hl hL) (treeX_ok _ hF) hc
  have et : treeX ndF emp Prod.mk (lst F 0 n).length (lst F 0 n) = treeX ndF [] Prod.mk (lst F 0 n).length (lst F 0 n) := treeX_d _ _
  have hne : joinHs ndF [] 0 E L ≠ [] := by
    intro hcn
    have hlen : (joinHs ndF [] 0 E L).length ≠ 0 := by
      have key : ∀ (f a : Nat) (E : List Nat) (L : List (List Int)), L.length = E.length → 0 < L.length → 0 < (joinH ndF [] f a E L).length := by
        intro f
        induction f with
        | zero => intro a E L _ h; exact h
        | succ f ih =>
          intro a E L he h
          unfold joinH
          cases hf : fstM a E with
          | none => exact h
          | some i =>
            obtain ⟨h1, h2⟩ := fst_lt hf
            have h3 := mdL_len (L := L) (i := i) (by omega)
            exact ih a _ _ (by omega) (by omega)
      have h0 : 0 < L.length := by
        rw [hl]
        cases E with
        | nil => have : (0 : Nat) = n := hA; omega
        | cons m E => simp
      have := key E.length 0 E L hl h0
      unfold joinHs
      omega
    rw [hcn] at hlen
    exact hlen rfl
  refine trail_own ndF [] Prod.mk (sm := fun p => ndF p.1 p.2) (fun a b c e h => by injection h with h1 h2; exact ⟨h1, h2⟩) (fun a b => rfl) F hn E.length (Nat.le_refl _) hl hA (fun x hx y hy h => hno x (List.mem_append_left _ hx) y ?_ h) (fun x hx y hy h => hno x (List.mem_append_right _ hx) y ?_ h) ?_
  · show y ∈ treeX ndF emp Prod.mk (lst F 0 n).length (lst F 0 n); rw [et]; exact hy
  · show y ∈ treeX ndF emp Prod.mk (lst F 0 n).length (lst F 0 n); rw [et]; exact hy
  · show foldR ndF [] (joinHs ndF [] 0 E L) = rootL ndF [] (lst F 0 n)
    rw [foldR_d (d := []) (e := emp) hne, hr]
    exact rootL_d (by rw [lst_len]; exact hn)
end Go.Proofs.YtoacjaecfabahaaDoor
