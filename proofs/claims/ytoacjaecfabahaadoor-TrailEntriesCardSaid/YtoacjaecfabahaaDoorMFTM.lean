/-
  What this file is for: the mathematics of trails: what comes of ranges that are joined, from the left or otherwise; the texts that are hashed on the way, and those of a list's tree: where no two different ones of them have one hash, what is joined to the list's root is the list's own. Nothing of the program is named here.
-/
import Derived.Test.YtoacjaecfabahaaDoorMF1
set_option linter.unusedSimpArgs false
set_option linter.unusedVariables false
namespace Go.Proofs.YtoacjaecfabahaaDoor
set_option linter.unusedVariables false
set_option linter.unusedSimpArgs false

section
variable {α β : Type} (nd : α → α → α) (d : α) (tx : α → α → β)
/-- two side by side made one: the exponents -/
def mdE (E : List Nat) (i : Nat) : List Nat := E.take i ++ (E[i]?.getD 0 + 1) :: E.drop (i + 2)
/-- the hashes -/
def mdL (L : List α) (i : Nat) : List α := L.take i ++ nd (L[i]?.getD d) (L[i + 1]?.getD d) :: L.drop (i + 2)
/-- what is joined from the left in the end: the hashes -/
def joinH : Nat → Nat → List Nat → List α → List α
  | 0, _, _, L => L
  | f + 1, a, E, L => match fstM a E with
    | none => L
    | some i => joinH f a (mdE E i) (mdL nd d L i)
def joinHs (a : Nat) (E : List Nat) (L : List α) : List α := joinH nd d E.length a E L
/-- the texts that are hashed on the way -/
def joinX : Nat → Nat → List Nat → List α → List β
  | 0, _, _, _ => []
  | f + 1, a, E, L => match fstM a E with
    | none => []
    | some i => tx (L[i]?.getD d) (L[i + 1]?.getD d) :: joinX f a (mdE E i) (mdL nd d L i)
/-- the texts that are hashed when the last two are made one, and so on -/
def foldX : Nat → List α → List β
  | 0, _ => []
  | f + 1, L => if L.length ≤ 1 then [] else tx (L[L.length - 2]?.getD d) (L[L.length - 1]?.getD d) :: foldX f (L.take (L.length - 2) ++ [nd (L[L.length - 2]?.getD d) (L[L.length - 1]?.getD d)])
/-- all texts that are hashed of a list -/
def treeX : Nat → List α → List β
  | 0, _ => []
  | f + 1, L => if L.length < 2 then [] else treeX f (L.take (2 ^ spl L.length)) ++ (treeX f (L.drop (2 ^ spl L.length)) ++ [tx (rootL nd d (L.take (2 ^ spl L.length))) (rootL nd d (L.drop (2 ^ spl L.length)))])
def ltree (L : List α) : List β := treeX nd d tx L.length L
theorem treeX_fuel : ∀ (f g : Nat) (L : List α), L.length ≤ f → L.length ≤ g → treeX nd d tx f L = treeX nd d tx g L
  | 0, 0, _, _, _ => rfl
  | 0, g + 1, L, h, _ => by unfold treeX; rw [if_pos (by omega)]
  | f + 1, 0, L, _, h => by unfold treeX; rw [if_pos (by omega)]
  | f + 1, g + 1, L, h1, h2 => by
    unfold treeX
    by_cases h3 : L.length < 2
    · rw [if_pos h3, if_pos h3]
    · have hs := spl_is (n := L.length) (by omega)
      have hp := pow_pos2 (spl L.length)
      have h4 := hs.1
      rw [if_neg h3, if_neg h3, treeX_fuel f g _ (by rw [List.length_take]; omega) (by rw [List.length_take]; omega), treeX_fuel f g _ (by rw [List.length_drop]; omega) (by rw [List.length_drop]; omega)]
theorem ltree_few {L : List α} (h : L.length < 2) : ltree nd d tx L = [] := by
  unfold ltree
  cases hl : L.length with
  | zero => rfl
  | succ n => unfold treeX; rw [if_pos h]
theorem ltree_more {L : List α} (h : 2 ≤ L.length) : ltree nd d tx L = ltree nd d tx (L.take (2 ^ spl L.length)) ++ (ltree nd d tx (L.drop (2 ^ spl L.length)) ++ [tx (rootL nd d (L.take (2 ^ spl L.length))) (rootL nd d (L.drop (2 ^ spl L.length)))]) := by
  have hs := spl_is h
  have hp := pow_pos2 (spl L.length)
  have h4 := hs.1
  obtain ⟨f, hf⟩ : ∃ f, L.length = f + 1 := ⟨L.length - 1, by omega⟩
  have e : ltree nd d tx L = treeX nd d tx (f + 1) L := by unfold ltree; rw [hf]
  rw [e]
  unfold treeX
  rw [if_neg (by omega)]
  unfold ltree
  rw [treeX_fuel nd d tx f _ _ (by rw [List.length_take]; omega) (Nat.le_refl _), treeX_fuel nd d tx f _ _ (by rw [List.length_drop]; omega) (Nat.le_refl _)]
/-- an even block's text is one of the tree's -/
theorem tree_node (F : Nat → α) : ∀ (n : Nat) {q k J p j : Nat}, k ≤ n → 2 ^ J ∣ q → k ≤ 2 ^ J → 2 ^ (j + 1) ∣ p → q ≤ p → p + 2 ^ (j + 1) ≤ q + k → tx (tw nd F p j) (tw nd F (p + 2 ^ j) j) ∈ ltree nd d tx (lst F q k)
  | 0, q, k, J, p, j, hn, _, _, _, hqp, hpk => by have := pow_pos2 (j + 1); omega
  | n + 1, q, k, J, p, j, hn, hJ, hk, hj, hqp, hpk => by
    have hp1 := pow_pos2 (j + 1)
    have hpj := pow_pos2 j
    have e2 : 2 ^ (j + 1) = 2 ^ j * 2 := Nat.pow_succ 2 j
    have hl := lst_len F q k
    have hk2 : 2 ≤ k := by omega
    have hs := spl_is hk2
    rw [ltree_more nd d tx (L := lst F q k) (by omega), hl]
    generalize hm : spl k = m at hs
    have hpm := pow_pos2 m
    have em : 2 ^ (m + 1) = 2 ^ m * 2 := Nat.pow_succ 2 m
    have h1 := hs.1; have h2 := hs.2
    have hmJ : m < J := by
      refine Nat.lt_of_not_le fun hc => ?_
      have := pow_mono2 hc
      omega
    rw [lst_take F q (by omega), lst_drop F q (by omega)]
    rw [List.mem_append, List.mem_append]
    by_cases ha : p + 2 ^ (j + 1) ≤ q + 2 ^ m
    · exact .inl (tree_node F n (J := m) (by omega) (pow_dvd2 (Nat.le_of_lt hmJ) hJ) (Nat.le_refl _) hj hqp ha)
    · by_cases hb : q + 2 ^ m ≤ p
      · exact .inr (.inl (tree_node F n (J := m) (by omega) (Nat.dvd_add (pow_dvd2 (Nat.le_of_lt hmJ) hJ) (Nat.dvd_refl _)) (by omega) hj hb (by omega)))
      · have hjm : m ≤ j := by
          refine Nat.le_of_not_lt fun hc => ?_
          obtain ⟨x, hx⟩ := hj
          obtain ⟨y, hy⟩ : 2 ^ (j + 1) ∣ q + 2 ^ m := Nat.dvd_add (pow_dvd2 (by omega) hJ) (pow_dvd2 hc (Nat.dvd_refl _))
          have h3 : 2 ^ (j + 1) * x < 2 ^ (j + 1) * y := by omega
          have h4 : 2 ^ (j + 1) * y < 2 ^ (j + 1) * (x + 1) := by rw [Nat.mul_add]; omega
          have h5 := Nat.lt_of_mul_lt_mul_left h3
          have h6 := Nat.lt_of_mul_lt_mul_left h4
          omega
        have h7 := pow_mono2 hjm
        obtain rfl : p = q := by omega
        have h8 : j = m := by
          refine Nat.le_antisymm (Nat.le_of_not_lt fun hc => ?_) hjm
          have := pow_mono2 (show m + 1 ≤ j from hc)
          omega
        subst h8
        refine .inr (.inr ?_)
        rw [List.mem_singleton, tw_root nd d F j p, tw_root nd d F j (p + 2 ^ j), show k - 2 ^ j = 2 ^ j by omega]
theorem hs_cons (T : Nat → Nat → α) (a m : Nat) (L : List Nat) : hsT T a (m :: L) = T a m :: hsT T (a + 2 ^ m) L := rfl
theorem foldR_snoc (nd : α → α → α) (d : α) : ∀ (L : List α) (x y : α), foldR nd d (L ++ [x, y]) = foldR nd d (L ++ [nd x y])
  | [], x, y => rfl
  | h :: L, x, y => by
    show foldR nd d (h :: (L ++ [x, y])) = foldR nd d (h :: (L ++ [nd x y]))
    rw [foldR_cons (by simp), foldR_cons (by simp), foldR_snoc nd d L x y]
/-- the text of a range's hash with all that is behind it is one of the tree's -/
theorem tree_spine (F : Nat → α) : ∀ (n : Nat) {p j k i : Nat}, k ≤ n → 2 ^ j ∣ p → k ≤ 2 ^ j → i + 1 < (seg p (p + k)).length →
    tx ((hsT (tw nd F) p (seg p (p + k)))[i]?.getD d) (foldR nd d ((hsT (tw nd F) p (seg p (p + k))).drop (i + 1))) ∈ ltree nd d tx (lst F p k)
  | 0, p, j, k, i, h, _, _, hi => by
    obtain rfl : k = 0 := by omega
    rw [seg_nil (by omega)] at hi
    simp at hi
  | n + 1, p, j, k, i, h, hd, hk, hi => by
    have h0 : 0 < k := by
      rcases Nat.eq_zero_or_pos k with rfl | h0
      · rw [seg_nil (by omega)] at hi; simp at hi
      · exact h0
    have e0 : p + k - p = k := by omega
    have h1 := sg_is (a := p) (l := k) h0
    rw [seg_cons (by omega), e0] at hi ⊢
    generalize sg p k = m at h1 hi ⊢
    have hp := pow_pos2 m
    have h2 := h1.2.1
    have hsl := hs_len (tw nd F) (seg (p + 2 ^ m) (p + k)) (p + 2 ^ m)
    have hlt0 : 2 ^ m < k := by
      refine Nat.lt_of_not_le fun hc => ?_
      rw [List.length_cons, seg_nil (by omega)] at hi
      simp at hi
    have hmj : m < j := by
      refine Nat.lt_of_not_le fun hc => ?_
      have := pow_mono2 hc
      omega
    have hlt : k < 2 ^ (m + 1) := Nat.lt_of_not_le fun hc => h1.2.2 ⟨pow_dvd2 hmj hd, hc⟩
    have e2 : 2 ^ (m + 1) = 2 ^ m * 2 := Nat.pow_succ 2 m
    have e3 : p + k = p + 2 ^ m + (k - 2 ^ m) := by omega
    have hl := lst_len F p k
    have hdv : 2 ^ m ∣ p + 2 ^ m := Nat.dvd_add h1.1 (Nat.dvd_refl _)
    rw [ltree_more nd d tx (L := lst F p k) (by omega), hl, (spl_is (n := k) (by omega)).uniq (k := m) ⟨by omega, by omega⟩, lst_take F p (by omega), lst_drop F p (by omega), ← tw_root, List.mem_append, List.mem_append]
    rw [hs_cons]
    rw [e3]
    rw [e3, List.length_cons] at hi
    cases i with
    | zero =>
      refine .inr (.inr ?_)
      have hf := fold_root nd d F (k - 2 ^ m) (p := p + 2 ^ m) (j := m) (k := k - 2 ^ m) (Nat.le_refl _) (by omega) hdv (by omega)
      rw [List.mem_singleton, List.getElem?_cons_zero, List.drop_succ_cons, List.drop_zero, hf]; rfl
    | succ i =>
      refine .inr (.inl ?_)
      rw [List.getElem?_cons_succ, List.drop_succ_cons]
      exact tree_spine F n (j := m) (by omega) hdv (by omega) (by omega)
/-- lists that are folded to one hash, where no two different texts have one hash -/
theorem fold_same {Y : List β} (hinj : ∀ a b c e, tx a b = tx c e → a = c ∧ b = e) {sm : β → α} (hnd : ∀ a b, nd a b = sm (tx a b)) :
    ∀ (f : Nat) {L M : List α}, L.length = M.length → L.length ≤ f → 0 < L.length → (∀ x ∈ foldX nd d tx f L, ∀ y ∈ Y, sm x = sm y → x = y) →
    (∀ i, i + 1 < M.length → tx (M[i]?.getD d) (foldR nd d (M.drop (i + 1))) ∈ Y) → foldR nd d L = foldR nd d M → L = M
  | 0, L, M, _, h, h0, _, _, _ => by omega
  | f + 1, L, M, hl, hf, h0, hX, hY, hr => by
    by_cases h1 : L.length ≤ 1
    · have hL1 : L.length = 1 := by omega
      obtain ⟨x, rfl⟩ := List.length_eq_one_iff.1 hL1
      obtain ⟨y, rfl⟩ := List.length_eq_one_iff.1 (hl ▸ hL1)
      have : x = y := hr
      rw [this]
    · have split : ∀ (K : List α), 2 ≤ K.length → ∃ A x y, K = A ++ [x, y] ∧ A.length + 2 = K.length := fun K hK => by
        have e := List.take_append_drop (K.length - 2) K
        have hd : (K.drop (K.length - 2)).length = 2 := by rw [List.length_drop]; omega
        match hq : K.drop (K.length - 2), hd with
        | [x, y], _ => exact ⟨K.take (K.length - 2), x, y, by rw [← hq, e], by rw [List.length_take]; omega⟩
      obtain ⟨A, x, y, hA, hAl⟩ := split L (by omega)
      obtain ⟨B, u, v, hB, hBl⟩ := split M (by omega)
      have hAB : A.length = B.length := by omega
      have eL2 : L.length - 2 = A.length := by omega
      have eL1 : L.length - 1 = A.length + 1 := by omega
      subst hA; subst hB
      unfold foldX at hX
      rw [if_neg h1, eL2, eL1] at hX
      have g1 : (A ++ [x, y])[A.length]?.getD d = x := by rw [List.getElem?_append_right (Nat.le_refl _), Nat.sub_self]; rfl
      have g2 : (A ++ [x, y])[A.length + 1]?.getD d = y := by rw [List.getElem?_append_right (by omega), Nat.add_sub_cancel_left]; rfl
      rw [g1, g2, List.take_left' rfl] at hX
      have hr2 : foldR nd d (A ++ [nd x y]) = foldR nd d (B ++ [nd u v]) := by rw [← foldR_snoc, ← foldR_snoc]; exact hr
      have ih := fold_same hinj hnd f (L := A ++ [nd x y]) (M := B ++ [nd u v]) (by simp [hAB]) (by simp at hf ⊢; omega) (by simp) (fun z hz => hX z (List.mem_cons_of_mem _ hz)) (fun i hi => by
        have hi2 : i < B.length := by simp at hi; omega
        have h9 := hY i (by simp; omega)
        rw [List.getElem?_append_left hi2, List.drop_append_of_le_length (by omega)] at h9 ⊢
        rw [foldR_snoc] at h9
        exact h9) hr2
      obtain ⟨e1, e2⟩ := List.append_inj ih hAB
      have e3 : nd x y = nd u v := by injection e2
      have hin : tx u v ∈ Y := by
        have h9 := hY B.length (by simp)
        have g3 : (B ++ [u, v])[B.length]?.getD d = u := by rw [List.getElem?_append_right (Nat.le_refl _), Nat.sub_self]; rfl
        have g4 : foldR nd d ((B ++ [u, v]).drop (B.length + 1)) = v := by
          rw [List.drop_append, List.drop_of_length_le (by omega), Nat.add_sub_cancel_left]; rfl
        rw [g3, g4] at h9
        exact h9
      have h10 := hX _ (List.mem_cons_self ..) _ hin (by rw [← hnd, ← hnd]; exact e3)
      obtain ⟨h11, h12⟩ := hinj _ _ _ _ h10
      rw [e1, h11, h12]
theorem hs_append (T : Nat → Nat → α) : ∀ (A B : List Nat) (a : Nat), hsT T a (A ++ B) = hsT T a A ++ hsT T (adv a A) B
  | [], B, a => rfl
  | m :: A, B, a => by
    show T a m :: hsT T (a + 2 ^ m) (A ++ B) = T a m :: (hsT T (a + 2 ^ m) A ++ hsT T (adv (a + 2 ^ m) A) B)
    rw [hs_append T A B]
theorem getD_mid {γ : Type} (A B : List γ) (x y d : γ) : (A ++ x :: y :: B)[A.length]?.getD d = x ∧ (A ++ x :: y :: B)[A.length + 1]?.getD d = y ∧ (A ++ x :: y :: B).take A.length = A ∧ (A ++ x :: y :: B).drop (A.length + 2) = B := by
  refine ⟨?_, ?_, List.take_left' rfl, ?_⟩
  · rw [List.getElem?_append_right (Nat.le_refl _), Nat.sub_self]; rfl
  · rw [List.getElem?_append_right (by omega), Nat.add_sub_cancel_left]; rfl
  · rw [List.drop_append, List.drop_of_length_le (by omega), Nat.add_sub_cancel_left]; rfl
theorem mdE_mid (A B : List Nat) (m k : Nat) : mdE (A ++ m :: k :: B) A.length = A ++ (m + 1) :: B := by
  obtain ⟨h1, _, h3, h4⟩ := getD_mid A B m k 0
  unfold mdE
  rw [h1, h3, h4]
theorem mdL_mid (A B : List α) (g h : α) {i : Nat} (hi : A.length = i) : mdL nd d (A ++ g :: h :: B) i = A ++ nd g h :: B := by
  subst hi
  obtain ⟨h1, h2, h3, h4⟩ := getD_mid A B g h d
  unfold mdL
  rw [h1, h2, h3, h4]
theorem split_mid {L : List α} {i k : Nat} (h : L.length = i + (k + 2)) : ∃ A g h B, L = A ++ g :: h :: B ∧ A.length = i ∧ B.length = k := by
  have e := List.take_append_drop i L
  have hd : (L.drop i).length = k + 2 := by rw [List.length_drop]; omega
  match hq : L.drop i, hd with
  | g :: h :: B, hd => exact ⟨L.take i, g, h, B, by rw [← hq, e], by rw [List.length_take]; omega, by simpa using hd⟩
theorem al_mid {A B : List Nat} {a b m : Nat} (h : Al a (A ++ m :: m :: B) b) (hd : 2 ^ (m + 1) ∣ adv a A) : Al a (A ++ (m + 1) :: B) b := by
  rw [al_append] at h ⊢
  obtain ⟨h1, _, _, h2⟩ := h
  have e : adv a A + 2 ^ m + 2 ^ m = adv a A + 2 ^ (m + 1) := by rw [Nat.pow_succ]; omega
  rw [e] at h2
  exact ⟨h1, hd, h2⟩
/-- THE HEART: where no text that is hashed on the way has a hash that another text of the list's tree has too, what leads to the list's root is the list's own -/
theorem trail_own (hinj : ∀ a b c e, tx a b = tx c e → a = c ∧ b = e) {sm : β → α} (hnd : ∀ a b, nd a b = sm (tx a b)) (F : Nat → α) {n : Nat} (hn : 0 < n) :
    ∀ (f : Nat) {E : List Nat} {L : List α}, E.length ≤ f → L.length = E.length → Al 0 E n →
    (∀ x ∈ joinX nd d tx f 0 E L, ∀ y ∈ ltree nd d tx (lst F 0 n), sm x = sm y → x = y) →
    (∀ x ∈ foldX nd d tx (joinH nd d f 0 E L).length (joinH nd d f 0 E L), ∀ y ∈ ltree nd d tx (lst F 0 n), sm x = sm y → x = y) →
    foldR nd d (joinH nd d f 0 E L) = rootL nd d (lst F 0 n) → L = hsT (tw nd F) 0 E
  | 0, E, L, hf, hl, hA, _, _, _ => by
    obtain rfl : E = [] := List.eq_nil_of_length_eq_zero (by omega)
    have : (0 : Nat) = n := hA
    omega
  | f + 1, E, L, hf, hl, hA, hX, hZ, hr => by
    unfold joinX at hX
    unfold joinH at hZ hr
    cases hfm : fstM 0 E with
    | none =>
      simp only [hfm] at hX hZ hr
      have he := nm_uniq hA (fstM_none hfm)
      subst he
      have hsl := hs_len (tw nd F) (seg 0 n) 0
      refine fold_same nd d tx hinj hnd L.length (by omega) (Nat.le_refl _) ?_ hZ (fun i hi => ?_) ?_
      · rw [hl]
        rw [seg_cons hn]; simp
      · have h1 := tree_spine nd d tx F n (p := 0) (j := n) (k := n) (i := i) (Nat.le_refl _) (Nat.dvd_zero _) (Nat.le_of_lt Nat.lt_two_pow_self) (by rw [Nat.zero_add]; omega)
        rw [Nat.zero_add] at h1
        exact h1
      · rw [hr, fold_root0]
    | some i =>
      simp only [hfm] at hX hZ hr
      obtain ⟨A, m, B, rfl, hAl, hd⟩ := fstM_some hfm
      subst hAl
      have hlen : L.length = A.length + (B.length + 2) := by rw [hl]; simp
      obtain ⟨LA, g, h, LB, rfl, hLA, hLB⟩ := split_mid hlen
      rw [mdE_mid, mdL_mid nd d LA LB g h hLA] at hX hZ hr
      have ih := trail_own hinj hnd F hn f (E := A ++ (m + 1) :: B) (L := LA ++ nd g h :: LB) (by simp at hf ⊢; omega) (by simp; omega) (al_mid hA hd) (fun x hx => hX x (List.mem_cons_of_mem _ hx)) hZ hr
      have hg := getD_mid LA LB g h d
      rw [hLA] at hg
      rw [hs_append] at ih ⊢
      obtain ⟨e1, e2⟩ := List.append_inj ih (by rw [hs_len]; exact hLA)
      have e3 : nd g h = tw nd F (adv 0 A) (m + 1) := by injection e2
      have e4 : LB = hsT (tw nd F) (adv 0 A + 2 ^ (m + 1)) B := by injection e2
      have hin : tx (tw nd F (adv 0 A) m) (tw nd F (adv 0 A + 2 ^ m) m) ∈ ltree nd d tx (lst F 0 n) := by
        refine tree_node nd d tx F n (J := n) (Nat.le_refl _) (Nat.dvd_zero _) (Nat.le_of_lt Nat.lt_two_pow_self) hd (Nat.zero_le _) ?_
        have h5 := al_mid hA hd
        rw [al_append] at h5
        have := al_le h5.2.2
        omega
      have h10 := hX _ (List.mem_cons_self ..) _ hin (by rw [← hnd, ← hnd, hg.1, hg.2.1]; exact e3)
      rw [hg.1, hg.2.1] at h10
      obtain ⟨h11, h12⟩ := hinj _ _ _ _ h10
      show LA ++ g :: h :: LB = hsT (tw nd F) 0 A ++ (tw nd F (adv 0 A) m :: tw nd F (adv 0 A + 2 ^ m) m :: hsT (tw nd F) (adv 0 A + 2 ^ m + 2 ^ m) B)
      rw [e1, h11, h12, show adv 0 A + 2 ^ m + 2 ^ m = adv 0 A + 2 ^ (m + 1) by rw [Nat.pow_succ]; omega, ← e4]
/-- joining from the left ends with the range's segments, and the hashes that T tells -/
theorem joinH_cv {T : Nat → Nat → α} {a b : Nat} : ∀ (f : Nat) {C : List (Nat × α)}, C.length ≤ f → Cv nd T a b C → joinH nd d f a (exps C) (hshs C) = hsT T a (seg a b)
  | 0, C, hf, hC => by
    obtain rfl : C = [] := List.eq_nil_of_length_eq_zero (by omega)
    have e : a = b := hC.al
    subst e
    rw [seg_nil (Nat.le_refl _)]; rfl
  | f + 1, C, hf, hC => by
    unfold joinH
    cases hfm : fstM a (exps C) with
    | none =>
      simp only
      exact (hC.end (fstM_none hfm)).2
    | some i =>
      simp only
      obtain ⟨A, m, B, hE, hAl, hd⟩ := fstM_some hfm
      have hlen : C.length = i + (B.length + 2) := by
        have := congrArg List.length hE
        simp at this
        omega
      obtain ⟨CA, x, y, CB, rfl, hCA, hCB⟩ := split_mid hlen
      obtain ⟨x1, x2⟩ := x
      obtain ⟨y1, y2⟩ := y
      have hE2 : exps CA ++ x1 :: y1 :: exps CB = A ++ m :: m :: B := by rw [← hE]; simp [exps]
      obtain ⟨e1, e2⟩ := List.append_inj hE2 (by simp [hCA, hAl])
      injection e2 with e2 e3
      injection e3 with e3 e4
      subst e2; subst e3
      rw [← e1] at hd
      have h1 := hC.made hd
      have h2 := joinH_cv f (C := CA ++ (y1 + 1, nd x2 y2) :: CB) (by simp at hf ⊢; omega) h1
      have f1 : exps (CA ++ (y1, x2) :: (y1, y2) :: CB) = exps CA ++ y1 :: y1 :: exps CB := by simp [exps]
      have f2 : hshs (CA ++ (y1, x2) :: (y1, y2) :: CB) = hshs CA ++ x2 :: y2 :: hshs CB := by simp [hshs]
      have f3 : exps (CA ++ (y1 + 1, nd x2 y2) :: CB) = exps CA ++ (y1 + 1) :: exps CB := by simp [exps]
      have f4 : hshs (CA ++ (y1 + 1, nd x2 y2) :: CB) = hshs CA ++ nd x2 y2 :: hshs CB := by simp [hshs]
      have f5 : i = (exps CA).length := by simp [hCA]
      rw [f3, f4] at h2
      rw [f1, f2, mdL_mid nd d (hshs CA) (hshs CB) x2 y2 (by simp [hCA]), f5, mdE_mid]
      exact h2
/-- the first of two parts joined ahead of the rest -/
theorem cv_front {nd : α → α → α} {T : Nat → Nat → α} {a c : Nat} {C D : List (Nat × α)} (h : Cv nd T a c (C ++ D)) {b : Nat} (hb : adv a (exps C) = b) : Cv nd T a c (zipS (seg a b) (hsT T a (seg a b)) ++ D) := by
  have hC : Cv nd T a b C := by
    refine ⟨?_, (cn_append.1 h.cn).1⟩
    have h1 := h.al
    rw [exps_append, al_append, hb] at h1
    exact h1.1
  have pc : ∀ (R S : List (Nat × α)) (p : Nat), Cv nd T a c (S.reverse ++ (R ++ D)) → Nm a (exps S.reverse) → adv a (exps S.reverse) = p → Cv nd T a c ((pushes nd p S R).reverse ++ D) := by
    intro R
    induction R with
    | nil => intro S p H _ _; exact H
    | cons x R ih =>
      intro S p H hn hp
      obtain ⟨m, g⟩ := x
      have hd : 2 ^ m ∣ p := by
        have h1 := H.al
        rw [exps_append, al_append, hp] at h1
        exact h1.2.1
      obtain ⟨r1, r2, r3⟩ := push_cv H hn (by rw [hp, dvd_floor hd])
      exact ih (push nd p S m g) (p + 2 ^ m) r1 r2 (by rw [r3, hp])
  have h2 := pc C [] a h trivial rfl
  obtain ⟨e1, e2⟩ := pushes_end hC
  have e3 : (pushes nd a [] C).reverse = zipS (seg a b) (hsT T a (seg a b)) := by
    rw [← e2, ← e1]
    unfold zipS exps hshs
    rw [List.zip_map']
    simp
  rw [← e3]
  exact h2
/-- three ranges side by side, whatever their hashes are -/
theorem three_any (d : α) {x y z u : Nat} {L M N : List α} (hxy : x ≤ y) (hyz : y ≤ z) (hzu : z ≤ u) (hL : L.length = (seg x y).length) (hM : M.length = (seg y z).length) (hN : N.length = (seg z u).length) :
    ∃ T, Cv nd T x u ((zipS (seg x y) L ++ zipS (seg y z) M) ++ zipS (seg z u) N) := by
  obtain ⟨T, hT⟩ := cn_any nd d ((zipS (seg x y) L ++ zipS (seg y z) M) ++ zipS (seg z u) N) x
  refine ⟨T, ?_, hT⟩
  have h1 := al_seg (y - x) (Nat.le_refl _) hxy
  have h2 := al_seg (z - y) (Nat.le_refl _) hyz
  have e : adv x (seg x y ++ seg y z) = z := by rw [adv_append, al_adv h1, al_adv h2]
  rw [exps_append, exps_append, zip_exps hL.symm, zip_exps hM.symm, zip_exps hN.symm, al_append, al_append, al_adv h1, e]
  exact ⟨⟨h1, h2⟩, al_seg (u - z) (Nat.le_refl _) hzu⟩
end
end Go.Proofs.YtoacjaecfabahaaDoor
