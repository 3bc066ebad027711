/-
  What this file is for: the records of a log behind a crash. Nothing of the program is walked here.
-/
import Derived.Test.YthfkooancgkjaaaMWlD
set_option linter.unusedSimpArgs false
set_option linter.unusedVariables false
namespace Go.Proofs.Ythfkooancgkjaaa
open Go.ChangeShapes Go.WideShapes Go.ChangeAt Go.RowKit
set_option linter.unusedVariables false
set_option maxRecDepth 20000

theorem rpg_at (g : Int) : ∀ (parts : List (List Int)) (i : Nat) (first : Bool), PtOk parts → (∀ p ∈ parts, Bs p) → ∀ j, j < parts.length → ∃ kd b, (rpg g i first parts)[j]?.getD [] = wpg g (((i + j : Nat) : Int) + 1) kd b ∧ (0 ≤ kd ∧ kd ≤ 3) ∧ b.length ≤ 110 ∧ Bs b
  | [], i, first, h, _, _, _ => h.elim
  | [b], i, first, h, hb, j, hj => by
    have : j = 0 := by simp at hj; omega
    subst this
    exact ⟨if first then 3 else 2, b, rfl, by split <;> omega, h, hb b (by simp)⟩
  | b :: c :: r, i, first, h, hb, 0, _ => ⟨if first then 1 else 0, b, rfl, by split <;> omega, by have := h.1; omega, hb b (by simp)⟩
  | b :: c :: r, i, first, h, hb, j + 1, hj => by
    obtain ⟨kd, b', h1, h2⟩ := rpg_at g (c :: r) (i + 1) false h.2 (fun p hp => hb p (List.mem_cons_of_mem _ hp)) j (by simpa using hj)
    exact ⟨kd, b', by
      rw [show i + (j + 1) = i + 1 + j by omega]
      exact h1, h2⟩
/-- a page of generation g -/
def Pg (g : Int) (N : Nat → List Int) (k : Nat) : Prop := ∃ kd b, N k = wpg g ((k : Int) + 1) kd b ∧ (0 ≤ kd ∧ kd ≤ 3) ∧ b.length ≤ 110 ∧ Bs b
theorem recs_at {N : Nat → List Int} {g : Int} : ∀ (A : List (List Int)) (i : Nat), RecsAt N g i A → (∀ r ∈ A, Bs r) → ∀ k, i ≤ k → k < i + pgs A → Pg g N k
  | [], i, _, _, k, h1, h2 => by simp [pgs] at h2; omega
  | r :: A, i, h, hb, k, h1, h2 => by
    obtain ⟨a1, a2, a3⟩ := h
    have e : pgs (r :: A) = (cut r).length + pgs A := rfl
    by_cases hk : k < i + (cut r).length
    · obtain ⟨kd, b, h3, h4⟩ := rpg_at g (cut r) i true (cut_ok r).1 (cutf_bs _ _ (hb r (by simp))) (k - i) (by omega)
      refine ⟨kd, b, ?_, h4⟩
      have := a1 (k - i) (by omega)
      rw [show i + (k - i) = k by omega] at this h3
      rw [this, h3]
    · exact recs_at A (i + (cut r).length) a3 (fun r hr => hb r (List.mem_cons_of_mem _ hr)) k (by omega) (by omega)
theorem len_pgs : ∀ (A : List (List Int)), A.length ≤ pgs A
  | [] => Nat.le_refl _
  | r :: A => by
    have := (cut_ok r).2.2
    have := len_pgs A
    show A.length + 1 ≤ (cut r).length + pgs A
    omega
section
variable {Y Z N : Nat → List Int} {n : Nat} {g : Int}
/-- what it tells has the generation g -/
def New (g : Int) (Z : Nat → List Int) (k : Nat) : Prop := ∀ l g' kd b, rt (Z k) ((k : Int) + 1) l = some (g', kd, b) → g' = g
theorem nx_cmp : ∀ (f i : Nat) (l : Int) (acc : List Int), l ≠ g → (∀ k, i ≤ k → k < i + f → Z k = Y k ∨ New g Z k) → nx Z f i l false acc = none ∨ nx Z f i l false acc = nx Y f i l false acc
  | 0, i, l, acc, _, _ => .inl rfl
  | f + 1, i, l, acc, hl, h => by
    rcases h i (Nat.le_refl _) (by omega) with h1 | h1
    · unfold nx
      rw [h1]
      cases hr : rt (Y i) ((i : Int) + 1) l with
      | none => exact .inl rfl
      | some y =>
        obtain ⟨g1, kd, b⟩ := y
        simp only
        split
        · exact .inl rfl
        · rename_i hc
          split
          · exact .inr rfl
          · have hg1 : g1 = l := Decidable.byContradiction fun hn => hc (.inr (.inl ⟨by trivial, hn⟩))
            exact nx_cmp f (i + 1) g1 (acc ++ b) (by rw [hg1]; exact hl) (fun k h2 h3 => h k (by omega) (by omega))
    · left
      unfold nx
      cases hr : rt (Z i) ((i : Int) + 1) l with
      | none => rfl
      | some y =>
        obtain ⟨g1, kd, b⟩ := y
        simp only
        rw [if_pos]
        exact .inr (.inl ⟨by trivial, fun e => hl (e ▸ (h1 l g1 kd b hr))⟩)
theorem nx_old {f i : Nat} {l : Int} (hY : ∀ l' g' kd b, rt (Y i) ((i : Int) + 1) l' = some (g', kd, b) → g' < g) (h0 : Z i = Y i ∨ ∀ l', rt (Z i) ((i : Int) + 1) l' = none) (h : ∀ k, i ≤ k → k < i + f → Z k = Y k ∨ New g Z k) (hn : nx Y f i l true [] = none) : nx Z f i l true [] = none := by
  cases f with
  | zero => rfl
  | succ f =>
    unfold nx at hn ⊢
    rcases h0 with h0 | h0
    · rw [h0]
      cases hr : rt (Y i) ((i : Int) + 1) l with
      | none => rfl
      | some y =>
        obtain ⟨g1, kd, b⟩ := y
        rw [hr] at hn
        simp only at hn ⊢
        have hlt := hY l g1 kd b hr
        split
        · rfl
        · rename_i hc
          rw [if_neg hc] at hn
          split
          · rename_i hk; rw [if_pos hk] at hn; cases hn
          · rename_i hk
            rw [if_neg hk] at hn
            rcases nx_cmp (Y := Y) f (i + 1) g1 ([] ++ b) (by omega) (fun k h2 h3 => h k (by omega) (by omega)) with h4 | h4
            · exact h4
            · rw [h4]; exact hn
    · rw [h0 l]
theorem nx_first {f i : Nat} {l l' : Int} (h : rt (Z i) ((i : Int) + 1) l = rt (Z i) ((i : Int) + 1) l') (acc : List Int) : nx Z f i l true acc = nx Z f i l' true acc := by
  cases f with
  | zero => rfl
  | succ f =>
    unfold nx
    rw [h]
    cases rt (Z i) ((i : Int) + 1) l' with
    | none => rfl
    | some y => obtain ⟨g1, kd, b⟩ := y; simp
theorem nx_gen {G : Int} : ∀ (f i : Nat) (l : Int) (first : Bool) (acc r : List Int) (j : Nat) (g' : Int), nx Y f i l first acc = some (r, j, g') → (∀ k, i ≤ k → k < j → Cg G (Y k)) → g' ≤ G
  | 0, i, l, first, acc, r, j, g', h, _ => by cases h
  | f + 1, i, l, first, acc, r, j, g', h, hc => by
    have hm := nx_more _ _ _ _ _ _ _ _ h
    unfold nx at h
    cases hr : rt (Y i) ((i : Int) + 1) l with
    | none => rw [hr] at h; cases h
    | some y =>
      obtain ⟨g1, kd, b⟩ := y
      rw [hr] at h
      simp only at h
      split at h
      · cases h
      · split at h
        · injection h with h
          injection h with h1 h2
          injection h2 with h2 h3
          rw [← h3]
          exact cg_rt (hc i (Nat.le_refl _) hm.1) hr
        · exact nx_gen f (i + 1) g1 false (acc ++ b) r j g' h (fun k h2 h3 => hc k (by omega) h3)
theorem scn_gen {G : Int} : ∀ (f i : Nat) (l : Int), i ≤ n → (∀ k, k < n → Cg G (Y k)) → (scn Y n f i l).2.1 ≤ n ∧ ((scn Y n f i l).2.2 = l ∨ (scn Y n f i l).2.2 ≤ G)
  | 0, i, l, hi, _ => ⟨hi, .inl rfl⟩
  | f + 1, i, l, hi, hc => by
    cases hx : nx Y (n - i) i l true [] with
    | none => rw [scn_none hx]; exact ⟨hi, .inl rfl⟩
    | some y =>
      obtain ⟨r, j, g'⟩ := y
      have hm := nx_more _ _ _ _ _ _ _ _ hx
      rw [scn_some hx]
      simp only
      obtain ⟨h1, h2⟩ := scn_gen f j g' (by omega) hc
      refine ⟨h1, .inr ?_⟩
      have := nx_gen _ _ _ _ _ _ _ _ hx (fun k h3 h4 => hc k (by omega))
      rcases h2 with h2 | h2
      · rw [h2]; exact this
      · exact h2
theorem crash (hg : 1 ≤ g ∧ g < 256) {lam : Int} (hlam : lam ≤ g) (hY : ∀ k, k < n → Cg (g - 1) (Y k)) {q0 : Nat} (hq : q0 = (scn Y n n 0 lam).2.1) {A1 A2 : List (List Int)} (hA : RecsAt N g q0 (A1 ++ A2)) (hbs : ∀ r ∈ A1 ++ A2, Bs r) (he : q0 + pgs (A1 ++ A2) ≤ n)
    {M : Nat} (hM1 : q0 + pgs A1 ≤ M) (hM2 : M ≤ q0 + pgs (A1 ++ A2)) (z0 : ∀ k, k < q0 → Z k = Y k) (z1 : ∀ k, q0 ≤ k → k < q0 + pgs A1 → Z k = N k)
    (z2 : ∀ k, q0 + pgs A1 ≤ k → k < M → ∃ t, t ≤ 128 ∧ Z k = mx (Y k) (N k) t) (z3 : ∀ k, M ≤ k → k < n → Z k = Y k) :
    (∃ j, j ≤ A2.length ∧ (scn Z n n 0 lam).1 = (scn Y n n 0 lam).1 ++ (A1 ++ A2.take j)) ∧ ∀ k, k < n → Cg g (Z k) := by
  have hgg : 0 ≤ g ∧ g < 4294967296 := by omega
  obtain ⟨hq1, hl0⟩ := scn_gen (Y := Y) (n := n) (G := g - 1) n 0 lam (Nat.zero_le _) hY
  have hst := (scn_stop (Z := Y) (n := n) n 0 lam (by omega)).1
  rw [← hq] at hst hq1
  obtain ⟨l0, hl⟩ : ∃ l0, l0 = (scn Y n n 0 lam).2.2 := ⟨_, rfl⟩
  rw [← hl] at hst hl0
  have hl0g : l0 ≤ g := by omega
  have hpg := recs_at (A1 ++ A2) q0 hA hbs
  have hap := pgs_app A1 A2
  have pgrt : ∀ k, Pg g N k → ∀ l, l ≤ g → ∃ kd b, rt (N k) ((k : Int) + 1) l = some (g, kd, b) ∨ rt (N k) ((k : Int) + 1) l = none := fun k _ l _ => by
    cases h : rt (N k) ((k : Int) + 1) l with
    | none => exact ⟨0, [], .inr rfl⟩
    | some y =>
      obtain ⟨g1, kd, b⟩ := y
      obtain ⟨kd', b', h1, h2, h3, h4⟩ := ‹Pg g N k›
      have := (rt_some h).2.1
      rw [h1, wpg_gen, val_be4' g hgg] at this
      exact ⟨kd, b, .inl (by rw [this])⟩
  have ynew : ∀ k, k < n → ∀ l' g' kd b, rt (Y k) ((k : Int) + 1) l' = some (g', kd, b) → g' < g := fun k hk l' g' kd b h => by
    have := cg_rt (hY k hk) h; omega
  have ydead : ∀ k, k < n → Z k = Y k → Dead g Z k := fun k hk e l hlg => by
    rw [e]
    cases h : rt (Y k) ((k : Int) + 1) l with
    | none => rfl
    | some y =>
      obtain ⟨g1, kd, b⟩ := y
      have h1 := ynew k hk l g1 kd b h
      have h2 := (rt_some h).1
      omega
  -- each page behind the flushed ones: the elder one, the new one, or none at all
  have torn3 : ∀ k, q0 + pgs A1 ≤ k → k < n → (Z k = Y k ∨ (Z k = N k ∧ k < q0 + pgs (A1 ++ A2)) ∨ ∀ l, rt (Z k) ((k : Int) + 1) l = none) ∧ Cg g (Z k) := fun k h1 h2 => by
    by_cases hk : k < M
    · obtain ⟨t, ht, e⟩ := z2 k h1 hk
      obtain ⟨kd, b, hN, hkd, hbl, hbb⟩ := hpg k (by omega) (by omega)
      have := torn_w (p := (k : Int) + 1) hg hkd hbl hbb (hY k h2) ht
      rw [← hN, ← e] at this
      refine ⟨?_, this.2⟩
      rcases this.1 with h | h | h
      · exact .inl h
      · exact .inr (.inl ⟨h, by omega⟩)
      · exact .inr (.inr h)
    · have e := z3 k (by omega) h2
      exact ⟨.inl e, by rw [e]; exact (hY k h2).more (by omega)⟩
  refine ⟨?_, fun k hk => ?_⟩
  · have h1 := scn_again (Z := Z) (Y := Y) (n := n) n 0 lam (fun k _ hk => z0 k (by rw [hq]; exact hk)) (by omega)
    rw [← hq, ← hl] at h1
    have hA1 := (recs_app A1 A2 q0).1 hA
    have h2 := scn_whole (Z := Z) (n := n) hgg A1 q0 n l0 hA1.1 (by omega) hl0g z1 (by have := len_pgs A1; omega)
    obtain ⟨f, hf⟩ : ∃ f, f = n - A1.length := ⟨_, rfl⟩
    rw [← hf] at h2
    have scnew : ∀ f, ∃ j, j ≤ A2.length ∧ (scn Z n f (q0 + pgs A1) g).1 = A2.take j := fun f =>
      scn_new hgg A2 (q0 + pgs A1) f hA1.2 (by omega) (fun k hk1 hk2 => by
        rcases (torn3 k hk1 (by omega)).1 with h | h | h
        · exact .inr (ydead k (by omega) h)
        · exact .inl h.1
        · exact .inr (fun l _ => h l)) (fun k hk1 hk2 => by
        rcases (torn3 k (by omega) hk2).1 with h | h | h
        · exact ydead k hk2 h
        · have := h.2; omega
        · exact fun l _ => h l)
    have key : ∃ j, j ≤ A2.length ∧ (scn Z n f (q0 + pgs A1) (if A1 = [] then l0 else g)).1 = A2.take j := by
      by_cases hne : A1 = []
      · rw [if_pos hne]
        subst hne
        have e0 : q0 + pgs [] = q0 := rfl
        rw [e0] at scnew torn3 ⊢
        by_cases hlg : l0 = g
        · rw [hlg]; exact scnew f
        · cases f with
          | zero => exact ⟨0, Nat.zero_le _, rfl⟩
          | succ f =>
            by_cases hqn : q0 < n
            · have new3 : ∀ k, q0 ≤ k → k < q0 + (n - q0) → Z k = Y k ∨ New g Z k := fun k hk1 hk2 => by
                rcases (torn3 k hk1 (by omega)).1 with h | h | h
                · exact .inl h
                · right
                  intro l g' kd b hr
                  obtain ⟨kd', b', h1', _⟩ := hpg k hk1 h.2
                  have := (rt_some hr).2.1
                  rw [h.1, h1', wpg_gen, val_be4' g hgg] at this
                  exact this
                · right
                  intro l g' kd b hr
                  rw [h l] at hr; cases hr
              rcases (torn3 q0 (Nat.le_refl _) hqn).1 with h | h | h
              · exact ⟨0, Nat.zero_le _, by rw [scn_none (nx_old (ynew q0 hqn) (.inl h) new3 hst)]; rfl⟩
              · obtain ⟨j, hj, hs⟩ := scnew (f + 1)
                refine ⟨j, hj, ?_⟩
                rw [← hs]
                obtain ⟨kd, b, hN, hkd, hbl, hbb⟩ := hpg q0 (Nat.le_refl _) h.2
                have hrt : rt (Z q0) ((q0 : Int) + 1) l0 = rt (Z q0) ((q0 : Int) + 1) g := by
                  cases hx : rt (Z q0) ((q0 : Int) + 1) l0 with
                  | some y =>
                    obtain ⟨g1, kd1, b1⟩ := y
                    have hgen := (rt_some hx).2.1
                    rw [h.1, hN, wpg_gen, val_be4' g hgg] at hgen
                    subst hgen
                    exact (rt_least hx (Int.le_refl _)).symm
                  | none =>
                    cases hy : rt (Z q0) ((q0 : Int) + 1) g with
                    | none => rfl
                    | some y =>
                      obtain ⟨g1, kd1, b1⟩ := y
                      have := rt_least (l' := l0) hy (by have := (rt_some hy).1; omega)
                      rw [hx] at this; cases this
                have hnx := nx_first (f := n - q0) hrt []
                cases hx : nx Z (n - q0) q0 g true [] with
                | none => rw [scn_none hx, scn_none (by rw [hnx]; exact hx)]
                | some y =>
                  obtain ⟨r, j', g'⟩ := y
                  rw [scn_some hx, scn_some (by rw [hnx]; exact hx)]
              · exact ⟨0, Nat.zero_le _, by rw [scn_none (nx_old (ynew q0 hqn) (.inr h) new3 hst)]; rfl⟩
            · exact ⟨0, Nat.zero_le _, by rw [scn_none (nx_out q0 l0 true [] (by omega))]; rfl⟩
      · rw [if_neg hne]; exact scnew f
    obtain ⟨j, hj, hs⟩ := key
    refine ⟨j, hj, ?_⟩
    rw [h1, h2]
    simp only
    rw [hs]
  · by_cases h1 : k < q0
    · rw [z0 k h1]; exact (hY k hk).more (by omega)
    · by_cases h2 : k < q0 + pgs A1
      · obtain ⟨kd, b, hN, hkd, hbl, hbb⟩ := hpg k (by omega) (by omega)
        rw [z1 k (by omega) h2, hN]
        exact cg_wpg (by omega) hkd hbl hbb
      · exact (torn3 k (by omega) hk).2
end
end Go.Proofs.Ythfkooancgkjaaa
