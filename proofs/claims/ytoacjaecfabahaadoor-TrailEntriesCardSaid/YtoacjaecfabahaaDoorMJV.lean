/-
  What is proved here: who has a right trail of what a list isn't has two different texts with one hash (the mathematics, in the contracts' words).
-/
import Derived.Test.YtoacjaecfabahaaDoorMJQ
import Derived.Test.YtoacjaecfabahaaDoorMJC
set_option linter.unusedSimpArgs false
set_option linter.unusedVariables false
namespace Go.Proofs.YtoacjaecfabahaaDoor
open Go.ChangeShapes Go.WideShapes Go.ChangeAt Go.RowKit
set_option linter.unusedVariables false
set_option linter.unusedSimpArgs false

theorem cv_left {T : Nat → Nat → List Int} {a c : Nat} {C D : List (Nat × List Int)} (h : Cv ndF T a c (C ++ D)) {b : Nat} (hb : adv a (exps C) = b) : Cv ndF T a b C := by
  refine ⟨?_, (cn_append.1 h.cn).1⟩
  have h1 := h.al
  rw [exps_append, al_append, hb] at h1
  exact h1.1
theorem jn3 {x y z : Nat} {L M N : List (List Int)} (hxy : x ≤ y) (hyz : y ≤ z) (hL : L.length = (seg 0 x).length) (hM : M.length = (seg x y).length) (hN : N.length = (seg y z).length)
    (h1 : jn 0 (x : Int) (x : Int) (y : Int) L.length M.length = true) (h2 : jn 0 (y : Int) (y : Int) (z : Int) (jnH 0 (x : Int) (x : Int) (y : Int) L M).length N.length = true) :
    jnH 0 (y : Int) (y : Int) (z : Int) (jnH 0 (x : Int) (x : Int) (y : Int) L M) N = joinHs ndF [] 0 (seg 0 x ++ seg x y ++ seg y z) (L ++ M ++ N) := by
  obtain ⟨T, hT⟩ := three_any ndF [] (x := 0) (y := x) (z := y) (u := z) (L := L) (M := M) (N := N) (Nat.zero_le _) hxy hyz hL hM hN
  have e0 : (0 : Int).toNat = 0 := rfl
  have a1 := al_seg (x - 0) (Nat.le_refl _) (Nat.zero_le x)
  have a2 := al_seg (y - x) (Nat.le_refl _) hxy
  have ex : exps (zipS (seg 0 x) L ++ zipS (seg x y) M) = seg 0 x ++ seg x y := by rw [exps_append, zip_exps hL.symm, zip_exps hM.symm]
  have hy : adv 0 (exps (zipS (seg 0 x) L ++ zipS (seg x y) M)) = y := by rw [ex, adv_append, al_adv a1, al_adv a2]
  have e1 : jnH 0 (x : Int) (x : Int) (y : Int) L M = hsT T 0 (seg 0 y) := by
    unfold jnH
    rw [if_pos h1, e0, Int.toNat_natCast, Int.toNat_natCast]
    exact jn_join hL hM (cv_left hT hy)
  rw [e1] at h2 ⊢
  have e2 : jnH 0 (y : Int) (y : Int) (z : Int) (hsT T 0 (seg 0 y)) N = hsT T 0 (seg 0 z) := by
    unfold jnH
    rw [if_pos h2, e0, Int.toNat_natCast, Int.toNat_natCast]
    exact jn_join (hs_len _ _ _) hN (cv_front hT hy)
  rw [e2]
  have h := joinH_cv ndF [] ((zipS (seg 0 x) L ++ zipS (seg x y) M) ++ zipS (seg y z) N).length (Nat.le_refl _) hT
  have f1 : exps ((zipS (seg 0 x) L ++ zipS (seg x y) M) ++ zipS (seg y z) N) = seg 0 x ++ seg x y ++ seg y z := by rw [exps_append, ex, zip_exps hN.symm]
  have f2 : hshs ((zipS (seg 0 x) L ++ zipS (seg x y) M) ++ zipS (seg y z) N) = L ++ M ++ N := by
    have g1 := zip_hshs hL.symm
    have g2 := zip_hshs hM.symm
    have g3 := zip_hshs hN.symm
    unfold hshs at *
    rw [List.map_append, List.map_append, g1, g2, g3]
  have f3 : ((zipS (seg 0 x) L ++ zipS (seg x y) M) ++ zipS (seg y z) N).length = (seg 0 x ++ seg x y ++ seg y z).length := by rw [← f1]; simp [exps]
  rw [f1, f2, f3] at h
  exact h.symm
theorem rt_fold {n : Nat} {K root : List Int} {H : List (List Int)} (h : (rtB 0 (n : Int) H.length && decide (rtV 0 (n : Int) H = root)) = true) : foldR ndF emp H = root := by
  rw [Bool.and_eq_true, decide_eq_true_eq] at h
  have h2 := h.2
  unfold rtV at h2
  rw [if_pos h.1] at h2
  exact h2
theorem entry_clash {M i1 : Int} {n : Nat} {Ah Be L : List (List Int)} {h : List Int} (hl : L.length = n) (hn : n ≤ 100) (hAo : ∀ f ∈ Ah, H32 f) (hBo : ∀ f ∈ Be, H32 f) (hh : H32 h) (hLo : ∀ f ∈ L, H32 f) (hi1 : i1 = M + 1 ∨ i1 < 0) (hie : ieB M i1 (n : Int) Ah h Be (rootL ndF emp L) = true) :
    ∃ i : Nat, M = (i : Int) ∧ i < n ∧ Ah.length = (seg 0 i).length ∧ Be.length = (seg (i + 1) n).length ∧ (L[i]?.getD [] ≠ h → clashV (txs (allX 0 (seg 0 i ++ seg i (i + 1) ++ seg (i + 1) n) (Ah ++ [h] ++ Be))) (txs (tX L)) = true) := by
  have hg : ¬ (M < 0 ∨ (n : Int) ≤ M ∨ 2147483647 < (n : Int)) := fun hb => by rw [ie_no hb hi1] at hie; cases hie
  obtain ⟨i, rfl⟩ : ∃ i : Nat, M = (i : Int) := ⟨M.toNat, by omega⟩
  have hin : i < n := by omega
  have e1 : i1 = ((i + 1 : Nat) : Int) := by
    rcases hi1 with h1 | h1
    · rw [h1]; omega
    · exfalso
      unfold ieB arB at hie
      rw [arS_none ⟨⟨i1, (n : Int), none, 0, 0, Be⟩, by simp, frm_no (by show ¬ (0 ≤ i1 ∧ i1 ≤ (n : Int) ∧ (n : Int) ≤ 2147483647); omega)⟩] at hie
      cases hie
  subst e1
  unfold ieB arB at hie
  rw [ar_first] at hie
  by_cases hf : frm 0 (i : Int) Ah.length = true
  · rw [if_pos hf] at hie
    simp only [arS] at hie
    by_cases hj1 : jn 0 (i : Int) (i : Int) ((i + 1 : Nat) : Int) Ah.length ([h] : List (List Int)).length = true
    · rw [if_pos hj1] at hie
      by_cases hj2 : jn 0 ((i + 1 : Nat) : Int) ((i + 1 : Nat) : Int) (n : Int) (jnH 0 (i : Int) (i : Int) ((i + 1 : Nat) : Int) Ah [h]).length Be.length = true
      · rw [if_pos hj2] at hie
        simp only [arR] at hie
        have hr := rt_fold (K := []) hie
        obtain ⟨x, y, z, hx, hy, _, hz, g1, g2, g3, g4, g5⟩ := jn_yes hj1
        obtain ⟨x', y', z', hx', hy', _, hz', k1, k2, k3, k4, k5⟩ := jn_yes hj2
        have : x = 0 := by omega
        have : y = i := by omega
        have : z = i + 1 := by omega
        have : x' = 0 := by omega
        have : y' = i + 1 := by omega
        have : z' = n := by omega
        subst x y z x' y' z'
        have h3 := jn3 (x := i) (y := i + 1) (z := n) (by omega) (by omega) g4 g5 k5 hj1 hj2
        rw [h3] at hr
        refine ⟨i, rfl, hin, g4, k5, fun hne => ?_⟩
        cases hc : clashV (txs (allX 0 (seg 0 i ++ seg i (i + 1) ++ seg (i + 1) n) (Ah ++ [h] ++ Be))) (txs (tX L)) with
        | true => rfl
        | false =>
          exfalso
          obtain ⟨F, hF⟩ : ∃ F : Nat → List Int, F = fun p => L[p - 0]?.getD [] := ⟨_, rfl⟩
          have hL : L = lst F 0 n := by rw [hF, ← hl]; exact lst_of [] 0 L
          have hFi : F i = L[i]?.getD [] := by rw [hF]; rfl
          have a1 := al_seg (i - 0) (Nat.le_refl _) (Nat.zero_le i)
          have a2 := al_seg (i + 1 - i) (Nat.le_refl _) (Nat.le_succ i)
          have a3 := al_seg (n - (i + 1)) (Nat.le_refl _) (show i + 1 ≤ n by omega)
          have hal : Al 0 (seg 0 i ++ seg i (i + 1) ++ seg (i + 1) n) n := by
            rw [List.append_assoc]
            exact al_append.2 ⟨by rw [al_adv a1]; exact a1, by rw [al_adv a1]; exact al_append.2 ⟨by rw [al_adv a2]; exact a2, by rw [al_adv a2]; exact a3⟩⟩
          rw [hL] at hc hr hLo
          have ho := own_hashes (F := F) (n := n) (E := seg 0 i ++ seg i (i + 1) ++ seg (i + 1) n) (L := Ah ++ [h] ++ Be) (by omega)
            (by rw [List.length_append, List.length_append, List.length_append, List.length_append, g4, g5, k5])
            (fun q hq => by
              rcases List.mem_append.1 hq with hq | hq
              · rcases List.mem_append.1 hq with hq | hq
                · exact hAo q hq
                · rw [List.mem_singleton.1 hq]; exact hh
              · exact hBo q hq) hLo hal hc hr
          rw [hs_append, hs_append, al_adv a1] at ho
          have ho1 := (List.append_inj ho (by rw [List.length_append, List.length_append, hs_len, hs_len, g4, g5])).1
          have ho2 := (List.append_inj ho1 (by rw [hs_len, g4])).2
          rw [seg_one] at ho2
          have ho3 : h = F i := by injection ho2
          exact hne (by rw [← hFi, ho3])
      · rw [if_neg hj2] at hie; cases hie
    · rw [if_neg hj1] at hie; cases hie
  · rw [if_neg hf] at hie; cases hie
theorem growth_clash {M : Int} {n : Nat} {Ah Be L : List (List Int)} {h : List Int} (hl : L.length = n) (hn : n ≤ 100) (hAo : ∀ f ∈ Ah, H32 f) (hBo : ∀ f ∈ Be, H32 f) (hLo : ∀ f ∈ L, H32 f) (hie : igB M (n : Int) Ah Be h (rootL ndF emp L) = true) :
    ∃ i : Nat, M = (i : Int) ∧ i ≤ n ∧ Ah.length = (seg 0 i).length ∧ Be.length = (seg i n).length ∧ (rootL ndF emp (L.take i) ≠ h → clashV (txs (allX 0 (seg 0 i ++ seg i i ++ seg i n) (Ah ++ [] ++ Be))) (txs (tX L)) = true) := by
  have hg : ¬ (M < 0 ∨ (n : Int) < M ∨ 2147483647 < (n : Int)) := fun hb => by rw [ig_no hb] at hie; cases hie
  obtain ⟨i, rfl⟩ : ∃ i : Nat, M = (i : Int) := ⟨M.toNat, by omega⟩
  have hin : i ≤ n := by omega
  unfold igB at hie
  rw [Bool.and_eq_true] at hie
  obtain ⟨hi1, hi2⟩ := hie
  unfold arB at hi1 hi2
  rw [ar_first] at hi1 hi2
  by_cases hf : frm 0 (i : Int) Ah.length = true
  · rw [if_pos hf] at hi1 hi2
    simp only [arS, arR] at hi1
    have hold := rt_fold (K := []) hi1
    simp only [arS] at hi2
    by_cases hj1 : jn 0 (i : Int) (i : Int) (n : Int) Ah.length Be.length = true
    · rw [if_pos hj1] at hi2
      simp only [arR] at hi2
      have hr := rt_fold (K := []) hi2
      obtain ⟨x, y, z, hx, hy, _, hz, g1, g2, g3, g4, g5⟩ := jn_yes hj1
      have : x = 0 := by omega
      have : y = i := by omega
      have : z = n := by omega
      subst x y z
      obtain ⟨T, hT⟩ := two_any ndF [] (Nat.zero_le i) hin (L := Ah) (M := Be) g4 g5
      have e2 : jnH 0 (i : Int) (i : Int) (n : Int) Ah Be = joinHs ndF [] 0 (seg 0 i ++ seg i n) (Ah ++ Be) := by
        unfold jnH
        have e0 : (0 : Int).toNat = 0 := rfl
        rw [if_pos hj1, e0, Int.toNat_natCast, Int.toNat_natCast]
      rw [e2] at hr
      refine ⟨i, rfl, hin, g4, g5, fun hne => ?_⟩
      rw [seg_nil (Nat.le_refl i), List.append_nil, List.append_nil]
      cases hc : clashV (txs (allX 0 (seg 0 i ++ seg i n) (Ah ++ Be))) (txs (tX L)) with
      | true => rfl
      | false =>
        exfalso
        obtain ⟨F, hF⟩ : ∃ F : Nat → List Int, F = fun p => L[p - 0]?.getD [] := ⟨_, rfl⟩
        have hL : L = lst F 0 n := by rw [hF, ← hl]; exact lst_of [] 0 L
        have a1 := al_seg (i - 0) (Nat.le_refl _) (Nat.zero_le i)
        have a3 := al_seg (n - i) (Nat.le_refl _) hin
        rcases Nat.eq_zero_or_pos n with h0 | h0
        · have hi0 : i = 0 := by omega
          subst hi0
          rw [seg_nil (Nat.le_refl 0)] at g4
          have hA0 : Ah = [] := List.length_eq_zero_iff.1 g4
          subst hA0
          exact hne (by rw [List.take_zero]; exact hold)
        · rw [hL] at hc hr hLo
          have hal : Al 0 (seg 0 i ++ seg i n) n := al_append.2 ⟨by rw [al_adv a1]; exact a1, by rw [al_adv a1]; exact a3⟩
          have ho := own_hashes (F := F) (n := n) (E := seg 0 i ++ seg i n) (L := Ah ++ Be) h0
            (by rw [List.length_append, List.length_append, g4, g5])
            (fun q hq => (List.mem_append.1 hq).elim (hAo q) (hBo q)) hLo hal hc hr
          rw [hs_append] at ho
          have ho1 := (List.append_inj ho (by rw [hs_len, g4])).1
          refine hne ?_
          rw [hL, lst_take F 0 hin, ← fold_root0, ← ho1]
          exact hold
    · rw [if_neg hj1] at hi2; cases hi2
  · rw [if_neg hf] at hi1; cases hi1
end Go.Proofs.YtoacjaecfabahaaDoor
