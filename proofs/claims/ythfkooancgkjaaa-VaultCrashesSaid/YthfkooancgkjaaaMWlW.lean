/-
  What this file is for: a new log; what is found of a log whose power stayed on. Nothing of the program is walked here.
-/
import Derived.Test.YthfkooancgkjaaaMWlI
set_option linter.unusedSimpArgs false
set_option linter.unusedVariables false
namespace Go.Proofs.Ythfkooancgkjaaa
open Go.ChangeShapes Go.WideShapes Go.ChangeAt Go.RowKit
set_option linter.unusedVariables false
set_option maxRecDepth 20000

theorem zpg_bs : Bs zpg := fun y hy => by
  unfold zpg at hy
  rw [List.eq_of_mem_replicate hy]; decide
theorem cg_zpg {g : Int} (h : 0 ≤ g) : Cg g zpg :=
  ⟨rfl, zpg_bs, fun j hj => by unfold zpg; rw [List.getElem?_replicate, if_pos (by omega)], fun j hj => by unfold zpg; rw [List.getElem?_replicate, if_pos (by omega)], ⟨0, rfl, h⟩, ⟨0, rfl, h⟩⟩
/-- pages of lesser generations alone tell nothing -/
theorem scn_low {Z : Nat → List Int} {n : Nat} {G l : Int} (hc : ∀ k, k < n → Cg G (Z k)) (hl : G < l) (f i : Nat) : scn Z n f i l = ([], i, l) := by
  cases f with
  | zero => rfl
  | succ f =>
    refine scn_none ?_
    rcases Nat.lt_or_ge i n with h | h
    · cases hk : n - i with
      | zero => rfl
      | succ k =>
        unfold nx
        cases hr : rt (Z i) ((i : Int) + 1) l with
        | none => rfl
        | some y =>
          obtain ⟨g1, kd, b⟩ := y
          have h1 := cg_rt (hc i h) hr
          have h2 := (rt_some hr).1
          omega
    · exact nx_out i l true [] h
theorem nx_ext {Y Z : Nat → List Int} : ∀ (f i : Nat) (l : Int) (first : Bool) (acc : List Int), (∀ k, i ≤ k → k < i + f → Z k = Y k) → nx Z f i l first acc = nx Y f i l first acc
  | 0, _, _, _, _, _ => rfl
  | f + 1, i, l, first, acc, h => by
    unfold nx
    rw [h i (Nat.le_refl _) (by omega)]
    cases rt (Y i) ((i : Int) + 1) l with
    | none => rfl
    | some y =>
      obtain ⟨g1, kd, b⟩ := y
      simp only
      rw [nx_ext f (i + 1) g1 false (acc ++ b) (fun k h1 h2 => h k (by omega) (by omega))]
theorem scn_ext {Y Z : Nat → List Int} {n : Nat} (h : ∀ k, k < n → Z k = Y k) : ∀ (f i : Nat) (l : Int), scn Z n f i l = scn Y n f i l
  | 0, i, l => rfl
  | f + 1, i, l => by
    have e := nx_ext (Y := Y) (Z := Z) (n - i) i l true [] (fun k h1 h2 => h k (by omega))
    unfold scn
    rw [e]
    cases hn : nx Y (n - i) i l true [] with
    | none => rfl
    | some y => obtain ⟨r, j, g⟩ := y; simp only; rw [scn_ext h f j g]
theorem found {Y Z N : Nat → List Int} {n : Nat} {g : Int} (hg : 1 ≤ g ∧ g < 4294967296) {lam : Int} (hlam : lam ≤ g) (hY : ∀ k, k < n → Cg (g - 1) (Y k)) {q0 : Nat} (hq : q0 = (scn Y n n 0 lam).2.1) {A : List (List Int)} (hA : RecsAt N g q0 A) (he : q0 + pgs A ≤ n)
    (z0 : ∀ k, k < q0 → Z k = Y k) (z1 : ∀ k, q0 ≤ k → k < q0 + pgs A → Z k = N k) (z3 : ∀ k, q0 + pgs A ≤ k → k < n → Z k = Y k) :
    (scn Z n n 0 lam).1 = (scn Y n n 0 lam).1 ++ A ∧ (scn Z n n 0 lam).2.1 = q0 + pgs A := by
  have hgg : 0 ≤ g ∧ g < 4294967296 := by omega
  obtain ⟨hq1, hl0⟩ := scn_gen (Y := Y) (n := n) (G := g - 1) n 0 lam (Nat.zero_le _) hY
  have hst := (scn_stop (Z := Y) (n := n) n 0 lam (by omega)).1
  rw [← hq] at hst hq1
  obtain ⟨l0, hl⟩ : ∃ l0, l0 = (scn Y n n 0 lam).2.2 := ⟨_, rfl⟩
  rw [← hl] at hst hl0
  have h1 := scn_again (Z := Z) (Y := Y) (n := n) n 0 lam (fun k _ hk => z0 k (by rw [hq]; exact hk)) (by omega)
  rw [← hq, ← hl] at h1
  have h2 := scn_whole (Z := Z) (n := n) hgg A q0 n l0 hA he (by omega) z1 (by have := len_pgs A; omega)
  have h3 : ∀ f, scn Z n f (q0 + pgs A) (if A = [] then l0 else g) = ([], q0 + pgs A, if A = [] then l0 else g) := fun f => by
    cases f with
    | zero => rfl
    | succ f =>
      refine scn_none ?_
      by_cases hne : A = []
      · rw [if_pos hne]
        subst hne
        rw [← hst]
        exact nx_ext _ _ _ _ _ (fun k hk1 hk2 => z3 k hk1 (by
          have : pgs ([] : List (List Int)) = 0 := rfl
          omega))
      · rw [if_neg hne]
        rcases Nat.lt_or_ge (q0 + pgs A) n with h | h
        · refine nx_dead (g := g) (fun l hlg => ?_) (Int.le_refl _)
          rw [z3 _ (Nat.le_refl _) h]
          cases hr : rt (Y (q0 + pgs A)) (((q0 + pgs A : Nat) : Int) + 1) l with
          | none => rfl
          | some y =>
            obtain ⟨g1, kd, b⟩ := y
            have h4 := cg_rt (hY _ h) hr
            have h5 := (rt_some hr).1
            omega
        · exact nx_out _ _ _ _ h
  rw [h3] at h2
  rw [h1, h2]
  exact ⟨by simp, rfl⟩
section
variable {T a c : Nat} {lam : Int} {Y N : Nat → List Int} {q0 M : Nat} {R A1 A2 P X : List (List Int)} {s : SS} {l : LS} {all : List (List Int)} {sure : Nat}
/-- with the power on all is found, and the log goes on where it was -/
theorem wi_found (h : WI T a c lam Y N q0 M R A1 A2 P X s l all sure) (ho : l.o = false) : (scn (s.lp a) c c 0 lam).1 = all ∧ (scn (s.lp a) c c 0 lam).2.1 = l.n ∧ ∀ k, k < c → Cg l.g (s.lp a k) := by
  obtain ⟨hP, hX, hn⟩ := h.up ho
  subst hP; subst hX
  have hm1 := h.m1
  have hm2 := h.m2
  rw [List.append_nil] at hm2
  have hM : q0 + pgs (A1 ++ A2) = M := by omega
  have hra := h.ra
  rw [List.append_nil] at hra
  have hm3 := h.m3
  rw [List.append_nil] at hm3
  have lpk : ∀ k, k < c → s.lp a k = if q0 ≤ k ∧ k < M then N k else Y k := fun k hk => h.pi.pq k hk
  have hf := found (Z := s.lp a) h.hg.1 h.hg.2 h.cy h.q hra hm3 (fun k hk => by rw [lpk k (by omega), if_neg (by omega)]) (fun k h1 h2 => by rw [lpk k (by omega), if_pos (by omega)]) (fun k h1 h2 => by rw [lpk k h2, if_neg (by omega)])
  rw [← h.r, hM] at hf
  refine ⟨?_, by rw [hf.2, hn], fun k hk => ?_⟩
  · rw [hf.1, h.al]; simp
  · rw [lpk k hk]
    split
    · rename_i hk2
      rcases h.h2 with h256 | hnil
      · obtain ⟨kd, b, e1, e2, e3, e4⟩ := recs_at _ _ hra (fun r hr => h.bs r (by rw [List.append_nil]; exact hr)) k (by omega) (by omega)
        rw [e1]
        exact cg_wpg (by have := h.hg; omega) e2 e3 e4
      · rw [List.append_nil] at hnil
        rw [hnil] at hM
        simp only [pgs] at hM
        omega
    · exact (h.cy k hk).more (by omega)
/-- behind a restart: the first ones of all, at least those that are sure -/
theorem wi_crash (h : WI T a c lam Y N q0 M R A1 A2 P X s l all sure) (ls : List Int) :
    sure ≤ (scn ((s.rs ls).lp a) c c 0 lam).1.length ∧ (∃ m, (scn ((s.rs ls).lp a) c c 0 lam).1 = all.take m) ∧ ∀ k, k < c → Cg l.g ((s.rs ls).lp a k) := by
  have hf1 := h.f1
  have hm2 := h.m2
  have hm3 := h.m3
  have hpg := recs_at _ _ h.ra h.bs
  have hl0 := h.pi.len
  -- the pages behind the restart
  have far : ∀ k, k < c → (k < q0 + pgs A1 ∨ M ≤ k) → (mixs (keep ls) s.L s.Q s.Q.length)[a + k]? = s.L[a + k]? := fun k hk hc => mixs_far (fun q hq e => by
    obtain ⟨e1, e2, _⟩ := h.pi.wq q hq (by omega) (by omega)
    omega) _
  have z0 : ∀ k, k < q0 → (s.rs ls).lp a k = Y k := fun k hk => by
    show (mixs (keep ls) s.L s.Q s.Q.length)[a + k]?.getD [] = _
    rw [far k (by omega) (by omega), h.pi.lo k (by omega), if_neg (by omega)]
  have z1 : ∀ k, q0 ≤ k → k < q0 + pgs A1 → (s.rs ls).lp a k = N k := fun k hk1 hk2 => by
    show (mixs (keep ls) s.L s.Q s.Q.length)[a + k]?.getD [] = _
    rw [far k (by omega) (by omega), h.pi.lo k (by omega), if_pos ⟨hk1, hk2⟩]
  have z3 : ∀ k, M ≤ k → k < c → (s.rs ls).lp a k = Y k := fun k hk1 hk2 => by
    show (mixs (keep ls) s.L s.Q s.Q.length)[a + k]?.getD [] = _
    rw [far k (by omega) (by omega), h.pi.lo k (by omega), if_neg (by omega)]
  have z2 : ∀ k, q0 + pgs A1 ≤ k → k < M → ∃ t, t ≤ 128 ∧ (s.rs ls).lp a k = mx (Y k) (N k) t := fun k hk1 hk2 => by
    have hlo : s.L[a + k]?.getD [] = Y k := by rw [h.pi.lo k (by omega), if_neg (by omega)]
    obtain ⟨kd, b', e1, e2, e3, e4⟩ := hpg k (by omega) (by omega)
    obtain ⟨t, ht, e⟩ := mixs_one (keep_le ls) (L := s.L) (Q := s.Q) (i := a + k) (b := N k) (by have := h.pi.fit; omega) (by rw [hlo]; exact (h.cy k (by omega)).len) (by rw [e1]; exact wpg_len e3) (fun q hq hqi => by
      obtain ⟨_, _, d⟩ := h.pi.wq q hq (by omega) (by omega)
      rw [d, hqi]; congr 1; omega) s.Q.length
    rw [hlo] at e
    exact ⟨t, ht, e⟩
  rcases h.h2 with h256 | hnil
  · obtain ⟨⟨j, hj, hs⟩, hcg⟩ := crash (Z := (s.rs ls).lp a) (N := N) (n := c) ⟨h.hg.1.1, h256⟩ h.hg.2 h.cy h.q h.ra h.bs hm3 hf1 hm2 z0 z1 z2 z3
    rw [← h.r] at hs
    refine ⟨?_, ⟨R.length + (A1.length + j), ?_⟩, hcg⟩
    · rw [hs, List.length_append, List.length_append]
      have := h.su
      omega
    · rw [hs, h.al, List.take_length_add_append, List.append_assoc A1 (A2 ++ P) X, List.take_length_add_append, List.take_append_of_le_length hj]
  · have hp0 : pgs A1 = 0 := by rw [(List.append_eq_nil_iff.1 hnil).1]; rfl
    have hp1 : pgs (A1 ++ (A2 ++ P)) = 0 := by rw [hnil]; rfl
    have zY : ∀ k, k < c → (s.rs ls).lp a k = Y k := fun k hk => by
      rcases Nat.lt_or_ge k q0 with h1 | h1
      · exact z0 k h1
      · exact z3 k (by omega) hk
    have e : scn ((s.rs ls).lp a) c c 0 lam = scn Y c c 0 lam := scn_ext zY c 0 lam
    have hal := h.al
    have hsu := h.su
    have hA1 : A1 = [] := (List.append_eq_nil_iff.1 hnil).1
    rw [hnil, List.nil_append] at hal
    rw [hA1] at hsu
    rw [e, ← h.r]
    refine ⟨by simpa using hsu, ⟨R.length, by rw [hal]; simp⟩, fun k hk => by rw [zY k hk]; exact (h.cy k hk).more (by omega)⟩
/-- a log is opened on pages on which nothing of its generation stands, with nothing that waits on them -/
theorem wi_open {g : Int} (hlen : s.L.length = T) (hfit : a + c ≤ T) (hq : ∀ r ∈ s.Q, ¬ (a ≤ r.1 ∧ r.1 < a + c)) (hcg : ∀ k, k < c → Cg (g - 1) (s.lp a k)) (hg : 1 ≤ g ∧ g < 4294967296) (hlam : lam ≤ g) :
    WI T a c lam (s.lp a) (s.lp a) (scn (s.lp a) c c 0 lam).2.1 (scn (s.lp a) c c 0 lam).2.1 (scn (s.lp a) c c 0 lam).1 [] [] [] [] s ⟨g, (scn (s.lp a) c c 0 lam).2.1, false⟩ (scn (s.lp a) c c 0 lam).1 (scn (s.lp a) c c 0 lam).1.length := by
  have hq50 := (scn_gen (Y := s.lp a) (n := c) (G := g - 1) c 0 lam (Nat.zero_le _) hcg).1
  have hpg : ∀ k, k < c → (pg s.L s.Q)[a + k]? = s.L[a + k]? := fun k hk => pg_far _ _ _ (fun q hqm e => hq q hqm (by omega))
  refine ⟨⟨hg, hlam⟩, .inr rfl, hcg, rfl, rfl, trivial, fun r hr => by simp at hr, by simp [pgs], by simp [pgs], by simpa [pgs] using hq50, by simp, by simp, ⟨hlen, hfit, fun k hk => ?_, fun r hr h1 h2 => (hq r hr ⟨h1, h2⟩).elim, fun k hk => ?_⟩, fun _ => ⟨rfl, rfl, rfl⟩, fun h1 => by cases h1⟩
  · have : s.lp a k = s.L[a + k]?.getD [] := by unfold SS.lp; rw [hpg k hk]
    rw [this]
    split <;> rfl
  · show s.lp a k = _
    split <;> rfl
/-- behind a restart, opened with one generation more -/
theorem wi_restart (h : WI T a c lam Y N q0 M R A1 A2 P X s l all sure) (hg : l.g + 1 < 4294967296) (ls : List Int) :
    ∃ Z, (∀ k, k < c → (s.rs ls).lp a k = Z k) ∧ sure ≤ (scn Z c c 0 lam).1.length ∧ (∃ m, (scn Z c c 0 lam).1 = all.take m) ∧
      WI T a c lam Z Z (scn Z c c 0 lam).2.1 (scn Z c c 0 lam).2.1 (scn Z c c 0 lam).1 [] [] [] [] (s.rs ls) ⟨l.g + 1, (scn Z c c 0 lam).2.1, false⟩ (scn Z c c 0 lam).1 (scn Z c c 0 lam).1.length := by
  obtain ⟨h1, h2, h3⟩ := wi_crash h ls
  have hlen : (s.rs ls).L.length = T := by show (mixs _ _ _ _).length = T; rw [mixs_length]; exact h.pi.len
  exact ⟨(s.rs ls).lp a, fun k _ => rfl, h1, h2, wi_open hlen h.pi.fit (fun r hr => by simp [SS.rs] at hr) (fun k hk => by rw [Int.add_sub_cancel]; exact h3 k hk) (by have := h.hg; omega) (by have := h.hg; omega)⟩
theorem wi_new {T a c : Nat} (hf : a + c ≤ T) {g lam : Int} (hg : 1 ≤ g ∧ g < 256) (hlam : 0 < lam ∧ lam ≤ g) : WI T a c lam (fun _ => zpg) (fun _ => zpg) 0 0 [] [] [] [] [] ⟨List.replicate T zpg, [], -1, false⟩ ⟨g, 0, false⟩ [] 0 := by
  have hs : scn (fun _ => zpg) c c 0 lam = ([], 0, lam) := scn_low (G := 0) (fun k _ => cg_zpg (Int.le_refl _)) (by omega) c 0
  refine ⟨⟨by simp only; omega, hlam.2⟩, .inr rfl, fun k _ => cg_zpg (by simp only; omega), by rw [hs], by rw [hs], trivial, fun r hr => by simp at hr, by simp [pgs], by simp [pgs], by simp [pgs], by simp, by simp, ⟨by simp, hf, fun k hk => ?_, fun r hr => by simp at hr, fun k hk => ?_⟩, fun _ => ⟨rfl, rfl, rfl⟩, fun h1 => by cases h1⟩
  · simp only
    rw [List.getElem?_replicate, if_pos (by omega)]
    split <;> rfl
  · show (List.replicate T zpg)[a + k]?.getD [] = _
    rw [List.getElem?_replicate, if_pos (by omega)]
    split <;> rfl
end
/-- what a page of a new device tells a log: nothing -/
theorem lp_new {T a c : Nat} (hf : a + c ≤ T) (k : Nat) (hk : k < c) : (⟨List.replicate T zpg, [], -1, false⟩ : SS).lp a k = zpg := by
  show (List.replicate T zpg)[a + k]?.getD [] = _
  rw [List.getElem?_replicate, if_pos (by omega)]; rfl
theorem wr_on {s : SS} (hF : s.F = -1) (hd : s.D = false) (i : Int) (b : List Int) : (s.wr i b).2.F = -1 ∧ (s.wr i b).2.D = false := by
  unfold SS.wr
  rw [if_neg (by rw [hd]; simp)]
  split
  · exact ⟨hF, hd⟩
  · split
    · exact ⟨hF, hd⟩
    · rw [if_neg (by rw [hF]; decide)]
      exact ⟨by simp only [hF]; rfl, rfl⟩
theorem apw_on : ∀ (ps : List (List Int)) (s : SS) (i : Nat), s.F = -1 → s.D = false → (apw s i ps).2.F = -1 ∧ (apw s i ps).2.D = false
  | [], s, i, hF, hd => ⟨hF, hd⟩
  | p :: ps, s, i, hF, hd => by
    unfold apw
    have h := wr_on hF hd (i : Int) p
    split
    · exact h
    · exact apw_on ps _ _ h.1 h.2
/-- Append with the power on -/
theorem wi_on {T a c : Nat} {lam : Int} {Y N : Nat → List Int} {q0 M : Nat} {R A1 A2 P X : List (List Int)} {s : SS} {l : LS} {all : List (List Int)} {sure : Nat} (h : WI T a c lam Y N q0 M R A1 A2 P X s l all sure) (h256 : l.g < 256) (hF : s.F = -1) (hd : s.D = false) (ho : l.o = false) {b : List Int} (hb : Bs b) :
    (6000 < b.length ∧ s.ap a c l b = (3, s, l)) ∨ (b.length ≤ 6000 ∧ c < l.n + (cut b).length ∧ s.ap a c l b = (5, s, l)) ∨
    (b.length ≤ 6000 ∧ l.n + (cut b).length ≤ c ∧ (s.ap a c l b).1 = 0 ∧ (s.ap a c l b).2.2 = ⟨l.g, l.n + (cut b).length, false⟩ ∧ (s.ap a c l b).2.1.F = -1 ∧ (s.ap a c l b).2.1.D = false ∧ ∃ N' M' A2' P' X', WI T a c lam Y N' q0 M' R A1 A2' P' X' (s.ap a c l b).2.1 (s.ap a c l b).2.2 (all ++ [b]) sure) := by
  by_cases h6 : 6000 < b.length
  · left
    refine ⟨h6, ?_⟩
    unfold SS.ap
    rw [if_neg (by rw [ho]; simp), if_pos h6]
  · right
    by_cases hfull : c < l.n + (cut b).length
    · left
      refine ⟨by omega, hfull, ?_⟩
      unfold SS.ap
      rw [if_neg (by rw [ho]; simp), if_neg h6, if_pos hfull]
    · right
      have hw := wi_append h h256 hb (by omega)
      have hon := apw_on (rpg l.g l.n true (cut b)) s (a + l.n) hF hd
      by_cases h0 : (apw s (a + l.n) (rpg l.g l.n true (cut b))).1 = 0
      · have e : s.ap a c l b = (0, (apw s (a + l.n) (rpg l.g l.n true (cut b))).2, ⟨l.g, l.n + (cut b).length, false⟩) := by
          unfold SS.ap
          rw [if_neg (by rw [ho]; simp), if_neg h6, if_neg hfull, if_pos h0]
        rw [e] at hw ⊢
        rcases hw with hw | hw
        · simp at hw
        · exact ⟨by omega, by omega, rfl, rfl, hon.1, hon.2, hw.2⟩
      · exfalso
        have e : s.ap a c l b = ((apw s (a + l.n) (rpg l.g l.n true (cut b))).1, (apw s (a + l.n) (rpg l.g l.n true (cut b))).2, ⟨l.g, l.n, decide ((apw s (a + l.n) (rpg l.g l.n true (cut b))).1 = 6)⟩) := by
          unfold SS.ap
          rw [if_neg (by rw [ho]; simp), if_neg h6, if_neg hfull, if_neg h0]
        rw [e] at hw
        rcases hw with hw | ⟨hw5, N', M', A2', P', X', hw⟩
        · have := congrArg SS.F (congrArg Prod.fst hw.2)
          have h5 := hw.1
          simp only at h5
          have hn := h.up ho
          -- a write's error is never 5
          have key : ∀ (ps : List (List Int)) (s : SS) (i : Nat), (apw s i ps).1 ≠ 5 := by
            intro ps
            induction ps with
            | nil => intro s i h; simp [apw] at h
            | cons p ps ih =>
              intro s i h
              unfold apw at h
              split at h
              · unfold SS.wr at h
                split at h
                · simp at h
                · split at h
                  · simp at h
                  · split at h
                    · simp at h
                    · split at h <;> simp at h
              · exact ih _ _ h
          exact key _ _ _ h5
        · obtain ⟨hP, hX, hn⟩ := h.up ho
          by_cases he6 : (apw s (a + l.n) (rpg l.g l.n true (cut b))).1 = 6
          · have := hw.dn (by simp [he6])
            simp only at this
            rw [hon.2] at this; cases this
          · have := (hw.up (by simp [he6])).2.2
            have h7 := hw.al
            have h8 := hw.m1
            have h9 := h.al
            have u := hw.up (by simp [he6])
            simp only at u
            -- the error is 0 or 6
            have hps : ∀ j, j < (rpg l.g M true (cut b)).length → ((rpg l.g M true (cut b))[j]?.getD []).length = 128 := fun j hj => by
              rw [rpg_len] at hj
              obtain ⟨kd, b', e1, e2, e3, e4⟩ := rpg_at l.g (cut b) M true (cut_ok b).1 (cutf_bs _ _ hb) j hj
              rw [e1]; exact wpg_len e3
            have key : ∀ (ps : List (List Int)) (s : SS) (i : Nat), s.L.length = T → i + ps.length ≤ T → (∀ j, j < ps.length → (ps[j]?.getD []).length = 128) → (apw s i ps).1 = 0 ∨ (apw s i ps).1 = 6 := by
              intro ps
              induction ps with
              | nil => intro s i _ _ _; exact .inl rfl
              | cons p ps ih =>
                intro s i hl hi hp
                have hp0 : p.length = 128 := hp 0 (by simp)
                simp only [List.length_cons] at hi
                unfold apw
                split
                · right
                  rename_i hne
                  unfold SS.wr at hne ⊢
                  split
                  · rfl
                  · rename_i hd'
                    rw [if_neg hd', if_neg (by rw [hl]; omega), if_neg (by omega)] at hne
                    rw [if_neg (by rw [hl]; omega), if_neg (by omega)]
                    split
                    · rfl
                    · rename_i hF'
                      rw [if_neg hF'] at hne
                      exact (hne rfl).elim
                · exact ih _ _ (by rw [(s.wr_len _ _).1]; exact hl) (by omega) (fun j hj => hp (j + 1) (by simpa using hj))
            have hfit := h.pi.fit
            rcases key (rpg l.g l.n true (cut b)) s (a + l.n) h.pi.len (by rw [rpg_len]; omega) (by rw [hn]; exact hps) with h1 | h1
            · exact h0 h1
            · exact he6 h1
end Go.Proofs.Ythfkooancgkjaaa
