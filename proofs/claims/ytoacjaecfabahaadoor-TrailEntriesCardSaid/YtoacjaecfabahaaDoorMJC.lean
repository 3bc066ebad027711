/-
  What is proved here: three ranges joined, as the document joins them; what that has to do with the code's way.
-/
import Derived.Test.YtoacjaecfabahaaDoorMJU
import Derived.Test.YtoacjaecfabahaaDoorMJR
set_option linter.unusedSimpArgs false
set_option linter.unusedVariables false
namespace Go.Proofs.YtoacjaecfabahaaDoor
open Go.ChangeShapes Go.WideShapes Go.ChangeAt Go.RowKit
set_option linter.unusedVariables false
set_option linter.unusedSimpArgs false
set_option maxRecDepth 20000

/-- three ranges joined: from, to, hashes of the first two, of all; whether it is allowed -/
def a1X (a b a' b' : Int) (n m : Nat) := jnX a b a' b' n m
structure R3 where
  a : Int
  b : Int
  L : List (List Int)
def j2 (r s : R3) : R3 := ⟨jnX r.a r.b s.a s.b r.L.length s.L.length, jnY r.a r.b s.a s.b r.L.length s.L.length, jnH r.a r.b s.a s.b r.L s.L⟩
def j2B (r s : R3) : Bool := jn r.a r.b s.a s.b r.L.length s.L.length
def allV (r s t : R3) : List Int := rtV (j2 (j2 r s) t).a (j2 (j2 r s) t).b (j2 (j2 r s) t).L
def allB (r s t : R3) : Bool := j2B r s && (j2B (j2 r s) t && rtB (j2 (j2 r s) t).a (j2 (j2 r s) t).b (j2 (j2 r s) t).L.length)
theorem jnQ_iff (a b a' b' : Int) (n m : Nat) : (jnQ a b a' b' n m == 0) = jn a b a' b' n m := by
  unfold jnQ
  cases jn a b a' b' n m <;> rfl
theorem rtQ_iff (a b : Int) (n : Nat) : (rtQ a b n == 0) = rtB a b n := by
  unfold rtQ
  cases rtB a b n <;> rfl
theorem all_ar (r s t : R3) (root : List Int) (A : Option Addr) (n c : Nat) (B : Option Addr) (m d : Nat) : (allB r s t && decide (allV r s t = root)) = arR root (arS [⟨s.a, s.b, A, n, c, s.L⟩, ⟨t.a, t.b, B, m, d, t.L⟩] r.a r.b r.L) := by
  simp only [arS]
  unfold allB allV j2B
  by_cases h1 : jn r.a r.b s.a s.b r.L.length s.L.length = true
  · have e1 : j2 r s = ⟨r.a, s.b, jnH r.a r.b s.a s.b r.L s.L⟩ := by unfold j2 jnX jnY; rw [if_pos h1, if_pos h1]
    rw [e1, if_pos h1, h1]
    by_cases h2 : jn r.a s.b t.a t.b (jnH r.a r.b s.a s.b r.L s.L).length t.L.length = true
    · have e2 : j2 ⟨r.a, s.b, jnH r.a r.b s.a s.b r.L s.L⟩ t = ⟨r.a, t.b, jnH r.a s.b t.a t.b (jnH r.a r.b s.a s.b r.L s.L) t.L⟩ := by unfold j2 jnX jnY; rw [if_pos h2, if_pos h2]
      rw [e2, if_pos h2, h2]; simp only [arR, Bool.true_and]
    · rw [if_neg h2]
      have h2' : jn r.a s.b t.a t.b (jnH r.a r.b s.a s.b r.L s.L).length t.L.length = false := by simpa using h2
      rw [h2']; simp [arR]
  · rw [if_neg h1]
    have h1' : jn r.a r.b s.a s.b r.L.length s.L.length = false := by simpa using h1
    rw [h1']; simp [arR]
theorem nm_fst : ∀ {E : List Nat} {a : Nat}, Nm a E → fstM a E = none := fun {E a} h => by
  cases hf : fstM a E with
  | none => rfl
  | some i =>
    obtain ⟨A, m, B, rfl, _, hd⟩ := fstM_some hf
    have : ∀ {A : List Nat} {a : Nat}, Nm a (A ++ m :: m :: B) → ¬ 2 ^ (m + 1) ∣ adv a A := by
      intro A
      induction A with
      | nil => intro a h hd; exact h.1 m rfl ⟨rfl, hd⟩
      | cons k A ih => intro a h hd; exact ih h.2 hd
    exact absurd hd (this h)
/-- joining to nothing -/
theorem jnH_nil {x : Nat} {L : List (List Int)} (hx : frm 0 (x : Int) L.length = true) : jn 0 0 0 (x : Int) 0 L.length = true ∧ jnH 0 0 0 (x : Int) [] L = L := by
  have h : jn 0 0 0 (x : Int) 0 L.length = true := by
    unfold jn
    rw [hx]; rfl
  refine ⟨h, ?_⟩
  unfold jnH
  rw [List.length_nil, if_pos h]
  have e0 : (0 : Int).toNat = 0 := rfl
  rw [e0, Int.toNat_natCast, seg_nil (Nat.le_refl 0), List.nil_append, List.nil_append]
  exact joinHs_none (nm_fst (nm_seg x (by omega)))
theorem ar_first {b : Int} {L : List (List Int)} {R : List Rr} {A : Option Addr} {n c : Nat} : arS (⟨0, b, A, n, c, L⟩ :: R) 0 0 [] = if frm 0 b L.length = true then arS R 0 b L else none := by
  simp only [arS]
  by_cases h : frm 0 b L.length = true
  · obtain ⟨x, y, hx, rfl, _⟩ := frm_yes h
    obtain ⟨h1, h2⟩ := jnH_nil h
    rw [List.length_nil, if_pos h1, if_pos h, h2]
  · have h1 : ¬ jn 0 0 0 b 0 L.length = true := by
      unfold jn
      have h' : frm 0 b L.length = false := by simpa using h
      rw [h']; simp
    rw [List.length_nil, if_neg h1, if_neg h]
theorem jn_frm {a b a' b' : Int} {n m : Nat} (h : jn a b a' b' n m = true) : frm a b n = true ∧ frm a' b' m = true := by
  unfold jn at h
  rw [Bool.and_eq_true, Bool.and_eq_true] at h
  exact ⟨h.1, h.2.1⟩
/-- an entry, as the document tells whether it is shown -/
theorem ie_all {i k : Int} {Ah Be : List (List Int)} {h root : List Int} (hi : 0 ≤ i) (hik : i < k) (hk : k ≤ 2147483647) : ieB i (i + 1) k Ah h Be root = (allB ⟨0, i, Ah⟩ ⟨i, i + 1, [h]⟩ ⟨i + 1, k, Be⟩ && decide (allV ⟨0, i, Ah⟩ ⟨i, i + 1, [h]⟩ ⟨i + 1, k, Be⟩ = root)) := by
  rw [all_ar ⟨0, i, Ah⟩ ⟨i, i + 1, [h]⟩ ⟨i + 1, k, Be⟩ root none 0 0 none 0 0]
  unfold ieB arB
  rw [ar_first]
  by_cases hf : frm 0 i Ah.length = true
  · rw [if_pos hf]
  · rw [if_neg hf]
    simp only [arS]
    rw [if_neg (fun hj => hf (jn_frm hj).1)]
theorem frm_no {a b : Int} {n : Nat} (h : ¬ (0 ≤ a ∧ a ≤ b ∧ b ≤ 2147483647)) : frm a b n = false := by
  unfold frm mayR
  rw [decide_eq_false h]; rfl
theorem arS_none : ∀ {R : List Rr} {a b : Int} {H : List (List Int)}, (∃ r ∈ R, frm r.a r.b r.L.length = false) → arS R a b H = none
  | [], _, _, _, h => by obtain ⟨r, hr, _⟩ := h; cases hr
  | q :: R, a, b, H, h => by
    simp only [arS]
    by_cases hj : jn a b q.a q.b H.length q.L.length = true
    · rw [if_pos hj]
      refine arS_none ?_
      obtain ⟨r, hr, hf⟩ := h
      rcases List.mem_cons.1 hr with rfl | hr
      · rw [(jn_frm hj).2] at hf; cases hf
      · exact ⟨r, hr, hf⟩
    · rw [if_neg hj]
theorem ie_no {i i1 k : Int} {Ah Be : List (List Int)} {h root : List Int} (hn : i < 0 ∨ k ≤ i ∨ 2147483647 < k) (hi1 : i1 = i + 1 ∨ i1 < 0) : ieB i i1 k Ah h Be root = false := by
  unfold ieB arB
  rw [arS_none]
  · rfl
  · rcases hn with h1 | h1
    · exact ⟨_, List.mem_cons_self .., frm_no (by show ¬ (0 ≤ (0 : Int) ∧ (0 : Int) ≤ i ∧ i ≤ 2147483647); omega)⟩
    · refine ⟨⟨i1, k, none, 0, 0, Be⟩, by simp, frm_no ?_⟩
      show ¬ (0 ≤ i1 ∧ i1 ≤ k ∧ k ≤ 2147483647)
      omega
theorem ig_no {m k : Int} {Ah Be : List (List Int)} {old root : List Int} (hn : m < 0 ∨ k < m ∨ 2147483647 < k) : igB m k Ah Be old root = false := by
  unfold igB
  have : arB root [⟨0, m, none, 0, 0, Ah⟩, ⟨m, k, none, 0, 0, Be⟩] = false := by
    unfold arB
    rw [arS_none]
    · rfl
    · exact ⟨⟨m, k, none, 0, 0, Be⟩, by simp, frm_no (by show ¬ (0 ≤ m ∧ m ≤ k ∧ k ≤ 2147483647); omega)⟩
  rw [this, Bool.and_false]
theorem ig_all {m k : Int} {Ah Be : List (List Int)} {old root : List Int} (hm : 0 ≤ m) (hmk : m ≤ k) (hk : k ≤ 2147483647) :
    igB m k Ah Be old root = (rtB 0 m Ah.length && (decide (rtV 0 m Ah = old) && (allB ⟨0, m, Ah⟩ ⟨m, k, Be⟩ ⟨k, k, []⟩ && decide (allV ⟨0, m, Ah⟩ ⟨m, k, Be⟩ ⟨k, k, []⟩ = root)))) := by
  rw [all_ar ⟨0, m, Ah⟩ ⟨m, k, Be⟩ ⟨k, k, []⟩ root none 0 0 none 0 0]
  unfold igB arB
  rw [ar_first, ar_first]
  have hrb : rtB 0 m Ah.length = frm 0 m Ah.length := by unfold rtB; simp
  by_cases hf : frm 0 m Ah.length = true
  · rw [if_pos hf, if_pos hf, hrb, hf]
    simp only [arS, arR]
    rw [hrb, hf, Bool.true_and, Bool.true_and]
    congr 1
    by_cases hj : jn 0 m m k Ah.length Be.length = true
    · rw [if_pos hj, if_pos hj]
      obtain ⟨x, y, z, hx, rfl, _, rfl, h1, h2, h3, h4, h5⟩ := jn_yes hj
      obtain rfl : x = 0 := by omega
      have hfk : frm 0 (z : Int) (jnH 0 (y : Int) (y : Int) (z : Int) Ah Be).length = true := by
        obtain ⟨T, hT⟩ := two_any ndF [] h1 h2 (L := Ah) (M := Be) (by omega) (by omega)
        unfold jnH
        rw [if_pos hj]
        have e0 : (0 : Int).toNat = 0 := rfl
        rw [e0, Int.toNat_natCast, Int.toNat_natCast, jn_join (by omega) (by omega) hT, hs_len]
        exact frm_of (x := 0) (Nat.zero_le _) h3 rfl
      have hfz := frm_of (x := z) (y := z) (n := 0) (Nat.le_refl _) h3 (by rw [seg_nil (Nat.le_refl _)]; rfl)
      have hj2 : jn 0 (z : Int) (z : Int) (z : Int) (jnH 0 (y : Int) (y : Int) (z : Int) Ah Be).length ([] : List (List Int)).length = true := by
        unfold jn
        rw [hfk, List.length_nil, hfz]; simp
      rw [if_pos hj2]
      have e : jnH 0 (z : Int) (z : Int) (z : Int) (jnH 0 (y : Int) (y : Int) (z : Int) Ah Be) [] = jnH 0 (y : Int) (y : Int) (z : Int) Ah Be := by
        generalize jnH 0 (y : Int) (y : Int) (z : Int) Ah Be = K at hj2 ⊢
        unfold jnH
        rw [if_pos hj2]
        have e0 : (0 : Int).toNat = 0 := rfl
        rw [e0, Int.toNat_natCast, seg_nil (Nat.le_refl z), List.append_nil, List.append_nil]
        exact joinHs_none (nm_fst (nm_seg z (by omega)))
      rw [e]
    · rw [if_neg hj, if_neg hj]
  · rw [if_neg hf, if_neg hf, hrb]
    have hf' : frm 0 m Ah.length = false := by simpa using hf
    rw [hf']; rfl
end Go.Proofs.YtoacjaecfabahaaDoor
