/-
  What is proved here: trails that are told of a list are right (the mathematics, in the contracts' words).
-/
import Derived.Test.YtoacjaecfabahaaDoorMJT
set_option linter.unusedSimpArgs false
set_option linter.unusedVariables false
namespace Go.Proofs.YtoacjaecfabahaaDoor
open Go.ChangeShapes Go.WideShapes Go.ChangeAt Go.RowKit
set_option linter.unusedVariables false
set_option linter.unusedSimpArgs false

theorem tw_congr {F G : Nat → List Int} : ∀ (m p : Nat), (∀ q, p ≤ q → q < p + 2 ^ m → F q = G q) → tw ndF F p m = tw ndF G p m
  | 0, p, h => h p (Nat.le_refl _) (by simp)
  | m + 1, p, h => by
    have e2 : 2 ^ (m + 1) = 2 ^ m * 2 := Nat.pow_succ 2 m
    show ndF (tw ndF F p m) (tw ndF F (p + 2 ^ m) m) = ndF (tw ndF G p m) (tw ndF G (p + 2 ^ m) m)
    rw [tw_congr m p (fun q h1 h2 => h q h1 (by omega)), tw_congr m (p + 2 ^ m) (fun q h1 h2 => h q (by omega) (by omega))]
theorem hs_congr {F G : Nat → List Int} : ∀ {E : List Nat} {a b : Nat}, Al a E b → (∀ q, a ≤ q → q < b → F q = G q) → hsT (tw ndF F) a E = hsT (tw ndF G) a E
  | [], a, b, _, _ => rfl
  | m :: E, a, b, h, hf => by
    have h1 := al_le h.2
    have h9 := pow_pos2 m
    show tw ndF F a m :: hsT (tw ndF F) (a + 2 ^ m) E = tw ndF G a m :: hsT (tw ndF G) (a + 2 ^ m) E
    rw [tw_congr m a (fun q h1 h2 => hf q h1 (by omega)), hs_congr h.2 (fun q h1 h2 => hf q (by omega) h2)]
theorem ofh_lst {F : Nat → List Int} {a n : Nat} (h : a + n ≤ 2147483647) : ofH (a : Int) (lst F a n) = hsT (tw ndF F) a (seg a (a + n)) := by
  have hb : ¬ ofB (a : Int) n := by unfold ofB; omega
  unfold ofH
  rw [lst_len, if_neg hb, Int.toNat_natCast]
  refine hs_congr (al_seg (a + n - a) (Nat.le_refl _) (by omega)) fun q h1 h2 => ?_
  obtain ⟨j, rfl⟩ : ∃ j, q = a + j := ⟨q - a, by omega⟩
  show (lst F a n)[a + j - a]?.getD [] = F (a + j)
  rw [Nat.add_sub_cancel_left, lst_at F a (show j < n by omega)]; rfl
/-- the range of some places of a list that F tells -/
abbrev hsq (F : Nat → List Int) (x y : Nat) : List (List Int) := hsT (tw ndF F) x (seg x y)
theorem hsq_len (F : Nat → List Int) (x y : Nat) : (hsq F x y).length = (seg x y).length := hs_len _ _ _
theorem jnF {F : Nat → List Int} {x y z : Nat} (hxy : x ≤ y) (hyz : y ≤ z) (hz : z ≤ 2147483647) : jn (x : Int) (y : Int) (y : Int) (z : Int) (hsq F x y).length (hsq F y z).length = true ∧ jnH (x : Int) (y : Int) (y : Int) (z : Int) (hsq F x y) (hsq F y z) = hsq F x z := by
  have h1 := frm_of hxy (by omega) (hsq_len F x y)
  have h2 := frm_of hyz hz (hsq_len F y z)
  have h : jn (x : Int) (y : Int) (y : Int) (z : Int) (hsq F x y).length (hsq F y z).length = true := by
    unfold jn
    rw [h1, h2]; simp
  refine ⟨h, ?_⟩
  unfold jnH
  rw [if_pos h, Int.toNat_natCast, Int.toNat_natCast, Int.toNat_natCast]
  exact jn_join (hsq_len F x y) (hsq_len F y z) (two_of ndF (fun p j => tw_cn ndF F p j) hxy hyz)
theorem rtF {F : Nat → List Int} {n : Nat} (hn : n ≤ 2147483647) : rtB 0 (n : Int) (hsq F 0 n).length = true ∧ rtV 0 (n : Int) (hsq F 0 n) = rootL ndF emp (lst F 0 n) := by
  have h1 := frm_of (x := 0) (y := n) (Nat.zero_le _) hn (hsq_len F 0 n)
  have h : rtB 0 (n : Int) (hsq F 0 n).length = true := by
    unfold rtB
    rw [show ((0 : Nat) : Int) = 0 from rfl] at h1
    rw [h1]; rfl
  refine ⟨h, ?_⟩
  unfold rtV
  rw [if_pos h, ← fold_root0]
theorem hsq_nil (F : Nat → List Int) (x : Nat) : hsq F x x = [] := by unfold hsq; rw [seg_nil (Nat.le_refl _)]; rfl
theorem seg_one (i : Nat) : seg i (i + 1) = [0] := by
  have h := sg_is (a := i) (l := 1) (by omega)
  have h0 : sg i 1 = 0 := by
    refine Nat.eq_zero_of_not_pos fun hc => ?_
    have := pow_mono2 (show 1 ≤ sg i 1 from hc)
    have := h.2.1
    omega
  rw [seg_cons (by omega), show i + 1 - i = 1 by omega, h0, seg_nil (by simp)]
theorem hsq_one (F : Nat → List Int) (i : Nat) : hsq F i (i + 1) = [F i] := by unfold hsq; rw [seg_one]; rfl
theorem arF2 {F : Nat → List Int} {m n : Nat} (hm : m ≤ n) (hn : n ≤ 2147483647) : arB (rootL ndF emp (lst F 0 n)) [⟨0, (m : Int), none, 0, 0, hsq F 0 m⟩, ⟨(m : Int), (n : Int), none, 0, 0, hsq F m n⟩] = true := by
  have h1 := jnF (F := F) (x := 0) (y := 0) (z := m) (Nat.zero_le _) (Nat.zero_le _) (by omega)
  rw [hsq_nil] at h1
  have h2 := jnF (F := F) (x := 0) (y := m) (z := n) (Nat.zero_le _) hm hn
  have h3 := rtF (F := F) hn
  rw [show ((0 : Nat) : Int) = 0 from rfl] at h1 h2
  unfold arB
  simp only [arS]
  rw [if_pos h1.1, h1.2, if_pos h2.1, h2.2]
  simp only [arR]
  rw [h3.1, h3.2]; simp
theorem arF3 {F : Nat → List Int} {m k n : Nat} (hm : m ≤ k) (hk : k ≤ n) (hn : n ≤ 2147483647) : arB (rootL ndF emp (lst F 0 n)) [⟨0, (m : Int), none, 0, 0, hsq F 0 m⟩, ⟨(m : Int), (k : Int), none, 0, 0, hsq F m k⟩, ⟨(k : Int), (n : Int), none, 0, 0, hsq F k n⟩] = true := by
  have h1 := jnF (F := F) (x := 0) (y := 0) (z := m) (Nat.zero_le _) (Nat.zero_le _) (by omega)
  rw [hsq_nil] at h1
  have h2 := jnF (F := F) (x := 0) (y := m) (z := k) (Nat.zero_le _) hm (by omega)
  have h4 := jnF (F := F) (x := 0) (y := k) (z := n) (Nat.zero_le _) hk hn
  have h3 := rtF (F := F) hn
  rw [show ((0 : Nat) : Int) = 0 from rfl] at h1 h2 h4
  unfold arB
  simp only [arS]
  rw [if_pos h1.1, h1.2, if_pos h2.1, h2.2, if_pos h4.1, h4.2]
  simp only [arR]
  rw [h3.1, h3.2]; simp
theorem arF1 {F : Nat → List Int} {m : Nat} (hm : m ≤ 2147483647) : arB (rootL ndF emp (lst F 0 m)) [⟨0, (m : Int), none, 0, 0, hsq F 0 m⟩] = true := by
  have h1 := jnF (F := F) (x := 0) (y := 0) (z := m) (Nat.zero_le _) (Nat.zero_le _) (by omega)
  rw [hsq_nil] at h1
  have h3 := rtF (F := F) hm
  rw [show ((0 : Nat) : Int) = 0 from rfl] at h1
  unfold arB
  simp only [arS]
  rw [if_pos h1.1, h1.2]
  simp only [arR]
  rw [h3.1, h3.2]; simp
theorem en_lst {F : Nat → List Int} {n i : Nat} (hn : n ≤ 100) (hi : i < n) : enA (i : Int) (lst F 0 n) = hsq F 0 i ∧ enE (i : Int) (lst F 0 n) = hsq F (i + 1) n := by
  have hb : enB (i : Int) n := by unfold enB; omega
  unfold enA enE
  rw [lst_len, if_pos hb, if_pos hb, Int.toNat_natCast, lst_take F 0 (by omega), lst_drop F 0 (by omega), Nat.zero_add]
  refine ⟨?_, ?_⟩
  · have := ofh_lst (F := F) (a := 0) (n := i) (by omega)
    rw [Nat.zero_add] at this
    exact this
  · have := ofh_lst (F := F) (a := i + 1) (n := n - (i + 1)) (by omega)
    rw [show i + 1 + (n - (i + 1)) = n by omega] at this
    exact this
theorem gw_lst {F : Nat → List Int} {n i : Nat} (hn : n ≤ 100) (hi : i ≤ n) : gwA (i : Int) (lst F 0 n) = hsq F 0 i ∧ gwE (i : Int) (lst F 0 n) = hsq F i n := by
  have hb : gwB (i : Int) n := by unfold gwB; omega
  unfold gwA gwE
  rw [lst_len, if_pos hb, if_pos hb, Int.toNat_natCast, lst_take F 0 (by omega), lst_drop F 0 (by omega), Nat.zero_add]
  refine ⟨?_, ?_⟩
  · have := ofh_lst (F := F) (a := 0) (n := i) (by omega)
    rw [Nat.zero_add] at this
    exact this
  · have := ofh_lst (F := F) (a := i) (n := n - i) (by omega)
    rw [show i + (n - i) = n by omega] at this
    exact this
/-- an entry's trail that is told is right -/
theorem entry_right {L : List (List Int)} {n i : Nat} {K : List Int} (hl : L.length = n) (hn : n ≤ 100) (hi : i < n) (hK : L[i]? = some K) : ieB (i : Int) ((i : Int) + 1) (n : Int) (enA (i : Int) L) K (enE (i : Int) L) (rootL ndF emp L) = true := by
  obtain ⟨F, hF⟩ : ∃ F : Nat → List Int, F = fun p => L[p - 0]?.getD [] := ⟨_, rfl⟩
  have hL : L = lst F 0 n := by rw [hF, ← hl]; exact lst_of [] 0 L
  have hKF : K = F i := by rw [hF]; show K = L[i - 0]?.getD []; rw [Nat.sub_zero, hK]; rfl
  clear hF hK hl
  subst hL
  obtain ⟨h1, h2⟩ := en_lst (F := F) hn hi
  rw [h1, h2, hKF]
  have h3 := arF3 (F := F) (m := i) (k := i + 1) (n := n) (by omega) (by omega) (by omega)
  rw [hsq_one] at h3
  exact h3
theorem growth_right {L : List (List Int)} {n m : Nat} (hl : L.length = n) (hn : n ≤ 100) (hm : m ≤ n) : igB (m : Int) (n : Int) (gwA (m : Int) L) (gwE (m : Int) L) (rootL ndF emp (L.take m)) (rootL ndF emp L) = true := by
  obtain ⟨F, hF⟩ : ∃ F : Nat → List Int, F = fun p => L[p - 0]?.getD [] := ⟨_, rfl⟩
  have hL : L = lst F 0 n := by rw [hF, ← hl]; exact lst_of [] 0 L
  clear hF hl
  subst hL
  obtain ⟨h1, h2⟩ := gw_lst (F := F) hn hm
  rw [h1, h2, lst_take F 0 hm]
  unfold igB
  rw [arF1 (by omega), arF2 hm (by omega)]; rfl
end Go.Proofs.YtoacjaecfabahaaDoor
