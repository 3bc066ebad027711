/-
  What is proved here: a list of records that is copied, and grows by one; what a log's calls leave, together with a copy of the call. Nothing of the program is walked here.
-/
import Derived.Test.YthfkooancgkjaaaMWaG
set_option linter.unusedSimpArgs false
set_option linter.unusedVariables false
namespace Go.Proofs.Ythfkooancgkjaaa
open Go.ChangeShapes Go.WideShapes Go.ChangeAt Go.RowKit
set_option linter.unusedVariables false
set_option maxRecDepth 20000

theorem own_litb {w : World} {g n0 : Nat} (h : Blk w g 23 #[]) (hg : n0 ≤ g) : w.ownsRow n0 23 1 (.slice (some ⟨g, 0, none⟩) 0 0) 0 [] :=
  ⟨rfl, .inr ⟨g, 0, #[], rfl, hg, h, Nat.le_refl _, by unfold maxLen; omega, rfl, rfl⟩⟩
/-- an append onto a row of no records: all of the other's -/
theorem copy_m {x : World} {o : Oper} {a : Act} {K : Act → World → Prop} {Q : Exit → Act → World → Prop} (s y : Operand)
    (ho : o.op = .call { callee := .builtin .append, args := #[s, y], argTypes := #[31, 31] }) (n0 g0 : Nat) (M : List (List Int)) (A : Option Addr) (lm c : Nat) (hs : a.eval s = .slice (some ⟨g0, 0, none⟩) 0 0) (hx : a.eval y = .slice A lm c)
    (hE : Blk x g0 23 #[]) (hg : n0 ≤ g0) (hM : AllM n0 n0 x M (.slice A lm c)) (hlen : M.length ≤ 1000) (hn : n0 ≤ x.heap.size)
    (h : ∀ v' w', AllM n0 n0 w' M v' → Kb x w' → Below n0 x w' → (∀ k, k < x.heap.size → k ≠ g0 → w'.heap[k]? = x.heap[k]?) → K (a.put o.dst v') w') : o.wp Try.prog a x K Q := by
  obtain ⟨i0, hi, hz0, hz1, hz2⟩ := info_parts info_row1
  have hown := own_litb hE hg
  obtain ⟨A', c', rows, hv, hro, hj⟩ := hM
  injection hv with e1 e2 e3
  subst e1; subst e2; subst e3
  cases A with
  | none =>
    have h0 : M.length = 0 := by
      rcases hro.2 with ⟨_, h0⟩ | ⟨g, cap, cur, hv, _⟩
      · exact h0
      · cases hv
    have hM0 : M = [] := List.length_eq_zero_iff.1 h0
    subst hM0
    have hrun := run_append_nil' (P := Try.prog) x n0 31 o.type 23 i0 1 Try.underlying31 hi (.slice (some ⟨g0, 0, none⟩) 0 0) 0 [] hown c
    unfold Oper.wp execOp
    simp only [ho, resolve, invoke, builtin, Sem.run_bind, Sem.run_pure, Result.andThen_ok, List.map_toArray, List.map_cons, List.map_nil, hs, hx]
    simp only [List.length_nil]
    rw [hrun]
    exact h _ x ⟨_, 0, [], rfl, hown, fun j hj => by simp at hj⟩ ⟨Nat.le_refl _, fun _ _ _ _ _ => rfl⟩ (Below.refl _ _) (fun _ _ _ => rfl)
  | some ad =>
    refine wp_append_own x s y 31 ho n0 23 i0 (.slice none 0 0) 1 24 Try.underlying31 hi hz0 hz1 hz2 rfl (by decide) _ 0 [] hs hown ad M.length c rows hx (by have := hro.1; omega) ?_ ?_ (by unfold maxLen; omega) (by omega) hn ?_
    · intro j u hu
      by_cases h0 : 0 < M.length
      · obtain ⟨g, e, _, _, hc⟩ := own_cellb hro h0
        injection e with e
        subst e
        rw [Addr.add_lit, Nat.zero_add]
        exact hc j u hu
      · have hl := hro.1
        rw [List.getElem?_eq_none (by omega)] at hu
        cases hu
    · intro u hu
      obtain ⟨j, hju⟩ := List.mem_iff_getElem?.1 hu
      have hjl : j < M.length := by
        have hl := hro.1
        rcases Nat.lt_or_ge j M.length with h1 | h1
        · exact h1
        · rw [List.getElem?_eq_none (by omega)] at hju; cases hju
      obtain ⟨B, d, h1, _⟩ := hj j hjl
      rw [h1] at hju
      injection hju with hju
      rw [← hju]; rfl
    · intro v' w' h1 h2 _
      rw [Nat.zero_add, List.nil_append] at h1
      obtain ⟨A9, c9, hv9⟩ := slice_of h1
      have bel : Below n0 x w' := (Below.refl _ _).grown h2 hn (fun k hk => by cases hk; exact hg)
      have kk : ∀ k, k < x.heap.size → k ≠ g0 → w'.heap[k]? = x.heap[k]? := fun k hk hne => h2.block k hk (fun e => by cases e; exact hne rfl)
      have kb : Kb x w' := ⟨h2.size, fun k t cs hb ht => kk k hb.lt (fun e => by subst e; exact ht (hb.inj hE).1)⟩
      exact h v' w' ⟨A9, c9, rows, hv9, h1, fun j hjl => by
        obtain ⟨B, d, k1, k2⟩ := hj j hjl
        exact ⟨B, d, k1, k2.keep kb.u8 bel⟩⟩ kb bel kk
/-- one more, whose row lies at g5 -/
theorem push_m {x : World} {o : Oper} {a : Act} {K : Act → World → Prop} {Q : Exit → Act → World → Prop} (s y : Operand)
    (ho : o.op = .call { callee := .builtin .append, args := #[s, y], argTypes := #[31, 31] }) (n0 g5 : Nat) (M : List (List Int)) (v : Value) (B : Option Addr) (m c : Nat) (xs : List Int) (hs : a.eval s = v) (hx : a.eval y = .slice (some ⟨g5, 0, none⟩) 1 1)
    (hM : AllM n0 n0 x M v) (hO : Blk x g5 23 #[.slice B m c]) (hlen : M.length ≤ 1000) (hB : RqL n0 x B xs) (hm : m = xs.length) (hn : n0 ≤ x.heap.size)
    (h : ∀ v' w', AllM n0 n0 w' (M ++ [xs]) v' → Kb x w' → Below n0 x w' → K (a.put o.dst v') w') : o.wp Try.prog a x K Q := by
  obtain ⟨i0, hi, hz0, hz1, hz2⟩ := info_parts info_row1
  obtain ⟨A, cc, rows, hv, hown, hj⟩ := hM
  refine wp_append_own x s y 31 ho n0 23 i0 (.slice none 0 0) 1 24 Try.underlying31 hi hz0 hz1 hz2 rfl (by decide) v M.length rows hs hown ⟨g5, 0, none⟩ 1 1 [.slice B m c] hx rfl ?_ (fun u hu => by rw [List.mem_singleton.1 hu]; rfl) (by unfold maxLen; omega) (by omega) hn ?_
  · intro j u hu
    match j, hu with
    | 0, hu => rw [Addr.add_lit, hO.cell]; exact hu
    | j + 1, hu => simp at hu
  · intro v9 w9 ow9 gr9 _
    obtain ⟨A9, c9, hv9⟩ := slice_of ow9
    have kb : ∀ k t cs, Blk x k t cs → t ≠ 23 → w9.heap[k]? = x.heap[k]? := fun k t cs hk ht => gr9.block k hk.lt (fun e => own_ne_t hown hk ht e.symm)
    have bel : Below n0 x w9 := (Below.refl _ _).grown gr9 hn (fun k hk => (hown.lt k hk).1)
    subst hm
    exact h v9 w9 (AllM.push (by have := hown.1; omega) hj hB hv9 ow9 (fun g cs hg => kb g _ cs hg (by decide)) bel) ⟨gr9.size, kb⟩ bel
/-- a write of any bytes -/
theorem dw_big {n0 : Nat} {w : World} {b : Nat} {s : SS} (h : Dy n0 w b s) (hn : n0 ≤ w.heap.size) (i : Int) (B : Option Addr) (c : Nat) (X : List Int) (hr : Rp w none B X) (hB : Src n0 w B X) (hX : X.length ≤ 9223372036854775807) (hQ : s.Q.length < 1000000) :
    Calls Try.prog 45 #[.pointer (some ⟨b, 0, none⟩), .int .i64 i, .slice B X.length c] w fun e w' => e = .returned (.int .i64 (s.wr i X).1) ∧ Lf n0 b (s.wr i X).2 w w' := by
  by_cases hx : X.length = 128
  · exact dw_src h hn i B c X hr hB (by omega) hQ
  · have hh := h
    obtain ⟨R, h1, h2⟩ := h
    obtain ⟨L, Q, F, D⟩ := s
    unfold SS.wr
    simp only at h1 hQ ⊢
    cases D with
    | true => exact (dWrite_down h1 i B _ c).mono fun e w' ⟨he, hw⟩ => by subst hw; exact ⟨he, Lf.refl hh⟩
    | false =>
      rw [if_neg (by simp)]
      by_cases hi : i < 0 ∨ (L.length : Int) ≤ i
      · rw [if_pos hi]
        exact (dWrite_range h1 rfl i hi B _ c).mono fun e w' ⟨he, hw⟩ => by subst hw; exact ⟨he, Lf.refl hh⟩
      · rw [if_neg hi]
        obtain ⟨j, rfl⟩ : ∃ j : Nat, i = j := ⟨i.toNat, by omega⟩
        have hj : j < L.length := by omega
        rw [if_pos hx]
        exact (dWrite_arg h1 rfl j hj B _ c hx (by omega)).mono fun e w' ⟨he, hw⟩ => by subst hw; exact ⟨he, Lf.refl hh⟩
end Go.Proofs.Ythfkooancgkjaaa
