/-
  What is proved here: a list of records that is copied, and grows by one; what a log's calls leave, together with a copy of the call. Nothing of the program is walked here.
-/
import Derived.Test.YtbglnljjkofbdaaMWaG
set_option linter.unusedSimpArgs false
set_option linter.unusedVariables false
namespace Go.Proofs.Ytbglnljjkofbdaa
open Go.ChangeShapes Go.WideShapes Go.ChangeAt Go.RowKit
set_option linter.unusedVariables false
set_option maxRecDepth 20000

theorem own_litb {w : World} {g n0 : Nat} (h : Blk w g 34 #[]) (hg : n0 ≤ g) : w.ownsRow n0 34 1 (.slice (some ⟨g, 0, none⟩) 0 0) 0 [] :=
  ⟨rfl, .inr ⟨g, 0, #[], rfl, hg, h, Nat.le_refl _, by unfold maxLen; omega, rfl, rfl⟩⟩
/-- an append onto a row of no records: all of the other's -/
theorem copy_m {x : World} {o : Oper} {a : Act} {K : Act → World → Prop} {Q : Exit → Act → World → Prop} (s y : Operand)
    (ho : o.op = .call { callee := .builtin .append, args := #[s, y], argTypes := #[30, 30] }) (n0 g0 : Nat) (M : List (List Int)) (A : Option Addr) (lm c : Nat) (hs : a.eval s = .slice (some ⟨g0, 0, none⟩) 0 0) (hx : a.eval y = .slice A lm c)
    (hE : Blk x g0 34 #[]) (hg : n0 ≤ g0) (hM : AllM n0 n0 x M (.slice A lm c)) (hlen : M.length ≤ 1000) (hn : n0 ≤ x.heap.size)
    (h : ∀ v' w', AllM n0 n0 w' M v' → Kb x w' → Below n0 x w' → (∀ k, k < x.heap.size → k ≠ g0 → w'.heap[k]? = x.heap[k]?) → K (a.put o.dst v') w') : o.wp Try.prog a x K Q := by
  obtain ⟨i0, hi, hz0, hz1, hz2⟩ := info_parts info_row1
  have hown := own_litb hE hg
  obtain ⟨A', c', rows, hv, hro, hj⟩ := hM
  injection hv with e1 e2 e3
  subst e1; subst e2; subst e3
  cases A with
  | none =>
    have h0 : M.length = 0 := by
      rcases hro.2 with ⟨_, h0⟩ | ⟨g, cap, cur, hv, _⟩
      · exact h0
      · cases hv
    have hM0 : M = [] := List.length_eq_zero_iff.1 h0
    subst hM0
    have hrun := run_append_nil' (P := Try.prog) x n0 30 o.type 34 i0 1 Try.underlying30 hi (.slice (some ⟨g0, 0, none⟩) 0 0) 0 [] hown c
    unfold Oper.wp execOp
    simp only [ho, resolve, invoke, builtin, Sem.run_bind, Sem.run_pure, Result.andThen_ok, List.map_toArray, List.map_cons, List.map_nil, hs, hx]
    simp only [List.length_nil]
    rw [hrun]
    exact h _ x ⟨_, 0, [], rfl, hown, fun j hj => by simp at hj⟩ ⟨Nat.le_refl _, fun _ _ _ _ _ => rfl⟩ (Below.refl _ _) (fun _ _ _ => rfl)
  | some ad =>
    refine wp_append_own x s y 30 ho n0 34 i0 (.slice none 0 0) 1 24 Try.underlying30 hi hz0 hz1 hz2 rfl (by decide) _ 0 [] hs hown ad M.length c rows hx (by have := hro.1; omega) ?_ ?_ (by unfold maxLen; omega) (by omega) hn ?_
    · intro j u hu
      by_cases h0 : 0 < M.length
      · obtain ⟨g, e, _, _, hc⟩ := own_cellb hro h0
        injection e with e
        subst e
        rw [Addr.add_lit, Nat.zero_add]
        exact hc j u hu
      · have hl := hro.1
        rw [List.getElem?_eq_none (by omega)] at hu
        cases hu
    · intro u hu
      obtain ⟨j, hju⟩ := List.mem_iff_getElem?.1 hu
      have hjl : j < M.length := by
        have hl := hro.1
        rcases Nat.lt_or_ge j M.length with h1 | h1
        · exact h1
        · rw [List.getElem?_eq_none (by omega)] at hju; cases hju
      obtain ⟨B, d, h1, _⟩ := hj j hjl
      rw [h1] at hju
      injection hju with hju
      rw [← hju]; rfl
    · intro v' w' h1 h2 _
      rw [Nat.zero_add, List.nil_append] at h1
      obtain ⟨A9, c9, hv9⟩ := slice_of h1
      have bel : Below n0 x w' := (Below.refl _ _).grown h2 hn (fun k hk => by cases hk; exact hg)
      have kk : ∀ k, k < x.heap.size → k ≠ g0 → w'.heap[k]? = x.heap[k]? := fun k hk hne => h2.block k hk (fun e => by cases e; exact hne rfl)
      have kb : Kb x w' := ⟨h2.size, fun k t cs hb ht => kk k hb.lt (fun e => by subst e; exact ht (hb.inj hE).1)⟩
      exact h v' w' ⟨A9, c9, rows, hv9, h1, fun j hjl => by
        obtain ⟨B, d, k1, k2⟩ := hj j hjl
        exact ⟨B, d, k1, k2.keep kb.u8 bel⟩⟩ kb bel kk
/-- one more, whose row lies at g5 -/
theorem push_m {x : World} {o : Oper} {a : Act} {K : Act → World → Prop} {Q : Exit → Act → World → Prop} (s y : Operand)
    (ho : o.op = .call { callee := .builtin .append, args := #[s, y], argTypes := #[30, 30] }) (n0 g5 : Nat) (M : List (List Int)) (v : Value) (B : Option Addr) (m c : Nat) (xs : List Int) (hs : a.eval s = v) (hx : a.eval y = .slice (some ⟨g5, 0, none⟩) 1 1)
    (hM : AllM n0 n0 x M v) (hO : Blk x g5 34 #[.slice B m c]) (hlen : M.length ≤ 1000) (hB : RqL n0 x B xs) (hm : m = xs.length) (hn : n0 ≤ x.heap.size)
    (h : ∀ v' w', AllM n0 n0 w' (M ++ [xs]) v' → Kb x w' → Below n0 x w' → K (a.put o.dst v') w') : o.wp Try.prog a x K Q := by
  obtain ⟨i0, hi, hz0, hz1, hz2⟩ := info_parts info_row1
  obtain ⟨A, cc, rows, hv, hown, hj⟩ := hM
  refine wp_append_own x s y 30 ho n0 34 i0 (.slice none 0 0) 1 24 Try.underlying30 hi hz0 hz1 hz2 rfl (by decide) v M.length rows hs hown ⟨g5, 0, none⟩ 1 1 [.slice B m c] hx rfl ?_ (fun u hu => by rw [List.mem_singleton.1 hu]; rfl) (by unfold maxLen; omega) (by omega) hn ?_
  · intro j u hu
    match j, hu with
    | 0, hu => rw [Addr.add_lit, hO.cell]; exact hu
    | j + 1, hu => simp at hu
  · intro v9 w9 ow9 gr9 _
    obtain ⟨A9, c9, hv9⟩ := slice_of ow9
    have kb : ∀ k t cs, Blk x k t cs → t ≠ 34 → w9.heap[k]? = x.heap[k]? := fun k t cs hk ht => gr9.block k hk.lt (fun e => own_ne_t hown hk ht e.symm)
    have bel : Below n0 x w9 := (Below.refl _ _).grown gr9 hn (fun k hk => (hown.lt k hk).1)
    subst hm
    exact h v9 w9 (AllM.push (by have := hown.1; omega) hj hB hv9 ow9 (fun g cs hg => kb g _ cs hg (by decide)) bel) ⟨gr9.size, kb⟩ bel
/-- what a log's law keeps while lists of records turn -/
structure CrB (n0 b lb pw : Nat) (cs lg : Array Value) (s : SS) (w x : World) : Prop where
  dy : Dy n0 x b s
  lg : Blk x lb 55 lg
  op : Blk x pw 37 cs
  be : Below n0 w x
theorem CrB.kb {n0 b lb pw : Nat} {cs lg : Array Value} {s : SS} {w x y : World} (h : CrB n0 b lb pw cs lg s w x) (hk : Kb x y) (hb : Below n0 x y) : CrB n0 b lb pw cs lg s w y :=
  ⟨h.dy.kb hk, hk.blk h.lg (by decide), hk.blk h.op (by decide), h.be.trans hb⟩
theorem CrB.below {n0 b lb pw : Nat} {cs lg : Array Value} {s : SS} {w x y : World} (h : CrB n0 b lb pw cs lg s w x) (hb : Below x.heap.size x y) (hn : n0 ≤ x.heap.size) : CrB n0 b lb pw cs lg s w y :=
  ⟨h.dy.below hb, h.lg.below hb, h.op.below hb, h.be.trans (hb.mono hn)⟩
/-- a write of any bytes -/
theorem dw_big {n0 : Nat} {w : World} {b : Nat} {s : SS} (h : Dy n0 w b s) (hn : n0 ≤ w.heap.size) (i : Int) (B : Option Addr) (c : Nat) (X : List Int) (hr : Rp w none B X) (hB : Src n0 w B X) (hX : X.length ≤ 9223372036854775807) (hQ : s.Q.length < 1000000) :
    Calls Try.prog 13 #[.pointer (some ⟨b, 0, none⟩), .int .i64 i, .slice B X.length c] w fun e w' => e = .returned (.int .i64 (s.wr i X).1) ∧ Lf n0 b (s.wr i X).2 w w' := by
  by_cases hx : X.length = 128
  · exact dw_src h hn i B c X hr hB (by omega) hQ
  · have hh := h
    obtain ⟨R, h1, h2⟩ := h
    obtain ⟨L, Q, F, D⟩ := s
    unfold SS.wr
    simp only at h1 hQ ⊢
    cases D with
    | true => exact (dWrite_down h1 i B _ c).mono fun e w' ⟨he, hw⟩ => by subst hw; exact ⟨he, Lf.refl hh⟩
    | false =>
      rw [if_neg (by simp)]
      by_cases hi : i < 0 ∨ (L.length : Int) ≤ i
      · rw [if_pos hi]
        exact (dWrite_range h1 rfl i hi B _ c).mono fun e w' ⟨he, hw⟩ => by subst hw; exact ⟨he, Lf.refl hh⟩
      · rw [if_neg hi]
        obtain ⟨j, rfl⟩ : ∃ j : Nat, i = j := ⟨i.toNat, by omega⟩
        have hj : j < L.length := by omega
        rw [if_pos hx]
        exact (dWrite_arg h1 rfl j hj B _ c hx (by omega)).mono fun e w' ⟨he, hw⟩ => by subst hw; exact ⟨he, Lf.refl hh⟩
theorem scn_ext {Y Z : Nat → List Int} {n : Nat} (h : ∀ k, k < n → Z k = Y k) : ∀ (f i : Nat) (l : Int), scn Z n f i l = scn Y n f i l
  | 0, i, l => rfl
  | f + 1, i, l => by
    have e := nx_ext (Y := Y) (Z := Z) (n - i) i l true [] (fun k h1 h2 => h k (by omega))
    unfold scn
    rw [e]
    cases hn : nx Y (n - i) i l true [] with
    | none => rfl
    | some y => obtain ⟨r, j, g⟩ := y; simp only; rw [scn_ext h f j g]
/-- call by call, whatever the power does -/
structure CP (k : Nat) (all : List (List Int)) (sure : Nat) (s : SS) (l : LS) : Prop where
  bs : s.bs
  ln : s.L.length = 60
  ql : s.Q.length ≤ 55 * k
  g : 1 ≤ l.g ∧ l.g ≤ (k : Int) + 1
  le : l.n ≤ 50
  wi : ∃ Y N q0 M R A1 A2 P X, WI 60 3 50 Y N q0 M R A1 A2 P X s l all sure
  al : all.length ≤ k ∧ ∀ f ∈ all, f.length ≤ 6000
theorem CP.su {k : Nat} {all : List (List Int)} {sure : Nat} {s : SS} {l : LS} (h : CP k all sure s l) : sure ≤ k := by
  obtain ⟨Y, N, q0, M, R, A1, A2, P, X, hw⟩ := h.wi
  have h1 := hw.su
  have h2 := congrArg List.length hw.al
  simp only [List.length_append] at h2
  have := h.al.1
  omega
theorem CP.more {k : Nat} {all : List (List Int)} {sure : Nat} {s : SS} {l : LS} (h : CP k all sure s l) : CP (k + 1) all sure s l :=
  ⟨h.bs, h.ln, by have := h.ql; omega, ⟨h.g.1, by have := h.g.2; omega⟩, h.le, h.wi, Nat.le_succ_of_le h.al.1, h.al.2⟩
theorem cp_new : CP 0 [] 0 ⟨List.replicate 60 zpg, [], -1, false⟩ ⟨1, 0, false⟩ :=
  ⟨new_bs 60, by simp, by simp, by simp, by simp, ⟨_, _, _, _, _, _, _, _, _, wi_new (by omega) ⟨by decide, by decide⟩⟩, by simp, by simp⟩
theorem CP.app {k : Nat} {all : List (List Int)} {sure : Nat} {s : SS} {l : LS} (h : CP k all sure s l) (hk : k ≤ 40) {r : List Int} (hb : Bs r) (h6 : r.length ≤ 6000) :
    ((s.ap 3 50 l r).1 = 5 → CP (k + 1) all sure (s.ap 3 50 l r).2.1 (s.ap 3 50 l r).2.2) ∧ ((s.ap 3 50 l r).1 ≠ 5 → CP (k + 1) (all ++ [r]) sure (s.ap 3 50 l r).2.1 (s.ap 3 50 l r).2.2) := by
  obtain ⟨Y, N, q0, M, R, A1, A2, P, X, hw⟩ := h.wi
  have h1 := ap_len s 3 50 l r
  have h2 := ap_bs h.bs 3 50 (l := l) (by have := h.g; omega) hb
  have h3 := ap_log s 3 50 l r h.le
  have hql := h.ql
  rcases wi_append hw hb h6 with ⟨k1, k2⟩ | ⟨k1, N', M', A2', P', X', hw'⟩
  · refine ⟨fun _ => ?_, fun hne => (hne k1).elim⟩
    rw [k2]
    exact h.more
  · refine ⟨fun he => (k1 he).elim, fun _ => ⟨h2, h1.1.trans h.ln, by omega, by rw [h3.1]; have := h.g; omega, h3.2, ⟨_, _, _, _, _, _, _, _, _, hw'⟩, ?_, ?_⟩⟩
    · rw [List.length_append, List.length_singleton]; have := h.al.1; omega
    · intro f hf
      rcases List.mem_append.1 hf with h9 | h9
      · exact h.al.2 f h9
      · rw [List.mem_singleton.1 h9]; exact h6
theorem CP.flu {k : Nat} {all : List (List Int)} {sure : Nat} {s : SS} {l : LS} (h : CP k all sure s l) : CP (k + 1) all (if (s.lf l).1 = 0 then all.length else sure) (s.lf l).2.1 (s.lf l).2.2 := by
  obtain ⟨Y, N, q0, M, R, A1, A2, P, X, hw⟩ := h.wi
  obtain ⟨A1', A2', X', hw'⟩ := wi_flush hw
  have h1 := lf_len s l
  have h3 := lf_log s l
  have hql := h.ql
  exact ⟨lf_bs h.bs l, h1.1.trans h.ln, by omega, by rw [h3.1]; have := h.g; omega, by rw [h3.2]; exact h.le, ⟨_, _, _, _, _, _, _, _, _, hw'⟩, Nat.le_succ_of_le h.al.1, h.al.2⟩
theorem CP.fus {k : Nat} {all : List (List Int)} {sure : Nat} {s : SS} {l : LS} (h : CP k all sure s l) (n : Int) : CP (k + 1) all sure (s.sf n) l := by
  obtain ⟨Y, N, q0, M, R, A1, A2, P, X, hw⟩ := h.wi
  have m := h.more
  exact ⟨SS.sf_bs h.bs n, h.ln, m.ql, m.g, m.le, ⟨_, _, _, _, _, _, _, _, _, wi_fuse hw n⟩, m.al⟩
theorem CP.oth {k : Nat} {all : List (List Int)} {sure : Nat} {s : SS} {l : LS} (h : CP k all sure s l) {i : Int} (hi : i < 3 ∨ 52 < i) {b : List Int} (hb : Bs b) : CP (k + 1) all sure (s.wr i b).2 l := by
  obtain ⟨Y, N, q0, M, R, A1, A2, P, X, hw⟩ := h.wi
  have m := h.more
  have h1 := s.wr_len i b
  have hql := h.ql
  exact ⟨SS.wr_bs h.bs i b hb, h1.1.trans h.ln, by omega, m.g, m.le, ⟨_, _, _, _, _, _, _, _, _, wi_other hw (by omega) b⟩, m.al⟩
theorem CP.rst {k : Nat} {all : List (List Int)} {sure : Nat} {s : SS} {l : LS} (h : CP k all sure s l) (hk : k ≤ 40) (ls : List Int) :
    (s.rs ls).D = false ∧ (s.rs ls).L.length = 60 ∧ (s.rs ls).bs ∧ sure ≤ (scn ((s.rs ls).lp 3) 50 50 0 1).1.length ∧ (∃ m, (scn ((s.rs ls).lp 3) 50 50 0 1).1 = all.take m) ∧
    CP (k + 1) (scn ((s.rs ls).lp 3) 50 50 0 1).1 (scn ((s.rs ls).lp 3) 50 50 0 1).1.length (s.rs ls) ⟨l.g + 1, (scn ((s.rs ls).lp 3) 50 50 0 1).2.1, false⟩ := by
  obtain ⟨Y, N, q0, M, R, A1, A2, P, X, hw⟩ := h.wi
  obtain ⟨Z, hZ, h1, ⟨m, h2⟩, h3⟩ := wi_restart hw (by have := h.g; omega) ls
  have e : scn ((s.rs ls).lp 3) 50 50 0 1 = scn Z 50 50 0 1 := scn_ext hZ 50 0 1
  rw [e]
  have hl : (s.rs ls).L.length = 60 := by show (mixs _ _ _ _).length = 60; rw [mixs_length]; exact h.ln
  have hbs := SS.rs_bs h.bs ls
  have hal := h.al
  refine ⟨rfl, hl, hbs, h1, ⟨m, h2⟩, ⟨hbs, hl, Nat.zero_le _, by have := h.g; simp only; omega, h3.le rfl, ⟨_, _, _, _, _, _, _, _, _, h3⟩, ?_, ?_⟩⟩
  · rw [h2, List.length_take]; omega
  · intro f hf
    rw [h2] at hf
    exact hal.2 f (List.mem_of_mem_take hf)
end Go.Proofs.Ytbglnljjkofbdaa
