/-
  What is proved here: lists of records wherever they lie, copied; the first ones, or all, of others: yes or no. Nothing else of the program is walked here.
-/
import Derived.Test.YthfkooancgkjaaaMVtF
import Derived.Test.YthfkooancgkjaaaMWaR
set_option linter.unusedSimpArgs false
set_option linter.unusedVariables false
namespace Go.Proofs.Ythfkooancgkjaaa
open Go.ChangeShapes Go.WideShapes Go.ChangeAt Go.RowKit
set_option linter.unusedVariables false
set_option maxRecDepth 20000

/-- lists of bytes, wherever they lie, their bytes below n0 or in blocks of bytes -/
def RAq (n0 : Nat) (w : World) (A : Option Addr) (M : List (List Int)) : Prop := ∀ j, j < M.length → ∃ g o B d, A = some ⟨g, o, none⟩ ∧ w.cell? ⟨g, o + j, none⟩ = some (.slice B (M[j]?.getD []).length d) ∧ RqL n0 w B (M[j]?.getD [])
theorem RAq.ral {n0 : Nat} {w : World} {A : Option Addr} {M : List (List Int)} (h : RAq n0 w A M) : RAl w A M := fun j hj => by
  obtain ⟨g, o, B, d, e, h1, h2⟩ := h j hj
  exact ⟨g, o, B, d, e, h1, h2.1⟩
theorem AllM.raq {m n0 : Nat} {w : World} {M : List (List Int)} {A : Option Addr} {c lm : Nat} (h : AllM m n0 w M (.slice A lm c)) : RAq n0 w A M := fun j hj => by
  obtain ⟨_, g, B, d, e, h1, h2⟩ := h.at hj
  exact ⟨g, 0, B, d, e, by rw [Nat.zero_add]; exact h1, h2⟩
theorem InR.raq {n0 : Nat} {w0 w : World} {A : Option Addr} {n : Nat} {L : List (List Int)} (h : InR w0 A n L) (h0 : w0.heap.size = n0) (hb : Below n0 w0 w) : RAq n0 w A L := fun j hj => by
  obtain ⟨b, o, e, hlt, hat⟩ := h.2.2 (by have := h.1; omega)
  obtain ⟨B, c, xs, h1, h2, _, h4, _⟩ := hat j (by have := h.1; omega)
  refine ⟨b, o, B, c, e, ?_, ?_⟩
  · rw [h1]; exact (hb.cell (by rw [← h0]; exact hlt)).trans h2
  · rw [h1]
    exact ⟨h4.same fun k hk _ => hb.block k (by rw [← h0]; exact hk), fun hx a ha => .inl (by rw [← h0]; exact rp_lt h4 hx a ha)⟩
/-- an append onto a row of no records: all of the other's -/
theorem copy_qo {x : World} {o : Oper} {a : Act} {K : Act → World → Prop} {Q : Exit → Act → World → Prop} (s y : Operand)
    (ho : o.op = .call { callee := .builtin .append, args := #[s, y], argTypes := #[31, 31] }) (m0 n0 g0 : Nat) (M : List (List Int)) (A : Option Addr) (lm c : Nat) (hs : a.eval s = .slice (some ⟨g0, 0, none⟩) 0 0) (hx : a.eval y = .slice A lm c) (hlm : lm = M.length)
    (hE : Blk x g0 23 #[]) (hg : m0 ≤ g0) (hM : RAq n0 x A M) (hlen : M.length ≤ 1000) (hn : m0 ≤ x.heap.size) (hnm : n0 ≤ m0)
    (h : ∀ v' w', AllM m0 n0 w' M v' → Kb x w' → Below m0 x w' → (∀ k, k < x.heap.size → k ≠ g0 → w'.heap[k]? = x.heap[k]?) → K (a.put o.dst v') w') : o.wp Try.prog a x K Q := by
  obtain ⟨i0, hi, hz0, hz1, hz2⟩ := info_parts info_row1
  have hown := own_litb hE hg
  subst hlm
  -- the rows
  obtain ⟨rows, hrl, hrows⟩ : ∃ rows : List Value, rows.length = M.length ∧ ∀ j, j < M.length → ∃ B d, rows[j]? = some (.slice B (M[j]?.getD []).length d) ∧ RqL n0 x B (M[j]?.getD []) ∧ ∀ g o, A = some ⟨g, o, none⟩ → x.cell? ⟨g, o + j, none⟩ = some (.slice B (M[j]?.getD []).length d) := by
    have each : ∀ j : Nat, ∃ v : Value, j < M.length → ∃ B d, v = .slice B (M[j]?.getD []).length d ∧ RqL n0 x B (M[j]?.getD []) ∧ ∀ g o, A = some ⟨g, o, none⟩ → x.cell? ⟨g, o + j, none⟩ = some v := fun j => by
      by_cases hj : j < M.length
      · obtain ⟨g, o, B, d, e, h1, h2⟩ := hM j hj
        refine ⟨_, fun _ => ⟨B, d, rfl, h2, fun g' o' e' => ?_⟩⟩
        rw [e] at e'
        injection e' with e'
        injection e' with e1 e2
        subst e1 e2
        exact h1
      · exact ⟨.int .i64 0, fun hh => absurd hh hj⟩
    obtain ⟨F, hF⟩ := Classical.axiomOfChoice each
    refine ⟨(List.range M.length).map F, by simp, fun j hj => ?_⟩
    obtain ⟨B, d, h1, h2, h3⟩ := hF j hj
    exact ⟨B, d, by simp [hj, h1], h2, fun g o e => by rw [← h1]; exact h3 g o e⟩
  cases A with
  | none =>
    have h0 : M.length = 0 := by
      rcases Nat.eq_zero_or_pos M.length with h | h
      · exact h
      · obtain ⟨g, o, B, d, e, _⟩ := hM 0 h; cases e
    have hM0 : M = [] := List.length_eq_zero_iff.1 h0
    subst hM0
    have hrun := run_append_nil' (P := Try.prog) x m0 31 o.type 23 i0 1 Try.underlying31 hi (.slice (some ⟨g0, 0, none⟩) 0 0) 0 [] hown c
    unfold Oper.wp execOp
    simp only [ho, resolve, invoke, builtin, Sem.run_bind, Sem.run_pure, Result.andThen_ok, List.map_toArray, List.map_cons, List.map_nil, hs, hx]
    simp only [List.length_nil]
    rw [hrun]
    exact h _ x ⟨_, 0, [], rfl, hown, fun j hj => by simp at hj⟩ ⟨Nat.le_refl _, fun _ _ _ _ _ => rfl⟩ (Below.refl _ _) (fun _ _ _ => rfl)
  | some ad =>
    refine wp_append_own x s y 31 ho m0 23 i0 (.slice none 0 0) 1 24 Try.underlying31 hi hz0 hz1 hz2 rfl (by decide) _ 0 [] hs hown ad M.length c rows hx (by omega) ?_ ?_ (by unfold maxLen; omega) (by omega) hn ?_
    · intro j u hu
      by_cases h0 : j < M.length
      · obtain ⟨g, o, B, d, e, h1, h2⟩ := hM j h0
        injection e with e
        subst e
        obtain ⟨B', d', k1, k2, k3⟩ := hrows j h0
        rw [Addr.add_mid, ← hu, k1]
        exact k3 g o rfl
      · rw [List.getElem?_eq_none (by omega)] at hu
        cases hu
    · intro u hu
      obtain ⟨j, hju⟩ := List.mem_iff_getElem?.1 hu
      have hjl : j < M.length := by
        rcases Nat.lt_or_ge j M.length with h1 | h1
        · exact h1
        · rw [List.getElem?_eq_none (by omega)] at hju; cases hju
      obtain ⟨B, d, h1, _⟩ := hrows j hjl
      rw [h1] at hju
      injection hju with hju
      rw [← hju]; rfl
    · intro v' w' h1 h2 _
      rw [Nat.zero_add, List.nil_append] at h1
      obtain ⟨A9, c9, hv9⟩ := slice_of h1
      have bel : Below m0 x w' := (Below.refl _ _).grown h2 hn (fun k hk => by cases hk; exact hg)
      have kk : ∀ k, k < x.heap.size → k ≠ g0 → w'.heap[k]? = x.heap[k]? := fun k hk hne => h2.block k hk (fun e => by cases e; exact hne rfl)
      have kb : Kb x w' := ⟨h2.size, fun k t cs hb ht => kk k hb.lt (fun e => by subst e; exact ht (hb.inj hE).1)⟩
      exact h v' w' ⟨A9, c9, rows, hv9, h1, fun j hjl => by
        obtain ⟨B, d, k1, k2, _⟩ := hrows j hjl
        exact ⟨B, d, k1, k2.keep kb.u8 (bel.mono hnm)⟩⟩ kb bel kk
/-- the same, as an operation of a list; the empty row has just been laid -/
theorem copy_q {w : World} {ops : Array Oper} {rest : List Oper} {o : Oper} {a : Act} {Q : Exit → Act → World → Prop} (hw : Region.wanted o (yielded ops a.tmps) = true) (s y : Operand)
    (ho : o.op = .call { callee := .builtin .append, args := #[s, y], argTypes := #[31, 31] }) (n0 : Nat) (M : List (List Int)) (A : Option Addr) (lm c : Nat) (hs : a.eval s = .slice (some ⟨w.heap.size, 0, none⟩) 0 0) (hx : a.eval y = .slice A lm c) (hlm : lm = M.length)
    (hM : RAq n0 w A M) (hlen : M.length ≤ 1000) (hn : n0 ≤ w.heap.size)
    (h : ∀ v' w', AllM n0 n0 w' M v' → Kb w w' → Below n0 w w' → wpList Try.prog ops Q rest (a.put o.dst v') w') : wpList Try.prog ops Q (o :: rest) a (w.alloc (.cells #[] 23)) := by
  have hb : Below w.heap.size w (w.alloc (.cells #[] 23)) := (Below.refl _ _).alloc (Nat.le_refl _) _
  unfold wpList
  rw [if_pos hw]
  refine Or.inl (copy_qo s y ho n0 n0 w.heap.size M A lm c hs hx hlm (Blk.new w 23 #[]) hn (fun j hj => ?_) hlen (Nat.le_trans hn hb.size) (Nat.le_refl _) fun v' w' h1 h2 h3 h4 => h v' w' h1 ?_ ((hb.mono hn).trans h3))
  · obtain ⟨g, o, B, d, e, h1, h2⟩ := hM j hj
    exact ⟨g, o, B, d, e, cell_bl hb h1, h2.keep (fun g cs hg => hb.block g hg.lt) (hb.mono hn)⟩
  · refine ⟨Nat.le_trans hb.size h2.1, fun k t cs hk ht => (h4 k (Nat.lt_of_lt_of_le hk.lt hb.size) (by have := hk.lt; omega)).trans (hb.block k hk.lt)⟩
/-- whether lists of records are the same ones: an answer, yes if they are -/
def SmA (L M : List (List Int)) (w : World) (e : Ending) (w' : World) : Prop := ∃ f, e = .returned (.bool f) ∧ (L = M → f = true) ∧ ∃ q, w' = w.drewN q
def AhA (L M : List (List Int)) (w : World) (e : Ending) (w' : World) : Prop := ∃ f, e = .returned (.bool f) ∧ ((∃ m, L = M.take m) → f = true) ∧ ∃ q, w' = w.drewN q
set_option maxHeartbeats 1000000 in
theorem RSame_gen (A B : Option Addr) (n m c d : Nat) (L M : List (List Int)) (w : World) (hn : n = L.length) (hm : m = M.length) (hn9 : n < 100000) (hm9 : m < 100000) (hL : RAl w A L) (hM : RAl w B M) (h1 : ∀ f ∈ L, f.length ≤ 10000) (h2 : ∀ f ∈ M, f.length ≤ 10000) :
    Calls Try.prog 17 #[.slice A n c, .slice B m d] w (SmA L M w) := by
  have HP : Hid ((L = M) → n = m ∧ ∀ k, k < n → L[k]?.getD [] = M[k]?.getD []) := hid (fun h => ⟨by rw [hn, hm, h], fun k _ => by rw [h]⟩)
  have HB : Hid (∀ k : Nat, (L[k]?.getD []).length ≤ 10000 ∧ (M[k]?.getD []).length ≤ 10000) := hid fun k => by
    constructor
    · cases hk : L[k]? with
      | none => simp
      | some x => exact h1 x (List.mem_of_getElem? hk)
    · cases hk : M[k]? with
      | none => simp
      | some x => exact h2 x (List.mem_of_getElem? hk)
  have HL := hid hL; have HM := hid hM; have HN := hid hn; have HMM := hid hm
  clear hL hM h1 h2 hn hm
  by_cases hc : n = m
  · have gn : ((n : Int) != (m : Int)) = false := by simp [hc]
    have gn2 : (n : Int) = (m : Int) := by omega
    clear hc
    go_enter Try.func17, Try.ntmps17
    go_wp2
    go_loopw [5] (fun i wr => ∃ k : Nat, k ≤ n ∧ i = .int .i64 k ∧ ∃ q, wr = w.drewN q) (fun i _ => n - (intOf i).toNat)
    case atStart => exact ⟨0, by omega, rfl, 0, rfl⟩
    case round =>
      obtain ⟨k, hk, rfl, q, hw⟩ := hrel
      by_cases hlt : k < n
      · obtain ⟨g1, o1, B1, c1, rfl, x1, x2⟩ := HL.out k (by have := HN.out; omega)
        obtain ⟨g2, o2, B2, c2, rfl, y1, y2⟩ := HM.out k (by have := HMM.out; omega)
        obtain ⟨e1, e2⟩ := HB.out k
        obtain ⟨xs, hxs⟩ : ∃ xs, xs = L[k]?.getD [] := ⟨_, rfl⟩
        obtain ⟨ys, hys⟩ : ∃ ys, ys = M[k]?.getD [] := ⟨_, rfl⟩
        rw [← hxs] at x1 x2 e1
        rw [← hys] at y1 y2 e2
        have hsq := fun W (hW : ∃ q, W = w.drewN q) => Same_quiet B1 B2 c1 c2 xs ys W (by obtain ⟨q, rfl⟩ := hW; exact x2) (by obtain ⟨q, rfl⟩ := hW; exact y2) (by omega) (by omega)
        have z1 : wr.cell? ⟨g1, o1 + k, none⟩ = some (.slice B1 xs.length c1) := by rw [hw]; exact x1
        have z2 : wr.cell? ⟨g2, o2 + k, none⟩ = some (.slice B2 ys.length c2) := by rw [hw]; exact y1
        obtain ⟨ln, hln⟩ : ∃ ln, ln = xs.length := ⟨_, rfl⟩
        obtain ⟨lm, hlm⟩ : ∃ ln, ln = ys.length := ⟨_, rfl⟩
        rw [← hln] at z1 hsq
        rw [← hlm] at z2 hsq
        obtain ⟨f, hf⟩ : ∃ f, f = decide (xs = ys) := ⟨_, rfl⟩
        rw [← hf] at hsq
        have HSQ := hid hsq; have HW := hid hw; have HF := hid hf; have HXS := hid hxs; have HYS := hid hys
        clear x1 x2 y1 y2 e1 e2 hxs hys hsq hw hln hlm hf
        cases f with
        | true =>
          go_wp2
          go_quiet ((go_at_call 33; exact Calls.quiet_of (HSQ.out _ ⟨_, by rw [HW.out, World.drewN_drewN]⟩)))
          go_wp2
          go_roundw
          case rel => exact ⟨k + 1, by omega, by go_num, q + nq, by rw [HW.out, World.drewN_drewN]⟩
          case measure => simp [intOf]; omega
        | false =>
          go_wp2
          go_quiet ((go_at_call 33; exact Calls.quiet_of (HSQ.out _ ⟨_, by rw [HW.out, World.drewN_drewN]⟩)))
          go_wp2
          go_ret
          refine ⟨false, rfl, fun h => ?_, q + nq, by rw [HW.out, World.drewN_drewN]⟩
          have := (HP.out h).2 k hlt
          rw [← HXS.out, ← HYS.out] at this
          exact (of_decide_eq_false HF.out.symm this).elim
      · have HW := hid hw
        clear hw
        obtain rfl : k = n := by omega
        go_wp2
        go_ret
        exact ⟨true, rfl, fun _ => rfl, q, HW.out⟩
  · have gn : ((n : Int) != (m : Int)) = true := by simp; omega
    have HC := hid hc
    clear hc
    go_enter Try.func17, Try.ntmps17
    go_wp2
    go_ret
    exact ⟨false, rfl, fun h => (HC.out (HP.out h).1).elim, 0, rfl⟩
set_option maxHeartbeats 1000000 in
theorem xAhead_gen (A B : Option Addr) (n m c d : Nat) (L M : List (List Int)) (w : World) (hn : n = L.length) (hm : m = M.length) (hn9 : n < 100000) (hm9 : m < 100000) (hL : RAl w A L) (hM : RAl w B M) (h1 : ∀ f ∈ L, f.length ≤ 10000) (h2 : ∀ f ∈ M, f.length ≤ 10000) :
    Calls Try.prog 16 #[.slice A n c, .slice B m d] w (AhA L M w) := by
  have HP : Hid ((∃ j, L = M.take j) → n ≤ m ∧ ∀ k, k < n → L[k]?.getD [] = M[k]?.getD []) := hid (fun ⟨j, h⟩ => by
    have hl := congrArg List.length h
    rw [List.length_take] at hl
    refine ⟨by omega, fun k hk => ?_⟩
    rw [h, List.getElem?_take, if_pos (by omega)])
  have HB : Hid (∀ k : Nat, (L[k]?.getD []).length ≤ 10000 ∧ (M[k]?.getD []).length ≤ 10000) := hid fun k => by
    constructor
    · cases hk : L[k]? with
      | none => simp
      | some x => exact h1 x (List.mem_of_getElem? hk)
    · cases hk : M[k]? with
      | none => simp
      | some x => exact h2 x (List.mem_of_getElem? hk)
  have HL := hid hL; have HM := hid hM; have HN := hid hn; have HMM := hid hm
  clear hL hM h1 h2 hn hm
  by_cases hc : n ≤ m
  · have gn : ¬ (m : Int) < (n : Int) := by omega
    clear hc
    go_enter Try.func16, Try.ntmps16
    go_wp2
    go_loopw [5] (fun i wr => ∃ k : Nat, k ≤ n ∧ i = .int .i64 k ∧ ∃ q, wr = w.drewN q) (fun i _ => n - (intOf i).toNat)
    case atStart => exact ⟨0, by omega, rfl, 0, rfl⟩
    case round =>
      obtain ⟨k, hk, rfl, q, hw⟩ := hrel
      by_cases hlt : k < n
      · obtain ⟨g1, o1, B1, c1, rfl, x1, x2⟩ := HL.out k (by have := HN.out; omega)
        obtain ⟨g2, o2, B2, c2, rfl, y1, y2⟩ := HM.out k (by have := HMM.out; omega)
        obtain ⟨e1, e2⟩ := HB.out k
        obtain ⟨xs, hxs⟩ : ∃ xs, xs = L[k]?.getD [] := ⟨_, rfl⟩
        obtain ⟨ys, hys⟩ : ∃ ys, ys = M[k]?.getD [] := ⟨_, rfl⟩
        rw [← hxs] at x1 x2 e1
        rw [← hys] at y1 y2 e2
        have hsq := fun W (hW : ∃ q, W = w.drewN q) => Same_quiet B1 B2 c1 c2 xs ys W (by obtain ⟨q, rfl⟩ := hW; exact x2) (by obtain ⟨q, rfl⟩ := hW; exact y2) (by omega) (by omega)
        have z1 : wr.cell? ⟨g1, o1 + k, none⟩ = some (.slice B1 xs.length c1) := by rw [hw]; exact x1
        have z2 : wr.cell? ⟨g2, o2 + k, none⟩ = some (.slice B2 ys.length c2) := by rw [hw]; exact y1
        obtain ⟨ln, hln⟩ : ∃ ln, ln = xs.length := ⟨_, rfl⟩
        obtain ⟨lm, hlm⟩ : ∃ ln, ln = ys.length := ⟨_, rfl⟩
        rw [← hln] at z1 hsq
        rw [← hlm] at z2 hsq
        obtain ⟨f, hf⟩ : ∃ f, f = decide (xs = ys) := ⟨_, rfl⟩
        rw [← hf] at hsq
        have HSQ := hid hsq; have HW := hid hw; have HF := hid hf; have HXS := hid hxs; have HYS := hid hys
        clear x1 x2 y1 y2 e1 e2 hxs hys hsq hw hln hlm hf
        cases f with
        | true =>
          go_wp2
          go_quiet ((go_at_call 33; exact Calls.quiet_of (HSQ.out _ ⟨_, by rw [HW.out, World.drewN_drewN]⟩)))
          go_wp2
          go_roundw
          case rel => exact ⟨k + 1, by omega, by go_num, q + nq, by rw [HW.out, World.drewN_drewN]⟩
          case measure => simp [intOf]; omega
        | false =>
          go_wp2
          go_quiet ((go_at_call 33; exact Calls.quiet_of (HSQ.out _ ⟨_, by rw [HW.out, World.drewN_drewN]⟩)))
          go_wp2
          go_ret
          refine ⟨false, rfl, fun h => ?_, q + nq, by rw [HW.out, World.drewN_drewN]⟩
          have := (HP.out h).2 k hlt
          rw [← HXS.out, ← HYS.out] at this
          exact (of_decide_eq_false HF.out.symm this).elim
      · have HW := hid hw
        clear hw
        obtain rfl : k = n := by omega
        go_wp2
        go_ret
        exact ⟨true, rfl, fun _ => rfl, q, HW.out⟩
  · have gn : (m : Int) < (n : Int) := by omega
    have HC := hid hc
    clear hc
    go_enter Try.func16, Try.ntmps16
    go_wp2
    go_ret
    exact ⟨false, rfl, fun h => (HC.out (HP.out h).1).elim, 0, rfl⟩
end Go.Proofs.Ythfkooancgkjaaa
