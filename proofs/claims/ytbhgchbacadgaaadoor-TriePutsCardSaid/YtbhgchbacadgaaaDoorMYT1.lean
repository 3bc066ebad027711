/-
  What is proved here: whatever is put, keys, values and the root are the chapter's, at every step, and elder trees stay: the walk of the statement.
-/
import Derived.Test.YtbhgchbacadgaaaDoorMYP1
import Derived.Deep.DeepCutAuto
import Derived.Deep.RegionLaw
set_option linter.unusedSimpArgs false
set_option linter.unusedVariables false
namespace Go.Proofs.YtbhgchbacadgaaaDoor
open Go.ChangeShapes Go.WideShapes Go.ChangeAt Go.RowKit
set_option linter.unusedVariables false
set_option linter.unusedSimpArgs false
set_option maxRecDepth 20000

theorem append_intB {w : World} {ops : Array Oper} {rest : List Oper} {o : Oper} {a : Act} {Q : Exit → Act → World → Prop} (hgd : o.guard = none) (s x : Operand)
    (ho : o.op = .call { callee := .builtin .append, args := #[s, x], argTypes := #[31, 31] })
    (base : Nat) (A : Option Addr) (c : Nat) (xs : List Int) (n : Nat) (hn : n = xs.length) (hs : a.eval s = .slice A n c) (hown : w.ownsRow base 3 1 (.slice A n c) n (i64s xs))
    (y : Int) (hx : a.eval x = .slice (some ⟨w.heap.size, 0, none⟩) 1 1) (h63 : n < 1000000) (hbase : base ≤ w.heap.size)
    (h : ∀ A' c' w', Hid (w'.ownsRow base 3 1 (.slice A' (n + 1) c') (n + 1) (i64s (xs ++ [y]))) → Hid (But (.slice A n c) w w') → wpList Tryd.prog ops Q rest (a.put o.dst (.slice A' (n + 1) c')) w') : wpList Tryd.prog ops Q (o :: rest) a (w.alloc (.cells #[.int .i64 y] 3)) := by
  obtain ⟨i0, hi, hz0, hz1, hz2⟩ := info_parts info_int
  have hB := Blk.new w 3 #[.int .i64 y]
  have hb : Below w.heap.size w (w.alloc (.cells #[.int .i64 y] 3)) := (Below.refl _ _).alloc (Nat.le_refl _) _
  refine wpList_append_own _ hgd s x 31 ho base 3 i0 (.int .i64 0) 1 8 Tryd.underlying31 hi hz0 hz1 hz2 rfl (by decide) (.slice A n c) n (i64s xs) hs (own_below hown hb) ⟨w.heap.size, 0, none⟩ 1 1 (i64s [y]) hx (by rw [i64s_len]; simp) (fun j u hu => ?_) (i64s_one _) (by unfold maxLen; omega) (by omega) (Nat.le_trans hbase hb.size) ?_
  · rw [Addr.add_lit, Nat.zero_add, hB.cell, List.getElem?_toArray]; exact hu
  · intro v' w' h1 h2 _
    have hv : ∃ A' c', v' = .slice A' (n + 1) c' := by
      rcases h1.2 with ⟨_, h5⟩ | ⟨g, cap, cur, hv, _⟩
      · omega
      · exact ⟨_, _, hv⟩
    obtain ⟨A', c', rfl⟩ := hv
    refine h A' c' w' (show World.ownsRow _ _ _ _ _ _ _ from ?_) (show But _ _ _ from (World.grownBy_alloc w _ _).trans h2)
    rw [show i64s (xs ++ [y]) = i64s xs ++ i64s [y] by simp [i64s]]
    exact h1
theorem int_row_ty {w : World} {base n : Nat} {v : Value} {xs : List Value} (h : w.ownsRow base 3 1 v n xs) : ∀ k, v.ownBlock = some k → base ≤ k ∧ ∃ C, Blk w k 3 C := fun k hk => by
  rcases h.2 with ⟨h1, h0⟩ | ⟨g, cap, cur, hv, hb, hh, _⟩
  · rw [h1] at hk; cases hk
  · rw [hv] at hk; injection hk with hk; subst hk; exact ⟨hb, cur, hh⟩
theorem int_row_at {w : World} {base n c : Nat} {A : Option Addr} {X : List Int} (h : w.ownsRow base 3 1 (.slice A n c) n (i64s X)) {i : Nat} (hi : i < n) : ∃ g, A = some ⟨g, 0, none⟩ ∧ w.cell? ⟨g, i, none⟩ = some (.int .i64 (X[i]?.getD 0)) := by
  have hl := h.1
  rw [i64s_len, Nat.mul_one] at hl
  rcases h.2 with ⟨_, h0⟩ | ⟨g, cap, cur, hv, hb, hh, hnc, hcm, hcs, htk⟩
  · omega
  · injection hv with hA
    refine ⟨g, hA, ?_⟩
    have h2 := h.cells (g := g) (by rw [hA]; rfl) i (.int .i64 (X[i]?.getD 0)) (by unfold i64s; rw [List.getElem?_map, List.getElem?_eq_getElem (by omega)]; rfl)
    rw [Addr.add_lit, Nat.zero_add] at h2
    exact h2
/-- trees that were put, one for each beginning -/
structure PuI (w : World) (f : Nat) (P : List KV) (K : List Int) (k nb g b : Nat) (N : List Nd) (A : Option Addr) (c : Nat) (tv : Value) (X : List Int) (A6 : Option Addr) (c6 : Nat) (wr : World) : Prop where
  fo : Fo wr f g b N A c tv
  fr : FrOk hLf hIn N
  tr : ∀ j, j ≤ k → ∃ T, TAt N (X[j]?.getD 0) T ∧ lstO T = allL (P.take j) ∧ szO T ≤ j
  len : X.length = k + 1
  nl : N.length ≤ nb
  row : wr.ownsRow w.heap.size 3 1 (.slice A6 (k + 1) c6) (k + 1) (i64s X)
  kk : Blk wr w.heap.size 24 (kc K)
  bl : Below w.heap.size w wr
  own : w.heap.size ≤ f ∧ w.heap.size ≤ g ∧ w.heap.size ≤ b
section
variable {w wr w2 x : World} {f : Nat} {P : List KV} {K : List Int} {k nb g b : Nat} {N : List Nd} {A : Option Addr} {c : Nat} {tv : Value} {X : List Int} {A6 : Option Addr} {c6 : Nat}
theorem PuI.below (h : PuI w f P K k nb g b N A c tv X A6 c6 wr) (hb : Below wr.heap.size wr x) : PuI w f P K k nb g b N A c tv X A6 c6 x :=
  ⟨h.fo.below hb, h.fr, h.tr, h.len, h.nl, own_below h.row hb, h.kk.below hb, h.bl.trans (hb.mono h.bl.size), h.own⟩
theorem tat_more {M : List Nd} {ti : Int} {T : Option Tr} (h : TAt N ti T) : TAt (N ++ M) ti T := by
  cases T with
  | none => exact h
  | some t => obtain ⟨k, e, hr, hok⟩ := h; exact ⟨k, e, hr.more hLf hIn M, hok⟩
theorem PuI.grew {M : List Nd} {m : Nat} (h : PuI w f P K k nb g b N A c tv X A6 c6 wr) (hgr : Grew wr f g b (N ++ M) w2) (hfr : FrOk hLf hIn (N ++ M)) (hm : M.length ≤ m) :
    ∃ g' b' A' c' tv', PuI w f P K k (nb + m) g' b' (N ++ M) A' c' tv' X A6 c6 w2 := by
  obtain ⟨g', b', A', c', tv', hfo, hg, hb, ho⟩ := hgr
  obtain ⟨o1, o2, o3⟩ := h.own
  refine ⟨g', b', A', c', tv', hfo, hfr, fun j hj => ?_, h.len, ?_, own_only h.fo ho h.row, h.kk.same (ho.block _ h.kk.lt (h.fo.not_own h.kk (by decide) (by decide) (by decide))), ?_, o1, ?_, ?_⟩
  · obtain ⟨T, h1, h2⟩ := h.tr j hj
    exact ⟨T, tat_more h1, h2⟩
  · rw [List.length_append]; have := h.nl; omega
  · exact h.bl.trans (ho.below (B := w.heap.size) h.bl.size (fun k hk => by rcases hk with e | e | e <;> omega))
  · have := h.bl.size
    rcases hg with e | e <;> omega
  · have := h.bl.size
    rcases hb with e | e
    · omega
    · have e' : wr.heap.size ≤ b' := e; omega
theorem PuI.push {top : Int} {T : Option Tr} {A7 : Option Addr} {c7 : Nat} (h : PuI w f P K k nb g b N A c tv X A6 c6 wr) (ht : TAt N top T) (hl : lstO T = allL (P.take (k + 1))) (hs : szO T ≤ k + 1)
    (hrow : w2.ownsRow w.heap.size 3 1 (.slice A7 (k + 1 + 1) c7) (k + 1 + 1) (i64s (X ++ [top]))) (hbut : But (.slice A6 (k + 1) c6) wr w2) : PuI w f P K (k + 1) nb g b N A c tv (X ++ [top]) A7 c7 w2 := by
  have nb' : ∀ {k' t cs}, Blk wr k' t cs → t ≠ 3 → (Value.slice A6 (k + 1) c6).ownBlock ≠ some k' := fun hk ht e => by
    obtain ⟨_, C, h2⟩ := int_row_ty h.row _ e
    exact hk.ne h2 ht rfl
  have no : ∀ k', Ow f g b k' → (Value.slice A6 (k + 1) c6).ownBlock ≠ some k' := fun k' ho e => by
    obtain ⟨_, C, h2⟩ := int_row_ty h.row _ e
    exact h.fo.not_own h2 (by decide) (by decide) (by decide) ho
  refine ⟨h.fo.keep (fun k' ho => hbut.at k' (by
    obtain ⟨h1, h2, h3⟩ := h.fo.lts
    rcases ho with rfl | rfl | rfl <;> assumption) (no k' ho)), h.fr, fun j hj => ?_, by rw [List.length_append, h.len]; rfl, h.nl, hrow, hbut.blk h.kk (nb' h.kk (by decide)), h.bl.trans (hbut.bel h.bl.size (fun k hk => (int_row_ty h.row k hk).1)), h.own⟩
  by_cases e : j ≤ k
  · rw [List.getElem?_append_left (by rw [h.len]; omega)]
    exact h.tr j e
  · obtain rfl : j = k + 1 := by omega
    rw [List.getElem?_append_right (by rw [h.len]; omega), h.len, Nat.sub_self]
    exact ⟨T, ht, hl, hs⟩
end
/-- what a round reads -/
structure PuS (bp o : Nat) (q : KV) (g6 k : Nat) (ti : Int) (x : World) : Prop where
  pr : PairAt bp o q x
  ct : x.cell? ⟨g6, k, none⟩ = some (.int .i64 ti)
theorem ps_keep {w wr y : World} {f : Nat} {P : List KV} {K : List Int} {k nb g b : Nat} {N N' : List Nd} {A : Option Addr} {c : Nat} {tv : Value} {X : List Int} {g6 c6 bp o : Nat} {q : KV} {ti : Int} (h : PuI w f P K k nb g b N A c tv X (some ⟨g6, 0, none⟩) c6 wr) (hp : PairAt bp o q w)
    (hgr : Grew wr f g b N' y) (hs : PuS bp o q g6 k ti wr) : PuS bp o q g6 k ti y := by
  obtain ⟨o1, o2, o3⟩ := h.own
  obtain ⟨g', b', A', c', tv', hfo, hg, hb, ho⟩ := hgr
  obtain ⟨_, C, h2⟩ := int_row_ty h.row g6 rfl
  refine ⟨?_, (World.cell?_of_block (a := ⟨g6, k, none⟩) (ho.block g6 h2.lt (h.fo.not_own h2 (by decide) (by decide) (by decide)))).trans hs.ct⟩
  exact fun j v hv => (World.cell?_of_block (a := ⟨bp, o + j, none⟩) (ho.block bp (block_lt_of_cell (hs.pr j v hv)) (fun hw => by
    have := block_lt_of_cell (hp j v hv)
    have hlt : bp < w.heap.size := this
    rcases hw with e | e | e <;> omega))).trans (hs.pr j v hv)
set_option maxHeartbeats 8000000 in
theorem puts_main {w : World} {A0 : Option Addr} {n c0 : Nat} {P : List KV} {K : List Int} (h : InP w A0 n P) (hc : n ≤ c0) (hK : Ky K) (ht : Tab w) (hn : n ≤ 25) (hAn : (if c0 = 0 then A0 else Option.map (fun x : Addr => x.add 0) A0) = A0) : Calls Tryd.prog 3 #[.slice A0 n c0, .agg (kc K)] w fun e w' => e = .returned (.bool true) ∧ Below w.heap.size w w' := by
  have K0 : Hid (Blk (w.alloc (.cells (kc K) 24)) w.heap.size 24 (kc K)) := Blk.new w 24 _
  have B0 : Hid (Below w.heap.size w (w.alloc (.cells (kc K) 24))) := (Below.refl _ _).alloc (Nat.le_refl _) _
  have CA := hid (fun w1 (hb : Below w.heap.size w w1) => xawake_any w1 (ht.below hb))
  have hd1 : decide ((25 : Int) < (n : Int)) = false := decide_eq_false (by omega)
  have hn1 : ¬ (25 : Int) < (n : Int) := by omega
  have HIN := hid h; have HT := hid ht; have HKy := hid hK; have HPN := hid h.1; have HC := hid hc
  have hb0 := built_forest
  have hmax : n ≤ 25 := hn
  clear h ht hK hc hn
  go_enter Tryd.func3, Tryd.ntmps3
  go_upto_region 3 with (first
    | (go_at_call 10; refine (CA.out _ B0.out).mono ?_; rintro e w1 ⟨rfl, hb⟩; have B1 := hid (B0.out.trans (hb.mono B0.out.size)); have K1 := hid (K0.out.below hb); clear hb))
  clear hd1 hn1 CA K0 B0
  have KF : Hid (Blk (w1.alloc (.cells #[.slice none 0 0, .pointer none] 30)) w1.heap.size 30 #[.slice none 0 0, .pointer none]) := Blk.new w1 30 _
  have BF : Hid (Below w1.heap.size w1 (w1.alloc (.cells #[.slice none 0 0, .pointer none] 30))) := (Below.refl _ _).alloc (Nat.le_refl _) _
  go_upto_region 4 with (refine wpList_buildC rfl 30 _ rfl #[.slice none 0 0, .pointer none] ?hc ?_; case hc => (simp only [List.map_toArray, List.map_cons, List.map_nil, Act.eval]; exact hb0))
  have K2 := hid (K1.out.below BF.out); have B2 := hid (B1.out.trans (BF.out.mono B1.out.size)); have FW : Hid (w.heap.size ≤ w1.heap.size) := B1.out.size
  clear hb0 K1 B1 BF
  generalize w1.alloc (.cells #[.slice none 0 0, .pointer none] 30) = w2 at KF K2 B2 ⊢
  generalize w1.heap.size = f at KF FW ⊢
  have ROW0 : Hid ((w2.alloc (.cells #[.int .i64 (-1)] 3)).ownsRow w.heap.size 3 1 (.slice (some ⟨w2.heap.size, 0, none⟩) 1 1) 1 (i64s [-1])) := ⟨rfl, .inr ⟨w2.heap.size, 1, _, rfl, B2.out.size, World.alloc_heap_new w2 _, Nat.le_refl _, by decide, rfl, rfl⟩⟩
  have BR : Hid (Below w2.heap.size w2 (w2.alloc (.cells #[.int .i64 (-1)] 3))) := (Below.refl _ _).alloc (Nat.le_refl _) _
  have I0 : Hid (PuI w f P K 0 0 f f [] none 0 (.pointer none) [-1] (some ⟨w2.heap.size, 0, none⟩) 1 (w2.alloc (.cells #[.int .i64 (-1)] 3))) :=
    ⟨(fo_new KF.out).below BR.out, fr_new, fun j hj => by
      obtain rfl : j = 0 := by omega
      exact ⟨none, rfl, by rw [List.take_zero]; rfl, Nat.le_refl _⟩, rfl, by simp, ROW0.out, K2.out.below BR.out, B2.out.trans (BR.out.mono B2.out.size), FW.out, FW.out, FW.out⟩
  clear KF K2 B2 FW ROW0 BR
  go_wp2
  generalize w2.alloc (.cells #[.int .i64 (-1)] 3) = w3 at I0 ⊢
  generalize w2.heap.size = g60 at I0 ⊢
  go_loopw [6, 7] (fun s6 s7 wr => ∃ (k : Nat) (X : List Int) (A6 : Option Addr) (c6 : Nat), k ≤ n ∧ s6 = .slice A6 (k + 1) c6 ∧ s7 = .int .i64 (k : Nat) ∧ ∃ nb g b N A c tv, Hid (PuI w f P K k nb g b N A c tv X A6 c6 wr) ∧ Hid (nb ≤ 70 * k)) (fun _ s7 _ => n - (intOf s7).toNat)
  case atStart => exact ⟨0, [-1], _, 1, Nat.zero_le _, rfl, rfl, 0, f, f, [], none, 0, _, I0, Nat.le_refl _⟩
  case round =>
    obtain ⟨k, X, A6, c6, hk, rfl, rfl, nb, g, b, N, A, c, tv, FI, HNB⟩ := hrel
    clear I0
    by_cases hlt : k < n
    · obtain ⟨bp, op, q, e0, hq, hq1, hq2, _, _, _⟩ := HIN.out.at hlt
      subst e0
      have HQ : Hid (Ky q.1 ∧ Ky q.2) := ⟨hq1, hq2⟩
      have HKI := hid (u8s_info hq1); have HVI := hid (u8s_info hq2)
      have PA0 : Hid (PairAt bp (op + k * 64) q w) := inp_at HIN.out hq
      have PA : Hid (PairAt bp (op + k * 64) q wr) := rng_bel FI.out.bl PA0.out
      obtain ⟨g6, e6, hct⟩ := int_row_at FI.out.row (show k < k + 1 by omega)
      subst e6
      obtain ⟨T, hta, htl, hts⟩ := FI.out.tr k (Nat.le_refl _)
      obtain ⟨ti, hti⟩ : ∃ ti, ti = X[k]?.getD 0 := ⟨_, rfl⟩
      rw [← hti] at hta hct
      have TA := hid hta; have CT := hid hct
      have SZT : Hid (szO T ≤ k) := hts
      have HFEW : Hid (Few N.length) := by show N.length < 100000; have := FI.out.nl; have := HNB.out; omega
      have HFS : Hid (Few (szO T)) := by show szO T < 100000; omega
      have HPO : Hid (lstO (some (putO T q.1 q.2)) = allL (P.take (k + 1)) ∧ (putO T q.1 q.2).ok ∧ szO (some (putO T q.1 q.2)) ≤ k + 1) := by
        obtain ⟨h1, h2, h3⟩ := putO_list (T := T) hta.ok hq1 hq2
        refine ⟨?_, h2, ?_⟩
        · show (putO T q.1 q.2).list = _
          rw [h1, htl, List.take_add_one, hq, Option.toList_some, allL_snoc]
        · show (putO T q.1 q.2).list.length ≤ _
          omega
      have PSK := hid (fun (x y : World) (hgr : Grew wr f g b (N ++ []) y) => hgr)
      clear PSK
      have hlt2 : (k : Int) < n := by omega
      have hk1 : (k : Int) < (k : Int) + 1 := by omega
      have hk2 : k < k + 1 := by omega
      clear hq hq1 hq2 hct hta htl hts hti
      go_upto_region 8 with (fail)
      refine wp_region_held (S := fun w' => Hid (PuS bp (op + k * 64) q g6 k ti w')) (by kernel_rfl) ?_
      change wpAnyH _ _ _ _ _ _ _ _ wr.drew
      have Gx0 : Hid (PuS bp (op + k * 64) q g6 k ti wr.drew) := ⟨PA.out, CT.out⟩
      have FI' : Hid (PuI w f P K k nb g b N A c tv X (some ⟨g6, 0, none⟩) c6 wr.drew) := FI.out.below (Below.refl _ _).drew
      clear FI
      have FI := FI'
      clear FI'
      generalize wr.drew = x0 at Gx0 FI ⊢
      refine wpAnyH_take (i := 0) (oi := { dst := some 36, op := _, type := _, pos := _, after := _, guard := _ }) (v := ?_) rfl (by kernel_rfl) (by kernel_rfl) (by kernel_rfl) (fun _ _ _ h => h) (Or.inl ⟨by kernel_rfl, ?_⟩) Gx0 ?_
      rotate_left
      · (intro w hSw; go_simp; try with_reducible rfl)
      try simp only [Act.put, List.setIfInBounds_toArray, List.set_cons_zero, List.set_cons_succ]
      refine wpAnyH_take (i := 1) (oi := { dst := some 37, op := _, type := _, pos := _, after := _, guard := _ }) (v := ?_) rfl (by kernel_rfl) (by kernel_rfl) (by kernel_rfl) (fun _ _ _ h => h) (Or.inl ⟨by kernel_rfl, ?_⟩) Gx0 ?_
      rotate_left
      · (intro w hSw; go_simp; try with_reducible rfl)
      try simp only [Act.put, List.setIfInBounds_toArray, List.set_cons_zero, List.set_cons_succ]
      refine wpAnyH_take (i := 2) (oi := { dst := some 38, op := _, type := _, pos := _, after := _, guard := _ }) (v := ?_) rfl (by kernel_rfl) (by kernel_rfl) (by kernel_rfl) (fun _ _ _ h => h) (Or.inl ⟨by kernel_rfl, ?_⟩) Gx0 ?_
      rotate_left
      · (intro w hSw; go_simp; try with_reducible rfl)
      try simp only [Act.put, List.setIfInBounds_toArray, List.set_cons_zero, List.set_cons_succ]
      refine wpAnyH_take (i := 3) (oi := { dst := some 39, op := _, type := _, pos := _, after := _, guard := _ }) (v := ?_) rfl (by kernel_rfl) (by kernel_rfl) (by kernel_rfl) (fun _ _ _ h => h) (Or.inl ⟨by kernel_rfl, ?_⟩) Gx0 ?_
      rotate_left
      · (intro w hSw; go_simp; try with_reducible rfl)
      try simp only [Act.put, List.setIfInBounds_toArray, List.set_cons_zero, List.set_cons_succ]
      refine wpAnyH_take (i := 4) (oi := { dst := some 40, op := _, type := _, pos := _, after := _, guard := _ }) (v := ?_) rfl (by kernel_rfl) (by kernel_rfl) (by kernel_rfl) (fun _ _ _ h => h) (Or.inl ⟨by kernel_rfl, ?_⟩) Gx0 ?_
      rotate_left
      · (intro w hSw; have c9 := hSw.out.ct; go_simp; try with_reducible rfl)
      try simp only [Act.put, List.setIfInBounds_toArray, List.set_cons_zero, List.set_cons_succ]
      refine wpAnyH_take (i := 5) (oi := { dst := some 41, op := _, type := _, pos := _, after := _, guard := _ }) (v := ?_) rfl (by kernel_rfl) (by kernel_rfl) (by kernel_rfl) (fun _ _ _ h => h) (Or.inl ⟨by kernel_rfl, ?_⟩) Gx0 ?_
      rotate_left
      · (intro w hSw; go_simp; try with_reducible rfl)
      try simp only [Act.put, List.setIfInBounds_toArray, List.set_cons_zero, List.set_cons_succ]
      refine wpAnyH_take (i := 6) (oi := { dst := some 42, op := _, type := _, pos := _, after := _, guard := _ }) (v := ?_) rfl (by kernel_rfl) (by kernel_rfl) (by kernel_rfl) (fun _ _ _ h => h) (Or.inl ⟨by kernel_rfl, ?_⟩) Gx0 ?_
      rotate_left
      · (intro w hSw; go_simp; try with_reducible rfl)
      try simp only [Act.put, List.setIfInBounds_toArray, List.set_cons_zero, List.set_cons_succ]
      refine wpAnyH_take (i := 7) (oi := { dst := some 43, op := _, type := _, pos := _, after := _, guard := _ }) (v := ?_) rfl (by kernel_rfl) (by kernel_rfl) (by kernel_rfl) (fun _ _ _ h => h) (Or.inl ⟨by kernel_rfl, ?_⟩) Gx0 ?_
      rotate_left
      · (intro w hSw; go_simp; try with_reducible rfl)
      try simp only [Act.put, List.setIfInBounds_toArray, List.set_cons_zero, List.set_cons_succ]
      refine wpAnyH_take (i := 8) (oi := { dst := some 44, op := _, type := _, pos := _, after := _, guard := _ }) (v := ?_) rfl (by kernel_rfl) (by kernel_rfl) (by kernel_rfl) (fun _ _ _ h => h) (Or.inl ⟨by kernel_rfl, ?_⟩) Gx0 ?_
      rotate_left
      · (intro w hSw; go_simp; try with_reducible rfl)
      try simp only [Act.put, List.setIfInBounds_toArray, List.set_cons_zero, List.set_cons_succ]
      refine wpAnyH_take (i := 9) (oi := { dst := some 45, op := _, type := _, pos := _, after := _, guard := _ }) (v := .agg ((kc q.1))) rfl (by kernel_rfl) (by kernel_rfl) (by kernel_rfl) (fun _ _ _ h => h) (yieldsIf_load_mid (cs := u8s q.1) (by rfl) _ _ rfl _ _ rfl _ (fun w' hSw => (pair_1 hSw.out.pr HQ.out)) Tryd.underlying24 rfl HKI.out) Gx0 ?_
      try simp only [Act.put, List.setIfInBounds_toArray, List.set_cons_zero, List.set_cons_succ]
      refine wpAnyH_take (i := 10) (oi := { dst := some 46, op := _, type := _, pos := _, after := _, guard := _ }) (v := ?_) rfl (by kernel_rfl) (by kernel_rfl) (by kernel_rfl) (fun _ _ _ h => h) (Or.inl ⟨by kernel_rfl, ?_⟩) Gx0 ?_
      rotate_left
      · (intro w hSw; go_simp; try with_reducible rfl)
      try simp only [Act.put, List.setIfInBounds_toArray, List.set_cons_zero, List.set_cons_succ]
      refine wpAnyH_take (i := 11) (oi := { dst := some 47, op := _, type := _, pos := _, after := _, guard := _ }) (v := ?_) rfl (by kernel_rfl) (by kernel_rfl) (by kernel_rfl) (fun _ _ _ h => h) (Or.inl ⟨by kernel_rfl, ?_⟩) Gx0 ?_
      rotate_left
      · (intro w hSw; go_simp; try with_reducible rfl)
      try simp only [Act.put, List.setIfInBounds_toArray, List.set_cons_zero, List.set_cons_succ]
      refine wpAnyH_take (i := 12) (oi := { dst := some 48, op := _, type := _, pos := _, after := _, guard := _ }) (v := ?_) rfl (by kernel_rfl) (by kernel_rfl) (by kernel_rfl) (fun _ _ _ h => h) (Or.inl ⟨by kernel_rfl, ?_⟩) Gx0 ?_
      rotate_left
      · (intro w hSw; go_simp; try with_reducible rfl)
      try simp only [Act.put, List.setIfInBounds_toArray, List.set_cons_zero, List.set_cons_succ]
      refine wpAnyH_take (i := 13) (oi := { dst := some 49, op := _, type := _, pos := _, after := _, guard := _ }) (v := ?_) rfl (by kernel_rfl) (by kernel_rfl) (by kernel_rfl) (fun _ _ _ h => h) (Or.inl ⟨by kernel_rfl, ?_⟩) Gx0 ?_
      rotate_left
      · (intro w hSw; go_simp; try with_reducible rfl)
      try simp only [Act.put, List.setIfInBounds_toArray, List.set_cons_zero, List.set_cons_succ]
      refine wpAnyH_take (i := 14) (oi := { dst := some 50, op := _, type := _, pos := _, after := _, guard := _ }) (v := .agg ((kc q.2))) rfl (by kernel_rfl) (by kernel_rfl) (by kernel_rfl) (fun _ _ _ h => h) (yieldsIf_load_mid (cs := u8s q.2) (by rfl) _ _ rfl _ _ rfl _ (fun w' hSw => (pair_2 hSw.out.pr HQ.out)) Tryd.underlying24 rfl HVI.out) Gx0 ?_
      try simp only [Act.put, List.setIfInBounds_toArray, List.set_cons_zero, List.set_cons_succ]
      refine wpAnyH_ready (rs := [15]) (by kernel_rfl) (by simp) ?_
      refine (AllReadyH.cons (o := { dst := some 51, op := _, type := _, pos := _, after := _, guard := _ }) rfl (fun Qc hQc => ?_) AllReadyH.nil)
      go_simp
      have CP := put_any FI.out.fo FI.out.fr HQ.out.1 HQ.out.2 HFEW.out (HT.out.below FI.out.bl) ti T TA.out HFS.out
      go_at_call 11
      refine CP.mono ?_
      clear CP
      rintro e x1 ⟨M, top, rfl, hgr, hrep, hfr, hm⟩
      have NX := hid (FI.out.grew hgr hfr hm)
      have HREP := hid hrep
      have Gx1 : Hid (PuS bp (op + k * 64) q g6 k ti x1) := ps_keep FI.out PA0.out hgr Gx0.out
      clear hgr hrep hfr hm
      go_wp2_with fail
      refine hQc.out _ _ Gx1 (fun hHeld => ?_)
      clear hQc Qc hHeld
      try simp only [Act.put, List.setIfInBounds_toArray, List.set_cons_zero, List.set_cons_succ]
      refine wpAnyH_take (i := 16) (oi := { dst := some 35, op := _, type := _, pos := _, after := _, guard := _ }) (v := ?_) rfl (by kernel_rfl) (by kernel_rfl) (by kernel_rfl) (fun _ _ _ h => h) (Or.inl ⟨by kernel_rfl, ?_⟩) Gx1 ?_
      rotate_left
      · (intro w hSw; go_simp; try with_reducible rfl)
      try simp only [Act.put, List.setIfInBounds_toArray, List.set_cons_zero, List.set_cons_succ]
      refine wpAnyH_take (i := 17) (oi := { dst := some 52, op := _, type := _, pos := _, after := _, guard := _ }) (v := ?_) rfl (by kernel_rfl) (by kernel_rfl) (by kernel_rfl) (fun _ _ _ h => h) (Or.inl ⟨by kernel_rfl, ?_⟩) Gx1 ?_
      rotate_left
      · (intro w hSw; go_simp; try with_reducible rfl)
      try simp only [Act.put, List.setIfInBounds_toArray, List.set_cons_zero, List.set_cons_succ]
      refine wpAnyH_take (i := 18) (oi := { dst := some 53, op := _, type := _, pos := _, after := _, guard := _ }) (v := ?_) rfl (by kernel_rfl) (by kernel_rfl) (by kernel_rfl) (fun _ _ _ h => h) (Or.inl ⟨by kernel_rfl, ?_⟩) Gx1 ?_
      rotate_left
      · (intro w hSw; go_simp; try with_reducible rfl)
      try simp only [Act.put, List.setIfInBounds_toArray, List.set_cons_zero, List.set_cons_succ]
      refine wpAnyH_take (i := 19) (oi := { dst := some 8, op := _, type := _, pos := _, after := _, guard := _ }) (v := ?_) rfl (by kernel_rfl) (by kernel_rfl) (by kernel_rfl) (fun _ _ _ h => h) (Or.inl ⟨by kernel_rfl, ?_⟩) Gx1 ?_
      rotate_left
      · (intro w hSw; go_simp; try with_reducible rfl)
      try simp only [Act.put, List.setIfInBounds_toArray, List.set_cons_zero, List.set_cons_succ]
      refine wpAnyH_take (i := 20) (oi := { dst := some 9, op := _, type := _, pos := _, after := _, guard := _ }) (v := ?_) rfl (by kernel_rfl) (by kernel_rfl) (by kernel_rfl) (fun _ _ _ h => h) (Or.inl ⟨by kernel_rfl, ?_⟩) Gx1 ?_
      rotate_left
      · (intro w hSw; go_simp; try with_reducible rfl)
      try simp only [Act.put, List.setIfInBounds_toArray, List.set_cons_zero, List.set_cons_succ]
      refine wpAnyH_done (by kernel_rfl) ?_ _
      try simp only [Act.put, List.setIfInBounds_toArray, List.set_cons_zero, List.set_cons_succ]
      obtain ⟨g', b', A', c', tv', FI2⟩ := NX.out
      have FM := hid FI2
      clear FI2 NX Gx1
      have ROWM := hid FM.out.row
      have TOPT : Hid (TAt (N ++ M) (top : Nat) (some (putO T q.1 q.2))) := ⟨top, rfl, HREP.out, HPO.out.2.1⟩
      have TOPL : Hid (lstO (some (putO T q.1 q.2)) = allL (P.take (k + 1))) := HPO.out.1
      have TOPS : Hid (szO (some (putO T q.1 q.2)) ≤ k + 1) := HPO.out.2.2
      go_wp2_with (at_builtin; refine append_intB rfl (.tmp 56) (.tmp 58) rfl w.heap.size (some ⟨g6, 0, none⟩) c6 X (k + 1) (by rw [FM.out.len]) rfl ROWM.out (top : Nat) rfl (by omega) FM.out.bl.size ?_; intro A7 c7 w9 HROW HBUT)
      go_roundw
      case rel => exact ⟨k + 1, X ++ [(top : Int)], A7, c7, by omega, rfl, by go_num, _, _, _, _, _, _, _, FM.out.push TOPT.out TOPL.out TOPS.out HROW.out HBUT.out, by show _ ≤ _; have := HNB.out; have := SZT.out; omega⟩
      case measure => simp [intOf]; omega
    · obtain rfl : k = n := by omega
      have hnl : ¬ ((k : Int) < (k : Int)) := by omega
      clear hlt hk
      have FB := FI
      have BZ : Hid (Below wr.heap.size wr wr) := Below.refl _ _
      obtain ⟨wz, rfl⟩ : ∃ wz, wz = wr := ⟨_, rfl⟩
      clear FI HNB
      go_wp2
      go_loopw [10] (fun s10 wr => ∃ i : Nat, i ≤ k + 1 ∧ s10 = .int .i64 (i : Nat) ∧ Hid (Below wz.heap.size wz wr)) (fun s10 _ => k + 1 - (intOf s10).toNat)
      case atStart => exact ⟨0, Nat.zero_le _, rfl, BZ⟩
      case round =>
        obtain ⟨i, hi, rfl, BL⟩ := hrel
        clear BZ
        by_cases hlt : i ≤ k
        · have hlt2 : (i : Int) ≤ (k : Int) := by omega
          have hic : i ≤ c0 := by have := HC.out; omega
          have hic2 : (i : Int) ≤ (c0 : Int) := by omega
          have hik : i < k + 1 := by omega
          have hik2 : (i : Int) < (k : Int) + 1 := by omega
          obtain ⟨g6, e6, hct⟩ := int_row_at (FB.out.below BL.out).row hik
          subst e6
          obtain ⟨T, hta, htl, hts⟩ := FB.out.tr i hlt
          obtain ⟨ti, hti⟩ : ∃ ti, ti = X[i]?.getD 0 := ⟨_, rfl⟩
          rw [← hti] at hta hct
          have hpi : InP w A0 i (P.take i) := by
            have hl : (P.take i).length = i := by rw [List.length_take, HPN.out]; omega
            refine ⟨hl, by omega, fun q hq => HIN.out.2.2.1 q (List.mem_of_mem_take hq), fun hp => ?_⟩
            obtain ⟨b', o', e, h1, h2⟩ := HIN.out.2.2.2 (by omega)
            refine ⟨b', o', e, h1, fun j q hq => h2 j q ?_⟩
            rw [List.getElem?_take] at hq
            by_cases hj : j < i
            · rwa [if_pos hj] at hq
            · rw [if_neg hj] at hq; cases hq
          have BWR := hid (FB.out.bl.trans (BL.out.mono FB.out.bl.size))
          have CAll := hid (yAll_any (c0 := c0) wr (hpi.below BWR.out) (by omega))
          have hsz : (allL (P.take i)).length ≤ 60 := by
            have e : szO T = (lstO T).length := by cases T <;> rfl
            rw [← htl, ← e]; omega
          obtain ⟨h1, h2⟩ := allL_ok (P.take i) hpi.2.2.1
          obtain ⟨L0, hL0⟩ : ∃ L0, L0 = allL (P.take i) := ⟨_, rfl⟩
          rw [← hL0] at htl hsz h1 h2 CAll
          have hk0 := rtL_ky h1 h2
          obtain ⟨H0, hH0⟩ : ∃ H0, H0 = rtL L0 := ⟨_, rfl⟩
          have CR0 := fun x (hb : Below wr.heap.size wr x) => tree_root ((FB.out.below BL.out).fo.below hb) hta (HT.out.below (BWR.out.trans (hb.mono BWR.out.size)))
          rw [htl, ← hH0] at CR0
          rw [← hH0] at hk0
          unfold hV at CR0
          have hgy : Ky ((getL L0 K).getD zk) := by
            cases hg : getL L0 K with
            | none => exact zk_ky
            | some v =>
              unfold getL at hg
              rw [Option.map_eq_some_iff] at hg
              obtain ⟨q9, hq9, e9⟩ := hg
              rw [← e9]
              exact (h2 q9 (List.mem_of_find?_eq_some hq9)).2
          have CG0 := fun x (hb : Below wr.heap.size wr x) => tree_get ((FB.out.below BL.out).fo.below hb) hta (by omega) HKy.out
          have CY0 := fun (x : World) (A9 : Option Addr) (n9 c9 : Nat) (hin : InP x A9 n9 L0) => yGet_any (c0 := c9) x hin HKy.out
          rw [htl] at CG0
          unfold gV hV at CG0 CY0
          have CL0 := fun x (hb : Below wr.heap.size wr x) => xList_any ((FB.out.below BL.out).fo.below hb) hta (by rw [htl]; omega)
          rw [htl] at CL0
          obtain ⟨VV, hVV⟩ : ∃ VV, VV = (getL L0 K).getD zk := ⟨_, rfl⟩
          obtain ⟨ob, hob⟩ : ∃ ob, ob = (getL L0 K).isSome := ⟨_, rfl⟩
          rw [← hVV, ← hob] at CG0 CY0
          rw [← hVV] at hgy
          have R1 := hid CR0; have G1 := hid CG0; have Y1 := hid CY0; have L1 := hid CL0
          have HSZ := hid hsz; have HSR := hid h1
          have HHI := hid (kc_info hk0); have HHL := hid (u8s_info hk0); have HVI := hid (kc_info hgy); have HVL := hid (u8s_info hgy); have HKL := hid (u8s_info HKy.out)
          obtain ⟨ZH, HZH, hZH0, hZHs⟩ := zero_key
          have HHZ : Hid (ZH.size = (kc H0).size) := by show _ = _; rw [HZH.out, kc_size zk_ky, kc_size hk0]
          have HVZ : Hid (ZH.size = (kc VV).size) := by show _ = _; rw [HZH.out, kc_size zk_ky, kc_size hgy]
          have heqH := fun w => equal_key 9998 H0 H0 hk0 hk0 w
          have heqV := fun w => equal_key 9998 VV VV hgy hgy w
          rw [decide_eq_true rfl] at heqH heqV
          have CT := hid hct
          have HRT := hid hH0
          have KK := hid (FB.out.kk.below BL.out)
          have SR0 : Hid (Below wr.heap.size wr wr) := Below.refl _ _
          clear CR0 CG0 CY0 CL0 hsz h1 h2 hk0 hgy hH0 hVV hob hta htl hts hti hpi hct hL0
          go_upto_region 16 with (first
            | (go_at_call 12; refine CAll.out.mono ?_; clear CAll; rintro e w5 ⟨v5, rfl, ho, hb⟩; have OW5 := hid ho; have S5 := hid hb; clear ho hb))
          obtain ⟨A5, c5, hv5, hc5⟩ := OW5.out.cap
          obtain ⟨m5, hm5⟩ : ∃ m5, m5 = L0.length := ⟨_, rfl⟩
          rw [← hm5] at hv5 hc5
          subst hv5
          have HM5 := hid hm5; have HC5 := hid hc5
          have I5 := hid (OW5.out.in (by have := HSZ.out; omega))
          have ct5 : w5.cell? ⟨g6, i, none⟩ = some (.int .i64 ti) := cell_bel S5.out CT.out
          clear hm5 hc5 OW5
          go_upto_region 17 with (first
            | (go_at_call 13; refine (R1.out _ S5.out).mono ?_; clear R1; rintro e w6 ⟨rfl, hb⟩; have S6 := hid (S5.out.trans (hb.mono S5.out.size)); have I6 := hid (I5.out.below hb); clear hb)
            | (refine wpList_store_row rfl 24 (.tmp 12) (.tmp 77) rfl w6.heap.size (kc H0) rfl rfl 24 ZH (Blk.new w6 24 ZH) HHI.out HHZ.out (kc_one _) ?_))
          have BX : Hid (Below w6.heap.size w6 ((w6.alloc (.cells ZH 24)).setRow w6.heap.size (kc H0))) := below_setRow ((Below.refl _ _).alloc (Nat.le_refl _) _) (Nat.le_refl _) _
          have K12 : Hid (Blk ((w6.alloc (.cells ZH 24)).setRow w6.heap.size (kc H0)) w6.heap.size 24 (kc H0)) := (Blk.new w6 24 ZH).row _
          have S7 := hid (S6.out.trans (BX.out.mono S6.out.size)); have I7 := hid (I6.out.below BX.out)
          clear BX S6 I6 S5 I5 ct5
          generalize (w6.alloc (.cells ZH 24)).setRow w6.heap.size (kc H0) = w7 at K12 S7 I7 ⊢
          generalize w6.heap.size = e12 at K12 ⊢
          have CT7 : Hid (w7.cell? ⟨g6, i, none⟩ = some (.int .i64 ti)) := cell_bel S7.out CT.out
          have KR7 : Hid (w7.rangeAt w.heap.size 0 (u8s K)) := blk_key (KK.out.below S7.out)
          go_cut [14, 15] (fun s14 s15 wx => ∃ e14, s14 = .pointer (some ⟨e14, 0, none⟩) ∧ s15 = .bool ob ∧ Hid (Blk wx e14 24 (kc VV)) ∧ Hid (Below w7.heap.size w7 wx))
          case first =>
            refine wp_region_held (S := fun w' => Hid (Below w7.heap.size w7 w')) (by kernel_rfl) ?_
            change wpAnyH _ _ _ _ _ _ _ _ w7.drew
            have Gx0 : Hid (Below w7.heap.size w7 w7.drew) := (Below.refl _ _).drew
            generalize w7.drew = x0 at Gx0  ⊢
            refine wpAnyH_take (i := 0) (oi := { dst := some 80, op := _, type := _, pos := _, after := _, guard := _ }) (v := ?_) rfl (by kernel_rfl) (by kernel_rfl) (by kernel_rfl) (fun _ _ _ h => h) (Or.inl ⟨by kernel_rfl, ?_⟩) Gx0 ?_
            rotate_left
            · (intro w hSw; go_simp; try with_reducible rfl)
            try simp only [Act.put, List.setIfInBounds_toArray, List.set_cons_zero, List.set_cons_succ]
            refine wpAnyH_take (i := 1) (oi := { dst := some 81, op := _, type := _, pos := _, after := _, guard := _ }) (v := ?_) rfl (by kernel_rfl) (by kernel_rfl) (by kernel_rfl) (fun _ _ _ h => h) (Or.inl ⟨by kernel_rfl, ?_⟩) Gx0 ?_
            rotate_left
            · (intro w hSw; go_simp; try with_reducible rfl)
            try simp only [Act.put, List.setIfInBounds_toArray, List.set_cons_zero, List.set_cons_succ]
            refine wpAnyH_take (i := 2) (oi := { dst := some 82, op := _, type := _, pos := _, after := _, guard := _ }) (v := ?_) rfl (by kernel_rfl) (by kernel_rfl) (by kernel_rfl) (fun _ _ _ h => h) (Or.inl ⟨by kernel_rfl, ?_⟩) Gx0 ?_
            rotate_left
            · (intro w hSw; go_simp; try with_reducible rfl)
            try simp only [Act.put, List.setIfInBounds_toArray, List.set_cons_zero, List.set_cons_succ]
            refine wpAnyH_take (i := 3) (oi := { dst := some 83, op := _, type := _, pos := _, after := _, guard := _ }) (v := ?_) rfl (by kernel_rfl) (by kernel_rfl) (by kernel_rfl) (fun _ _ _ h => h) (Or.inl ⟨by kernel_rfl, ?_⟩) Gx0 ?_
            rotate_left
            · (intro w hSw; go_simp; try with_reducible rfl)
            try simp only [Act.put, List.setIfInBounds_toArray, List.set_cons_zero, List.set_cons_succ]
            refine wpAnyH_take (i := 4) (oi := { dst := some 84, op := _, type := _, pos := _, after := _, guard := _ }) (v := ?_) rfl (by kernel_rfl) (by kernel_rfl) (by kernel_rfl) (fun _ _ _ h => h) (Or.inl ⟨by kernel_rfl, ?_⟩) Gx0 ?_
            rotate_left
            · (intro w hSw; have c9 := cell_bel hSw.out CT7.out; go_simp; try with_reducible rfl)
            try simp only [Act.put, List.setIfInBounds_toArray, List.set_cons_zero, List.set_cons_succ]
            refine wpAnyH_take (i := 5) (oi := { dst := some 85, op := _, type := _, pos := _, after := _, guard := _ }) (v := .agg (kc K)) rfl (by kernel_rfl) (by kernel_rfl) (by kernel_rfl) (fun _ _ _ h => h) (yieldsIf_load_mid (cs := u8s K) (by rfl) _ _ rfl _ _ rfl _ (fun w' hSw => (rng_bel hSw.out KR7.out)) Tryd.underlying24 rfl HKL.out) Gx0 ?_
            try simp only [Act.put, List.setIfInBounds_toArray, List.set_cons_zero, List.set_cons_succ]
            refine wpAnyH_ready (rs := [6, 10]) (by kernel_rfl) (by simp) ?_
            refine (AllReadyH.cons (o := { dst := some 86, op := _, type := _, pos := _, after := _, guard := _ }) rfl (fun Qc hQc => ?_) (AllReadyH.cons (o := { dst := some 14, op := _, type := _, pos := _, after := _, guard := _ }) rfl (fun Qc hQc => ?_) AllReadyH.nil))
            ·
              go_simp
              go_at_call 14
              refine (G1.out x0 (S7.out.trans (Gx0.out.mono S7.out.size))).mono ?_
              rintro e x1 ⟨rfl, hb⟩
              have Gx1 := hid (Gx0.out.trans (hb.mono Gx0.out.size))
              try (have NBd := hid (NBc.out.below hb); clear NBc; have NBc := NBd; clear NBd)
              clear hb
              go_wp2_with fail
              refine hQc.out _ _ Gx1 (fun hHeld => ?_)
              clear hQc Qc hHeld
              try simp only [Act.put, List.setIfInBounds_toArray, List.set_cons_zero, List.set_cons_succ]
              refine wpAnyH_take (i := 7) (oi := { dst := some 79, op := _, type := _, pos := _, after := _, guard := _ }) (v := ?_) rfl (by kernel_rfl) (by kernel_rfl) (by kernel_rfl) (fun _ _ _ h => h) (Or.inl ⟨by kernel_rfl, ?_⟩) Gx1 ?_
              rotate_left
              · (intro w hSw; go_simp; try with_reducible rfl)
              try simp only [Act.put, List.setIfInBounds_toArray, List.set_cons_zero, List.set_cons_succ]
              refine wpAnyH_take (i := 8) (oi := { dst := some 87, op := _, type := _, pos := _, after := _, guard := _ }) (v := ?_) rfl (by kernel_rfl) (by kernel_rfl) (by kernel_rfl) (fun _ _ _ h => h) (Or.inl ⟨by kernel_rfl, ?_⟩) Gx1 ?_
              rotate_left
              · (intro w hSw; go_simp; try with_reducible rfl)
              try simp only [Act.put, List.setIfInBounds_toArray, List.set_cons_zero, List.set_cons_succ]
              refine wpAnyH_take (i := 9) (oi := { dst := some 88, op := _, type := _, pos := _, after := _, guard := _ }) (v := ?_) rfl (by kernel_rfl) (by kernel_rfl) (by kernel_rfl) (fun _ _ _ h => h) (Or.inl ⟨by kernel_rfl, ?_⟩) Gx1 ?_
              rotate_left
              · (intro w hSw; go_simp; try with_reducible rfl)
              try simp only [Act.put, List.setIfInBounds_toArray, List.set_cons_zero, List.set_cons_succ]
              refine wpAnyH_ready (rs := [10]) (by kernel_rfl) (by simp) ?_
              refine (AllReadyH.cons (o := { dst := some 14, op := _, type := _, pos := _, after := _, guard := _ }) rfl (fun Qc hQc => ?_) AllReadyH.nil)
              go_simp
              have NBc : Hid (Blk (x1.alloc (.cells ZH 24)) x1.heap.size 24 ZH) := Blk.new x1 24 ZH
              have GE : Hid (w7.heap.size ≤ x1.heap.size) := Gx1.out.size
              have Gx2 := hid (Gx1.out.alloc Gx1.out.size (.cells ZH 24))
              refine hQc.out _ _ Gx2 (fun hHeld => ?_)
              clear hQc Qc hHeld
              generalize x1.heap.size = e14 at NBc GE ⊢
              generalize x1.alloc (.cells ZH 24) = x2 at NBc Gx2 ⊢
              try simp only [Act.put, List.setIfInBounds_toArray, List.set_cons_zero, List.set_cons_succ]
              refine wpAnyH_ready (rs := [11]) (by kernel_rfl) (by simp) ?_
              refine (AllReadyH.cons (o := { dst := none, op := _, type := _, pos := _, after := _, guard := _ }) rfl (fun Qc hQc => ?_) AllReadyH.nil)
              rw [if_pos (by rfl)]
              refine wp_store_row 24 (.tmp 14) (.tmp 87) rfl e14 (kc VV) rfl rfl 24 ZH NBc.out HVI.out HVZ.out (kc_one _) ?_
              have Gx3 : Hid (Below w7.heap.size w7 (x2.setRow e14 (kc VV))) := below_setRow Gx2.out GE.out _
              have NBf := hid (NBc.out.row (kc VV))
              refine hQc.out _ _ Gx3 (fun hHeld => ?_)
              clear hQc Qc hHeld
              generalize x2.setRow e14 (kc VV) = x3 at Gx3 NBf ⊢
              try simp only [Act.put, List.setIfInBounds_toArray, List.set_cons_zero, List.set_cons_succ]
              refine wpAnyH_take (i := 12) (oi := { dst := some 15, op := _, type := _, pos := _, after := _, guard := _ }) (v := ?_) rfl (by kernel_rfl) (by kernel_rfl) (by kernel_rfl) (fun _ _ _ h => h) (Or.inl ⟨by kernel_rfl, ?_⟩) Gx3 ?_
              rotate_left
              · (intro w hSw; go_simp; try with_reducible rfl)
              try simp only [Act.put, List.setIfInBounds_toArray, List.set_cons_zero, List.set_cons_succ]
              refine wpAnyH_done (by kernel_rfl) ?_ _
              try simp only [Act.put, List.setIfInBounds_toArray, List.set_cons_zero, List.set_cons_succ]
              go_wp2
              go_meet
              exact ⟨e14, rfl, rfl, NBf, Gx3⟩
            ·
              go_simp
              have NBc : Hid (Blk (x0.alloc (.cells ZH 24)) x0.heap.size 24 ZH) := Blk.new x0 24 ZH
              have GE : Hid (w7.heap.size ≤ x0.heap.size) := Gx0.out.size
              have Gx4 := hid (Gx0.out.alloc Gx0.out.size (.cells ZH 24))
              refine hQc.out _ _ Gx4 (fun hHeld => ?_)
              clear hQc Qc hHeld
              generalize x0.heap.size = e14 at NBc GE ⊢
              generalize x0.alloc (.cells ZH 24) = x4 at NBc Gx4 ⊢
              try simp only [Act.put, List.setIfInBounds_toArray, List.set_cons_zero, List.set_cons_succ]
              refine wpAnyH_ready (rs := [6]) (by kernel_rfl) (by simp) ?_
              refine (AllReadyH.cons (o := { dst := some 86, op := _, type := _, pos := _, after := _, guard := _ }) rfl (fun Qc hQc => ?_) AllReadyH.nil)
              go_simp
              go_at_call 14
              refine (G1.out x4 (S7.out.trans (Gx4.out.mono S7.out.size))).mono ?_
              rintro e x5 ⟨rfl, hb⟩
              have Gx5 := hid (Gx4.out.trans (hb.mono Gx4.out.size))
              try (have NBd := hid (NBc.out.below hb); clear NBc; have NBc := NBd; clear NBd)
              clear hb
              go_wp2_with fail
              refine hQc.out _ _ Gx5 (fun hHeld => ?_)
              clear hQc Qc hHeld
              try simp only [Act.put, List.setIfInBounds_toArray, List.set_cons_zero, List.set_cons_succ]
              refine wpAnyH_take (i := 7) (oi := { dst := some 79, op := _, type := _, pos := _, after := _, guard := _ }) (v := ?_) rfl (by kernel_rfl) (by kernel_rfl) (by kernel_rfl) (fun _ _ _ h => h) (Or.inl ⟨by kernel_rfl, ?_⟩) Gx5 ?_
              rotate_left
              · (intro w hSw; go_simp; try with_reducible rfl)
              try simp only [Act.put, List.setIfInBounds_toArray, List.set_cons_zero, List.set_cons_succ]
              refine wpAnyH_take (i := 8) (oi := { dst := some 87, op := _, type := _, pos := _, after := _, guard := _ }) (v := ?_) rfl (by kernel_rfl) (by kernel_rfl) (by kernel_rfl) (fun _ _ _ h => h) (Or.inl ⟨by kernel_rfl, ?_⟩) Gx5 ?_
              rotate_left
              · (intro w hSw; go_simp; try with_reducible rfl)
              try simp only [Act.put, List.setIfInBounds_toArray, List.set_cons_zero, List.set_cons_succ]
              refine wpAnyH_take (i := 9) (oi := { dst := some 88, op := _, type := _, pos := _, after := _, guard := _ }) (v := ?_) rfl (by kernel_rfl) (by kernel_rfl) (by kernel_rfl) (fun _ _ _ h => h) (Or.inl ⟨by kernel_rfl, ?_⟩) Gx5 ?_
              rotate_left
              · (intro w hSw; go_simp; try with_reducible rfl)
              try simp only [Act.put, List.setIfInBounds_toArray, List.set_cons_zero, List.set_cons_succ]
              refine wpAnyH_ready (rs := [11]) (by kernel_rfl) (by simp) ?_
              refine (AllReadyH.cons (o := { dst := none, op := _, type := _, pos := _, after := _, guard := _ }) rfl (fun Qc hQc => ?_) AllReadyH.nil)
              rw [if_pos (by rfl)]
              refine wp_store_row 24 (.tmp 14) (.tmp 87) rfl e14 (kc VV) rfl rfl 24 ZH NBc.out HVI.out HVZ.out (kc_one _) ?_
              have Gx6 : Hid (Below w7.heap.size w7 (x5.setRow e14 (kc VV))) := below_setRow Gx5.out GE.out _
              have NBf := hid (NBc.out.row (kc VV))
              refine hQc.out _ _ Gx6 (fun hHeld => ?_)
              clear hQc Qc hHeld
              generalize x5.setRow e14 (kc VV) = x6 at Gx6 NBf ⊢
              try simp only [Act.put, List.setIfInBounds_toArray, List.set_cons_zero, List.set_cons_succ]
              refine wpAnyH_take (i := 12) (oi := { dst := some 15, op := _, type := _, pos := _, after := _, guard := _ }) (v := ?_) rfl (by kernel_rfl) (by kernel_rfl) (by kernel_rfl) (fun _ _ _ h => h) (Or.inl ⟨by kernel_rfl, ?_⟩) Gx6 ?_
              rotate_left
              · (intro w hSw; go_simp; try with_reducible rfl)
              try simp only [Act.put, List.setIfInBounds_toArray, List.set_cons_zero, List.set_cons_succ]
              refine wpAnyH_done (by kernel_rfl) ?_ _
              try simp only [Act.put, List.setIfInBounds_toArray, List.set_cons_zero, List.set_cons_succ]
              go_wp2
              go_meet
              exact ⟨e14, rfl, rfl, NBf, Gx6⟩
          case rest =>
          obtain ⟨e14, rfl, rfl, N14, G17⟩ := hcut
          have S8 := hid (S7.out.trans (G17.out.mono S7.out.size)); have I8 := hid (I7.out.below G17.out); have K12b := hid (K12.out.below G17.out)
          have KR8 : Hid (wc.rangeAt w.heap.size 0 (u8s K)) := blk_key (KK.out.below S8.out)
          clear G17 S7 I7 K12 CT7 KR7 G1
          generalize wc = w8 at S8 I8 K12b KR8 N14 ⊢
          go_upto_region 19 with (first
            | (refine load_at rfl 24 (.tmp 3) rfl w.heap.size 0 rfl (u8s K) _ KR8.out Tryd.underlying24 rfl HKL.out (kc K) rfl ?_)
            | (go_at_call 15; refine (Y1.out _ _ _ _ I8.out).mono ?_; clear Y1; rintro e w9 ⟨rfl, hb⟩; have S9 := hid (S8.out.trans (hb.mono S8.out.size)); have I9 := hid (I8.out.below hb); have K12c := hid (K12b.out.below hb); have N14c := hid (N14.out.below hb); clear hb)
            | (refine wpList_store_row rfl 24 (.tmp 16) (.tmp 93) rfl w9.heap.size (kc VV) rfl rfl 24 ZH (Blk.new w9 24 ZH) HVI.out HVZ.out (kc_one _) ?_))
          have BX : Hid (Below w9.heap.size w9 ((w9.alloc (.cells ZH 24)).setRow w9.heap.size (kc VV))) := below_setRow ((Below.refl _ _).alloc (Nat.le_refl _) _) (Nat.le_refl _) _
          have K16 : Hid (Blk ((w9.alloc (.cells ZH 24)).setRow w9.heap.size (kc VV)) w9.heap.size 24 (kc VV)) := (Blk.new w9 24 ZH).row _
          have S10 := hid (S9.out.trans (BX.out.mono S9.out.size)); have I10 := hid (I9.out.below BX.out)
          have K12d := hid (K12c.out.below BX.out); have N14d := hid (N14c.out.below BX.out)
          clear BX S9 S8 I9 I8 K12b K12c N14 N14c KR8
          generalize (w9.alloc (.cells ZH 24)).setRow w9.heap.size (kc VV) = w10 at K16 S10 I10 K12d N14d ⊢
          generalize w9.heap.size = e16 at K16 ⊢
          have R12 := hid (blk_key K12d.out); have R14 := hid (blk_key N14d.out); have R16 := hid (blk_key K16.out)
          have CT10 : Hid (w10.cell? ⟨g6, i, none⟩ = some (.int .i64 ti)) := cell_bel S10.out CT.out
          have YR0 := fun (x : World) (hb : Below w10.heap.size w10 x) => yRoot_any (c := c5) x (I10.out.below hb) HSR.out HC5.out (by have := HM5.out; have := HSZ.out; omega)
          rw [← HRT.out] at YR0
          have YR := hid YR0
          clear YR0 K12d N14d K16
          go_upto_region 19 with (fail)
          refine wp_region_held (S := fun w' => Hid (Below w10.heap.size w10 w')) (by kernel_rfl) ?_
          change wpAnyH _ _ _ _ _ _ _ _ w10.drew
          have Gx0 : Hid (Below w10.heap.size w10 w10.drew) := (Below.refl _ _).drew
          generalize w10.drew = x0 at Gx0  ⊢
          refine wpAnyH_take (i := 0) (oi := { dst := some 95, op := _, type := _, pos := _, after := _, guard := _ }) (v := ?_) rfl (by kernel_rfl) (by kernel_rfl) (by kernel_rfl) (fun _ _ _ h => h) (Or.inl ⟨by kernel_rfl, ?_⟩) Gx0 ?_
          rotate_left
          · (intro w hSw; go_simp; try with_reducible rfl)
          try simp only [Act.put, List.setIfInBounds_toArray, List.set_cons_zero, List.set_cons_succ]
          refine wpAnyH_take (i := 1) (oi := { dst := some 96, op := _, type := _, pos := _, after := _, guard := _ }) (v := ?_) rfl (by kernel_rfl) (by kernel_rfl) (by kernel_rfl) (fun _ _ _ h => h) (Or.inl ⟨by kernel_rfl, ?_⟩) Gx0 ?_
          rotate_left
          · (intro w hSw; go_simp; try with_reducible rfl)
          try simp only [Act.put, List.setIfInBounds_toArray, List.set_cons_zero, List.set_cons_succ]
          refine wpAnyH_take (i := 2) (oi := { dst := some 97, op := _, type := _, pos := _, after := _, guard := _ }) (v := ?_) rfl (by kernel_rfl) (by kernel_rfl) (by kernel_rfl) (fun _ _ _ h => h) (Or.inl ⟨by kernel_rfl, ?_⟩) Gx0 ?_
          rotate_left
          · (intro w hSw; go_simp; try with_reducible rfl)
          try simp only [Act.put, List.setIfInBounds_toArray, List.set_cons_zero, List.set_cons_succ]
          refine wpAnyH_take (i := 3) (oi := { dst := some 98, op := _, type := _, pos := _, after := _, guard := _ }) (v := .agg (kc H0)) rfl (by kernel_rfl) (by kernel_rfl) (by kernel_rfl) (fun _ _ _ h => h) (yieldsIf_load_mid (cs := u8s H0) (by rfl) _ _ rfl _ _ rfl _ (fun w' hSw => (rng_bel hSw.out R12.out)) Tryd.underlying24 rfl HHL.out) Gx0 ?_
          try simp only [Act.put, List.setIfInBounds_toArray, List.set_cons_zero, List.set_cons_succ]
          refine wpAnyH_take (i := 4) (oi := { dst := some 99, op := _, type := _, pos := _, after := _, guard := _ }) (v := ?_) rfl (by kernel_rfl) (by kernel_rfl) (by kernel_rfl) (fun _ _ _ h => h) (Or.inl ⟨by kernel_rfl, ?_⟩) Gx0 ?_
          rotate_left
          · (intro w hSw; go_simp; try with_reducible rfl)
          try simp only [Act.put, List.setIfInBounds_toArray, List.set_cons_zero, List.set_cons_succ]
          refine wpAnyH_ready (rs := [5]) (by kernel_rfl) (by simp) ?_
          refine (AllReadyH.cons (o := { dst := some 100, op := _, type := _, pos := _, after := _, guard := _ }) rfl (fun Qc hQc => ?_) AllReadyH.nil)
          go_simp
          go_at_call 16
          refine (YR.out x0 Gx0.out).mono ?_
          rintro e x1 ⟨rfl, hb⟩
          have Gx1 := hid (Gx0.out.trans (hb.mono Gx0.out.size))
          clear hb
          go_wp2_with fail
          refine hQc.out _ _ Gx1 (fun hHeld => ?_)
          clear hQc Qc hHeld
          try simp only [Act.put, List.setIfInBounds_toArray, List.set_cons_zero, List.set_cons_succ]
          refine wpAnyH_take (i := 6) (oi := { dst := some 101, op := _, type := _, pos := _, after := _, guard := _ }) (v := .bool false) rfl (by kernel_rfl) (by kernel_rfl) (by kernel_rfl) (fun _ _ _ h => h) (Or.inl ⟨by kernel_rfl, ?_⟩) Gx1 ?_
          · (intro w hSw; have h9 := heqH; go_simp; try with_reducible rfl)
          try simp only [Act.put, List.setIfInBounds_toArray, List.set_cons_zero, List.set_cons_succ]
          refine wpAnyH_take (i := 7) (oi := { dst := some 102, op := _, type := _, pos := _, after := _, guard := _ }) (v := ?_) rfl (by kernel_rfl) (by kernel_rfl) (by kernel_rfl) (fun _ _ _ h => h) (Or.inl ⟨by kernel_rfl, ?_⟩) Gx1 ?_
          rotate_left
          · (intro w hSw; go_simp; try with_reducible rfl)
          try simp only [Act.put, List.setIfInBounds_toArray, List.set_cons_zero, List.set_cons_succ]
          refine wpAnyH_take (i := 8) (oi := { dst := some 103, op := _, type := _, pos := _, after := _, guard := _ }) (v := ?_) rfl (by kernel_rfl) (by kernel_rfl) (by kernel_rfl) (fun _ _ _ h => h) (Or.inl ⟨by kernel_rfl, ?_⟩) Gx1 ?_
          rotate_left
          · (intro w hSw; go_simp; try with_reducible rfl)
          try simp only [Act.put, List.setIfInBounds_toArray, List.set_cons_zero, List.set_cons_succ]
          refine wpAnyH_take (i := 9) (oi := { dst := some 104, op := _, type := _, pos := _, after := _, guard := _ }) (v := ?_) rfl (by kernel_rfl) (by kernel_rfl) (by kernel_rfl) (fun _ _ _ h => h) (Or.inl ⟨by kernel_rfl, ?_⟩) Gx1 ?_
          rotate_left
          · (intro w hSw; go_simp; try with_reducible rfl)
          try simp only [Act.put, List.setIfInBounds_toArray, List.set_cons_zero, List.set_cons_succ]
          refine wpAnyH_take (i := 10) (oi := { dst := some 105, op := _, type := _, pos := _, after := _, guard := _ }) (v := ?_) rfl (by kernel_rfl) (by kernel_rfl) (by kernel_rfl) (fun _ _ _ h => h) (Or.inl ⟨by kernel_rfl, ?_⟩) Gx1 ?_
          rotate_left
          · (intro w hSw; go_simp; try with_reducible rfl)
          try simp only [Act.put, List.setIfInBounds_toArray, List.set_cons_zero, List.set_cons_succ]
          refine wpAnyH_take (i := 11) (oi := { dst := some 106, op := _, type := _, pos := _, after := _, guard := _ }) (v := ?_) rfl (by kernel_rfl) (by kernel_rfl) (by kernel_rfl) (fun _ _ _ h => h) (Or.inl ⟨by kernel_rfl, ?_⟩) Gx1 ?_
          rotate_left
          · (intro w hSw; go_simp; try with_reducible rfl)
          try simp only [Act.put, List.setIfInBounds_toArray, List.set_cons_zero, List.set_cons_succ]
          refine wpAnyH_take (i := 12) (oi := { dst := some 107, op := _, type := _, pos := _, after := _, guard := _ }) (v := ?_) rfl (by kernel_rfl) (by kernel_rfl) (by kernel_rfl) (fun _ _ _ h => h) (Or.inl ⟨by kernel_rfl, ?_⟩) Gx1 ?_
          rotate_left
          · (intro w hSw; go_simp; try with_reducible rfl)
          try simp only [Act.put, List.setIfInBounds_toArray, List.set_cons_zero, List.set_cons_succ]
          refine wpAnyH_take (i := 13) (oi := { dst := some 108, op := _, type := _, pos := _, after := _, guard := _ }) (v := ?_) rfl (by kernel_rfl) (by kernel_rfl) (by kernel_rfl) (fun _ _ _ h => h) (Or.inl ⟨by kernel_rfl, ?_⟩) Gx1 ?_
          rotate_left
          · (intro w hSw; have c9 := cell_bel hSw.out CT10.out; go_simp; try with_reducible rfl)
          try simp only [Act.put, List.setIfInBounds_toArray, List.set_cons_zero, List.set_cons_succ]
          refine wpAnyH_take (i := 16) (oi := { dst := some 111, op := _, type := _, pos := _, after := _, guard := _ }) (v := ?_) rfl (by kernel_rfl) (by kernel_rfl) (by kernel_rfl) (fun _ _ _ h => h) (Or.inl ⟨by kernel_rfl, ?_⟩) Gx1 ?_
          rotate_left
          · (intro w hSw; go_simp; try with_reducible rfl)
          try simp only [Act.put, List.setIfInBounds_toArray, List.set_cons_zero, List.set_cons_succ]
          refine wpAnyH_ready (rs := [14]) (by kernel_rfl) (by simp) ?_
          refine (AllReadyH.cons (o := { dst := some 109, op := _, type := _, pos := _, after := _, guard := _ }) rfl (fun Qc hQc => ?_) AllReadyH.nil)
          go_simp
          go_at_call 19
          refine (L1.out x1 (S10.out.trans (Gx1.out.mono S10.out.size))).mono ?_
          clear L1
          rintro e x2 ⟨v11, rfl, ho, hb⟩
          have Gx2 := hid (Gx1.out.trans (hb.mono Gx1.out.size))
          obtain ⟨A11, c11, hv⟩ := ho.len
          rw [← HM5.out] at hv
          subst hv
          have CP1 := hid (lpairs_any (c0 := c11) x2 (ho.in (by have := HSZ.out; omega)) (by have := HM5.out; have := HSZ.out; omega))
          clear hb ho
          go_wp2_with fail
          refine hQc.out _ _ Gx2 (fun hHeld => ?_)
          clear hQc Qc hHeld
          try simp only [Act.put, List.setIfInBounds_toArray, List.set_cons_zero, List.set_cons_succ]
          refine wpAnyH_ready (rs := [15]) (by kernel_rfl) (by simp) ?_
          refine (AllReadyH.cons (o := { dst := some 110, op := _, type := _, pos := _, after := _, guard := _ }) rfl (fun Qc hQc => ?_) AllReadyH.nil)
          go_simp
          go_at_call 18
          refine CP1.out.mono ?_
          clear CP1
          rintro e x3 ⟨v12, rfl, ho, hb⟩
          have Gx3 := hid (Gx2.out.trans (hb.mono Gx2.out.size))
          obtain ⟨A12, c12, hv⟩ := ho.len
          rw [← HM5.out] at hv
          subst hv
          have CSa := ySame_any (c := c12) (c2 := c5) x3 (ho.in (by have := HSZ.out; omega)) (I10.out.below Gx3.out)
          rw [decide_eq_true rfl] at CSa
          have CS1 := hid CSa
          clear CSa hb ho
          go_wp2_with fail
          refine hQc.out _ _ Gx3 (fun hHeld => ?_)
          clear hQc Qc hHeld
          try simp only [Act.put, List.setIfInBounds_toArray, List.set_cons_zero, List.set_cons_succ]
          refine wpAnyH_ready (rs := [17]) (by kernel_rfl) (by simp) ?_
          refine (AllReadyH.cons (o := { dst := some 112, op := _, type := _, pos := _, after := _, guard := _ }) rfl (fun Qc hQc => ?_) AllReadyH.nil)
          go_simp
          go_at_call 17
          refine (CS1.out).mono ?_
          rintro e x4 ⟨rfl, hb⟩
          have Gx4 := hid (Gx3.out.trans (hb.mono Gx3.out.size))
          clear hb
          go_wp2_with fail
          refine hQc.out _ _ Gx4 (fun hHeld => ?_)
          clear hQc Qc hHeld
          try simp only [Act.put, List.setIfInBounds_toArray, List.set_cons_zero, List.set_cons_succ]
          refine wpAnyH_take (i := 18) (oi := { dst := some 113, op := _, type := _, pos := _, after := _, guard := _ }) (v := ?_) rfl (by kernel_rfl) (by kernel_rfl) (by kernel_rfl) (fun _ _ _ h => h) (Or.inl ⟨by kernel_rfl, ?_⟩) Gx4 ?_
          rotate_left
          · (intro w hSw; go_simp; try with_reducible rfl)
          try simp only [Act.put, List.setIfInBounds_toArray, List.set_cons_zero, List.set_cons_succ]
          refine wpAnyH_take (i := 19) (oi := { dst := some 114, op := _, type := _, pos := _, after := _, guard := _ }) (v := ?_) rfl (by kernel_rfl) (by kernel_rfl) (by kernel_rfl) (fun _ _ _ h => h) (Or.inl ⟨by kernel_rfl, ?_⟩) Gx4 ?_
          rotate_left
          · (intro w hSw; go_simp; try with_reducible rfl)
          try simp only [Act.put, List.setIfInBounds_toArray, List.set_cons_zero, List.set_cons_succ]
          refine wpAnyH_take (i := 20) (oi := { dst := some 115, op := _, type := _, pos := _, after := _, guard := _ }) (v := ?_) rfl (by kernel_rfl) (by kernel_rfl) (by kernel_rfl) (fun _ _ _ h => h) (Or.inl ⟨by kernel_rfl, ?_⟩) Gx4 ?_
          rotate_left
          · (intro w hSw; go_simp; try with_reducible rfl)
          try simp only [Act.put, List.setIfInBounds_toArray, List.set_cons_zero, List.set_cons_succ]
          refine wpAnyH_take (i := 21) (oi := { dst := some 116, op := _, type := _, pos := _, after := _, guard := _ }) (v := .agg (kc VV)) rfl (by kernel_rfl) (by kernel_rfl) (by kernel_rfl) (fun _ _ _ h => h) (yieldsIf_load_mid (cs := u8s VV) (by rfl) _ _ rfl _ _ rfl _ (fun w' hSw => (rng_bel hSw.out R14.out)) Tryd.underlying24 rfl HVL.out) Gx4 ?_
          try simp only [Act.put, List.setIfInBounds_toArray, List.set_cons_zero, List.set_cons_succ]
          refine wpAnyH_take (i := 22) (oi := { dst := some 117, op := _, type := _, pos := _, after := _, guard := _ }) (v := .agg (kc VV)) rfl (by kernel_rfl) (by kernel_rfl) (by kernel_rfl) (fun _ _ _ h => h) (yieldsIf_load_mid (cs := u8s VV) (by rfl) _ _ rfl _ _ rfl _ (fun w' hSw => (rng_bel hSw.out R16.out)) Tryd.underlying24 rfl HVL.out) Gx4 ?_
          try simp only [Act.put, List.setIfInBounds_toArray, List.set_cons_zero, List.set_cons_succ]
          refine wpAnyH_take (i := 23) (oi := { dst := some 118, op := _, type := _, pos := _, after := _, guard := _ }) (v := .bool false) rfl (by kernel_rfl) (by kernel_rfl) (by kernel_rfl) (fun _ _ _ h => h) (Or.inl ⟨by kernel_rfl, ?_⟩) Gx4 ?_
          · (intro w hSw; have h9 := heqV; go_simp; try with_reducible rfl)
          try simp only [Act.put, List.setIfInBounds_toArray, List.set_cons_zero, List.set_cons_succ]
          refine wpAnyH_take (i := 24) (oi := { dst := some 119, op := _, type := _, pos := _, after := _, guard := _ }) (v := ?_) rfl (by kernel_rfl) (by kernel_rfl) (by kernel_rfl) (fun _ _ _ h => h) (Or.inl ⟨by kernel_rfl, ?_⟩) Gx4 ?_
          rotate_left
          · (intro w hSw; go_simp; try with_reducible rfl)
          try simp only [Act.put, List.setIfInBounds_toArray, List.set_cons_zero, List.set_cons_succ]
          refine wpAnyH_take (i := 25) (oi := { dst := some 120, op := _, type := _, pos := _, after := _, guard := _ }) (v := ?_) rfl (by kernel_rfl) (by kernel_rfl) (by kernel_rfl) (fun _ _ _ h => h) (Or.inl ⟨by kernel_rfl, ?_⟩) Gx4 ?_
          rotate_left
          · (intro w hSw; go_simp; try with_reducible rfl)
          try simp only [Act.put, List.setIfInBounds_toArray, List.set_cons_zero, List.set_cons_succ]
          refine wpAnyH_take (i := 26) (oi := { dst := some 121, op := _, type := _, pos := _, after := _, guard := _ }) (v := ?_) rfl (by kernel_rfl) (by kernel_rfl) (by kernel_rfl) (fun _ _ _ h => h) (Or.inl ⟨by kernel_rfl, ?_⟩) Gx4 ?_
          rotate_left
          · (intro w hSw; go_simp; try with_reducible rfl)
          try simp only [Act.put, List.setIfInBounds_toArray, List.set_cons_zero, List.set_cons_succ]
          refine wpAnyH_take (i := 27) (oi := { dst := some 122, op := _, type := _, pos := _, after := _, guard := _ }) (v := ?_) rfl (by kernel_rfl) (by kernel_rfl) (by kernel_rfl) (fun _ _ _ h => h) (Or.inl ⟨by kernel_rfl, ?_⟩) Gx4 ?_
          rotate_left
          · (intro w hSw; go_simp; try with_reducible rfl)
          try simp only [Act.put, List.setIfInBounds_toArray, List.set_cons_zero, List.set_cons_succ]
          refine wpAnyH_take (i := 28) (oi := { dst := some 123, op := _, type := _, pos := _, after := _, guard := _ }) (v := ?_) rfl (by kernel_rfl) (by kernel_rfl) (by kernel_rfl) (fun _ _ _ h => h) (Or.inl ⟨by kernel_rfl, ?_⟩) Gx4 ?_
          rotate_left
          · (intro w hSw; go_simp; try with_reducible rfl)
          try simp only [Act.put, List.setIfInBounds_toArray, List.set_cons_zero, List.set_cons_succ]
          refine wpAnyH_take (i := 29) (oi := { dst := some 124, op := _, type := _, pos := _, after := _, guard := _ }) (v := ?_) rfl (by kernel_rfl) (by kernel_rfl) (by kernel_rfl) (fun _ _ _ h => h) (Or.inl ⟨by kernel_rfl, ?_⟩) Gx4 ?_
          rotate_left
          · (intro w hSw; go_simp; try with_reducible rfl)
          try simp only [Act.put, List.setIfInBounds_toArray, List.set_cons_zero, List.set_cons_succ]
          refine wpAnyH_done (by kernel_rfl) ?_ _
          try simp only [Act.put, List.setIfInBounds_toArray, List.set_cons_zero, List.set_cons_succ]
          have BLF := hid (BL.out.trans ((S10.out.trans (Gx4.out.mono S10.out.size)).mono BL.out.size))
          go_wp2
          go_roundw
          case rel => exact ⟨i + 1, by omega, by go_num, BLF⟩
          case measure => simp [intOf]; omega
        · obtain rfl : i = k + 1 := by omega
          have hnl : ¬ (((k + 1 : Nat) : Int) ≤ (k : Int)) := by omega
          have BF := hid (FB.out.bl.trans (BL.out.mono FB.out.bl.size))
          go_wp2
          first | go_ret | go_ret2
          exact ⟨rfl, BF.out⟩
theorem add_none (A0 : Option Addr) (c0 : Nat) : (if c0 = 0 then A0 else Option.map (fun x : Addr => x.add 0) A0) = A0 := by
  split
  · rfl
  · cases A0 with
    | none => rfl
    | some a => rw [Option.map_some, show a.add 0 = a by unfold Addr.add; simp]
set_option maxHeartbeats 4000000 in
theorem puts_walk {w : World} {A0 : Option Addr} {n c0 : Nat} {P : List KV} {K : List Int} (h : InP w A0 n P) (hc : n ≤ c0) (hK : Ky K) (ht : Tab w) : Calls Tryd.prog 3 #[.slice A0 n c0, .agg (kc K)] w fun e w' => e = .returned (.bool true) ∧ Below w.heap.size w w' := by
  by_cases hn : 25 < n
  · have B0 : Hid (Below w.heap.size w (w.alloc (.cells (kc K) 24))) := (Below.refl _ _).alloc (Nat.le_refl _) _
    have CA := hid (fun w1 (hb : Below w.heap.size w w1) => xawake_any w1 (ht.below hb))
    have hml : n ≤ 9223372036854775807 := h.2.1
    have hn1 : (25 : Int) < (n : Int) := by omega
    clear h hc hK ht
    go_enter Tryd.func3, Tryd.ntmps3
    go_wp2_with (first
      | (go_at_call 10; refine (CA.out _ B0.out).mono ?_; rintro e w1 ⟨rfl, hb⟩; have B1 := hid (B0.out.trans (hb.mono B0.out.size)); clear hb)
      | (go_at_call 10; refine (CA.out _ B1.out).mono ?_; rintro e w2 ⟨rfl, hb⟩; have B2 := hid (B1.out.trans (hb.mono B1.out.size)); clear hb))
    go_ret
    exact ⟨rfl, B2.out⟩
  · exact puts_main h hc hK ht (by omega) (add_none A0 c0)
end Go.Proofs.YtbhgchbacadgaaaDoor
