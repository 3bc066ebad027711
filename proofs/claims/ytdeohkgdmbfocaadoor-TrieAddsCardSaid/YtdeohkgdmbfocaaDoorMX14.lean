/-
  What is proved here: Put: a key put into a tree of the code's forest.
-/
import Derived.Test.YtdeohkgdmbfocaaDoorMX15a
set_option linter.unusedSimpArgs false
set_option linter.unusedVariables false
namespace Go.Proofs.YtdeohkgdmbfocaaDoor
open Go.ChangeShapes Go.WideShapes Go.ChangeAt Go.RowKit Go.Shelf
set_option linter.unusedVariables false
set_option linter.unusedSimpArgs false
set_option maxRecDepth 20000
attribute [local go_sem] Oper.semAt_some

theorem grew_more {w w1 w2 : World} {f g b g1 b1 : Nat} {N2 : List Nd} (h1 : g1 = g ∨ w.heap.size ≤ g1) (h2 : b1 = b ∨ w.heap.size ≤ b1) (ho : OnlyS (Ow f g b) w w1) (h : Grew w1 f g1 b1 N2 w2) : Grew w f g b N2 w2 := by
  obtain ⟨g2, b2, A2, c2, tv2, hfo, hg2, hb2, hon⟩ := h
  refine ⟨g2, b2, A2, c2, tv2, hfo, ?_, ?_, hon.os.trans ho.os, hon.tape.trans ho.tape, hon.output.trans ho.output, Nat.le_trans ho.size hon.size, fun k hk hn => (hon.block k (Nat.lt_of_lt_of_le hk ho.size) (fun h => ?_)).trans (ho.block k hk hn)⟩
  · rcases hg2 with e | e
    · rw [e]; exact h1
    · exact .inr (Nat.le_trans ho.size e)
  · rcases hb2 with e | e
    · rw [e]; exact h2
    · exact .inr (Nat.le_trans ho.size e)
  · rcases h with e | e | e
    · exact hn (.inl e)
    · rcases h1 with e2 | e2
      · exact hn (.inr (.inl (e.trans e2)))
      · omega
    · rcases h2 with e2 | e2
      · exact hn (.inr (.inr (e.trans e2)))
      · omega
/-- Put's own boxes -/
structure Bx3 (sz f : Nat) (K V : List Int) (x : World) : Prop where
  k4 : Blk x sz 26 #[.pointer (some ⟨f, 0, none⟩)]
  k6 : Blk x (sz + 1) 24 (kc K)
  k7 : Blk x (sz + 1 + 1) 24 (kc V)
theorem Bx3.below {sz f : Nat} {K V : List Int} {x y : World} (h : Bx3 sz f K V x) (hb : Below x.heap.size x y) : Bx3 sz f K V y := ⟨h.k4.below hb, h.k6.below hb, h.k7.below hb⟩
theorem Bx3.only {sz f : Nat} {K V : List Int} {x y : World} {g b : Nat} {N : List Nd} {A : Option Addr} {c : Nat} {tv : Value} (h : Bx3 sz f K V x) (hf : Fo x f g b N A c tv) (ho : OnlyS (Ow f g b) x y) : Bx3 sz f K V y :=
  ⟨h.k4.same (ho.block _ h.k4.lt (hf.not_own h.k4 (by decide) (by decide) (by decide))), h.k6.same (ho.block _ h.k6.lt (hf.not_own h.k6 (by decide) (by decide) (by decide))), h.k7.same (ho.block _ h.k7.lt (hf.not_own h.k7 (by decide) (by decide) (by decide)))⟩
/-- what a call that adds leaves, in parts -/
theorem Grew.parts {w w' : World} {f g b : Nat} {N' : List Nd} (h : Grew w f g b N' w') : ∃ g' b' A' c' tv', Fo w' f g' b' N' A' c' tv' ∧ (g' = g ∨ w.heap.size ≤ g') ∧ (b' = b ∨ w.heap.size ≤ b') ∧ OnlyS (Ow f g b) w w' := h
theorem own_only {x y : World} {f g b : Nat} {N : List Nd} {A : Option Addr} {c : Nat} {tv : Value} (hf : Fo x f g b N A c tv) (ho : OnlyS (Ow f g b) x y) {base n : Nat} {v : Value} {xs : List Value} (h : x.ownsRow base 3 1 v n xs) : y.ownsRow base 3 1 v n xs :=
  own_keep h (fun k hk => by
    rcases h.2 with ⟨hv, _⟩ | ⟨gg, cap, cur, hv, _, hh, _⟩
    · rw [hv] at hk; cases hk
    · rw [hv] at hk
      injection hk with hk
      have hb : Blk x gg 3 cur := hh
      have hb' : Blk x k 3 cur := by have e : gg = k := hk; rw [← e]; exact hb
      exact ho.block k hb'.lt (hf.not_own hb' (by decide) (by decide) (by decide)))
theorem tab_only {S : Nat → Prop} {w w' : World} (h : Tab w) (hS : ¬ S 0) (ho : OnlyS S w w') : Tab w' := fun j hj =>
  (World.cell?_of_block (a := ⟨0, j, none⟩) (ho.block 0 (block_lt_of_cell (h j hj)) hS)).trans (h j hj)
theorem Fo.not_tab {w : World} {f g b : Nat} {N : List Nd} {A : Option Addr} {c : Nat} {tv : Value} (h : Fo w f g b N A c tv) (ht : Tab w) : ¬ Ow f g b 0 := by
  have h0 := ht 0 (by decide)
  have nf : ¬ 0 = f := fun e => by
    have := h.kf.cell 0
    rw [← e, h0] at this
    cases this
  intro ho
  rcases h.how with ⟨_, _, _, _, e1, e2⟩ | ⟨hN, _, _, hb, _⟩
  · rw [e1, e2] at ho
    rcases ho with e | e | e <;> exact nf e
  · rcases ho with e | e | e
    · exact nf e
    · have h1 := (h.node (List.getElem?_eq_getElem hN)).2.leaf
      rw [← e, Nat.zero_mul, h0] at h1
      cases h1
    · have := hb.cell 0
      rw [← e, h0] at this
      injection this with this
      injection this with this
      cases this
/-- so few that none is too many -/
def Few (n : Nat) : Prop := n < 100000
theorem few_gt {N : List Nd} {n k : Nat} (h : Few N.length) (hn : n = N.length) (hk : k < 100000) : decide ((1048576 : Int) < (n : Int) + (k : Int)) = false := by
  have h' : N.length < 100000 := h
  exact decide_eq_false (by omega)
theorem few_lt {n : Nat} (h : Few n) : n < 1048576 := Nat.lt_of_lt_of_le (show n < 100000 from h) (by decide)
theorem few_gt2 {N : List Nd} {n m : Nat} (h : Few N.length) (hn : n = N.length) (hk : Few m) : ¬ ((1048576 : Int) < (n : Int) + ((m : Int) + 1)) := by
  have h' : N.length < 100000 := h
  have h2 : m < 100000 := hk
  omega
theorem few_gt3 {N : List Nd} {n m : Nat} (h : Few N.length) (hn : n = N.length) (hk : Few m) : ¬ ((1048576 : Int) < (n : Int) + ((m : Int) + 1 + 1)) := by
  have h' : N.length < 100000 := h
  have h2 : m < 100000 := hk
  omega
theorem few_gt4 {N : List Nd} {n m : Nat} (h : Few N.length) (hn : n = N.length) (hk : Few m) : ¬ ((1048576 : Int) < (n : Int) + ((m : Int) + 2)) := by
  have h' : N.length < 100000 := h
  have h2 : m < 100000 := hk
  omega
theorem few_way {m k t : Nat} (h : Few t) (hl : m + k ≤ t) : Few m := by
  have h' : t < 100000 := h
  show m < 100000
  omega
theorem rep_pre {N : List Nd} {x : Nat} {u : Tr} {K : List Int} (h : Rep hLf hIn N x u) (hn : NotLeaf K u) : ∃ q, N[x]? = some q ∧ q.pn = (u.pre.1 : Nat) ∧ q.pb = u.pre.2 ∧ q.has K = false := by
  cases u with
  | leaf k v => exact ⟨_, h, rfl, rfl, by unfold Nd.has; simp only [ndL, Bool.true_and]; exact decide_eq_false hn⟩
  | inner n b l r => obtain ⟨a, c, h1, _⟩ := h; exact ⟨_, h1, rfl, rfl, rfl⟩
theorem few_one {N : List Nd} {q : Nd} (h : Few N.length) : (N ++ [q]).length < 1048576 := by
  have h' : N.length < 100000 := h
  rw [List.length_append, List.length_singleton]
  omega
theorem few_mil {n : Nat} (h : Few n) : n < 1000000 := Nat.lt_of_lt_of_le (show n < 100000 from h) (by decide)
theorem few_le {n : Nat} (h : Few n) : n ≤ 100000 := Nat.le_of_lt (show n < 100000 from h)
theorem row_ty {w : World} {m c : Nat} {a : Addr} {X : List Int} (h : w.ownsRow 0 3 1 (.slice (some a) m c) m (i64s X)) {k : Nat} (hk : k = a.block) : ∃ t cs, Blk w k t cs ∧ (t = 31 ∨ t = 3) := by
  rcases h.2 with ⟨h1, _⟩ | ⟨g, cap, cur, hv, _, hh, _⟩
  · cases h1
  · injection hv with h1
    injection h1 with h1
    rw [hk, h1]
    exact ⟨3, cur, hh, .inr rfl⟩
theorem few_m {N M : List Nd} {L : List Nat} {k : Nat} (h : Few N.length) (h1 : M.length ≤ 2 + k) (h2 : k < L.length) (h3 : L.length ≤ 100000) : (N ++ M).length < 1048576 := by
  have h' : N.length < 100000 := h
  rw [List.length_append]
  omega
theorem zip2 (T : Array Value) (a b : Nat) (u v : Value) : Array.foldl (fun t (x : Nat × Value) => t.setIfInBounds x.1 x.2) T (#[a, b].zip #[u, v]) = (T.setIfInBounds a u).setIfInBounds b v := by simp
theorem exec_assign {P : Program} {o : Oper} {a : Act} {w : World} (x : Operand) (ho : o.op = .assign x) : (execOp a.eval o).run P w = .ok (.value (a.eval x)) w := by
  unfold execOp
  simp only [ho]
  rfl
set_option maxHeartbeats 2000000 in
theorem xway_none (f : Option Addr) (K : List Int) (w : World) : Calls Tryd.prog 35 #[.pointer f, .int .i64 (-1), .agg (kc K)] w fun e w' => e = .returned (.tuple #[.slice none 0 0, .int .i64 (-1)]) ∧ Below w.heap.size w w' := by
  have B0 : Hid (Below w.heap.size w (w.alloc (.cells (kc K) 24))) := (Below.refl _ _).alloc (Nat.le_refl _) _
  go_enter Tryd.func35, Tryd.ntmps35
  go_wp2_with (fail)
  generalize w.alloc (.cells (kc K) 24) = w0 at B0 ⊢
  go_loopw [8, 9] (fun v8 v9 wr => v8 = .slice none 0 0 ∧ v9 = .int .i64 (-1) ∧ wr = w0) (fun _ e _ => (intOf e).toNat)
  case atStart => exact ⟨rfl, rfl, rfl⟩
  case round =>
    obtain ⟨rfl, rfl, rfl⟩ := hrel
    go_wp2
    go_ret2
    exact ⟨rfl, B0.out⟩
set_option maxHeartbeats 8000000 in
theorem put_none {w : World} {f g b : Nat} {N : List Nd} {A : Option Addr} {c : Nat} {tv : Value} (h : Fo w f g b N A c tv) (hfr : FrOk hLf hIn N) {K V : List Int} (hK : Ky K) (hV : Ky V) (hlen : Few N.length) (ht : Tab w)
    : Calls Tryd.prog 10 #[.pointer (some ⟨f, 0, none⟩), .int .i64 (-1), .agg (kc K), .agg (kc V)] w (PutA w f g b N (.leaf K V) 1) := by
  refine (callsIn_wide (n := 2)).1 ?_
  refine callsIn_of_wp_marks Tryd.func10 rfl trivial ?_ rfl
  simp only [Tryd.ntmps10, List.size_toArray, List.length_cons, List.length_nil, Nat.reduceAdd, Nat.reduceSub, Array.replicate_succ, Array.replicate_zero, List.push_toArray, List.append_toArray, List.nil_append, List.cons_append]
  refine (wpIn_wide (n := 2)).2 ?_
  obtain ⟨hk1, hk2, hk3, hb0⟩ := three_blks w #[.pointer (some ⟨f, 0, none⟩)] (kc K) (kc V) 26 24 24
  have BX0 : Hid (Bx3 w.heap.size f K V (((w.alloc (.cells #[.pointer (some ⟨f, 0, none⟩)] 26)).alloc (.cells (kc K) 24)).alloc (.cells (kc V) 24))) := ⟨hk1, hk2, hk3⟩
  have B0 := hid hb0
  have HKI := hid (u8s_info hK); have HVI := hid (u8s_info hV)
  have FO := hid h; have HF := hid hfr; have HK := hid hK; have HV := hid hV; have HL := hid hlen; have HT := hid ht
  have CI := hid (fun w1 (hb : Below w.heap.size w w1) => xisTree_at (h.below hb) (-1))
  rw [show isTr N.length (-1) = true from rfl] at CI
  have CW := hid (fun w => xway_none (some ⟨f, 0, none⟩) K w)
  have CH := hid (fun w => xhasKey_none (some ⟨f, 0, none⟩) K w)
  clear hk1 hk2 hk3 hb0 h hfr hK hV hlen ht
  have c4 : (((w.alloc (.cells #[.pointer (some ⟨f, 0, none⟩)] 26)).alloc (.cells (kc K) 24)).alloc (.cells (kc V) 24)).cell? ⟨w.heap.size, 0, none⟩ = some (.pointer (some ⟨f, 0, none⟩)) := BX0.out.k4.cell 0
  go_upto_region 5 with (first
    | (go_at_call 34; refine (CI.out _ B0.out).mono ?_; rintro e w1 ⟨rfl, rfl⟩)
    | (refine load_at rfl 24 (.tmp 6) rfl (w.heap.size + 1) 0 rfl (u8s K) _ (blk_key BX0.out.k6) Tryd.underlying24 rfl HKI.out (kc K) rfl ?_)
    | (go_at_call 35; refine (CW.out _).mono ?_; rintro e w2 ⟨rfl, hb⟩; have BX2 := hid (BX0.out.below hb); have B2 := hid (B0.out.trans (hb.mono B0.out.size)); have c4b : w2.cell? ⟨w.heap.size, 0, none⟩ = some (.pointer (some ⟨f, 0, none⟩)) := BX2.out.k4.cell 0; clear hb)
    | (refine load_at rfl 24 (.tmp 6) rfl (w.heap.size + 1) 0 rfl (u8s K) _ (blk_key BX2.out.k6) Tryd.underlying24 rfl HKI.out (kc K) rfl ?_)
    | (go_at_call 36; refine (CH.out _).mono ?_; rintro e w3 ⟨rfl, hb⟩; have BX3 := hid (BX2.out.below hb); have B3 := hid (B2.out.trans (hb.mono B2.out.size)); clear hb))
  clear c4 c4b
  refine region_kept (Kp w3) (by kernel_rfl) (by kernel_rfl) (kp_begin w3) ?_
  repeat (first
    | go_big_quiet_skip
    | (go_big_quiet_want; go_big_quiet_op; first | go_big_quiet_on))
  refine wpQuiet_nil ?_
  intro _ hw'
  obtain ⟨p, hw''⟩ := hw'
  subst hw''
  have BX4 := hid (BX3.out.below p.h)
  have B4 := hid (B3.out.trans (p.h.mono B3.out.size))
  have c4 : p.w.cell? ⟨w.heap.size, 0, none⟩ = some (.pointer (some ⟨f, 0, none⟩)) := BX4.out.k4.cell 0
  generalize p.w = w4 at BX4 B4 c4 ⊢
  clear BX0 BX2 BX3 B0 B2 B3 CI CW CH
  have F4 := FO.out.below B4.out
  have ROW4 : Hid (w4.ownsRow 0 3 1 (.slice none 0 0) 0 (i64s (ns ([] : List Nat)))) := ⟨rfl, .inl ⟨rfl, rfl⟩⟩
  have c0 : w4.cell? ⟨f, 0, none⟩ = some (.slice A N.length c) := F4.kf.cell 0
  obtain ⟨n, hn⟩ : ∃ n, n = N.length := ⟨_, rfl⟩
  rw [← hn] at c0
  have HN := hid hn
  have hgt : ¬ ((1048576 : Int) < (n : Int) + 1) := of_decide_eq_false (few_gt (k := 1) HL.out hn (by decide))
  have CL := hid (xleaf_at F4 K V HK.out HV.out (few_lt HL.out) (HT.out.below B4.out))
  have HF4 := hid F4
  clear F4 hn
  go_upto_region 13 with (fail)
  clear c0 hgt
  go_upto_region 14 with (first
    | (refine load_at rfl 24 (.tmp 6) rfl (w.heap.size + 1) 0 rfl (u8s K) _ (blk_key BX4.out.k6) Tryd.underlying24 rfl HKI.out (kc K) rfl ?_)
    | (refine load_at rfl 24 (.tmp 7) rfl (w.heap.size + 1 + 1) 0 rfl (u8s V) _ (blk_key BX4.out.k7) Tryd.underlying24 rfl HVI.out (kc V) rfl ?_)
    | (go_at_call 37; refine CL.out.mono ?_; rintro e w5 ⟨rfl, hg⟩; have HG5 := hid hg; clear hg))
  obtain ⟨g5, b5, A5, c5, tv5, hfo5, hg5, hb5, hon5⟩ := HG5.out.parts
  have BX5 := hid (BX4.out.only HF4.out hon5)
  have ROW5 := hid (own_only HF4.out hon5 ROW4.out)
  have HN5 : Hid (N.length = n) := HN.out.symm
  rw [HN5.out]
  have SZ5 : Hid (w.heap.size ≤ w5.heap.size) := Nat.le_trans B4.out.size hon5.size
  have BX6 := hid (BX5.out.below ((Below.refl w5.heap.size w5).alloc (Nat.le_refl _) (.cells #[.int .i64 n] 3)))
  have ROW6 := hid (own_keep ROW5.out (fun k hk => Below.heap_alloc w5 (.cells #[.int .i64 n] 3) k (ROW5.out.lt k hk).2))
  have FO6 := hid (hfo5.below ((Below.refl w5.heap.size w5).alloc (Nat.le_refl _) (.cells #[.int .i64 n] 3)))
  have K15 : Hid (Blk (w5.alloc (.cells #[.int .i64 n] 3)) w5.heap.size 3 #[.int .i64 (n : Nat)]) := Blk.new w5 3 _
  have ON6 : Hid (OnlyS (Ow f g b) w (w5.alloc (.cells #[.int .i64 n] 3))) := ((OnlyS.of_below B4.out (Nat.le_refl _)).trans hon5).alloc _
  have G5 : Hid (g5 = g ∨ w.heap.size ≤ g5) := hg5.imp id (fun h => Nat.le_trans B4.out.size h)
  have Q5 : Hid (b5 = b ∨ w.heap.size ≤ b5) := hb5.imp id (fun h => Nat.le_trans B4.out.size h)
  have ROWNE : Hid (∀ k, (Value.slice none 0 0).ownBlock = some k → k ≠ w5.heap.size) := fun k hk => Nat.ne_of_lt (ROW5.out.lt k hk).2
  clear hfo5 hg5 hb5 hon5 HG5 CL c4 BX5 ROW5 ROW4 BX4 B4 HF4
  generalize hE15 : w5.heap.size = e15 at K15 SZ5 ROWNE ⊢
  generalize w5.alloc (.cells #[.int .i64 n] 3) = w6 at BX6 ROW6 FO6 K15 ON6 ⊢
  clear hE15
  obtain ⟨U, hU0, hUL, hSO⟩ : ∃ U : Nat → Tr, U 0 = .leaf K V ∧ U (([] : List Nat)).length = .leaf K V ∧ StepsOk N K U ([] : List Nat) := ⟨fun _ => .leaf K V, rfl, rfl, StepsOk.nil⟩
  have HU0 := hid hU0; have HSO := hid hSO
  have I0 : Hid (PtE 1 (fun _ => False) f g b w N K U ([] : List Nat) w.heap.size (w.heap.size + 1) e15 [] w6) := ⟨g5, b5, A5, c5, tv5, [ndL K V (hLf K V)], n, FO6.out, G5, Q5, ON6.out, BX6.out.k4, BX6.out.k6, K15.out, SZ5.out, by rw [List.length_append, HN5.out]; simp, by simp, fun _ h => h.elim, fun _ => by
    obtain ⟨h1, h2⟩ := FrOk.leaf hLf hIn HF.out HK.out HV.out
    rw [HN5.out] at h2
    exact ⟨h1, by show Rep _ _ _ _ (U 0); rw [HU0.out]; exact h2⟩⟩
  have CB := hid (fun w => xback_any none 0 0 w)
  clear hU0 hSO
  go_wp2_with (go_at_call 39; refine (CB.out _).mono ?_; rintro e w7 ⟨rfl, hw7⟩; have HW7 := hid hw7; clear hw7)
  have S6 : Hid (w7.heap.size = w6.heap.size + 1) := by show _ = _; rw [HW7.out]; simp
  have BL7 : Hid (Below w6.heap.size w6 w7) := by show Below _ _ _; rw [HW7.out]; exact (Below.refl _ _).alloc (Nat.le_refl _) _
  have IT : Hid (ItB w6.heap.size none 0 0 (ns ([] : List Nat)) w7) := by
    refine ⟨?_, own_keep ROW6.out (fun k hk => BL7.out.block k (ROW6.out.lt k hk).2)⟩
    rw [HW7.out]; exact Blk.new w6 31 _
  have NE7 : Hid (w6.heap.size ≠ e15) := fun e => by have h1 := K15.out.lt; omega
  have RNE : Hid (∀ k, ItS w6.heap.size none k → k ≠ e15) := fun k hk => by rcases hk with h | ⟨a, h, _⟩; rw [h]; exact NE7.out; cases h
  have RTY : Hid (∀ k, ItS w6.heap.size none k → ∃ t cs, Blk w7 k t cs ∧ (t = 31 ∨ t = 3)) := fun k hk => by rcases hk with h | ⟨a, h, _⟩; rw [h]; exact ⟨_, _, IT.out.kb, .inl rfl⟩; cases h
  have I7 : Hid (PtE 1 (ItS w6.heap.size none) f g b w N K U ([] : List Nat) w.heap.size (w.heap.size + 1) e15 [] w7) := by
    obtain ⟨g', b', A', c', tv', M, top, hs⟩ := I0.out
    exact ⟨g', b', A', c', tv', M, top, hs.fo.below BL7.out, hs.hg, hs.hb, hs.on.trans (OnlyS.of_below BL7.out (Nat.le_refl _)), hs.k4.below BL7.out, hs.k6.below BL7.out, hs.k15.below BL7.out, hs.he, hs.lt, hs.few, fun k hk => ⟨RTY.out k hk, RNE.out k hk⟩, hs.cond⟩
  have BX7 := hid (BX6.out.below BL7.out)
  have BW7 : Hid (w.heap.size ≤ w7.heap.size) := by obtain ⟨g', b', A', c', tv', M, top, hs⟩ := I7.out; exact hs.on.size
  have LT7 : Hid (e15 < w7.heap.size ∧ w.heap.size < w7.heap.size) := ⟨(K15.out.below BL7.out).lt, BX7.out.k4.lt⟩
  have ET : Hid (∃ t cs, Blk w7 e15 t cs ∧ t = 3) := ⟨_, _, K15.out.below BL7.out, rfl⟩
  clear BX6 ROW6 FO6 ON6 G5 Q5 HW7 BX7 CB I0 SZ5
  have HM : Hid (0 = (([] : List Nat)).length) := rfl
  generalize w6.heap.size = bs at S6 IT RNE RTY NE7 I7 ⊢
  clear K15
  clear hUL
  refine (wpIn_wide (n := 2)).1 ?_
  refine wpIn_rangeFunc_ownF (n := 2) rfl (by omega) (gf := 66) (lb := #[.pointer (some ⟨bs, 0, none⟩)]) rfl trivial (enters_of Tryd.func66 (by kernel_rfl) rfl)
    (back_stops (m := (([] : List Nat)).length) (by decide) bs none 0 (ns ([] : List Nat)) w7 IT.out) KpS.t (KpS.b (S := ItS bs none) (fun k hk => by obtain ⟨t, cs, h1, _⟩ := RTY.out k hk; exact h1.lt)) (Below.refl _ _) (fun _ => rfl) (PtE 1 (ItS bs none) f g b w N K U ([] : List Nat) w.heap.size (w.heap.size + 1) e15) (fun _ _ _ => False) (PtE.own (by have := LT7.out; omega)) (fun _ _ _ _ _ hs _ _ => hs) I7.out
    ?a1 ?assign ?body ?done ?stop
  case assign =>
    intro l x W K hK
    have HKK := hid hK
    clear hK
    dsimp only [encB]
    rw [zip2]
    simp only [List.setIfInBounds_toArray, List.set_cons_succ, List.set_cons_zero]
    refine wpIn_region_lit (l := [_]) ?_
    refine wpListIn_plain rfl (fun K2 hK2 => ?_)
    refine wpInR_value (.int .i64 (nv (ns ([] : List Nat)) x)) (fun c h => by cases h) (by rw [exec_assign (.tmp 80) rfl]; rfl) ?_
    refine hK2 _ _ ?_
    simp only [Act.put, List.setIfInBounds_toArray, List.set_cons_succ, List.set_cons_zero]
    exact HKK.out
  case body =>
    rintro l pre x W hI hlen
    exact absurd x.isLt (Nat.not_lt_zero _)
  case done =>
    rintro D' ys W hD hys hI hK
    obtain ⟨g', b', A', c', tv', M, top, hs⟩ := hI
    have c15 : W.cell? ⟨e15, 0, none⟩ = some (.int .i64 (top : Nat)) := hs.k15.cell 0
    have HS := hid hs; have HKD := hid hK; have HYS := hid hys
    have HD : Hid (w7.heap.size ≤ D') := hD
    clear hs hK hys hD
    go_wp2
    refine ⟨by simp, .inl ⟨_, _, rfl, run_takeDeferred HKD.out, ?_⟩⟩
    have hg := grownBy_putObj' W D' (.deferred none)
    have hr : ∀ r, some D' = some r → ∃ o : Obj, W.heap[r]? = some o ∧ o.isCells = false := fun r e => by cases e; exact ⟨_, HKD.out, rfl⟩
    have hl : ys.length = (([] : List Nat)).length := by
      have := congrArg List.length HYS.out
      rw [List.length_map, downs_length] at this
      exact this
    obtain ⟨h1, h2⟩ := HS.out.cond (by rw [hl]; exact HYS.out)
    rw [hl, Nat.sub_self, HU0.out] at h2
    refine ⟨_, results_tmp2 rfl _ _ _, M, top, rfl, ⟨g', b', A', c', tv', HS.out.fo.own hg hr, HS.out.hg, HS.out.hb, HS.out.on.grown hg (fun k e => by cases e; right; have := HD.out; have := LT7.out; have := BW7.out; omega)⟩, h2, h1, ?_⟩
    have := HS.out.few
    rw [hl] at this
    exact this
  case stop =>
    rintro D c pre W _ _ h _
    exact h.elim
end Go.Proofs.YtdeohkgdmbfocaaDoor
