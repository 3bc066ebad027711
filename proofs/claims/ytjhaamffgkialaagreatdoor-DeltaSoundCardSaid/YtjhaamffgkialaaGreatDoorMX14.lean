/-
  What this file is for: a plain region within the round of a range over a function, walked as anywhere. Nothing of the program is walked here.
-/
import Derived.Test.YtjhaamffgkialaaGreatDoorMX11
set_option linter.unusedSimpArgs false
set_option linter.unusedVariables false
namespace Go.Proofs.YtjhaamffgkialaaGreatDoor
open Go.ChangeShapes Go.WideShapes Go.ChangeAt Go.RowKit Go.Shelf
set_option linter.unusedVariables false
set_option maxRecDepth 20000

def Qr (R : Act → World → Prop) : Exit → Act → World → Prop
  | .normal, a, w => R a w
  | _, _, _ => False
section
variable {P : Program} {R : Act → World → Prop} {l n : Nat}
theorem oper_round {o : Oper} {a : Act} {w : World} {K K' : Act → World → Prop} (hd : ∀ c, o.op ≠ .defer c) (hK : ∀ a w, K a w → K' a w) (h : o.wp P a w K (Qr R)) : o.wpIn (Fence.wide.inRound l) n P a w K' (Qr R) := by
  unfold Oper.wpIn
  refine ⟨fun _ _ => trivial, ?_⟩
  rw [Oper.semAt_plain _ _ _ hd]
  unfold Oper.wp at h
  generalize (execOp a.eval o).run P w = r at h
  cases r with
  | ok x w' =>
    cases x <;> simp only [Oper.upon, Oper.uponIn] at h ⊢
    case value v => exact hK _ _ h
    case skip => exact hK _ _ h
    case defer d => exact hK _ _ h
    case enter f args =>
      refine ⟨fun hs => by simp [Fence.inRound, Fence.wide] at hs, CallsIn.inRound l (callsIn_wide.2 (h.mono ?_))⟩
      intro e w'' he
      cases e with
      | returned v => exact hK _ _ he
      | panicked c => exact he
      | outgrown => exact he
    case row row args =>
      refine ⟨fun hs => by simp [Fence.inRound, Fence.wide] at hs, ?_⟩
      intro c cs _
      obtain ⟨v, w'', hr, hs⟩ := h c cs
      exact ⟨v, w'', hK _ _ hr, stepsIn_wide.2 hs⟩
  | halt x w' =>
    cases x <;> simp only [Oper.upon, Oper.uponIn] at h ⊢
    case panic v => exact h
theorem list_round {ops : Array Oper} : ∀ (L : List Oper) (a : Act) (w : World), (∀ o ∈ L, ∀ c, o.op ≠ .defer c) → wpList P ops (Qr R) L a w → wpListIn (Fence.wide.inRound l) n P ops (Qr R) L a w
  | [], a, w, _, h => h
  | o :: rest, a, w, hd, h => by
    have hd' : ∀ o ∈ rest, ∀ c, o.op ≠ .defer c := fun o ho => hd o (List.mem_cons_of_mem _ ho)
    unfold wpList at h
    unfold wpListIn
    by_cases hw : Region.wanted o (yielded ops a.tmps) = true
    · rw [if_pos hw] at h ⊢
      rcases h with h | ⟨_, a0, w0, h⟩
      · exact oper_round (hd o (by simp)) (fun a w h => list_round rest a w hd' h) h
      · exact h.elim
    · rw [if_neg hw] at h ⊢
      exact ⟨fun _ _ => trivial, list_round rest _ w hd' h⟩
theorem plain_round {id : Nat} {L : List Oper} {a : Act} {w : World} (hd : (L.all fun o => match o.op with | .defer _ => false | _ => true) = true) (h : wpList P L.toArray (Qr R) L a w) : (Code.region id L.toArray false).wpIn (Fence.wide.inRound l) n P (Qr R) a w :=
  wpIn_region_lit (list_round L a w (fun o ho c hc => by
    rw [List.all_eq_true] at hd
    have := hd o ho
    rw [hc] at this
    cases this) h)
theorem wpIn_cut {F : Fence} {c : Code} {Q : Exit → Act → World → Prop} {a : Act} {w : World} (R : Act → World → Prop) (h : c.wpIn F n P (Qr R) a w) (hR : ∀ a w, R a w → Q .normal a w) : c.wpIn F n P Q a w :=
  wpIn_mono h fun e a w hq => by cases e <;> first | exact hR _ _ hq | exact hq.elim
end

end Go.Proofs.YtjhaamffgkialaaGreatDoor
/-
  What is proved here: Put: a key put into a tree of the code's forest.
-/
namespace Go.Proofs.YtjhaamffgkialaaGreatDoor
open Go.ChangeShapes Go.WideShapes Go.ChangeAt Go.RowKit Go.Shelf
set_option linter.unusedVariables false
set_option linter.unusedSimpArgs false
set_option maxRecDepth 20000
attribute [local go_sem] Oper.semAt_some

theorem grew_more {w w1 w2 : World} {f g b g1 b1 : Nat} {N2 : List Nd} (h1 : g1 = g ∨ w.heap.size ≤ g1) (h2 : b1 = b ∨ w.heap.size ≤ b1) (ho : OnlyS (Ow f g b) w w1) (h : Grew w1 f g1 b1 N2 w2) : Grew w f g b N2 w2 := by
  obtain ⟨g2, b2, A2, c2, tv2, hfo, hg2, hb2, hon⟩ := h
  refine ⟨g2, b2, A2, c2, tv2, hfo, ?_, ?_, hon.os.trans ho.os, hon.tape.trans ho.tape, hon.output.trans ho.output, Nat.le_trans ho.size hon.size, fun k hk hn => (hon.block k (Nat.lt_of_lt_of_le hk ho.size) (fun h => ?_)).trans (ho.block k hk hn)⟩
  · rcases hg2 with e | e
    · rw [e]; exact h1
    · exact .inr (Nat.le_trans ho.size e)
  · rcases hb2 with e | e
    · rw [e]; exact h2
    · exact .inr (Nat.le_trans ho.size e)
  · rcases h with e | e | e
    · exact hn (.inl e)
    · rcases h1 with e2 | e2
      · exact hn (.inr (.inl (e.trans e2)))
      · omega
    · rcases h2 with e2 | e2
      · exact hn (.inr (.inr (e.trans e2)))
      · omega
/-- Put's own boxes -/
structure Bx3 (sz f : Nat) (K V : List Int) (x : World) : Prop where
  k4 : Blk x sz 27 #[.pointer (some ⟨f, 0, none⟩)]
  k6 : Blk x (sz + 1) 25 (kc K)
  k7 : Blk x (sz + 1 + 1) 25 (kc V)
theorem Bx3.below {sz f : Nat} {K V : List Int} {x y : World} (h : Bx3 sz f K V x) (hb : Below x.heap.size x y) : Bx3 sz f K V y := ⟨h.k4.below hb, h.k6.below hb, h.k7.below hb⟩
theorem Bx3.only {sz f : Nat} {K V : List Int} {x y : World} {g b : Nat} {N : List Nd} {A : Option Addr} {c : Nat} {tv : Value} (h : Bx3 sz f K V x) (hf : Fo x f g b N A c tv) (ho : OnlyS (Ow f g b) x y) : Bx3 sz f K V y :=
  ⟨h.k4.same (ho.block _ h.k4.lt (hf.not_own h.k4 (by decide) (by decide) (by decide))), h.k6.same (ho.block _ h.k6.lt (hf.not_own h.k6 (by decide) (by decide) (by decide))), h.k7.same (ho.block _ h.k7.lt (hf.not_own h.k7 (by decide) (by decide) (by decide)))⟩
/-- what a call that adds leaves, in parts -/
theorem Grew.parts {w w' : World} {f g b : Nat} {N' : List Nd} (h : Grew w f g b N' w') : ∃ g' b' A' c' tv', Fo w' f g' b' N' A' c' tv' ∧ (g' = g ∨ w.heap.size ≤ g') ∧ (b' = b ∨ w.heap.size ≤ b') ∧ OnlyS (Ow f g b) w w' := h
theorem own_only {x y : World} {f g b : Nat} {N : List Nd} {A : Option Addr} {c : Nat} {tv : Value} (hf : Fo x f g b N A c tv) (ho : OnlyS (Ow f g b) x y) {base n : Nat} {v : Value} {xs : List Value} (h : x.ownsRow base 3 1 v n xs) : y.ownsRow base 3 1 v n xs :=
  own_keep h (fun k hk => by
    rcases h.2 with ⟨hv, _⟩ | ⟨gg, cap, cur, hv, _, hh, _⟩
    · rw [hv] at hk; cases hk
    · rw [hv] at hk
      injection hk with hk
      have hb : Blk x gg 3 cur := hh
      have hb' : Blk x k 3 cur := by have e : gg = k := hk; rw [← e]; exact hb
      exact ho.block k hb'.lt (hf.not_own hb' (by decide) (by decide) (by decide)))
theorem tab_only {S : Nat → Prop} {w w' : World} (h : Tab w) (hS : ¬ S 0) (ho : OnlyS S w w') : Tab w' := fun j hj =>
  (World.cell?_of_block (a := ⟨0, j, none⟩) (ho.block 0 (block_lt_of_cell (h j hj)) hS)).trans (h j hj)
theorem Fo.not_tab {w : World} {f g b : Nat} {N : List Nd} {A : Option Addr} {c : Nat} {tv : Value} (h : Fo w f g b N A c tv) (ht : Tab w) : ¬ Ow f g b 0 := by
  have h0 := ht 0 (by decide)
  have nf : ¬ 0 = f := fun e => by
    have := h.kf.cell 0
    rw [← e, h0] at this
    cases this
  intro ho
  rcases h.how with ⟨_, _, _, _, e1, e2⟩ | ⟨hN, _, _, hb, _⟩
  · rw [e1, e2] at ho
    rcases ho with e | e | e <;> exact nf e
  · rcases ho with e | e | e
    · exact nf e
    · have h1 := (h.node (List.getElem?_eq_getElem hN)).2.leaf
      rw [← e, Nat.zero_mul, h0] at h1
      cases h1
    · have := hb.cell 0
      rw [← e, h0] at this
      injection this with this
      injection this with this
      cases this
/-- so few that none is too many -/
def Few (n : Nat) : Prop := n < 100000
theorem few_gt {N : List Nd} {n k : Nat} (h : Few N.length) (hn : n = N.length) (hk : k < 100000) : decide ((1048576 : Int) < (n : Int) + (k : Int)) = false := by
  have h' : N.length < 100000 := h
  exact decide_eq_false (by omega)
theorem few_lt {n : Nat} (h : Few n) : n < 1048576 := Nat.lt_of_lt_of_le (show n < 100000 from h) (by decide)
theorem few_gt2 {N : List Nd} {n m : Nat} (h : Few N.length) (hn : n = N.length) (hk : Few m) : ¬ ((1048576 : Int) < (n : Int) + ((m : Int) + 1)) := by
  have h' : N.length < 100000 := h
  have h2 : m < 100000 := hk
  omega
theorem few_gt3 {N : List Nd} {n m : Nat} (h : Few N.length) (hn : n = N.length) (hk : Few m) : ¬ ((1048576 : Int) < (n : Int) + ((m : Int) + 1 + 1)) := by
  have h' : N.length < 100000 := h
  have h2 : m < 100000 := hk
  omega
theorem few_gt4 {N : List Nd} {n m : Nat} (h : Few N.length) (hn : n = N.length) (hk : Few m) : ¬ ((1048576 : Int) < (n : Int) + ((m : Int) + 2)) := by
  have h' : N.length < 100000 := h
  have h2 : m < 100000 := hk
  omega
theorem few_way {m k t : Nat} (h : Few t) (hl : m + k ≤ t) : Few m := by
  have h' : t < 100000 := h
  show m < 100000
  omega
theorem rep_pre {N : List Nd} {x : Nat} {u : Tr} {K : List Int} (h : Rep hLf hIn N x u) (hn : NotLeaf K u) : ∃ q, N[x]? = some q ∧ q.pn = (u.pre.1 : Nat) ∧ q.pb = u.pre.2 ∧ q.has K = false := by
  cases u with
  | leaf k v => exact ⟨_, h, rfl, rfl, by unfold Nd.has; simp only [ndL, Bool.true_and]; exact decide_eq_false hn⟩
  | inner n b l r => obtain ⟨a, c, h1, _⟩ := h; exact ⟨_, h1, rfl, rfl, rfl⟩
theorem few_one {N : List Nd} {q : Nd} (h : Few N.length) : (N ++ [q]).length < 1048576 := by
  have h' : N.length < 100000 := h
  rw [List.length_append, List.length_singleton]
  omega
theorem few_mil {n : Nat} (h : Few n) : n < 1000000 := Nat.lt_of_lt_of_le (show n < 100000 from h) (by decide)
theorem few_le {n : Nat} (h : Few n) : n ≤ 100000 := Nat.le_of_lt (show n < 100000 from h)
theorem row_ty {w : World} {m c : Nat} {a : Addr} {X : List Int} (h : w.ownsRow 0 3 1 (.slice (some a) m c) m (i64s X)) {k : Nat} (hk : k = a.block) : ∃ t cs, Blk w k t cs ∧ (t = 71 ∨ t = 3) := by
  rcases h.2 with ⟨h1, _⟩ | ⟨g, cap, cur, hv, _, hh, _⟩
  · cases h1
  · injection hv with h1
    injection h1 with h1
    rw [hk, h1]
    exact ⟨3, cur, hh, .inr rfl⟩
theorem few_m {N M : List Nd} {L : List Nat} {k : Nat} (h : Few N.length) (h1 : M.length ≤ 2 + k) (h2 : k < L.length) (h3 : L.length ≤ 100000) : (N ++ M).length < 1048576 := by
  have h' : N.length < 100000 := h
  rw [List.length_append]
  omega
theorem zip2 (T : Array Value) (a b : Nat) (u v : Value) : Array.foldl (fun t (x : Nat × Value) => t.setIfInBounds x.1 x.2) T (#[a, b].zip #[u, v]) = (T.setIfInBounds a u).setIfInBounds b v := by simp
theorem exec_assign {P : Program} {o : Oper} {a : Act} {w : World} (x : Operand) (ho : o.op = .assign x) : (execOp a.eval o).run P w = .ok (.value (a.eval x)) w := by
  unfold execOp
  simp only [ho]
  rfl
set_option maxHeartbeats 2000000 in
theorem xway_none (f : Option Addr) (K : List Int) (w : World) : Calls Tryz.prog 26 #[.pointer f, .int .i64 (-1), .agg (kc K)] w fun e w' => e = .returned (.tuple #[.slice none 0 0, .int .i64 (-1)]) ∧ Below w.heap.size w w' := by
  have B0 : Hid (Below w.heap.size w (w.alloc (.cells (kc K) 25))) := (Below.refl _ _).alloc (Nat.le_refl _) _
  go_enter Tryz.func26, Tryz.ntmps26
  go_wp2_with (fail)
  generalize w.alloc (.cells (kc K) 25) = w0 at B0 ⊢
  go_loopw [8, 9] (fun v8 v9 wr => v8 = .slice none 0 0 ∧ v9 = .int .i64 (-1) ∧ wr = w0) (fun _ e _ => (intOf e).toNat)
  case atStart => exact ⟨rfl, rfl, rfl⟩
  case round =>
    obtain ⟨rfl, rfl, rfl⟩ := hrel
    go_wp2
    go_ret2
    exact ⟨rfl, B0.out⟩
set_option maxHeartbeats 8000000 in
theorem put_none {w : World} {f g b : Nat} {N : List Nd} {A : Option Addr} {c : Nat} {tv : Value} (h : Fo w f g b N A c tv) (hfr : FrOk hLf hIn N) {K V : List Int} (hK : Ky K) (hV : Ky V) (hlen : Few N.length) (ht : Tab w)
    : Calls Tryz.prog 13 #[.pointer (some ⟨f, 0, none⟩), .int .i64 (-1), .agg (kc K), .agg (kc V)] w (PutA w f g b N (.leaf K V) 1) := by
  refine (callsIn_wide (n := 2)).1 ?_
  refine callsIn_of_wp_marks Tryz.func13 rfl trivial ?_ rfl
  simp only [Tryz.ntmps13, List.size_toArray, List.length_cons, List.length_nil, Nat.reduceAdd, Nat.reduceSub, Array.replicate_succ, Array.replicate_zero, List.push_toArray, List.append_toArray, List.nil_append, List.cons_append]
  refine (wpIn_wide (n := 2)).2 ?_
  obtain ⟨hk1, hk2, hk3, hb0⟩ := three_blks w #[.pointer (some ⟨f, 0, none⟩)] (kc K) (kc V) 27 25 25
  have BX0 : Hid (Bx3 w.heap.size f K V (((w.alloc (.cells #[.pointer (some ⟨f, 0, none⟩)] 27)).alloc (.cells (kc K) 25)).alloc (.cells (kc V) 25))) := ⟨hk1, hk2, hk3⟩
  have B0 := hid hb0
  have HKI := hid (u8s_info hK); have HVI := hid (u8s_info hV)
  have FO := hid h; have HF := hid hfr; have HK := hid hK; have HV := hid hV; have HL := hid hlen; have HT := hid ht
  have CI := hid (fun w1 (hb : Below w.heap.size w w1) => xisTree_at (h.below hb) (-1))
  rw [show isTr N.length (-1) = true from rfl] at CI
  have CW := hid (fun w => xway_none (some ⟨f, 0, none⟩) K w)
  have CH := hid (fun w => xhasKey_none (some ⟨f, 0, none⟩) K w)
  clear hk1 hk2 hk3 hb0 h hfr hK hV hlen ht
  have c4 : (((w.alloc (.cells #[.pointer (some ⟨f, 0, none⟩)] 27)).alloc (.cells (kc K) 25)).alloc (.cells (kc V) 25)).cell? ⟨w.heap.size, 0, none⟩ = some (.pointer (some ⟨f, 0, none⟩)) := BX0.out.k4.cell 0
  go_upto_region 5 with (first
    | (go_at_call 17; refine (CI.out _ B0.out).mono ?_; rintro e w1 ⟨rfl, rfl⟩)
    | (refine load_at rfl 25 (.tmp 6) rfl (w.heap.size + 1) 0 rfl (u8s K) _ (blk_key BX0.out.k6) Tryz.underlying25 rfl HKI.out (kc K) rfl ?_)
    | (go_at_call 26; refine (CW.out _).mono ?_; rintro e w2 ⟨rfl, hb⟩; have BX2 := hid (BX0.out.below hb); have B2 := hid (B0.out.trans (hb.mono B0.out.size)); have c4b : w2.cell? ⟨w.heap.size, 0, none⟩ = some (.pointer (some ⟨f, 0, none⟩)) := BX2.out.k4.cell 0; clear hb)
    | (refine load_at rfl 25 (.tmp 6) rfl (w.heap.size + 1) 0 rfl (u8s K) _ (blk_key BX2.out.k6) Tryz.underlying25 rfl HKI.out (kc K) rfl ?_)
    | (go_at_call 27; refine (CH.out _).mono ?_; rintro e w3 ⟨rfl, hb⟩; have BX3 := hid (BX2.out.below hb); have B3 := hid (B2.out.trans (hb.mono B2.out.size)); clear hb))
  clear c4 c4b
  refine region_kept (Kp w3) (by kernel_rfl) (by kernel_rfl) (kp_begin w3) ?_
  repeat (first
    | go_big_quiet_skip
    | (go_big_quiet_want; go_big_quiet_op; first | go_big_quiet_on))
  refine wpQuiet_nil ?_
  intro _ hw'
  obtain ⟨p, hw''⟩ := hw'
  subst hw''
  have BX4 := hid (BX3.out.below p.h)
  have B4 := hid (B3.out.trans (p.h.mono B3.out.size))
  have c4 : p.w.cell? ⟨w.heap.size, 0, none⟩ = some (.pointer (some ⟨f, 0, none⟩)) := BX4.out.k4.cell 0
  generalize p.w = w4 at BX4 B4 c4 ⊢
  clear BX0 BX2 BX3 B0 B2 B3 CI CW CH
  have F4 := FO.out.below B4.out
  have ROW4 : Hid (w4.ownsRow 0 3 1 (.slice none 0 0) 0 (i64s (ns ([] : List Nat)))) := ⟨rfl, .inl ⟨rfl, rfl⟩⟩
  have c0 : w4.cell? ⟨f, 0, none⟩ = some (.slice A N.length c) := F4.kf.cell 0
  obtain ⟨n, hn⟩ : ∃ n, n = N.length := ⟨_, rfl⟩
  rw [← hn] at c0
  have HN := hid hn
  have hgt : ¬ ((1048576 : Int) < (n : Int) + 1) := of_decide_eq_false (few_gt (k := 1) HL.out hn (by decide))
  have CL := hid (xleaf_at F4 K V HK.out HV.out (few_lt HL.out) (HT.out.below B4.out))
  have HF4 := hid F4
  clear F4 hn
  go_upto_region 13 with (fail)
  clear c0 hgt
  go_upto_region 14 with (first
    | (refine load_at rfl 25 (.tmp 6) rfl (w.heap.size + 1) 0 rfl (u8s K) _ (blk_key BX4.out.k6) Tryz.underlying25 rfl HKI.out (kc K) rfl ?_)
    | (refine load_at rfl 25 (.tmp 7) rfl (w.heap.size + 1 + 1) 0 rfl (u8s V) _ (blk_key BX4.out.k7) Tryz.underlying25 rfl HVI.out (kc V) rfl ?_)
    | (go_at_call 28; refine CL.out.mono ?_; rintro e w5 ⟨rfl, hg⟩; have HG5 := hid hg; clear hg))
  obtain ⟨g5, b5, A5, c5, tv5, hfo5, hg5, hb5, hon5⟩ := HG5.out.parts
  have BX5 := hid (BX4.out.only HF4.out hon5)
  have ROW5 := hid (own_only HF4.out hon5 ROW4.out)
  have HN5 : Hid (N.length = n) := HN.out.symm
  rw [HN5.out]
  have SZ5 : Hid (w.heap.size ≤ w5.heap.size) := Nat.le_trans B4.out.size hon5.size
  have BX6 := hid (BX5.out.below ((Below.refl w5.heap.size w5).alloc (Nat.le_refl _) (.cells #[.int .i64 n] 3)))
  have ROW6 := hid (own_keep ROW5.out (fun k hk => Below.heap_alloc w5 (.cells #[.int .i64 n] 3) k (ROW5.out.lt k hk).2))
  have FO6 := hid (hfo5.below ((Below.refl w5.heap.size w5).alloc (Nat.le_refl _) (.cells #[.int .i64 n] 3)))
  have K15 : Hid (Blk (w5.alloc (.cells #[.int .i64 n] 3)) w5.heap.size 3 #[.int .i64 (n : Nat)]) := Blk.new w5 3 _
  have ON6 : Hid (OnlyS (Ow f g b) w (w5.alloc (.cells #[.int .i64 n] 3))) := ((OnlyS.of_below B4.out (Nat.le_refl _)).trans hon5).alloc _
  have G5 : Hid (g5 = g ∨ w.heap.size ≤ g5) := hg5.imp id (fun h => Nat.le_trans B4.out.size h)
  have Q5 : Hid (b5 = b ∨ w.heap.size ≤ b5) := hb5.imp id (fun h => Nat.le_trans B4.out.size h)
  have ROWNE : Hid (∀ k, (Value.slice none 0 0).ownBlock = some k → k ≠ w5.heap.size) := fun k hk => Nat.ne_of_lt (ROW5.out.lt k hk).2
  clear hfo5 hg5 hb5 hon5 HG5 CL c4 BX5 ROW5 ROW4 BX4 B4 HF4
  generalize hE15 : w5.heap.size = e15 at K15 SZ5 ROWNE ⊢
  generalize w5.alloc (.cells #[.int .i64 n] 3) = w6 at BX6 ROW6 FO6 K15 ON6 ⊢
  clear hE15
  obtain ⟨U, hU0, hUL, hSO⟩ : ∃ U : Nat → Tr, U 0 = .leaf K V ∧ U (([] : List Nat)).length = .leaf K V ∧ StepsOk N K U ([] : List Nat) := ⟨fun _ => .leaf K V, rfl, rfl, StepsOk.nil⟩
  have HU0 := hid hU0; have HSO := hid hSO
  have I0 : Hid (PtE 1 (fun _ => False) f g b w N K U ([] : List Nat) w.heap.size (w.heap.size + 1) e15 [] w6) := ⟨g5, b5, A5, c5, tv5, [ndL K V (hLf K V)], n, FO6.out, G5, Q5, ON6.out, BX6.out.k4, BX6.out.k6, K15.out, SZ5.out, by rw [List.length_append, HN5.out]; simp, by simp, fun _ h => h.elim, fun _ => by
    obtain ⟨h1, h2⟩ := FrOk.leaf hLf hIn HF.out HK.out HV.out
    rw [HN5.out] at h2
    exact ⟨h1, by show Rep _ _ _ _ (U 0); rw [HU0.out]; exact h2⟩⟩
  have CB := hid (fun w => xback_any none 0 0 w)
  clear hU0 hSO
  go_wp2_with (go_at_call 30; refine (CB.out _).mono ?_; rintro e w7 ⟨rfl, hw7⟩; have HW7 := hid hw7; clear hw7)
  have S6 : Hid (w7.heap.size = w6.heap.size + 1) := by show _ = _; rw [HW7.out]; simp
  have BL7 : Hid (Below w6.heap.size w6 w7) := by show Below _ _ _; rw [HW7.out]; exact (Below.refl _ _).alloc (Nat.le_refl _) _
  have IT : Hid (ItB w6.heap.size none 0 0 (ns ([] : List Nat)) w7) := by
    refine ⟨?_, own_keep ROW6.out (fun k hk => BL7.out.block k (ROW6.out.lt k hk).2)⟩
    rw [HW7.out]; exact Blk.new w6 71 _
  have NE7 : Hid (w6.heap.size ≠ e15) := fun e => by have h1 := K15.out.lt; omega
  have RNE : Hid (∀ k, ItS w6.heap.size none k → k ≠ e15) := fun k hk => by rcases hk with h | ⟨a, h, _⟩; rw [h]; exact NE7.out; cases h
  have RTY : Hid (∀ k, ItS w6.heap.size none k → ∃ t cs, Blk w7 k t cs ∧ (t = 71 ∨ t = 3)) := fun k hk => by rcases hk with h | ⟨a, h, _⟩; rw [h]; exact ⟨_, _, IT.out.kb, .inl rfl⟩; cases h
  have I7 : Hid (PtE 1 (ItS w6.heap.size none) f g b w N K U ([] : List Nat) w.heap.size (w.heap.size + 1) e15 [] w7) := by
    obtain ⟨g', b', A', c', tv', M, top, hs⟩ := I0.out
    exact ⟨g', b', A', c', tv', M, top, hs.fo.below BL7.out, hs.hg, hs.hb, hs.on.trans (OnlyS.of_below BL7.out (Nat.le_refl _)), hs.k4.below BL7.out, hs.k6.below BL7.out, hs.k15.below BL7.out, hs.he, hs.lt, hs.few, fun k hk => ⟨RTY.out k hk, RNE.out k hk⟩, hs.cond⟩
  have BX7 := hid (BX6.out.below BL7.out)
  have BW7 : Hid (w.heap.size ≤ w7.heap.size) := by obtain ⟨g', b', A', c', tv', M, top, hs⟩ := I7.out; exact hs.on.size
  have LT7 : Hid (e15 < w7.heap.size ∧ w.heap.size < w7.heap.size) := ⟨(K15.out.below BL7.out).lt, BX7.out.k4.lt⟩
  have ET : Hid (∃ t cs, Blk w7 e15 t cs ∧ t = 3) := ⟨_, _, K15.out.below BL7.out, rfl⟩
  clear BX6 ROW6 FO6 ON6 G5 Q5 HW7 BX7 CB I0 SZ5
  have HM : Hid (0 = (([] : List Nat)).length) := rfl
  generalize w6.heap.size = bs at S6 IT RNE RTY NE7 I7 ⊢
  clear K15
  clear hUL
  refine (wpIn_wide (n := 2)).1 ?_
  refine wpIn_rangeFunc_ownF (n := 2) rfl (by omega) (gf := 56) (lb := #[.pointer (some ⟨bs, 0, none⟩)]) rfl trivial (enters_of Tryz.func56 (by kernel_rfl) rfl)
    (back_stops (m := (([] : List Nat)).length) (by decide) bs none 0 (ns ([] : List Nat)) w7 IT.out) KpS.t (KpS.b (S := ItS bs none) (fun k hk => by obtain ⟨t, cs, h1, _⟩ := RTY.out k hk; exact h1.lt)) (Below.refl _ _) (fun _ => rfl) (PtE 1 (ItS bs none) f g b w N K U ([] : List Nat) w.heap.size (w.heap.size + 1) e15) (fun _ _ _ => False) (PtE.own (by have := LT7.out; omega)) (fun _ _ _ _ _ hs _ _ => hs) I7.out
    ?a1 ?assign ?body ?done ?stop
  case assign =>
    intro l x W K hK
    have HKK := hid hK
    clear hK
    dsimp only [encB]
    rw [zip2]
    simp only [List.setIfInBounds_toArray, List.set_cons_succ, List.set_cons_zero]
    refine wpIn_region_lit (l := [_]) ?_
    refine wpListIn_plain rfl (fun K2 hK2 => ?_)
    refine wpInR_value (.int .i64 (nv (ns ([] : List Nat)) x)) (fun c h => by cases h) (by rw [exec_assign (.tmp 80) rfl]; rfl) ?_
    refine hK2 _ _ ?_
    simp only [Act.put, List.setIfInBounds_toArray, List.set_cons_succ, List.set_cons_zero]
    exact HKK.out
  case body =>
    rintro l pre x W hI hlen
    exact absurd x.isLt (Nat.not_lt_zero _)
  case done =>
    rintro D' ys W hD hys hI hK
    obtain ⟨g', b', A', c', tv', M, top, hs⟩ := hI
    have c15 : W.cell? ⟨e15, 0, none⟩ = some (.int .i64 (top : Nat)) := hs.k15.cell 0
    have HS := hid hs; have HKD := hid hK; have HYS := hid hys
    have HD : Hid (w7.heap.size ≤ D') := hD
    clear hs hK hys hD
    go_wp2
    refine ⟨by simp, .inl ⟨_, _, rfl, run_takeDeferred HKD.out, ?_⟩⟩
    have hg := grownBy_putObj' W D' (.deferred none)
    have hr : ∀ r, some D' = some r → ∃ o : Obj, W.heap[r]? = some o ∧ o.isCells = false := fun r e => by cases e; exact ⟨_, HKD.out, rfl⟩
    have hl : ys.length = (([] : List Nat)).length := by
      have := congrArg List.length HYS.out
      rw [List.length_map, downs_length] at this
      exact this
    obtain ⟨h1, h2⟩ := HS.out.cond (by rw [hl]; exact HYS.out)
    rw [hl, Nat.sub_self, HU0.out] at h2
    refine ⟨_, results_tmp2 rfl _ _ _, M, top, rfl, ⟨g', b', A', c', tv', HS.out.fo.own hg hr, HS.out.hg, HS.out.hb, HS.out.on.grown hg (fun k e => by cases e; right; have := HD.out; have := LT7.out; have := BW7.out; omega)⟩, h2, h1, ?_⟩
    have := HS.out.few
    rw [hl] at this
    exact this
  case stop =>
    rintro D c pre W _ _ h _
    exact h.elim
end Go.Proofs.YtjhaamffgkialaaGreatDoor
/-
  What is proved here: Put over a key that is there, with another value.
-/
namespace Go.Proofs.YtjhaamffgkialaaGreatDoor
open Go.ChangeShapes Go.WideShapes Go.ChangeAt Go.RowKit Go.Shelf
set_option linter.unusedVariables false
set_option linter.unusedSimpArgs false
set_option maxRecDepth 20000
attribute [local go_sem] Oper.semAt_some

set_option maxHeartbeats 8000000 in
theorem put_over {w : World} {f g b : Nat} {N : List Nd} {A : Option Addr} {c : Nat} {tv : Value} (h : Fo w f g b N A c tv) (hfr : FrOk hLf hIn N) {K V : List Int} (hK : Ky K) (hV : Ky V) (hlen : Few N.length) (ht : Tab w)
    (i : Nat) (t : Tr) (hr : Rep hLf hIn N i t) (hok : t.ok) (hsm : Few t.list.length) (V0 : List Int) (hg0 : ∀ L u x, Way N K t i L u x → Rep hLf hIn N x u → u.ok → Ends K u → u = .leaf K V0) (hV0 : V0 ≠ V)
    : Calls Tryz.prog 13 #[.pointer (some ⟨f, 0, none⟩), .int .i64 i, .agg (kc K), .agg (kc V)] w (PutA w f g b N (t.put K V) (2 + t.list.length)) := by
  refine (callsIn_wide (n := 2)).1 ?_
  refine callsIn_of_wp_marks Tryz.func13 rfl trivial ?_ rfl
  simp only [Tryz.ntmps13, List.size_toArray, List.length_cons, List.length_nil, Nat.reduceAdd, Nat.reduceSub, Array.replicate_succ, Array.replicate_zero, List.push_toArray, List.append_toArray, List.nil_append, List.cons_append]
  refine (wpIn_wide (n := 2)).2 ?_
  obtain ⟨hk1, hk2, hk3, hb0⟩ := three_blks w #[.pointer (some ⟨f, 0, none⟩)] (kc K) (kc V) 27 25 25
  have BX0 : Hid (Bx3 w.heap.size f K V (((w.alloc (.cells #[.pointer (some ⟨f, 0, none⟩)] 27)).alloc (.cells (kc K) 25)).alloc (.cells (kc V) 25))) := ⟨hk1, hk2, hk3⟩
  have B0 := hid hb0
  have HKI := hid (u8s_info hK); have HVI := hid (u8s_info hV)
  have FO := hid h; have HF := hid hfr; have HK := hid hK; have HV := hid hV; have HL := hid hlen; have HT := hid ht
  have CI := hid (fun w1 (hb : Below w.heap.size w w1) => xisTree_at (h.below hb) i)
  have hti : isTr N.length i = true := by unfold isTr isNd; rw [decide_eq_true (show (0 : Int) ≤ i ∧ (i : Int) < N.length from ⟨by omega, by have := hr.lt; omega⟩)]; simp
  rw [hti] at CI
  have CW := hid (fun w1 (hb : Below w.heap.size w w1) => xway_at (h.below hb) i t hr hok K hK (show t.list.length < 100000 from hsm))
  have HG0 := hid hg0; have HSM := hid hsm
  clear hti hr hok hsm hg0
  clear hk1 hk2 hk3 hb0 h hfr hK hV hlen ht
  have c4 : (((w.alloc (.cells #[.pointer (some ⟨f, 0, none⟩)] 27)).alloc (.cells (kc K) 25)).alloc (.cells (kc V) 25)).cell? ⟨w.heap.size, 0, none⟩ = some (.pointer (some ⟨f, 0, none⟩)) := BX0.out.k4.cell 0
  go_upto_region 4 with (first
    | (go_at_call 17; refine (CI.out _ B0.out).mono ?_; rintro e w1 ⟨rfl, rfl⟩)
    | (refine load_at rfl 25 (.tmp 6) rfl (w.heap.size + 1) 0 rfl (u8s K) _ (blk_key BX0.out.k6) Tryz.underlying25 rfl HKI.out (kc K) rfl ?_)
    | (go_at_call 26; refine (CW.out _ B0.out).mono ?_; rintro e w2 ⟨L, u, x, A2, c2, rfl, hway, hru, huok, hend, hlu, hrow, hb⟩; have BX2 := hid (BX0.out.below hb); have B2 := hid (B0.out.trans (hb.mono B0.out.size)); obtain rfl := HG0.out L u x hway hru huok hend; have hq : N[x]? = some (ndL K V0 (hLf K V0)) := hru; have CH := hid (xhasKey_at (FO.out.below B2.out) x _ hq K HK.out); rw [show (ndL K V0 (hLf K V0)).has K = true by unfold Nd.has; simp [ndL]] at CH; have WAY := hid hway; have HRU := hid hru; have HUO := hid huok; have HLU := hid hlu; have ROW2 := hid (own_weak hrow (Nat.zero_le _)); have HQ := hid hq; clear hway hru huok hend hlu hrow hb hq))
  clear c4
  have c4 : w2.cell? ⟨w.heap.size, 0, none⟩ = some (.pointer (some ⟨f, 0, none⟩)) := BX2.out.k4.cell 0
  go_upto_region 5 with (first
    | (refine load_at rfl 25 (.tmp 6) rfl (w.heap.size + 1) 0 rfl (u8s K) _ (blk_key BX2.out.k6) Tryz.underlying25 rfl HKI.out (kc K) rfl ?_)
    | (go_at_call 27; refine CH.out.mono ?_; rintro e w3 ⟨rfl, hb⟩; have BX3 := hid (BX2.out.below hb); have B3 := hid (B2.out.trans (hb.mono B2.out.size)); have ROW3a := hid (own_keep ROW2.out (fun k hk => hb.block k (ROW2.out.lt k hk).2)); clear hb))
  clear c4
  have F3 := FO.out.below B3.out
  obtain ⟨hA3, na3⟩ := F3.node HQ.out
  have cn0 : w3.cell? ⟨f, 0, none⟩ = some (.slice (some ⟨g, 0, none⟩) N.length c) := by rw [← hA3]; exact F3.kf.cell 0
  obtain ⟨n, hn⟩ : ∃ n, n = N.length := ⟨_, rfl⟩
  rw [← hn] at cn0
  have hlt : x < n := by rw [hn]; exact (List.getElem?_eq_some_iff.1 HQ.out).1
  have hne : ((x : Int) != -1) = true := by simp
  have hnl : ((x : Int) == -1) = false := by simp
  have c40 : w3.cell? ⟨w.heap.size, 0, none⟩ = some (.pointer (some ⟨f, 0, none⟩)) := BX3.out.k4.cell 0
  have cn := fun p : PW (Kp w3) => cell_bel p.h cn0
  have cp := fun p : PW (Kp w3) => cell_bel p.h c40
  have NV : Hid (w3.rangeAt g (x * 132 + 33) (u8s V0)) := na3.val
  have HV0I := hid (u8s_info (F3.ok _ (List.mem_of_getElem? HQ.out)).v)
  have NVp := hid (fun p : PW (Kp w3) => rng_bel p.h NV.out)
  have K7p := hid (fun p : PW (Kp w3) => kp_key BX3.out.k7 p)
  have heq := fun w => eql_key V0 V (F3.ok _ (List.mem_of_getElem? HQ.out)).v HV.out w
  rw [decide_eq_false hV0] at heq
  clear F3 hA3 na3 cn0 c40
  refine region_kept (Kp w3) (by kernel_rfl) (by kernel_rfl) (kp_begin w3) ?_
  repeat (first
    | go_big_quiet_skip
    | (go_big_quiet_want; refine quiet_load 25 (.tmp 41) rfl g (x * 132 + 33) rfl (u8s V0) _ (fun p => NVp.out p) Tryz.underlying25 rfl HV0I.out (kc V0) rfl ?_; go_big_quiet_on; simp only [Act.put, List.setIfInBounds_toArray, List.set_cons_zero, List.set_cons_succ])
    | (go_big_quiet_want; refine quiet_load 25 (.tmp 7) rfl (w.heap.size + 1 + 1) 0 rfl (u8s V) _ (fun p => K7p.out p) Tryz.underlying25 rfl HVI.out (kc V) rfl ?_; go_big_quiet_on; simp only [Act.put, List.setIfInBounds_toArray, List.set_cons_zero, List.set_cons_succ])
    | (go_big_quiet_want; go_big_quiet_op; first | go_big_quiet_on))
  refine wpQuiet_nil ?_
  intro _ hw'
  obtain ⟨p, hw''⟩ := hw'
  subst hw''
  clear cn cp heq
  have BX4 := hid (BX3.out.below p.h)
  have B4 := hid (B3.out.trans (p.h.mono B3.out.size))
  have ROW3 := hid (own_keep ROW3a.out (fun k hk => p.h.block k (ROW3a.out.lt k hk).2))
  have c4 : p.w.cell? ⟨w.heap.size, 0, none⟩ = some (.pointer (some ⟨f, 0, none⟩)) := BX4.out.k4.cell 0
  generalize p.w = w4 at BX4 B4 c4 ROW3 ⊢
  clear BX0 BX2 BX3 B0 B2 B3 CI CW CH ROW2 ROW3a
  have F4 := FO.out.below B4.out
  have ROW4 : Hid (w4.ownsRow 0 3 1 (.slice A2 L.length c2) L.length (i64s (ns L))) := ROW3.out
  have c0 : w4.cell? ⟨f, 0, none⟩ = some (.slice A N.length c) := F4.kf.cell 0
  rw [← hn] at c0
  have HN := hid hn
  have hgt : ¬ ((1048576 : Int) < (n : Int) + ((L.length : Int) + 1)) := few_gt2 HL.out hn (few_way HSM.out HLU.out)
  have CL := hid (xleaf_at F4 K V HK.out HV.out (few_lt HL.out) (HT.out.below B4.out))
  have HF4 := hid F4
  clear F4 hn
  go_upto_region 13 with (fail)
  clear c0 hgt
  go_upto_region 14 with (first
    | (refine load_at rfl 25 (.tmp 6) rfl (w.heap.size + 1) 0 rfl (u8s K) _ (blk_key BX4.out.k6) Tryz.underlying25 rfl HKI.out (kc K) rfl ?_)
    | (refine load_at rfl 25 (.tmp 7) rfl (w.heap.size + 1 + 1) 0 rfl (u8s V) _ (blk_key BX4.out.k7) Tryz.underlying25 rfl HVI.out (kc V) rfl ?_)
    | (go_at_call 28; refine CL.out.mono ?_; rintro e w5 ⟨rfl, hg⟩; have HG5 := hid hg; clear hg))
  obtain ⟨g5, b5, A5, c5, tv5, hfo5, hg5, hb5, hon5⟩ := HG5.out.parts
  have BX5 := hid (BX4.out.only HF4.out hon5)
  have ROW5 := hid (own_only HF4.out hon5 ROW4.out)
  have HN5 : Hid (N.length = n) := HN.out.symm
  rw [HN5.out]
  have SZ5 : Hid (w.heap.size ≤ w5.heap.size) := Nat.le_trans B4.out.size hon5.size
  have BX6 := hid (BX5.out.below ((Below.refl w5.heap.size w5).alloc (Nat.le_refl _) (.cells #[.int .i64 n] 3)))
  have ROW6 := hid (own_keep ROW5.out (fun k hk => Below.heap_alloc w5 (.cells #[.int .i64 n] 3) k (ROW5.out.lt k hk).2))
  have FO6 := hid (hfo5.below ((Below.refl w5.heap.size w5).alloc (Nat.le_refl _) (.cells #[.int .i64 n] 3)))
  have K15 : Hid (Blk (w5.alloc (.cells #[.int .i64 n] 3)) w5.heap.size 3 #[.int .i64 (n : Nat)]) := Blk.new w5 3 _
  have ON6 : Hid (OnlyS (Ow f g b) w (w5.alloc (.cells #[.int .i64 n] 3))) := ((OnlyS.of_below B4.out (Nat.le_refl _)).trans hon5).alloc _
  have G5 : Hid (g5 = g ∨ w.heap.size ≤ g5) := hg5.imp id (fun h => Nat.le_trans B4.out.size h)
  have Q5 : Hid (b5 = b ∨ w.heap.size ≤ b5) := hb5.imp id (fun h => Nat.le_trans B4.out.size h)
  have ROWNE : Hid (∀ k, (Value.slice A2 L.length c2).ownBlock = some k → k ≠ w5.heap.size) := fun k hk => Nat.ne_of_lt (ROW5.out.lt k hk).2
  clear hfo5 hg5 hb5 hon5 HG5 CL c4 BX5 ROW5 ROW4 BX4 B4 HF4
  generalize hE15 : w5.heap.size = e15 at K15 SZ5 ROWNE ⊢
  generalize w5.alloc (.cells #[.int .i64 n] 3) = w6 at BX6 ROW6 FO6 K15 ON6 ⊢
  clear hE15
  obtain ⟨U, hU0, hUL, hSO⟩ : ∃ U : Nat → Tr, U 0 = t.put K V ∧ U (L).length = (Tr.leaf K V0).put K V ∧ StepsOk N K U L := steps_of HK.out HV.out WAY.out
  have HU0 := hid hU0; have HSO := hid hSO
  have I0 : Hid (PtE 1 (fun _ => False) f g b w N K U L w.heap.size (w.heap.size + 1) e15 [] w6) := ⟨g5, b5, A5, c5, tv5, [ndL K V (hLf K V)], n, FO6.out, G5.out, Q5.out, ON6.out, BX6.out.k4, BX6.out.k6, K15.out, SZ5.out, by rw [List.length_append, HN5.out]; simp, by simp, fun _ h => h.elim, fun _ => by
    obtain ⟨h1, h2⟩ := FrOk.leaf hLf hIn HF.out HK.out HV.out
    rw [HN5.out] at h2
    exact ⟨h1, by show Rep _ _ _ _ (U L.length); rw [hUL]; show Rep _ _ _ _ (if K = K then _ else _); rw [if_pos rfl]; exact h2⟩⟩
  have CB := hid (fun w => xback_any A2 L.length c2 w)
  clear hU0 hSO
  go_wp2_with (go_at_call 30; refine (CB.out _).mono ?_; rintro e w7 ⟨rfl, hw7⟩; have HW7 := hid hw7; clear hw7)
  have S6 : Hid (w7.heap.size = w6.heap.size + 1) := by show _ = _; rw [HW7.out]; simp
  have BL7 : Hid (Below w6.heap.size w6 w7) := by show Below _ _ _; rw [HW7.out]; exact (Below.refl _ _).alloc (Nat.le_refl _) _
  have IT : Hid (ItB w6.heap.size A2 L.length c2 (ns L) w7) := by
    refine ⟨?_, own_keep ROW6.out (fun k hk => BL7.out.block k (ROW6.out.lt k hk).2)⟩
    rw [HW7.out]; exact Blk.new w6 71 _
  have NE7 : Hid (w6.heap.size ≠ e15) := fun e => by have h1 := K15.out.lt; omega
  have RNE : Hid (∀ k, ItS w6.heap.size A2 k → k ≠ e15) := fun k hk => by rcases hk with h | ⟨a, h, e⟩; rw [h]; exact NE7.out; subst h; rw [e]; exact ROWNE.out _ rfl
  have RTY : Hid (∀ k, ItS w6.heap.size A2 k → ∃ t cs, Blk w7 k t cs ∧ (t = 71 ∨ t = 3)) := fun k hk => by rcases hk with h | ⟨a, h, e⟩; rw [h]; exact ⟨_, _, IT.out.kb, .inl rfl⟩; subst h; rw [e]; exact row_ty IT.out.row rfl
  have I7 : Hid (PtE 1 (ItS w6.heap.size A2) f g b w N K U L w.heap.size (w.heap.size + 1) e15 [] w7) := by
    obtain ⟨g', b', A', c', tv', M, top, hs⟩ := I0.out
    exact ⟨g', b', A', c', tv', M, top, hs.fo.below BL7.out, hs.hg, hs.hb, hs.on.trans (OnlyS.of_below BL7.out (Nat.le_refl _)), hs.k4.below BL7.out, hs.k6.below BL7.out, hs.k15.below BL7.out, hs.he, hs.lt, hs.few, fun k hk => ⟨RTY.out k hk, RNE.out k hk⟩, hs.cond⟩
  have BX7 := hid (BX6.out.below BL7.out)
  have BW7 : Hid (w.heap.size ≤ w7.heap.size) := by obtain ⟨g', b', A', c', tv', M, top, hs⟩ := I7.out; exact hs.on.size
  have LT7 : Hid (e15 < w7.heap.size ∧ w.heap.size < w7.heap.size) := ⟨(K15.out.below BL7.out).lt, BX7.out.k4.lt⟩
  have ET : Hid (∃ t cs, Blk w7 e15 t cs ∧ t = 3) := ⟨_, _, K15.out.below BL7.out, rfl⟩
  clear BX6 ROW6 FO6 ON6 G5 Q5 HW7 BX7 CB I0 SZ5
  have HM : Hid (L.length = (L).length) := rfl
  generalize w6.heap.size = bs at S6 IT RNE RTY NE7 I7 ⊢
  clear K15
  clear hUL hne hnl hlt hV0
  refine (wpIn_wide (n := 2)).1 ?_
  refine wpIn_rangeFunc_ownF (n := 2) rfl (by omega) (gf := 56) (lb := #[.pointer (some ⟨bs, 0, none⟩)]) rfl trivial (enters_of Tryz.func56 (by kernel_rfl) rfl)
    (back_stops (m := (L).length) (few_mil (few_way HSM.out HLU.out)) bs A2 c2 (ns L) w7 IT.out) KpS.t (KpS.b (S := ItS bs A2) (fun k hk => by obtain ⟨t, cs, h1, _⟩ := RTY.out k hk; exact h1.lt)) (Below.refl _ _) (fun _ => rfl) (PtE 1 (ItS bs A2) f g b w N K U L w.heap.size (w.heap.size + 1) e15) (fun _ _ _ => False) (PtE.own (by have := LT7.out; omega)) (fun _ _ _ _ _ hs _ _ => hs) I7.out
    ?a1 ?assign ?body ?done ?stop
  case assign =>
    intro l x W K hK
    have HKK := hid hK
    clear hK
    dsimp only [encB]
    rw [zip2]
    simp only [List.setIfInBounds_toArray, List.set_cons_succ, List.set_cons_zero]
    refine wpIn_region_lit (l := [_]) ?_
    refine wpListIn_plain rfl (fun K2 hK2 => ?_)
    refine wpInR_value (.int .i64 (nv (ns L) x)) (fun c h => by cases h) (by rw [exec_assign (.tmp 80) rfl]; rfl) ?_
    refine hK2 _ _ ?_
    simp only [Act.put, List.setIfInBounds_toArray, List.set_cons_succ, List.set_cons_zero]
    exact HKK.out
  case body =>
    rintro l pre x W hI hlen
    obtain ⟨g', b', A', c', tv', M, top, hs⟩ := hI
    obtain ⟨k, hk⟩ := x
    obtain ⟨y, q, n0, a0, d0, e1, e2, e3, e4, e5, la, ld, ln, hst⟩ := HSO.out k hk
    have hq : (N ++ M)[y]? = some q := by rw [List.getElem?_append_left (List.getElem?_eq_some_iff.1 e2).1]; exact e2
    have hlm : (N ++ M).length < 1048576 := few_m HL.out (Nat.le_trans hs.few (by omega)) hlen (few_le (few_way HSM.out HLU.out))
    have ll : N.length ≤ (N ++ M).length := by rw [List.length_append]; omega
    have CT := hid (xturned_at hs.fo y top a0 d0 n0 q hq hs.lt e3 e4 e5 (Nat.lt_of_lt_of_le la ll) (Nat.lt_of_lt_of_le ld ll) ln K HK.out hlm (tab_only HT.out (FO.out.not_tab HT.out) hs.on))
    have ex : nv (ns L) (⟨k, hk⟩ : Fin (L).length) = (y : Int) := by unfold nv ns; rw [List.getElem?_map, e1]; rfl
    have c4 : W.cell? ⟨w.heap.size, 0, none⟩ = some (.pointer (some ⟨f, 0, none⟩)) := hs.k4.cell 0
    have c15 : W.cell? ⟨e15, 0, none⟩ = some (.int .i64 (top : Nat)) := hs.k15.cell 0
    have ld6 : (Instr.loadAt 25 (.pointer (some ⟨w.heap.size + 1, 0, none⟩))).run Tryz.prog W = .ok (.agg (kc K)) W := run_loadAt_mid W (w.heap.size + 1) 0 25 (u8s K) _ (blk_key hs.k6) Tryz.underlying25 rfl HKI.out
    have HST := hid (hst M top)
    obtain ⟨nl, hnl⟩ : ∃ nl, nl = (N ++ M).length := ⟨_, rfl⟩
    rw [← hnl] at CT
    have HNL2 := hid hnl
    clear hnl
    have HS := hid hs
    have HLE := hid hlen
    clear e1 e2 e3 e4 e5 la ld ln hst hq hlm ll hs hlen
    dsimp only
    rw [ex]
    clear ex
    refine wpIn_block ?_
    refine wpIn_cut (fun _ w' => KeepsOthers W w' ∧ KpS (ItS bs A2) W w' ∧ PtE 1 (ItS bs A2) f g b w N K U L w.heap.size (w.heap.size + 1) e15 (pre ++ [⟨k, hk⟩]) w') ?_ ?_
    · refine plain_round (L := [_, _, _, _, _, _]) (by rfl) ?_
      go_wp2_with (first
        | (refine load_at rfl 25 (.tmp 6) rfl (w.heap.size + 1) 0 rfl (u8s K) _ (blk_key HS.out.k6) Tryz.underlying25 rfl HKI.out (kc K) rfl ?_)
        | (go_at_call 31; refine CT.out.mono ?_; rintro e W2 ⟨rfl, hg⟩; have hp0 := HS.out.step HLE.out ⟨k, hk⟩ _ hg HST.out; rw [← HNL2.out] at hp0; have HP := hid hp0; clear hp0; have c15b : W2.cell? ⟨e15, 0, none⟩ = some (.int .i64 (top : Nat)) := (grew_blk HS.out hg).cell 0; have f15b : W2.frozen? ⟨e15, 0, none⟩ = false := (grew_blk HS.out hg).frozen 0; clear hg))
      exact HP.out
    · intro a' w' h
      exact h
  case done =>
    rintro D' ys W hD hys hI hK
    obtain ⟨g', b', A', c', tv', M, top, hs⟩ := hI
    have c15 : W.cell? ⟨e15, 0, none⟩ = some (.int .i64 (top : Nat)) := hs.k15.cell 0
    have HS := hid hs; have HKD := hid hK; have HYS := hid hys
    have HD : Hid (w7.heap.size ≤ D') := hD
    clear hs hK hys hD
    go_wp2
    refine ⟨by simp, .inl ⟨_, _, rfl, run_takeDeferred HKD.out, ?_⟩⟩
    have hg := grownBy_putObj' W D' (.deferred none)
    have hr : ∀ r, some D' = some r → ∃ o : Obj, W.heap[r]? = some o ∧ o.isCells = false := fun r e => by cases e; exact ⟨_, HKD.out, rfl⟩
    have hl : ys.length = (L).length := by
      have := congrArg List.length HYS.out
      rw [List.length_map, downs_length] at this
      exact this
    obtain ⟨h1, h2⟩ := HS.out.cond (by rw [hl]; exact HYS.out)
    rw [hl, Nat.sub_self, HU0.out] at h2
    refine ⟨_, results_tmp2 rfl _ _ _, M, top, rfl, ⟨g', b', A', c', tv', HS.out.fo.own hg hr, HS.out.hg, HS.out.hb, HS.out.on.grown hg (fun k e => by cases e; right; have := HD.out; have := LT7.out; have := BW7.out; omega)⟩, h2, h1, ?_⟩
    have := HS.out.few
    rw [hl] at this
    exact Nat.le_trans this (by have := HLU.out; omega)
  case stop =>
    rintro D c pre W _ _ h _
    exact h.elim
end Go.Proofs.YtjhaamffgkialaaGreatDoor
/-
  What is proved here: Put of a key that is not there.
-/
namespace Go.Proofs.YtjhaamffgkialaaGreatDoor
open Go.ChangeShapes Go.WideShapes Go.ChangeAt Go.RowKit Go.Shelf
set_option linter.unusedVariables false
set_option linter.unusedSimpArgs false
set_option maxRecDepth 20000
attribute [local go_sem] Oper.semAt_some

set_option maxHeartbeats 8000000 in
theorem put_fork {w : World} {f g b : Nat} {N : List Nd} {A : Option Addr} {c : Nat} {tv : Value} (h : Fo w f g b N A c tv) (hfr : FrOk hLf hIn N) {K V : List Int} (hK : Ky K) (hV : Ky V) (hlen : Few N.length) (ht : Tab w)
    (i : Nat) (t : Tr) (hr : Rep hLf hIn N i t) (hok : t.ok) (hsm : Few t.list.length) (hg0 : ∀ L u x, Way N K t i L u x → Rep hLf hIn N x u → u.ok → Ends K u → NotLeaf K u)
    : Calls Tryz.prog 13 #[.pointer (some ⟨f, 0, none⟩), .int .i64 i, .agg (kc K), .agg (kc V)] w (PutA w f g b N (t.put K V) (2 + t.list.length)) := by
  refine (callsIn_wide (n := 2)).1 ?_
  refine callsIn_of_wp_marks Tryz.func13 rfl trivial ?_ rfl
  simp only [Tryz.ntmps13, List.size_toArray, List.length_cons, List.length_nil, Nat.reduceAdd, Nat.reduceSub, Array.replicate_succ, Array.replicate_zero, List.push_toArray, List.append_toArray, List.nil_append, List.cons_append]
  refine (wpIn_wide (n := 2)).2 ?_
  obtain ⟨hk1, hk2, hk3, hb0⟩ := three_blks w #[.pointer (some ⟨f, 0, none⟩)] (kc K) (kc V) 27 25 25
  have BX0 : Hid (Bx3 w.heap.size f K V (((w.alloc (.cells #[.pointer (some ⟨f, 0, none⟩)] 27)).alloc (.cells (kc K) 25)).alloc (.cells (kc V) 25))) := ⟨hk1, hk2, hk3⟩
  have B0 := hid hb0
  have HKI := hid (u8s_info hK); have HVI := hid (u8s_info hV)
  have FO := hid h; have HF := hid hfr; have HK := hid hK; have HV := hid hV; have HL := hid hlen; have HT := hid ht
  have CI := hid (fun w1 (hb : Below w.heap.size w w1) => xisTree_at (h.below hb) i)
  have hti : isTr N.length i = true := by unfold isTr isNd; rw [decide_eq_true (show (0 : Int) ≤ i ∧ (i : Int) < N.length from ⟨by omega, by have := hr.lt; omega⟩)]; simp
  rw [hti] at CI
  have CW := hid (fun w1 (hb : Below w.heap.size w w1) => xway_at (h.below hb) i t hr hok K hK (show t.list.length < 100000 from hsm))
  have HG0 := hid hg0; have HSM := hid hsm
  clear hti hr hok hsm hg0
  clear hk1 hk2 hk3 hb0 h hfr hK hV hlen ht
  have c4 : (((w.alloc (.cells #[.pointer (some ⟨f, 0, none⟩)] 27)).alloc (.cells (kc K) 25)).alloc (.cells (kc V) 25)).cell? ⟨w.heap.size, 0, none⟩ = some (.pointer (some ⟨f, 0, none⟩)) := BX0.out.k4.cell 0
  go_upto_region 4 with (first
    | (go_at_call 17; refine (CI.out _ B0.out).mono ?_; rintro e w1 ⟨rfl, rfl⟩)
    | (refine load_at rfl 25 (.tmp 6) rfl (w.heap.size + 1) 0 rfl (u8s K) _ (blk_key BX0.out.k6) Tryz.underlying25 rfl HKI.out (kc K) rfl ?_)
    | (go_at_call 26; refine (CW.out _ B0.out).mono ?_; rintro e w2 ⟨L, u, x, A2, c2, rfl, hway, hru, huok, hend, hlu, hrow, hb⟩; have BX2 := hid (BX0.out.below hb); have B2 := hid (B0.out.trans (hb.mono B0.out.size)); obtain ⟨q, hq, hqn, hqb, hqh⟩ := rep_pre hru (HG0.out L u x hway hru huok hend); have CH := hid (xhasKey_at (FO.out.below B2.out) x q hq K HK.out); rw [hqh] at CH; have HQN := hid hqn; have HQB := hid hqb; have HNL := hid (HG0.out L u x hway hru huok hend); have HEND := hid hend; clear hqh hqn hqb; have WAY := hid hway; have HRU := hid hru; have HUO := hid huok; have HLU := hid hlu; have ROW2 := hid (own_weak hrow (Nat.zero_le _)); have HQ := hid hq; clear hway hru huok hend hlu hrow hb hq))
  clear c4
  have c4 : w2.cell? ⟨w.heap.size, 0, none⟩ = some (.pointer (some ⟨f, 0, none⟩)) := BX2.out.k4.cell 0
  go_upto_region 5 with (first
    | (refine load_at rfl 25 (.tmp 6) rfl (w.heap.size + 1) 0 rfl (u8s K) _ (blk_key BX2.out.k6) Tryz.underlying25 rfl HKI.out (kc K) rfl ?_)
    | (go_at_call 27; refine CH.out.mono ?_; rintro e w3 ⟨rfl, hb⟩; have BX3 := hid (BX2.out.below hb); have B3 := hid (B2.out.trans (hb.mono B2.out.size)); have ROW3a := hid (own_keep ROW2.out (fun k hk => hb.block k (ROW2.out.lt k hk).2)); clear hb))
  clear c4
  refine region_kept (Kp w3) (by kernel_rfl) (by kernel_rfl) (kp_begin w3) ?_
  repeat (first
    | go_big_quiet_skip
    | (go_big_quiet_want; go_big_quiet_op; first | go_big_quiet_on))
  refine wpQuiet_nil ?_
  intro _ hw'
  obtain ⟨p, hw''⟩ := hw'
  subst hw''
  have hne : ((x : Int) != -1) = true := by simp
  have hnl : ((x : Int) == -1) = false := by simp
  have BX4 := hid (BX3.out.below p.h)
  have B4 := hid (B3.out.trans (p.h.mono B3.out.size))
  have ROW3 := hid (own_keep ROW3a.out (fun k hk => p.h.block k (ROW3a.out.lt k hk).2))
  have c4 : p.w.cell? ⟨w.heap.size, 0, none⟩ = some (.pointer (some ⟨f, 0, none⟩)) := BX4.out.k4.cell 0
  generalize p.w = w4 at BX4 B4 c4 ROW3 ⊢
  clear BX0 BX2 BX3 B0 B2 B3 CI CW CH ROW2 ROW3a
  have F4 := FO.out.below B4.out
  have ROW4 : Hid (w4.ownsRow 0 3 1 (.slice A2 L.length c2) L.length (i64s (ns L))) := ROW3.out
  have c0 : w4.cell? ⟨f, 0, none⟩ = some (.slice A N.length c) := F4.kf.cell 0
  obtain ⟨n, hn⟩ : ∃ n, n = N.length := ⟨_, rfl⟩
  rw [← hn] at c0
  have HN := hid hn
  have hgt : ¬ ((1048576 : Int) < (n : Int) + ((L.length : Int) + 1 + 1)) := few_gt3 HL.out hn (few_way HSM.out HLU.out)
  have hgt2 : ¬ ((1048576 : Int) < (n : Int) + ((L.length : Int) + 2)) := few_gt4 HL.out hn (few_way HSM.out HLU.out)
  have CL := hid (xleaf_at F4 K V HK.out HV.out (few_lt HL.out) (HT.out.below B4.out))
  have HF4 := hid F4
  clear F4 hn
  go_upto_region 13 with (fail)
  clear c0 hgt
  go_upto_region 14 with (first
    | (refine load_at rfl 25 (.tmp 6) rfl (w.heap.size + 1) 0 rfl (u8s K) _ (blk_key BX4.out.k6) Tryz.underlying25 rfl HKI.out (kc K) rfl ?_)
    | (refine load_at rfl 25 (.tmp 7) rfl (w.heap.size + 1 + 1) 0 rfl (u8s V) _ (blk_key BX4.out.k7) Tryz.underlying25 rfl HVI.out (kc V) rfl ?_)
    | (go_at_call 28; refine CL.out.mono ?_; rintro e w5 ⟨rfl, hg⟩; have HG5 := hid hg; clear hg))
  obtain ⟨g5, b5, A5, c5, tv5, hfo5, hg5, hb5, hon5⟩ := HG5.out.parts
  have BX5 := hid (BX4.out.only HF4.out hon5)
  have ROW5 := hid (own_only HF4.out hon5 ROW4.out)
  have HN5 : Hid (N.length = n) := HN.out.symm
  rw [HN5.out]
  have SZ5 : Hid (w.heap.size ≤ w5.heap.size) := Nat.le_trans B4.out.size hon5.size
  have BX6 := hid (BX5.out.below ((Below.refl w5.heap.size w5).alloc (Nat.le_refl _) (.cells #[.int .i64 n] 3)))
  have ROW6 := hid (own_keep ROW5.out (fun k hk => Below.heap_alloc w5 (.cells #[.int .i64 n] 3) k (ROW5.out.lt k hk).2))
  have FO6 := hid (hfo5.below ((Below.refl w5.heap.size w5).alloc (Nat.le_refl _) (.cells #[.int .i64 n] 3)))
  have K15 : Hid (Blk (w5.alloc (.cells #[.int .i64 n] 3)) w5.heap.size 3 #[.int .i64 (n : Nat)]) := Blk.new w5 3 _
  have ON6 : Hid (OnlyS (Ow f g b) w (w5.alloc (.cells #[.int .i64 n] 3))) := ((OnlyS.of_below B4.out (Nat.le_refl _)).trans hon5).alloc _
  have G5 : Hid (g5 = g ∨ w.heap.size ≤ g5) := hg5.imp id (fun h => Nat.le_trans B4.out.size h)
  have Q5 : Hid (b5 = b ∨ w.heap.size ≤ b5) := hb5.imp id (fun h => Nat.le_trans B4.out.size h)
  have ROWNE : Hid (∀ k, (Value.slice A2 L.length c2).ownBlock = some k → k ≠ w5.heap.size) := fun k hk => Nat.ne_of_lt (ROW5.out.lt k hk).2
  clear hfo5 hg5 hb5 hon5 HG5 CL c4 BX5 ROW5 ROW4 BX4 B4 HF4
  generalize hE15 : w5.heap.size = e15 at K15 SZ5 ROWNE ⊢
  generalize w5.alloc (.cells #[.int .i64 n] 3) = w6 at BX6 ROW6 FO6 K15 ON6 ⊢
  clear hE15
  have hqN : (N ++ [ndL K V (hLf K V)])[x]? = some q := by rw [List.getElem?_append_left (List.getElem?_eq_some_iff.1 HQ.out).1]; exact HQ.out
  have JO := hid (join_of (V := V) HUO.out HK.out HEND.out HNL.out)
  have hMe : meetV q.pn q.pb 256 K = pc (joinM u K) (cut K (joinM u K)) := by rw [HQN.out, HQB.out]; exact JO.out.2.1
  have CF := hid (xfork_at FO6.out x n (joinM u K) q hqN (by rw [List.length_append, HN5.out]; simp) K (cut K (joinM u K)) HK.out (cut_ky _ _) JO.out.1 hMe (few_one HL.out) (tab_only HT.out (FO.out.not_tab HT.out) ON6.out))
  have FP := hid (fork_put HF.out HK.out HV.out HRU.out HUO.out HEND.out HNL.out)
  rw [HN5.out] at FP
  obtain ⟨q2, hq2⟩ : ∃ q2, q2 = (if bit K (joinM u K) = 1 then ndI (joinM u K) (cut K (joinM u K)) x n (hIn (joinM u K) (cut K (joinM u K)) (hashN (N ++ [ndL K V (hLf K V)]) x) (hashN (N ++ [ndL K V (hLf K V)]) (n : Int))) else ndI (joinM u K) (cut K (joinM u K)) n x (hIn (joinM u K) (cut K (joinM u K)) (hashN (N ++ [ndL K V (hLf K V)]) (n : Int)) (hashN (N ++ [ndL K V (hLf K V)]) x))) := ⟨_, rfl⟩
  rw [← hq2] at CF FP
  have HL1 : Hid ((N ++ [ndL K V (hLf K V)]).length = n + 1) := by show _ = _; rw [List.length_append, HN5.out]; rfl
  rw [HL1.out] at CF FP
  have c4 : w6.cell? ⟨w.heap.size, 0, none⟩ = some (.pointer (some ⟨f, 0, none⟩)) := BX6.out.k4.cell 0
  have c15 : w6.cell? ⟨e15, 0, none⟩ = some (.int .i64 (n : Nat)) := K15.out.cell 0
  clear hqN hMe hq2
  go_upto_region 15 with (fail)
  go_upto_region 16 with (first
    | (refine load_at rfl 25 (.tmp 6) rfl (w.heap.size + 1) 0 rfl (u8s K) _ (blk_key BX6.out.k6) Tryz.underlying25 rfl HKI.out (kc K) rfl ?_)
    | (go_at_call 29; refine CF.out.mono ?_; rintro e w8 ⟨rfl, hg⟩; obtain ⟨g8, b8, A8, c8, tv8, hfo8, hg8, hb8, hon8⟩ := hg.parts; have BX8 := hid (BX6.out.only FO6.out hon8); have ROW8 := hid (own_only FO6.out hon8 ROW6.out); have K8 := hid (K15.out.same (hon8.block _ K15.out.lt (FO6.out.not_own K15.out (by decide) (by decide) (by decide)))); have GR8 := hid (grew_more G5.out Q5.out ON6.out ⟨g8, b8, A8, c8, tv8, hfo8, hg8, hb8, hon8⟩); have c15b : w8.cell? ⟨e15, 0, none⟩ = some (.int .i64 (n : Nat)) := K8.out.cell 0; have f15b : w8.frozen? ⟨e15, 0, none⟩ = false := K8.out.frozen 0; clear hg hfo8 hg8 hb8 hon8))
  obtain ⟨g9, b9, A9, c9, tv9, hfo9, hg9, hb9, hon9⟩ := GR8.out.parts
  have o15 := hfo9.not_own K8.out (by decide) (by decide) (by decide)
  have FO9 := hid (hfo9.keep (w' := w8.setCell ⟨e15, 0, none⟩ (.int .i64 ((n : Int) + 1))) (fun k hk => Below.heap_setCell w8 _ _ k (fun e => o15 (by have e' : k = e15 := e; rw [← e']; exact hk))))
  have ON9 := hid (hon9.setCell (p := ⟨e15, 0, none⟩) (.inr SZ5.out) (.int .i64 ((n : Int) + 1)))
  have BX9 : Hid (Bx3 w.heap.size f K V (w8.setCell ⟨e15, 0, none⟩ (.int .i64 ((n : Int) + 1)))) := ⟨BX8.out.k4.far (p := ⟨e15, 0, none⟩) (BX8.out.k4.ne K8.out (by decide)) _, BX8.out.k6.far (p := ⟨e15, 0, none⟩) (BX8.out.k6.ne K8.out (by decide)) _, BX8.out.k7.far (p := ⟨e15, 0, none⟩) (BX8.out.k7.ne K8.out (by decide)) _⟩
  have K9 : Hid (Blk (w8.setCell ⟨e15, 0, none⟩ (.int .i64 ((n : Int) + 1))) e15 3 #[.int .i64 ((n + 1 : Nat) : Int)]) := K8.out.setd 0 _
  have ROW9 := hid (own_keep (w' := w8.setCell ⟨e15, 0, none⟩ (.int .i64 ((n : Int) + 1))) ROW8.out (fun k hk => Below.heap_setCell w8 _ _ k (fun e => ROWNE.out k hk (show k = e15 from e))))
  have G9 := hid hg9; have Q9 := hid hb9
  clear hfo9 hg9 hb9 hon9 GR8 BX8 K8 ROW8 BX6 ROW6 FO6 ON6 G5 Q5 K15 c15 c4 CF
  generalize w8.setCell ⟨e15, 0, none⟩ (.int .i64 ((n : Int) + 1)) = w9 at FO9 ON9 BX9 K9 ROW9 ⊢
  clear w6
  obtain ⟨U, hU0, hUL, hSO⟩ : ∃ U : Nat → Tr, U 0 = t.put K V ∧ U (L).length = u.put K V ∧ StepsOk N K U L := steps_of HK.out HV.out WAY.out
  have HU0 := hid hU0; have HSO := hid hSO
  have I0 : Hid (PtE 2 (fun _ => False) f g b w N K U L w.heap.size (w.heap.size + 1) e15 [] w9) := ⟨g9, b9, A9, c9, tv9, [ndL K V (hLf K V)] ++ [q2], n + 1, by rw [← List.append_assoc]; exact FO9.out, G9.out, Q9.out, ON9.out, BX9.out.k4, BX9.out.k6, K9.out, SZ5.out, by rw [← List.append_assoc, List.length_append, HL1.out]; simp, by simp, fun _ h => h.elim, fun _ => by
    rw [← List.append_assoc]
    exact ⟨FP.out.1, by show Rep _ _ _ _ (U L.length); rw [hUL]; exact FP.out.2⟩⟩
  have CB := hid (fun w => xback_any A2 L.length c2 w)
  clear hU0 hSO
  go_wp2_with (go_at_call 30; refine (CB.out _).mono ?_; rintro e w7 ⟨rfl, hw7⟩; have HW7 := hid hw7; clear hw7)
  have S6 : Hid (w7.heap.size = w9.heap.size + 1) := by show _ = _; rw [HW7.out]; simp
  have BL7 : Hid (Below w9.heap.size w9 w7) := by show Below _ _ _; rw [HW7.out]; exact (Below.refl _ _).alloc (Nat.le_refl _) _
  have IT : Hid (ItB w9.heap.size A2 L.length c2 (ns L) w7) := by
    refine ⟨?_, own_keep ROW9.out (fun k hk => BL7.out.block k (ROW9.out.lt k hk).2)⟩
    rw [HW7.out]; exact Blk.new w9 71 _
  have NE7 : Hid (w9.heap.size ≠ e15) := fun e => by have h1 := K9.out.lt; omega
  have RNE : Hid (∀ k, ItS w9.heap.size A2 k → k ≠ e15) := fun k hk => by rcases hk with h | ⟨a, h, e⟩; rw [h]; exact NE7.out; subst h; rw [e]; exact ROWNE.out _ rfl
  have RTY : Hid (∀ k, ItS w9.heap.size A2 k → ∃ t cs, Blk w7 k t cs ∧ (t = 71 ∨ t = 3)) := fun k hk => by rcases hk with h | ⟨a, h, e⟩; rw [h]; exact ⟨_, _, IT.out.kb, .inl rfl⟩; subst h; rw [e]; exact row_ty IT.out.row rfl
  have I7 : Hid (PtE 2 (ItS w9.heap.size A2) f g b w N K U L w.heap.size (w.heap.size + 1) e15 [] w7) := by
    obtain ⟨g', b', A', c', tv', M, top, hs⟩ := I0.out
    exact ⟨g', b', A', c', tv', M, top, hs.fo.below BL7.out, hs.hg, hs.hb, hs.on.trans (OnlyS.of_below BL7.out (Nat.le_refl _)), hs.k4.below BL7.out, hs.k6.below BL7.out, hs.k15.below BL7.out, hs.he, hs.lt, hs.few, fun k hk => ⟨RTY.out k hk, RNE.out k hk⟩, hs.cond⟩
  have BX7 := hid (BX9.out.below BL7.out)
  have BW7 : Hid (w.heap.size ≤ w7.heap.size) := by obtain ⟨g', b', A', c', tv', M, top, hs⟩ := I7.out; exact hs.on.size
  have LT7 : Hid (e15 < w7.heap.size ∧ w.heap.size < w7.heap.size) := ⟨(K9.out.below BL7.out).lt, BX7.out.k4.lt⟩
  have ET : Hid (∃ t cs, Blk w7 e15 t cs ∧ t = 3) := ⟨_, _, K9.out.below BL7.out, rfl⟩
  clear BX9 ROW9 FO9 ON9 G9 Q9 HW7 BX7 CB I0 SZ5
  have HM : Hid (L.length = (L).length) := rfl
  generalize w9.heap.size = bs at S6 IT RNE RTY NE7 I7 ⊢
  clear K9
  clear hUL hne hnl
  refine (wpIn_wide (n := 2)).1 ?_
  refine wpIn_rangeFunc_ownF (n := 2) rfl (by omega) (gf := 56) (lb := #[.pointer (some ⟨bs, 0, none⟩)]) rfl trivial (enters_of Tryz.func56 (by kernel_rfl) rfl)
    (back_stops (m := (L).length) (few_mil (few_way HSM.out HLU.out)) bs A2 c2 (ns L) w7 IT.out) KpS.t (KpS.b (S := ItS bs A2) (fun k hk => by obtain ⟨t, cs, h1, _⟩ := RTY.out k hk; exact h1.lt)) (Below.refl _ _) (fun _ => rfl) (PtE 2 (ItS bs A2) f g b w N K U L w.heap.size (w.heap.size + 1) e15) (fun _ _ _ => False) (PtE.own (by have := LT7.out; omega)) (fun _ _ _ _ _ hs _ _ => hs) I7.out
    ?a1 ?assign ?body ?done ?stop
  case assign =>
    intro l x W K hK
    have HKK := hid hK
    clear hK
    dsimp only [encB]
    rw [zip2]
    simp only [List.setIfInBounds_toArray, List.set_cons_succ, List.set_cons_zero]
    refine wpIn_region_lit (l := [_]) ?_
    refine wpListIn_plain rfl (fun K2 hK2 => ?_)
    refine wpInR_value (.int .i64 (nv (ns L) x)) (fun c h => by cases h) (by rw [exec_assign (.tmp 80) rfl]; rfl) ?_
    refine hK2 _ _ ?_
    simp only [Act.put, List.setIfInBounds_toArray, List.set_cons_succ, List.set_cons_zero]
    exact HKK.out
  case body =>
    rintro l pre x W hI hlen
    obtain ⟨g', b', A', c', tv', M, top, hs⟩ := hI
    obtain ⟨k, hk⟩ := x
    obtain ⟨y, q, n0, a0, d0, e1, e2, e3, e4, e5, la, ld, ln, hst⟩ := HSO.out k hk
    have hq : (N ++ M)[y]? = some q := by rw [List.getElem?_append_left (List.getElem?_eq_some_iff.1 e2).1]; exact e2
    have hlm : (N ++ M).length < 1048576 := few_m HL.out (Nat.le_trans hs.few (by omega)) hlen (few_le (few_way HSM.out HLU.out))
    have ll : N.length ≤ (N ++ M).length := by rw [List.length_append]; omega
    have CT := hid (xturned_at hs.fo y top a0 d0 n0 q hq hs.lt e3 e4 e5 (Nat.lt_of_lt_of_le la ll) (Nat.lt_of_lt_of_le ld ll) ln K HK.out hlm (tab_only HT.out (FO.out.not_tab HT.out) hs.on))
    have ex : nv (ns L) (⟨k, hk⟩ : Fin (L).length) = (y : Int) := by unfold nv ns; rw [List.getElem?_map, e1]; rfl
    have c4 : W.cell? ⟨w.heap.size, 0, none⟩ = some (.pointer (some ⟨f, 0, none⟩)) := hs.k4.cell 0
    have c15 : W.cell? ⟨e15, 0, none⟩ = some (.int .i64 (top : Nat)) := hs.k15.cell 0
    have ld6 : (Instr.loadAt 25 (.pointer (some ⟨w.heap.size + 1, 0, none⟩))).run Tryz.prog W = .ok (.agg (kc K)) W := run_loadAt_mid W (w.heap.size + 1) 0 25 (u8s K) _ (blk_key hs.k6) Tryz.underlying25 rfl HKI.out
    have HST := hid (hst M top)
    obtain ⟨nl, hnl⟩ : ∃ nl, nl = (N ++ M).length := ⟨_, rfl⟩
    rw [← hnl] at CT
    have HNL2 := hid hnl
    clear hnl
    have HS := hid hs
    have HLE := hid hlen
    clear e1 e2 e3 e4 e5 la ld ln hst hq hlm ll hs hlen
    dsimp only
    rw [ex]
    clear ex
    refine wpIn_block ?_
    refine wpIn_cut (fun _ w' => KeepsOthers W w' ∧ KpS (ItS bs A2) W w' ∧ PtE 2 (ItS bs A2) f g b w N K U L w.heap.size (w.heap.size + 1) e15 (pre ++ [⟨k, hk⟩]) w') ?_ ?_
    · refine plain_round (L := [_, _, _, _, _, _]) (by rfl) ?_
      go_wp2_with (first
        | (refine load_at rfl 25 (.tmp 6) rfl (w.heap.size + 1) 0 rfl (u8s K) _ (blk_key HS.out.k6) Tryz.underlying25 rfl HKI.out (kc K) rfl ?_)
        | (go_at_call 31; refine CT.out.mono ?_; rintro e W2 ⟨rfl, hg⟩; have hp0 := HS.out.step HLE.out ⟨k, hk⟩ _ hg HST.out; rw [← HNL2.out] at hp0; have HP := hid hp0; clear hp0; have c15b : W2.cell? ⟨e15, 0, none⟩ = some (.int .i64 (top : Nat)) := (grew_blk HS.out hg).cell 0; have f15b : W2.frozen? ⟨e15, 0, none⟩ = false := (grew_blk HS.out hg).frozen 0; clear hg))
      exact HP.out
    · intro a' w' h
      exact h
  case done =>
    rintro D' ys W hD hys hI hK
    obtain ⟨g', b', A', c', tv', M, top, hs⟩ := hI
    have c15 : W.cell? ⟨e15, 0, none⟩ = some (.int .i64 (top : Nat)) := hs.k15.cell 0
    have HS := hid hs; have HKD := hid hK; have HYS := hid hys
    have HD : Hid (w7.heap.size ≤ D') := hD
    clear hs hK hys hD
    go_wp2
    refine ⟨by simp, .inl ⟨_, _, rfl, run_takeDeferred HKD.out, ?_⟩⟩
    have hg := grownBy_putObj' W D' (.deferred none)
    have hr : ∀ r, some D' = some r → ∃ o : Obj, W.heap[r]? = some o ∧ o.isCells = false := fun r e => by cases e; exact ⟨_, HKD.out, rfl⟩
    have hl : ys.length = (L).length := by
      have := congrArg List.length HYS.out
      rw [List.length_map, downs_length] at this
      exact this
    obtain ⟨h1, h2⟩ := HS.out.cond (by rw [hl]; exact HYS.out)
    rw [hl, Nat.sub_self, HU0.out] at h2
    refine ⟨_, results_tmp2 rfl _ _ _, M, top, rfl, ⟨g', b', A', c', tv', HS.out.fo.own hg hr, HS.out.hg, HS.out.hb, HS.out.on.grown hg (fun k e => by cases e; right; have := HD.out; have := LT7.out; have := BW7.out; omega)⟩, h2, h1, ?_⟩
    have := HS.out.few
    rw [hl] at this
    exact Nat.le_trans this (by have := HLU.out; omega)
  case stop =>
    rintro D c pre W _ _ h _
    exact h.elim
end Go.Proofs.YtjhaamffgkialaaGreatDoor
/-
  What is proved here: Put, whatever the tree, the key and the value.
-/
namespace Go.Proofs.YtjhaamffgkialaaGreatDoor
open Go.ChangeShapes Go.WideShapes Go.ChangeAt Go.RowKit
set_option linter.unusedVariables false
set_option linter.unusedSimpArgs false
set_option maxRecDepth 20000

set_option maxHeartbeats 8000000 in
theorem put_same {w : World} {f g b : Nat} {N : List Nd} {A : Option Addr} {c : Nat} {tv : Value} (h : Fo w f g b N A c tv) (hfr : FrOk hLf hIn N) {K V : List Int} (hK : Ky K) (hV : Ky V) (i : Nat) (t : Tr) (hr : Rep hLf hIn N i t) (hok : t.ok) (hsm : Few t.list.length)
    (hg0 : ∀ L u x, Way N K t i L u x → Rep hLf hIn N x u → u.ok → Ends K u → u = .leaf K V) :
    Calls Tryz.prog 13 #[.pointer (some ⟨f, 0, none⟩), .int .i64 i, .agg (kc K), .agg (kc V)] w (PutA w f g b N (t.put K V) (2 + t.list.length)) := by
  obtain ⟨hk1, hk2, hk3, hb0⟩ := three_blks w #[.pointer (some ⟨f, 0, none⟩)] (kc K) (kc V) 27 25 25
  have BX0 : Hid (Bx3 w.heap.size f K V (((w.alloc (.cells #[.pointer (some ⟨f, 0, none⟩)] 27)).alloc (.cells (kc K) 25)).alloc (.cells (kc V) 25))) := ⟨hk1, hk2, hk3⟩
  have B0 := hid hb0
  have HKI := hid (u8s_info hK); have HVI := hid (u8s_info hV)
  have FO := hid h; have HF := hid hfr; have HK := hid hK; have HV := hid hV; have HR := hid hr
  have CI := hid (fun w1 (hb : Below w.heap.size w w1) => xisTree_at (h.below hb) i)
  have hti : isTr N.length i = true := by unfold isTr isNd; rw [decide_eq_true (show (0 : Int) ≤ i ∧ (i : Int) < N.length from ⟨by omega, by have := hr.lt; omega⟩)]; simp
  rw [hti] at CI
  have CW := hid (fun w1 (hb : Below w.heap.size w w1) => xway_at (h.below hb) i t hr hok K hK (show t.list.length < 100000 from hsm))
  have HG0 := hid hg0
  clear hti hr hok hsm hg0 hk1 hk2 hk3 hb0 h hfr hK hV
  have c4 : (((w.alloc (.cells #[.pointer (some ⟨f, 0, none⟩)] 27)).alloc (.cells (kc K) 25)).alloc (.cells (kc V) 25)).cell? ⟨w.heap.size, 0, none⟩ = some (.pointer (some ⟨f, 0, none⟩)) := BX0.out.k4.cell 0
  go_enter Tryz.func13, Tryz.ntmps13
  go_upto_region 4 with (first
    | (go_at_call 17; refine (CI.out _ B0.out).mono ?_; rintro e w1 ⟨rfl, rfl⟩)
    | (refine load_at rfl 25 (.tmp 6) rfl (w.heap.size + 1) 0 rfl (u8s K) _ (blk_key BX0.out.k6) Tryz.underlying25 rfl HKI.out (kc K) rfl ?_)
    | (go_at_call 26; refine (CW.out _ B0.out).mono ?_; rintro e w2 ⟨L, u, x, A2, c2, rfl, hway, hru, huok, hend, hlu, hrow, hb⟩; have BX2 := hid (BX0.out.below hb); have B2 := hid (B0.out.trans (hb.mono B0.out.size)); obtain rfl := HG0.out L u x hway hru huok hend; have hq : N[x]? = some (ndL K V (hLf K V)) := hru; have CH := hid (xhasKey_at (FO.out.below B2.out) x _ hq K HK.out); rw [show (ndL K V (hLf K V)).has K = true by unfold Nd.has; simp [ndL]] at CH; have WAY := hid hway; have HQ := hid hq; clear hway hru huok hend hlu hrow hb hq))
  clear c4
  have c4 : w2.cell? ⟨w.heap.size, 0, none⟩ = some (.pointer (some ⟨f, 0, none⟩)) := BX2.out.k4.cell 0
  go_upto_region 5 with (first
    | (refine load_at rfl 25 (.tmp 6) rfl (w.heap.size + 1) 0 rfl (u8s K) _ (blk_key BX2.out.k6) Tryz.underlying25 rfl HKI.out (kc K) rfl ?_)
    | (go_at_call 27; refine CH.out.mono ?_; rintro e w3 ⟨rfl, hb⟩; have BX3 := hid (BX2.out.below hb); have B3 := hid (B2.out.trans (hb.mono B2.out.size)); clear hb))
  clear c4
  have F3 := FO.out.below B3.out
  obtain ⟨hA3, na3⟩ := F3.node HQ.out
  have cn0 : w3.cell? ⟨f, 0, none⟩ = some (.slice (some ⟨g, 0, none⟩) N.length c) := by rw [← hA3]; exact F3.kf.cell 0
  obtain ⟨n, hn⟩ : ∃ n, n = N.length := ⟨_, rfl⟩
  rw [← hn] at cn0
  have hlt : x < n := by rw [hn]; exact (List.getElem?_eq_some_iff.1 HQ.out).1
  have c40 : w3.cell? ⟨w.heap.size, 0, none⟩ = some (.pointer (some ⟨f, 0, none⟩)) := BX3.out.k4.cell 0
  have cn := fun p : PW (Kp w3) => cell_bel p.h cn0
  have cp := fun p : PW (Kp w3) => cell_bel p.h c40
  have NV : Hid (w3.rangeAt g (x * 132 + 33) (u8s V)) := na3.val
  have NVp := hid (fun p : PW (Kp w3) => rng_bel p.h NV.out)
  have K7p := hid (fun p : PW (Kp w3) => kp_key BX3.out.k7 p)
  have heq := fun w => eql_key V V HV.out HV.out w
  rw [decide_eq_true rfl] at heq
  clear hA3 na3 cn0 c40 hn
  have HF3 := hid F3
  clear F3
  refine region_kept (Kp w3) (by kernel_rfl) (by kernel_rfl) (kp_begin w3) ?_
  repeat (first
    | go_big_quiet_skip
    | (go_big_quiet_want; refine quiet_load 25 (.tmp 41) rfl g (x * 132 + 33) rfl (u8s V) _ (fun p => NVp.out p) Tryz.underlying25 rfl HVI.out (kc V) rfl ?_; go_big_quiet_on; simp only [Act.put, List.setIfInBounds_toArray, List.set_cons_zero, List.set_cons_succ])
    | (go_big_quiet_want; refine quiet_load 25 (.tmp 7) rfl (w.heap.size + 1 + 1) 0 rfl (u8s V) _ (fun p => K7p.out p) Tryz.underlying25 rfl HVI.out (kc V) rfl ?_; go_big_quiet_on; simp only [Act.put, List.setIfInBounds_toArray, List.set_cons_zero, List.set_cons_succ])
    | (go_big_quiet_want; go_big_quiet_op; first | go_big_quiet_on))
  refine wpQuiet_nil ?_
  intro _ hw'
  obtain ⟨p, hw''⟩ := hw'
  subst hw''
  have B4 := hid (B3.out.trans (p.h.mono B3.out.size))
  have F4 := hid (HF3.out.below p.h)
  clear cn cp heq
  go_wp2
  go_ret2
  refine ⟨[], i, rfl, ⟨g, b, A, c, tv, by rw [List.append_nil]; exact F4.out, .inl rfl, .inl rfl, OnlyS.of_below B4.out (Nat.le_refl _)⟩, ?_, by rw [List.append_nil]; exact HF.out, by simp⟩
  rw [List.append_nil, way_same WAY.out]
  exact HR.out
/-- a way ends at one tree -/
theorem way_end {N : List Nd} {K : List Int} {t : Tr} {i : Nat} : ∀ {L : List Nat} {u : Tr} {x : Nat}, Way N K t i L u x → Rep hLf hIn N x u → u.ok → Ends K u → ∀ {L' : List Nat} {u' : Tr} {x' : Nat}, Way N K t i L' u' x' → Ends K u' → u = u' := by
  intro L u x h hru huok hend L' u' x' h' hend'
  obtain ⟨T, h0, h1, h2, h3⟩ := h
  obtain ⟨T', h0', h1', h2', h3'⟩ := h'
  -- both go the same way
  have key : ∀ k, k ≤ L.length → k ≤ L'.length → T k = T' k := by
    intro k
    induction k with
    | zero => intro _ _; rw [h0, h0']
    | succ k ih =>
      intro hk hk'
      have e := ih (by omega) (by omega)
      obtain ⟨y, y2, _, _, n, b, l, r, a, c, e1, _, _, _, _, _, hh⟩ := h3 k (by omega)
      obtain ⟨z, z2, _, _, n', b', l', r', a', c', e1', _, _, _, _, _, hh'⟩ := h3' k (by omega)
      rw [e, e1'] at e1
      injection e1 with n1 n2 n3 n4
      subst n1 n2 n3 n4
      rcases hh with ⟨g1, g2, _⟩ | ⟨g1, g2, _⟩ <;> rcases hh' with ⟨g1', g2', _⟩ | ⟨g1', g2', _⟩
      · rw [g2, g2']
      · rw [g1] at g1'; cases g1'
      · rw [g1] at g1'; cases g1'
      · rw [g2, g2']
  have stop : ∀ {T : Nat → Tr} {M : List Nat} {v : Tr} {z : Nat}, (∀ k, k < M.length → ∃ x x', (M ++ [z])[k]? = some x ∧ (M ++ [z])[k + 1]? = some x' ∧ Stp N K (T k) x (T (k + 1)) x') → ∀ k, k < M.length → ¬ Ends K (T k) := by
    intro T M v z h3 k hk he
    obtain ⟨y, y2, _, _, n, b, l, r, a, c, e1, _, hc, _⟩ := h3 k hk
    rw [e1] at he
    exact he hc
  rcases Nat.lt_trichotomy L.length L'.length with hlt | heq | hgt
  · exact absurd hend (by rw [← h1, key _ (Nat.le_refl _) (by omega)]; exact stop (v := u) h3' _ hlt)
  · rw [← h1, ← h1', ← heq]; exact key _ (Nat.le_refl _) (by omega)
  · exact absurd hend' (by rw [← h1', ← key _ (by omega) (Nat.le_refl _)]; exact stop (v := u) h3 _ hgt)
/-- a way leads to some end -/
theorem way_to {N : List Nd} {K : List Int} {t : Tr} {i : Nat} (hr : Rep hLf hIn N i t) (hok : t.ok) : ∃ L u x, Way N K t i L u x ∧ Rep hLf hIn N x u ∧ u.ok ∧ Ends K u := by
  have key : ∀ (m : Nat) (s : Tr) (x : Nat) (L : List Nat), s.list.length ≤ m → Way N K t i L s x → Rep hLf hIn N x s → s.ok → ∃ L u x, Way N K t i L u x ∧ Rep hLf hIn N x u ∧ u.ok ∧ Ends K u := by
    intro m
    induction m with
    | zero => intro s x L hl; have := s.pos; omega
    | succ m ih =>
      intro s x L hl hw hrs hos
      cases s with
      | leaf k v => exact ⟨L, _, x, hw, hrs, hos, trivial⟩
      | inner n b l r =>
        by_cases hc : cut K n = b
        · obtain ⟨a, c, hq, ha, hd, hra, hrc⟩ := hrs
          rcases bit01 K n with h0 | h0
          · have hst : Stp N K (.inner n b l r) x l a := ⟨n, b, l, r, a, c, rfl, hq, hc, hra, hrc, hos, .inr ⟨h0, rfl, rfl⟩⟩
            exact ih l a (L ++ [x]) (by have := hst.less; omega) (hw.snoc hst) hra hos.1
          · have hst : Stp N K (.inner n b l r) x r c := ⟨n, b, l, r, a, c, rfl, hq, hc, hra, hrc, hos, .inl ⟨h0, rfl, rfl⟩⟩
            exact ih r c (L ++ [x]) (by have := hst.less; omega) (hw.snoc hst) hrc hos.2.1
        · exact ⟨L, _, x, hw, hrs, hos, hc⟩
  exact key _ t i [] (Nat.le_refl _) Way.nil hr hok
/-- Put into a tree that has keys -/
theorem put_tree {w : World} {f g b : Nat} {N : List Nd} {A : Option Addr} {c : Nat} {tv : Value} (h : Fo w f g b N A c tv) (hfr : FrOk hLf hIn N) {K V : List Int} (hK : Ky K) (hV : Ky V) (hlen : Few N.length) (ht : Tab w) (i : Nat) (t : Tr) (hr : Rep hLf hIn N i t) (hok : t.ok) (hsm : Few t.list.length) :
    Calls Tryz.prog 13 #[.pointer (some ⟨f, 0, none⟩), .int .i64 i, .agg (kc K), .agg (kc V)] w (PutA w f g b N (t.put K V) (2 + t.list.length)) := by
  obtain ⟨L, u, x, hw, hru, huok, hend⟩ := way_to (K := K) hr hok
  have one : ∀ L' u' x', Way N K t i L' u' x' → Rep hLf hIn N x' u' → u'.ok → Ends K u' → u' = u := fun L' u' x' h1 _ _ h4 => (way_end hw hru huok hend h1 h4).symm
  cases u with
  | leaf k v =>
    by_cases hk : k = K
    · subst hk
      by_cases hv : v = V
      · subst hv
        exact put_same h hfr hK hV i t hr hok hsm one
      · exact put_over h hfr hK hV hlen ht i t hr hok hsm v one hv
    · exact put_fork h hfr hK hV hlen ht i t hr hok hsm (fun L' u' x' h1 h2 h3 h4 => by rw [one L' u' x' h1 h2 h3 h4]; exact hk)
  | inner n b l r => exact put_fork h hfr hK hV hlen ht i t hr hok hsm (fun L' u' x' h1 h2 h3 h4 => by rw [one L' u' x' h1 h2 h3 h4]; exact trivial)
/-- a tree's number: none, or a node's -/
def TAt (N : List Nd) (i : Int) (T : Option Tr) : Prop := match T with | none => i = -1 | some t => ∃ k : Nat, i = k ∧ Rep hLf hIn N k t ∧ t.ok
def putO (T : Option Tr) (K V : List Int) : Tr := match T with | none => .leaf K V | some t => t.put K V
def szO (T : Option Tr) : Nat := match T with | none => 0 | some t => t.list.length
theorem put_any {w : World} {f g b : Nat} {N : List Nd} {A : Option Addr} {c : Nat} {tv : Value} (h : Fo w f g b N A c tv) (hfr : FrOk hLf hIn N) {K V : List Int} (hK : Ky K) (hV : Ky V) (hlen : Few N.length) (ht : Tab w) (i : Int) (T : Option Tr) (hT : TAt N i T) (hsm : Few (szO T)) :
    Calls Tryz.prog 13 #[.pointer (some ⟨f, 0, none⟩), .int .i64 i, .agg (kc K), .agg (kc V)] w (PutA w f g b N (putO T K V) (2 + szO T)) := by
  cases T with
  | none =>
    obtain rfl : i = -1 := hT
    exact (put_none h hfr hK hV hlen ht).mono fun e w' ⟨M, top, h1, h2, h3, h4, h5⟩ => ⟨M, top, h1, h2, h3, h4, by show _ ≤ 2 + 0; omega⟩
  | some t =>
    obtain ⟨k, rfl, hr, hok⟩ := hT
    exact put_tree h hfr hK hV hlen ht k t hr hok hsm
end Go.Proofs.YtjhaamffgkialaaGreatDoor
