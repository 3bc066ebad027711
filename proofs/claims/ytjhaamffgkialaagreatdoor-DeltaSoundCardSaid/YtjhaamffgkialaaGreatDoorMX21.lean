/-
  What is proved here: what no forest answers, and numbers that are no tree's.
-/
import Derived.Test.YtjhaamffgkialaaGreatDoorMX20
import Derived.Test.YtjhaamffgkialaaGreatDoorMX14
import Derived.Test.YtjhaamffgkialaaGreatDoorMT1
set_option linter.unusedSimpArgs false
set_option linter.unusedVariables false
namespace Go.Proofs.YtjhaamffgkialaaGreatDoor
open Go.ChangeShapes Go.WideShapes Go.ChangeAt Go.RowKit Go.Shelf
set_option linter.unusedVariables false
set_option linter.unusedSimpArgs false
set_option maxRecDepth 20000
attribute [local go_sem] Oper.semAt_some

set_option maxHeartbeats 4000000 in
theorem xPut_bad {w : World} {p : Option Addr} {i : Int} {K V : List Int} (hK : Ky K) (hV : Ky V) (CI0 : ∀ w1, Below w.heap.size w w1 → Calls Tryz.prog 17 #[.pointer p, .int .i64 i] w1 fun e w' => e = .returned (.bool false) ∧ w1 = w') :
    Calls Tryz.prog 13 #[.pointer p, .int .i64 i, .agg (kc K), .agg (kc V)] w fun e w' => e = .returned (.tuple #[.int .i64 0, .int .i64 1]) ∧ Below w.heap.size w w' := by
  obtain ⟨hk1, hk2, hk3, hb0⟩ := three_blks w #[.pointer p] (kc K) (kc V) 27 25 25
  have B0 := hid hb0
  have CI := hid (CI0 _ hb0)
  have c4 : (((w.alloc (.cells #[.pointer p] 27)).alloc (.cells (kc K) 25)).alloc (.cells (kc V) 25)).cell? ⟨w.heap.size, 0, none⟩ = some (.pointer p) := hk1.cell 0
  clear hk1 hk2 hk3 hb0 CI0 hK hV
  go_enter Tryz.func13, Tryz.ntmps13
  go_wp2_with (go_at_call 17; refine CI.out.mono ?_; rintro e w1 ⟨rfl, rfl⟩)
  go_ret2
  exact ⟨rfl, B0.out⟩
theorem built_hash0 : Tryz.prog.built 25 [] = some (kc zk) := by kernel_rfl
theorem build_h0 {ops : Array Oper} {rest : List Oper} {o : Oper} {a : Act} {w : World} {Q : Exit → Act → World → Prop} (hg : o.guard = none) (ho : o.op = .build 25 #[])
    (h : wpList Tryz.prog ops Q rest (a.put o.dst (.agg (kc zk))) w) : wpList Tryz.prog ops Q (o :: rest) a w := by
  have e : (Array.map (fun (i, x) => (i, a.eval x)) (#[] : Array (Nat × Operand))).toList = [] := by simp
  refine wpList_build hg 25 #[] ho (by rw [e, built_hash0]; rfl) ?_
  rw [e, built_hash0]
  exact h
def hV (K : List Int) (v : Value) : Value := .tuple #[.agg (kc K), v]
set_option maxHeartbeats 4000000 in
theorem xRoot_bad {w : World} {p : Option Addr} {i : Int} (CI0 : ∀ w1, Below w.heap.size w w1 → Calls Tryz.prog 17 #[.pointer p, .int .i64 i] w1 fun e w' => e = .returned (.bool false) ∧ w1 = w') :
    Calls Tryz.prog 8 #[.pointer p, .int .i64 i] w fun e w' => e = .returned (hV zk (.int .i64 1)) ∧ Below w.heap.size w w' := by
  obtain ⟨Z, HZ, hZ0, hZs⟩ := zero_key
  have KZ : Hid (Blk (w.alloc (.cells Z 25)) w.heap.size 25 Z) := Blk.new w 25 Z
  have B0 : Hid (Below w.heap.size w (w.alloc (.cells Z 25))) := (Below.refl _ _).alloc (Nat.le_refl _) _
  have CI := hid (CI0 _ B0.out)
  have HI := hid (kc_info zk_ky)
  have hzs : Hid (Z.size = (kc zk).size) := by show _ = _; rw [HZ.out]
  clear CI0
  go_enter Tryz.func8, Tryz.ntmps8
  go_wp2_with (first
    | (go_at_call 17; refine CI.out.mono ?_; rintro e w1 ⟨rfl, rfl⟩)
    | (refine build_h0 rfl rfl ?_)
    | (refine wpList_store_row rfl 25 (.tmp 4) (.tmp 10) rfl w.heap.size (kc zk) rfl rfl 25 Z KZ.out HI.out hzs.out (kc_one _) ?_))
  try go_frame
  refine bodyPost_ret (results_cell_slot Tryz.results8 _ _ w.heap.size 25 (kc zk) (0, 0) _ rfl (KZ.out.row _) Tryz.underlying25 rfl HI.out) rfl ?_
  exact ⟨rfl, below_setRow B0.out (Nat.le_refl _) _⟩
set_option maxHeartbeats 4000000 in
theorem xRoot_none {w : World} {p : Option Addr} (ht : Tab w) (CI0 : ∀ w1, Below w.heap.size w w1 → Calls Tryz.prog 17 #[.pointer p, .int .i64 (-1)] w1 fun e w' => e = .returned (.bool true) ∧ w1 = w') :
    Calls Tryz.prog 8 #[.pointer p, .int .i64 (-1)] w fun e w' => e = .returned (hV emptyH (.int .i64 0)) ∧ Below w.heap.size w w' := by
  obtain ⟨Z, HZ, hZ0, hZs⟩ := zero_key
  have KZ : Hid (Blk (w.alloc (.cells Z 25)) w.heap.size 25 Z) := Blk.new w 25 Z
  have B0 : Hid (Below w.heap.size w (w.alloc (.cells Z 25))) := (Below.refl _ _).alloc (Nat.le_refl _) _
  have CI := hid (CI0 _ B0.out)
  have CE := hid (xEmpty_any _ (ht.below B0.out))
  have HI := hid (kc_info emptyH_ky)
  have hzs : Hid (Z.size = (kc emptyH).size) := by show _ = _; rw [HZ.out, kc_size zk_ky, kc_size emptyH_ky]
  generalize emptyH = E at CE HI hzs ⊢
  clear CI0 ht
  go_enter Tryz.func8, Tryz.ntmps8
  go_wp2_with (first
    | (go_at_call 17; refine CI.out.mono ?_; rintro e w1 ⟨rfl, rfl⟩)
    | (go_at_call 18; refine CE.out.mono ?_; rintro e w2 ⟨rfl, hb⟩; have L2 := hid (KZ.out.below hb); have B2 := hid (B0.out.trans (hb.mono B0.out.size)); clear hb)
    | (refine wpList_store_row rfl 25 (.tmp 4) (.tmp 13) rfl w.heap.size (kc E) rfl rfl 25 Z L2.out HI.out hzs.out (kc_one _) ?_))
  try go_frame
  refine bodyPost_ret (results_cell_slot Tryz.results8 _ _ w.heap.size 25 (kc E) (0, 0) _ rfl (L2.out.row _) Tryz.underlying25 rfl HI.out) rfl ?_
  exact ⟨rfl, below_setRow B2.out (Nat.le_refl _) _⟩
set_option maxHeartbeats 4000000 in
theorem xAdd_nil (q : Nd) (w : World) (hq : NdOk q) : Calls Tryz.prog 32 #[.pointer none, .agg (nc q).toArray] w fun e w' => e = .returned (.tuple #[.int .i64 0, .int .i64 1]) ∧ Below w.heap.size w w' := by
  have B0 : Hid (Below w.heap.size w (w.alloc (.cells (nc q).toArray 63))) := (Below.refl _ _).alloc (Nat.le_refl _) _
  go_enter Tryz.func32, Tryz.ntmps32
  go_wp2
  go_ret2
  exact ⟨rfl, B0.out⟩
/-- the iterator of no forest -/
theorem pairsf_nil (A : Nat) (B : Nat) (l : Nat) (i : Int) (W : World) (h1 : W.cell? ⟨A, 0, none⟩ = some (.pointer none)) (h2 : W.cell? ⟨B, 0, none⟩ = some (.int .i64 i)) :
    CallsIn Fence.wide 1 Tryz.prog 44 #[.func (.yield l) #[] #[], .pointer (some ⟨A, 0, none⟩), .pointer (some ⟨B, 0, none⟩)] W fun e W' => (∃ v, e = .returned v) ∧ W' = W := by
  have CI := hid (xisNode_nil i W)
  refine callsIn_of_wp Tryz.func44 rfl trivial ?_ rfl
  simp only [Tryz.ntmps44, List.size_toArray, List.length_cons, List.length_nil, Nat.reduceAdd, Nat.reduceSub, Array.replicate_succ, Array.replicate_zero, List.push_toArray, List.append_toArray, List.nil_append, List.cons_append]
  gi_wp2_with (first
    | (refine ⟨trivial, ?_⟩; gi_at_call 34; refine (callsIn_wide.2 CI.out).mono ?_; rintro e w1 ⟨rfl, rfl⟩)
    | (gi_at_call 34; refine (callsIn_wide.2 CI.out).mono ?_; rintro e w1 ⟨rfl, rfl⟩))
  go_end0
  exact ⟨⟨_, rfl⟩, rfl⟩
end Go.Proofs.YtjhaamffgkialaaGreatDoor
/-
  What is proved here: what lists of pairs hold when they are read; sizes of trees. Nothing of the program is walked here.
-/
namespace Go.Proofs.YtjhaamffgkialaaGreatDoor
open Go.ChangeShapes Go.WideShapes Go.ChangeAt Go.RowKit
set_option linter.unusedVariables false
set_option maxRecDepth 20000

/-- a list of pairs that came in -/
def InP (w : World) (A : Option Addr) (n : Nat) (P : List KV) : Prop :=
  P.length = n ∧ n ≤ 9223372036854775807 ∧ Kys P ∧ (0 < n → ∃ b o, A = some ⟨b, o, none⟩ ∧ b < w.heap.size ∧ ∀ (i : Nat) (q : KV), P[i]? = some q → w.rangeAt b (o + i * 64) (kvc q))
theorem InP.below {w w' : World} {A : Option Addr} {n : Nat} {P : List KV} (h : InP w A n P) (hb : Below w.heap.size w w') : InP w' A n P := by
  refine ⟨h.1, h.2.1, h.2.2.1, fun hn => ?_⟩
  obtain ⟨b, o, e, hlt, hat⟩ := h.2.2.2 hn
  exact ⟨b, o, e, Nat.lt_of_lt_of_le hlt hb.size, fun i q hq => rng_bel hb (hat i q hq)⟩
section
variable {H : Type} {enc : TypeId × Value → H} {w : World} {base : Nat} {spare : Nat → Bool} {held : Bool}
theorem open_pair {fuel : Nat} {cs : List Value} {x : DataW H × List MemPlace} (h : DataW.trod enc Tryz.prog w base spare held fuel 43 cs = some x) : ∃ q : KV, (Ky q.1 ∧ Ky q.2) ∧ cs = kvc q := by
  obtain ⟨xs, n, _, _, hl, hn, he⟩ := DataW.trod_struct Tryz.underlying43 h
  rw [show Tryz.prog.cellsOf 43 = 64 by kernel_rfl] at hl
  have ch : Tryz.prog.cellsOf 25 = 32 := by kernel_rfl
  match xs, hn with
  | [y0, y1], _ =>
    have e0 : DataW.trod enc Tryz.prog w base spare held n 25 ((cs.drop 0).take (Tryz.prog.cellsOf 25)) = some y0 := he 0 _ rfl
    have e1 : DataW.trod enc Tryz.prog w base spare held n 25 ((cs.drop 32).take (Tryz.prog.cellsOf 25)) = some y1 := he 1 _ rfl
    rw [ch] at e0 e1
    obtain ⟨k, hk, h1⟩ := open_key e0
    obtain ⟨v, hv, h2⟩ := open_key e1
    refine ⟨(k, v), ⟨hk, hv⟩, ?_⟩
    have d1 := drop_app h1 (by rw [u8s_length, hk.len])
    have d2 := drop_app h2 (by rw [u8s_length, hv.len])
    have d3 : cs.drop (32 + 32) = [] := List.drop_of_length_le (by omega)
    rw [List.drop_zero, Nat.zero_add] at d1
    rw [d1, d2, d3, List.append_nil]
    rfl
theorem open_pairs {fuel : Nat} {cs : List Value} {x : DataW H × List MemPlace} (h : DataW.trod enc Tryz.prog w base spare held fuel 22 cs = some x) :
    ∃ A n c P, cs = [.slice A n c] ∧ InP w A n P := by
  have hc4 : Tryz.prog.cellsOf 43 = 64 := by kernel_rfl
  rcases Deep.open_slice Tryz.underlying22 h with ⟨hcs, _⟩ | ⟨a, len, cap, m, n, D, Pl, hcs, hb, hl, hm, hmm, _, hx⟩
  · exact ⟨none, 0, 0, [], hcs, rfl, by omega, fun q hq => by simp at hq, fun h => by omega⟩
  · have each : ∀ i : Nat, ∃ q : KV, i < len → (Ky q.1 ∧ Ky q.2) ∧ ∀ j v, (kvc q)[j]? = some v → w.cell? (a.add (i * 64 + j)) = some v := by
      intro i
      by_cases hi : i < len
      · obtain ⟨cs', h1, h2⟩ := hx i (by rw [hmm]; split <;> omega)
        obtain ⟨q, hq, rfl⟩ := open_pair h2
        refine ⟨q, fun _ => ⟨hq, fun j v hv => ?_⟩⟩
        rw [hc4] at h1
        obtain ⟨hlen, _, hcell⟩ := World.cells?_some h1
        have hj : j < 64 := by
          rcases Nat.lt_or_ge j 64 with h3 | h3
          · exact h3
          · rw [List.getElem?_eq_none (by rw [kvc_len hq.1 hq.2]; exact h3)] at hv; cases hv
        have z := hcell j hj
        rw [add_add] at z
        rw [z]
        exact hv
      · exact ⟨([], []), fun h => absurd h hi⟩
    obtain ⟨F, hF⟩ := Classical.axiomOfChoice each
    refine ⟨some a, len, cap, (List.range len).map F, hcs, by simp, by unfold maxLen at hm; omega, fun q hq => ?_, fun hpos => ?_⟩
    · simp only [List.mem_map, List.mem_range] at hq
      obtain ⟨i, hi, rfl⟩ := hq
      exact (hF i hi).1
    · obtain ⟨hq0, hc0⟩ := hF 0 hpos
      obtain ⟨b, o, s⟩ := a
      have hl0 := kvc_len hq0.1 hq0.2
      have h00 := hc0 0 _ (List.getElem?_eq_getElem (by omega))
      have hs : s = none := by simpa [Addr.add] using World.cell?_spot h00
      subst hs
      refine ⟨b, o, rfl, by have := block_lt_of_cell h00; rwa [add_block] at this, fun i q hq j v hv => ?_⟩
      have hi : i < len := by
        rcases Nat.lt_or_ge i len with h3 | h3
        · exact h3
        · rw [List.getElem?_eq_none (by simp; exact h3)] at hq; cases hq
      have e : F i = q := by
        rw [List.getElem?_map, List.getElem?_range hi] at hq
        injection hq
      have := (hF i hi).2 j v (by rw [e]; exact hv)
      rw [Addr.add_lit, ← Nat.add_assoc] at this
      exact this
end
/-! Sizes. -/
theorem lohi_len (k : List Int) : ∀ l : List KV, (lo l k).length + (hi l k).length ≤ l.length
  | [] => by simp [lo, hi]
  | q :: l => by
    have ih := lohi_len k l
    unfold lo hi at ih ⊢
    rw [List.length_cons]
    by_cases h1 : lss q.1 k = true
    · rw [List.filter_cons_of_pos (by simpa using h1), List.filter_cons_of_neg (by rw [lss_asym h1]; simp), List.length_cons]
      omega
    · rw [List.filter_cons_of_neg (by simpa using h1)]
      by_cases h2 : lss k q.1 = true
      · rw [List.filter_cons_of_pos (by simpa using h2), List.length_cons]; omega
      · rw [List.filter_cons_of_neg (by simpa using h2)]; omega
theorem put_len {t : Tr} {K V : List Int} (h : t.ok) (hK : Ky K) (hV : Ky V) : (t.put K V).list.length ≤ t.list.length + 1 := by
  rw [(Tr.put_ok h hK hV).2]
  have := lohi_len K t.list
  simp only [List.length_append, List.length_singleton]
  omega
def lstO (T : Option Tr) : List KV := match T with | none => [] | some t => t.list
def okO (T : Option Tr) : Prop := match T with | none => True | some t => t.ok
theorem putO_list {T : Option Tr} {K V : List Int} (h : okO T) (hK : Ky K) (hV : Ky V) : (putO T K V).list = putL (lstO T) K V ∧ (putO T K V).ok ∧ (putO T K V).list.length ≤ szO T + 1 := by
  cases T with
  | none => exact ⟨by simp [putO, Tr.list, lstO, putL], ⟨hK, hV⟩, by simp [putO, Tr.list, szO]⟩
  | some t => exact ⟨Tr.put_list h hK hV, (Tr.put_ok h hK hV).1, put_len h hK hV⟩
theorem TAt.ok {N : List Nd} {i : Int} {T : Option Tr} (h : TAt N i T) : okO T := by
  cases T with
  | none => exact trivial
  | some t => obtain ⟨k, _, _, h3⟩ := h; exact h3
theorem TAt.more {N M : List Nd} {i : Int} {T : Option Tr} (h : TAt N i T) : TAt (N ++ M) i T := by
  cases T with
  | none => exact h
  | some t => obtain ⟨k, h1, h2, h3⟩ := h; exact ⟨k, h1, h2.more hLf hIn M, h3⟩
end Go.Proofs.YtjhaamffgkialaaGreatDoor
/-
  What is proved here: the root of a tree that has something, and what a key has in a tree.
-/
namespace Go.Proofs.YtjhaamffgkialaaGreatDoor
open Go.ChangeShapes Go.WideShapes Go.ChangeAt Go.RowKit
set_option linter.unusedVariables false
set_option linter.unusedSimpArgs false
set_option maxRecDepth 20000

section
variable {w : World} {f g b : Nat} {N : List Nd} {A : Option Addr} {c : Nat} {tv : Value}
theorem isTr_at {N : List Nd} {i : Nat} {q : Nd} (hi : N[i]? = some q) : isTr N.length i = true := by
  have hlt : i < N.length := (List.getElem?_eq_some_iff.1 hi).1
  unfold isTr isNd
  rw [Bool.or_eq_true]
  right
  rw [decide_eq_true_eq]
  omega
set_option maxHeartbeats 4000000 in
theorem xRoot_at (h : Fo w f g b N A c tv) (i : Nat) (q : Nd) (hi : N[i]? = some q) : Calls Tryz.prog 8 #[.pointer (some ⟨f, 0, none⟩), .int .i64 i] w fun e w' => e = .returned (hV q.h (.int .i64 0)) ∧ Below w.heap.size w w' := by
  obtain ⟨Z, HZ, hZ0, hZs⟩ := zero_key
  have hq := h.ok q (List.mem_of_getElem? hi)
  have KZ : Hid (Blk (w.alloc (.cells Z 25)) w.heap.size 25 Z) := Blk.new w 25 Z
  have B0 : Hid (Below w.heap.size w (w.alloc (.cells Z 25))) := (Below.refl _ _).alloc (Nat.le_refl _) _
  have F1 := h.below B0.out
  have CI := hid (xisTree_at F1 i)
  rw [isTr_at hi] at CI
  have HI := hid (kc_info hq.h)
  have HU := hid (u8s_info hq.h)
  have hzs : Hid (Z.size = (kc q.h).size) := by show _ = _; rw [HZ.out, kc_size zk_ky, kc_size hq.h]
  have hlt : i < N.length := (List.getElem?_eq_some_iff.1 hi).1
  obtain ⟨rfl, na⟩ := F1.node hi
  have NH := hid na.hash
  have cn : (w.alloc (.cells Z 25)).cell? ⟨f, 0, none⟩ = some (.slice (some ⟨g, 0, none⟩) N.length c) := F1.kf.cell 0
  obtain ⟨n, hn⟩ : ∃ n, n = N.length := ⟨_, rfl⟩
  rw [← hn] at cn hlt
  clear h hi F1 na hn hq
  go_enter Tryz.func8, Tryz.ntmps8
  go_wp2_with (first
    | (go_at_call 17; refine CI.out.mono ?_; rintro e w1 ⟨rfl, rfl⟩)
    | (refine load_at rfl 25 (.tmp 20) rfl g (i * 132 + 100) rfl (u8s q.h) _ NH.out Tryz.underlying25 rfl HU.out (kc q.h) rfl ?_)
    | (refine wpList_store_row rfl 25 (.tmp 4) (.tmp 21) rfl w.heap.size (kc q.h) rfl rfl 25 Z KZ.out HI.out hzs.out (kc_one _) ?_))
  try go_frame
  refine bodyPost_ret (results_cell_slot Tryz.results8 _ _ w.heap.size 25 (kc q.h) (0, 0) _ rfl (KZ.out.row _) Tryz.underlying25 rfl HI.out) rfl ?_
  exact ⟨rfl, below_setRow B0.out (Nat.le_refl _) _⟩
theorem get_way {K : List Int} {t : Tr} {i : Nat} {L : List Nat} {u : Tr} {x : Nat} (h : Way N K t i L u x) : t.get K = u.get K := by
  obtain ⟨T, h0, h1, h2, h3⟩ := h
  have key : ∀ k, k ≤ L.length → (T k).get K = t.get K := by
    intro k
    induction k with
    | zero => intro _; rw [h0]
    | succ k ih =>
      intro hk
      have e := ih (by omega)
      obtain ⟨y, y2, _, _, n, b, l, r, a, c, e1, _, _, _, _, _, hh⟩ := h3 k (by omega)
      rw [← e, e1]
      show _ = if bit K n = 0 then l.get K else r.get K
      rcases hh with ⟨g1, g2, _⟩ | ⟨g1, g2, _⟩
      · rw [g2, if_neg (by rw [g1]; decide)]
      · rw [g2, if_pos g1]
  rw [← key _ (Nat.le_refl _), h1]
def gV (o : Option (List Int)) : Value := hV (o.getD zk) (.bool o.isSome)
def endV (K : List Int) : Tr → Option (List Int)
  | .leaf k v => if k = K then some v else none
  | .inner _ _ _ _ => none
theorem get_end {K : List Int} {u : Tr} (huok : u.ok) (he : Ends K u) : u.get K = endV K u := by
  cases u with
  | leaf k v => rfl
  | inner n b l r => show _ = none; rw [Tr.get_list huok]; exact Tr.get_none huok he
end
end Go.Proofs.YtjhaamffgkialaaGreatDoor
/-
  What is proved here: Get of the tree without keys.
-/
namespace Go.Proofs.YtjhaamffgkialaaGreatDoor
open Go.ChangeShapes Go.WideShapes Go.ChangeAt Go.RowKit
set_option linter.unusedVariables false
set_option linter.unusedSimpArgs false
set_option maxRecDepth 20000

section
variable {wr : World} {f g b c : Nat} {N : List Nd} {A : Option Addr} {tv : Value}
theorem tree_isT (h : Fo wr f g b N A c tv) : ∀ w1, Below wr.heap.size wr w1 → Calls Tryz.prog 17 #[.pointer (some ⟨f, 0, none⟩), .int .i64 (-1)] w1 fun e w' => e = .returned (.bool true) ∧ w1 = w' := fun w1 hb => by
  have := xisTree_at (h.below hb) (-1)
  rw [show isTr N.length (-1) = true by unfold isTr; simp] at this
  exact this
end
end Go.Proofs.YtjhaamffgkialaaGreatDoor
/-
  What this file is for: what a tree has, shown: proofs as chains of texts; of two that are right of one root and don't show the same some texts clash. Nothing of the program is walked here.
-/
namespace Go.Proofs.YtjhaamffgkialaaGreatDoor
open Go.ChangeShapes Go.RowKit
set_option linter.unusedVariables false

/-- a step: the prefix's length and bits, the other child's hash -/
structure StpP where
  n : Nat
  b : List Int
  o : List Int
/-- a proof's end -/
inductive PEnd where
  | none
  | leaf (k v : List Int)
  | inner (n : Nat) (b l r : List Int)
/-- what it shows of a key -/
def PEnd.shows (e : PEnd) (key : List Int) : Option (List Int) :=
  match e with
  | .leaf k v => if k = key then some v else Option.none
  | _ => Option.none
section
variable (S : List Int → List Int) (tE : List Int) (tL : List Int → List Int → List Int) (tI : Nat → List Int → List Int → List Int → List Int)
/-- the end's text -/
def endT : PEnd → List Int
  | .none => tE
  | .leaf k v => tL k v
  | .inner n b l r => tI n b l r
/-- the uppermost text of a chain -/
def topT (key : List Int) (e : PEnd) : List StpP → List Int
  | [] => endT tE tL tI e
  | s :: ss => if bit key s.n = 0 then tI s.n s.b (S (topT key e ss)) s.o else tI s.n s.b s.o (S (topT key e ss))
/-- all texts, from the uppermost one on -/
def allT (key : List Int) (e : PEnd) : List StpP → List (List Int)
  | [] => [endT tE tL tI e]
  | s :: ss => topT S tE tL tI key e (s :: ss) :: allT key e ss
theorem topMem (key : List Int) (e : PEnd) (ss : List StpP) : topT S tE tL tI key e ss ∈ allT S tE tL tI key e ss := by
  cases ss with
  | nil => simp [topT, allT]
  | cons s ss => simp [allT]
/-- some text of the one, and some of the other one, are different, and have one hash -/
def Clash (A B : List (List Int)) : Prop := ∃ x ∈ A, ∃ y ∈ B, x ≠ y ∧ S x = S y
/-- texts tell what they are of -/
structure Tells : Prop where
  le : ∀ k v, tL k v ≠ tE
  ie : ∀ n b l r, tI n b l r ≠ tE
  li : ∀ k v n b l r, tL k v ≠ tI n b l r
/-- of keys and hashes of 32 bytes, and lengths up to 256, texts tell all -/
def TellsL : Prop := ∀ k v k' v', Ky k → Ky v → Ky k' → Ky v' → tL k v = tL k' v' → k = k' ∧ v = v'
def TellsI : Prop := ∀ n b l r n' b' l' r', n ≤ 256 → n' ≤ 256 → Ky b → Ky l → Ky r → Ky b' → Ky l' → Ky r' → tI n b l r = tI n' b' l' r' → n = n' ∧ b = b' ∧ l = l' ∧ r = r'
def PEnd.kys : PEnd → Prop
  | .none => True
  | .leaf k v => Ky k ∧ Ky v
  | .inner n b l r => n ≤ 256 ∧ Ky b ∧ Ky l ∧ Ky r
/-- what the steps and the end must be -/
structure ChainP (key : List Int) (e : PEnd) (ss : List StpP) : Prop where
  st : ∀ s ∈ ss, s.n < 256 ∧ Ky s.b ∧ Ky s.o ∧ cut key s.n = s.b
  ek : e.kys
  e2 : ∀ n b l r, e = .inner n b l r → cut key n ≠ b
theorem ChainP.tail {key : List Int} {e : PEnd} {s : StpP} {ss : List StpP} (h : ChainP key e (s :: ss)) : ChainP key e ss := ⟨fun x hx => h.st x (List.mem_cons_of_mem _ hx), h.ek, h.e2⟩
theorem chains_clash (hS : ∀ x, Ky (S x)) (h1 : Tells tE tL tI) (h2 : TellsL tL) (h3 : TellsI tI) {key : List Int} {e e' : PEnd} : ∀ {ss ss' : List StpP}, ChainP key e ss → ChainP key e' ss' → S (topT S tE tL tI key e ss) = S (topT S tE tL tI key e' ss') → e.shows key ≠ e'.shows key → Clash S (allT S tE tL tI key e ss) (allT S tE tL tI key e' ss')
  | ss, ss', c, c', hr, hne => by
    by_cases heq : topT S tE tL tI key e ss = topT S tE tL tI key e' ss'
    · match ss, ss', c, c', hr, heq with
      | [], [], c, c', _, heq =>
        exfalso
        simp only [topT] at heq
        match e, e', c, c', heq, hne with
        | .none, .none, _, _, _, hne => exact hne rfl
        | .none, .leaf k v, _, _, heq, _ => exact h1.le _ _ heq.symm
        | .none, .inner n b l r, _, _, heq, _ => exact h1.ie _ _ _ _ heq.symm
        | .leaf k v, .none, _, _, heq, _ => exact h1.le _ _ heq
        | .leaf k v, .leaf k' v', c, c', heq, hne =>
          obtain ⟨a1, a2⟩ := h2 _ _ _ _ c.ek.1 c.ek.2 c'.ek.1 c'.ek.2 heq
          subst a1 a2
          exact hne rfl
        | .leaf k v, .inner n b l r, _, _, heq, _ => exact h1.li _ _ _ _ _ _ heq
        | .inner n b l r, .none, _, _, heq, _ => exact h1.ie _ _ _ _ heq
        | .inner n b l r, .leaf k v, _, _, heq, _ => exact h1.li _ _ _ _ _ _ heq.symm
        | .inner n b l r, .inner n' b' l' r', _, _, _, hne => exact hne rfl
      | [], s :: ss, c, c', _, heq =>
        exfalso
        have hs := c'.st s (by simp)
        have key2 : ∀ l r, Ky l → Ky r → endT tE tL tI e = tI s.n s.b l r → False := fun l r hl2 hr2 h => by
          match e, c, h with
          | .none, _, h => exact h1.ie _ _ _ _ h.symm
          | .leaf k v, _, h => exact h1.li _ _ _ _ _ _ h
          | .inner n b l' r', c, h =>
            obtain ⟨a1, a2, _⟩ := h3 _ _ _ _ _ _ _ _ c.ek.1 (by omega) c.ek.2.1 c.ek.2.2.1 c.ek.2.2.2 hs.2.1 hl2 hr2 h
            exact c.e2 _ _ _ _ rfl (by rw [a1, a2]; exact hs.2.2.2)
        simp only [topT] at heq
        by_cases hb : bit key s.n = 0
        · rw [if_pos hb] at heq; exact key2 _ _ (hS _) hs.2.2.1 heq
        · rw [if_neg hb] at heq; exact key2 _ _ hs.2.2.1 (hS _) heq
      | s :: ss, [], c, c', _, heq =>
        exfalso
        have hs := c.st s (by simp)
        have key2 : ∀ l r, Ky l → Ky r → tI s.n s.b l r = endT tE tL tI e' → False := fun l r hl2 hr2 h => by
          match e', c', h with
          | .none, _, h => exact h1.ie _ _ _ _ h
          | .leaf k v, _, h => exact h1.li _ _ _ _ _ _ h.symm
          | .inner n b l' r', c', h =>
            obtain ⟨a1, a2, _⟩ := h3 _ _ _ _ _ _ _ _ (by omega) c'.ek.1 hs.2.1 hl2 hr2 c'.ek.2.1 c'.ek.2.2.1 c'.ek.2.2.2 h
            exact c'.e2 _ _ _ _ rfl (by rw [← a1, ← a2]; exact hs.2.2.2)
        simp only [topT] at heq
        by_cases hb : bit key s.n = 0
        · rw [if_pos hb] at heq; exact key2 _ _ (hS _) hs.2.2.1 heq
        · rw [if_neg hb] at heq; exact key2 _ _ hs.2.2.1 (hS _) heq
      | s :: ss, s' :: ss', c, c', _, heq =>
        have hs := c.st s (by simp)
        have hs' := c'.st s' (by simp)
        have hsub : S (topT S tE tL tI key e ss) = S (topT S tE tL tI key e' ss') := by
          simp only [topT] at heq
          by_cases hb : bit key s.n = 0 <;> by_cases hb' : bit key s'.n = 0
          · rw [if_pos hb, if_pos hb'] at heq
            exact (h3 _ _ _ _ _ _ _ _ (by omega) (by omega) hs.2.1 (hS _) hs.2.2.1 hs'.2.1 (hS _) hs'.2.2.1 heq).2.2.1
          · rw [if_pos hb, if_neg hb'] at heq
            have := (h3 _ _ _ _ _ _ _ _ (by omega) (by omega) hs.2.1 (hS _) hs.2.2.1 hs'.2.1 hs'.2.2.1 (hS _) heq).1
            exact (hb' (by rw [← this]; exact hb)).elim
          · rw [if_neg hb, if_pos hb'] at heq
            have := (h3 _ _ _ _ _ _ _ _ (by omega) (by omega) hs.2.1 hs.2.2.1 (hS _) hs'.2.1 (hS _) hs'.2.2.1 heq).1
            exact (hb (by rw [this]; exact hb')).elim
          · rw [if_neg hb, if_neg hb'] at heq
            exact (h3 _ _ _ _ _ _ _ _ (by omega) (by omega) hs.2.1 hs.2.2.1 (hS _) hs'.2.1 hs'.2.2.1 (hS _) heq).2.2.2
        obtain ⟨x, hx, y, hy, hxy⟩ := chains_clash hS h1 h2 h3 c.tail c'.tail hsub hne
        exact ⟨x, List.mem_cons_of_mem _ hx, y, List.mem_cons_of_mem _ hy, hxy⟩
    · exact ⟨_, topMem S tE tL tI key e ss, _, topMem S tE tL tI key e' ss', heq, hr⟩
  termination_by ss => ss.length

/-! What a tree has, shown. -/
/-- the proof of a key in a tree -/
def showT (hL : List Int → List Int → List Int) (hI : Nat → List Int → List Int → List Int → List Int) (key : List Int) : Tr → List StpP × PEnd
  | .leaf k v => ([], .leaf k v)
  | .inner n b l r => if cut key n = b then (if bit key n = 0 then (⟨n, b, r.hash hL hI⟩ :: (showT hL hI key l).1, (showT hL hI key l).2) else (⟨n, b, l.hash hL hI⟩ :: (showT hL hI key r).1, (showT hL hI key r).2)) else ([], .inner n b (l.hash hL hI) (r.hash hL hI))
/-- its hash is the tree's -/
theorem showHash (key : List Int) : ∀ (t : Tr), S (topT S tE tL tI key (showT (fun k v => S (tL k v)) (fun n b l r => S (tI n b l r)) key t).2 (showT (fun k v => S (tL k v)) (fun n b l r => S (tI n b l r)) key t).1) = t.hash (fun k v => S (tL k v)) (fun n b l r => S (tI n b l r))
  | .leaf k v => rfl
  | .inner n b l r => by
    have hl := showHash key l
    have hr := showHash key r
    unfold showT
    by_cases hc : cut key n = b
    · rw [if_pos hc]
      by_cases hb : bit key n = 0
      · rw [if_pos hb]
        simp only [topT, if_pos hb, Tr.hash]
        rw [hl]
      · rw [if_neg hb]
        simp only [topT, if_neg hb, Tr.hash]
        rw [hr]
    · rw [if_neg hc]
      rfl
theorem hash_ky (hS : ∀ x, Ky (S x)) : ∀ (t : Tr), Ky (t.hash (fun k v => S (tL k v)) (fun n b l r => S (tI n b l r)))
  | .leaf k v => hS _
  | .inner n b l r => hS _
theorem bits_ky {n : Nat} {b : List Int} {l r : Tr} (h : (Tr.inner n b l r).ok) : Ky b ∧ cut b n = b := by
  obtain ⟨x, hx⟩ := l.one
  have := (h.2.2.2.1 x hx).1
  exact ⟨by rw [← this]; exact cut_ky _ _, by rw [← this, cut_cut, Nat.min_self]⟩
/-- it is a chain, and shows what the tree has -/
theorem showOk (hS : ∀ x, Ky (S x)) (key : List Int) : ∀ {t : Tr}, t.ok → ChainP key (showT (fun k v => S (tL k v)) (fun n b l r => S (tI n b l r)) key t).2 (showT (fun k v => S (tL k v)) (fun n b l r => S (tI n b l r)) key t).1 ∧ (showT (fun k v => S (tL k v)) (fun n b l r => S (tI n b l r)) key t).2.shows key = getL t.list key
  | .leaf k v, h => by
    refine ⟨⟨fun s hs => by simp [showT] at hs, h, fun n b l r e => by simp [showT] at e⟩, ?_⟩
    rw [← Tr.get_list (t := .leaf k v) h]
    rfl
  | .inner n b l r, h => by
    obtain ⟨cl, gl⟩ := showOk hS key h.1
    obtain ⟨cr, gr⟩ := showOk hS key h.2.1
    have hb2 := bits_ky h
    have hget := Tr.get_list (t := .inner n b l r) (k := key) h
    rw [← hget]
    unfold showT
    by_cases hc : cut key n = b
    · rw [if_pos hc]
      by_cases hb : bit key n = 0
      · rw [if_pos hb]
        refine ⟨⟨fun s hs => ?_, cl.ek, cl.e2⟩, ?_⟩
        · rcases List.mem_cons.1 hs with h9 | h9
          · rw [h9]; exact ⟨h.2.2.1, hb2.1, hash_ky S tL tI hS r, hc⟩
          · exact cl.st s h9
        · show _ = (if bit key n = 0 then l.get key else r.get key)
          rw [if_pos hb, Tr.get_list h.1]
          exact gl
      · rw [if_neg hb]
        refine ⟨⟨fun s hs => ?_, cr.ek, cr.e2⟩, ?_⟩
        · rcases List.mem_cons.1 hs with h9 | h9
          · rw [h9]; exact ⟨h.2.2.1, hb2.1, hash_ky S tL tI hS l, hc⟩
          · exact cr.st s h9
        · show _ = (if bit key n = 0 then l.get key else r.get key)
          rw [if_neg hb, Tr.get_list h.2.1]
          exact gr
    · rw [if_neg hc]
      refine ⟨⟨fun s hs => by simp at hs, ⟨by have := h.2.2.1; omega, hb2.1, hash_ky S tL tI hS l, hash_ky S tL tI hS r⟩, fun n' b' l' r' e => ?_⟩, ?_⟩
      · injection e with e1 e2 e3 e4
        subst e1 e2
        exact hc
      · rw [hget, Tr.get_none h hc]
        rfl
end
end Go.Proofs.YtjhaamffgkialaaGreatDoor
