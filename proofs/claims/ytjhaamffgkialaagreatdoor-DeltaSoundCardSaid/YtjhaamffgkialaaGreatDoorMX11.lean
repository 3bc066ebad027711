/-
  What is proved here: the way down from a tree's uppermost node, as long as inner nodes hold a key.
-/
import Derived.Test.YtjhaamffgkialaaGreatDoorMX8
import Derived.RangeFuncNested
import Derived.RangeFuncBound
import Derived.RangeFuncCalls
import Derived.RangeFuncLeaves
import Derived.Shelf.Abstract
import Derived.Shelf.RegionOpen
import Derived.OwnWalkIn
import Derived.TacticsInMore
import Derived.LoopNIn
import Derived.LoopIn
import Derived.RangeFuncFrom
import Derived.OrdersIn
import Derived.OrdersHeld
set_option linter.unusedSimpArgs false
set_option linter.unusedVariables false
namespace Go.Proofs.YtjhaamffgkialaaGreatDoor
open Go.ChangeShapes Go.WideShapes Go.ChangeAt Go.RowKit
set_option linter.unusedVariables false
set_option linter.unusedSimpArgs false
set_option maxRecDepth 20000

def i64s (xs : List Int) : List Value := xs.map (Value.int .i64)
theorem i64s_len (xs : List Int) : (i64s xs).length = xs.length := by simp [i64s]
theorem i64s_one (xs : List Int) : ∀ v ∈ i64s xs, v.oneCell' = true := by
  intro v hv
  simp only [i64s, List.mem_map] at hv
  obtain ⟨x, _, rfl⟩ := hv
  rfl
theorem info_int : (Tryz.prog.info? 3).map (fun i => (i.zero, i.size, i.bytes)) = some (some (.int .i64 0), 1, 8) := by kernel_rfl
theorem append_int {w : World} {ops : Array Oper} {rest : List Oper} {o : Oper} {a : Act} {Q : Exit → Act → World → Prop} (hgd : o.guard = none) (s x : Operand)
    (ho : o.op = .call { callee := .builtin .append, args := #[s, x], argTypes := #[71, 71] })
    (base : Nat) (A : Option Addr) (c : Nat) (xs : List Int) (n : Nat) (hn : n = xs.length) (hs : a.eval s = .slice A n c) (hown : w.ownsRow base 3 1 (.slice A n c) n (i64s xs))
    (ad : Addr) (y : Int) (hx : a.eval x = .slice (some ad) 1 1) (hr : w.cell? ad = some (.int .i64 y)) (h63 : n < 1000000) (hbase : base ≤ w.heap.size)
    (h : ∀ A' c' w', Hid (w'.ownsRow base 3 1 (.slice A' (n + 1) c') (n + 1) (i64s (xs ++ [y]))) → Hid (Below base w w') → wpList Tryz.prog ops Q rest (a.put o.dst (.slice A' (n + 1) c')) w') : wpList Tryz.prog ops Q (o :: rest) a w := by
  obtain ⟨i0, hi, hz0, hz1, hz2⟩ := info_parts info_int
  refine wpList_append_own _ hgd s x 71 ho base 3 i0 (.int .i64 0) 1 8 Tryz.underlying71 hi hz0 hz1 hz2 rfl (by decide) (.slice A n c) n (i64s xs) hs hown ad 1 1 (i64s [y]) hx (by rw [i64s_len]; simp) (fun j u hu => ?_) (i64s_one _) (by unfold maxLen; omega) (by omega) hbase ?_
  · cases j with
    | zero =>
      simp [i64s] at hu
      subst hu
      have e : ad.add 0 = ad := by unfold Addr.add; simp
      rw [e]; exact hr
    | succ j => simp [i64s] at hu
  · intro v' w' h1 h2 _
    have hv : ∃ A' c', v' = .slice A' (n + 1) c' := by
      rcases h1.2 with ⟨_, h5⟩ | ⟨g, cap, cur, hv, _⟩
      · omega
      · exact ⟨_, _, hv⟩
    obtain ⟨A', c', rfl⟩ := hv
    refine h A' c' w' (show World.ownsRow _ _ _ _ _ _ _ from ?_) ((Below.refl _ _).grown h2 (by omega) (fun b hb => (hown.lt b hb).1))
    rw [show i64s (xs ++ [y]) = i64s xs ++ i64s [y] by simp [i64s]]
    exact h1

def ns (L : List Nat) : List Int := L.map (fun k : Nat => (k : Int))
theorem ns_snoc (L : List Nat) (x : Nat) : ns (L ++ [x]) = ns L ++ [(x : Int)] := by simp [ns]
theorem ns_len (L : List Nat) : (ns L).length = L.length := by simp [ns]
/-! The way down, in trees. -/
/-- one step down -/
def Stp (N : List Nd) (K : List Int) (s : Tr) (x : Nat) (s' : Tr) (x' : Nat) : Prop := ∃ n b l r a c, s = .inner n b l r ∧ N[x]? = some (ndI n b a c (s.hash hLf hIn)) ∧ cut K n = b ∧ Rep hLf hIn N a l ∧ Rep hLf hIn N c r ∧ s.ok ∧
  ((bit K n = 1 ∧ s' = r ∧ x' = c) ∨ (bit K n = 0 ∧ s' = l ∧ x' = a))
/-- a way from a tree down to one below it -/
def Way (N : List Nd) (K : List Int) (t : Tr) (i : Nat) (L : List Nat) (u : Tr) (e : Nat) : Prop :=
  ∃ T : Nat → Tr, T 0 = t ∧ T L.length = u ∧ (L ++ [e])[0]? = some i ∧ ∀ k, k < L.length → ∃ x x', (L ++ [e])[k]? = some x ∧ (L ++ [e])[k + 1]? = some x' ∧ Stp N K (T k) x (T (k + 1)) x'
theorem Way.nil {N : List Nd} {K : List Int} {t : Tr} {i : Nat} : Way N K t i [] t i := ⟨fun _ => t, rfl, rfl, rfl, fun k hk => absurd hk (Nat.not_lt_zero _)⟩
theorem Way.snoc {N : List Nd} {K : List Int} {t u u' : Tr} {i e e' : Nat} {L : List Nat} (h : Way N K t i L u e) (hs : Stp N K u e u' e') : Way N K t i (L ++ [e]) u' e' := by
  obtain ⟨T, h0, h1, h2, h3⟩ := h
  refine ⟨fun k => if k ≤ L.length then T k else u', by simp [h0], by simp only [List.length_append, List.length_singleton]; rw [if_neg (by omega)], ?_, fun k hk => ?_⟩
  · rw [List.getElem?_append_left (by simp)]; exact h2
  · rw [List.length_append, List.length_singleton] at hk
    by_cases hlt : k < L.length
    · obtain ⟨x, x', a1, a2, a3⟩ := h3 k hlt
      refine ⟨x, x', ?_, ?_, ?_⟩
      · rw [List.getElem?_append_left (by simp; omega)]; exact a1
      · rw [List.getElem?_append_left (by simp; omega)]; exact a2
      · simp only [if_pos (show k ≤ L.length by omega), if_pos (show k + 1 ≤ L.length by omega)]; exact a3
    · obtain rfl : k = L.length := by omega
      refine ⟨e, e', ?_, ?_, ?_⟩
      · rw [List.getElem?_append_left (by simp), List.getElem?_append_right (Nat.le_refl _), Nat.sub_self]; rfl
      · rw [List.getElem?_append_right (by simp)]; simp
      · simp only [Nat.le_refl, if_true, if_neg (show ¬ L.length + 1 ≤ L.length by omega), h1]; exact hs
theorem Stp.less {N : List Nd} {K : List Int} {s s' : Tr} {x x' : Nat} (h : Stp N K s x s' x') : s'.list.length < s.list.length := by
  obtain ⟨n, b, l, r, a, c, rfl, _, _, _, _, _, hh⟩ := h
  have h1 := l.pos; have h2 := r.pos
  show _ < (l.list ++ r.list).length
  rw [List.length_append]
  rcases hh with ⟨_, rfl, _⟩ | ⟨_, rfl, _⟩ <;> omega
/-- where the way ends: no inner node that holds the key -/
def Ends (K : List Int) : Tr → Prop
  | .leaf _ _ => True
  | .inner n b _ _ => cut K n ≠ b
theorem rep_node {N : List Nd} {x : Nat} {s : Tr} (h : Rep hLf hIn N x s) : ∃ q, N[x]? = some q ∧ q.leaf = (match s with | .leaf _ _ => true | .inner _ _ _ _ => false) ∧ q.h = s.hash hLf hIn := by
  cases s with
  | leaf k v => exact ⟨_, h, rfl, rfl⟩
  | inner n b l r => obtain ⟨a, c, h1, _⟩ := h; exact ⟨_, h1, rfl, rfl⟩
theorem hld_nat {n : Nat} {b K : List Int} (hn : n < 256) : hld (n : Int) b K = decide (cut K n = b) := by
  unfold hld
  rw [Int.toNat_natCast]
  by_cases h : cut K n = b
  · rw [decide_eq_true h, decide_eq_true ⟨by omega, by omega, h⟩]
  · rw [decide_eq_false h, decide_eq_false (fun h2 => h h2.2.2)]
/-- what the way answers -/
def WayA (w : World) (N : List Nd) (K : List Int) (t : Tr) (i : Nat) (e : Ending) (w' : World) : Prop := ∃ L u x A c, e = .returned (.tuple #[.slice A L.length c, .int .i64 (x : Nat)]) ∧ Way N K t i L u x ∧ Rep hLf hIn N x u ∧ u.ok ∧ Ends K u ∧ L.length + u.list.length ≤ t.list.length ∧
  w'.ownsRow w.heap.size 3 1 (.slice A L.length c) L.length (i64s (ns L)) ∧ Below w.heap.size w w'
theorem own_weak {w : World} {b1 b2 e s n : Nat} {v : Value} {xs : List Value} (h : w.ownsRow b1 e s v n xs) (hb : b2 ≤ b1) : w.ownsRow b2 e s v n xs := by
  refine ⟨h.1, ?_⟩
  rcases h.2 with h1 | ⟨g, cap, cur, hv, hg, rest⟩
  · exact .inl h1
  · exact .inr ⟨g, cap, cur, hv, Nat.le_trans hb hg, rest⟩
/-- between two steps: where the way is -/
structure WyI (N : List Nd) (K : List Int) (t : Tr) (i : Nat) (w0 : World) (L : List Nat) (s : Tr) (x m : Nat) (A : Option Addr) (c : Nat) (wr : World) : Prop where
  way : Way N K t i L s x
  rep : Rep hLf hIn N x s
  ok : s.ok
  len : m = L.length
  few : m + s.list.length ≤ t.list.length
  row : wr.ownsRow w0.heap.size 3 1 (.slice A m c) m (i64s (ns L))
  bl : Below w0.heap.size w0 wr
section
variable {w : World} {f g b0 : Nat} {N : List Nd} {A : Option Addr} {c : Nat} {tv : Value}
set_option maxHeartbeats 8000000 in
theorem xway_at (h : Fo w f g b0 N A c tv) (i : Nat) (t : Tr) (hr : Rep hLf hIn N i t) (hok : t.ok) (K : List Int) (hK : Ky K) (hsm : t.list.length < 100000) :
    Calls Tryz.prog 26 #[.pointer (some ⟨f, 0, none⟩), .int .i64 i, .agg (kc K)] w (WayA w N K t i) := by
  have K1 : Hid (Blk (w.alloc (.cells (kc K) 25)) w.heap.size 25 (kc K)) := Blk.new w 25 _
  have B0 : Hid (Below w.heap.size w (w.alloc (.cells (kc K) 25))) := (Below.refl _ _).alloc (Nat.le_refl _) _
  have HKI := hid (u8s_info hK)
  have FO := hid h; have HK := hid hK; have HSM := hid hsm
  obtain ⟨n, hn⟩ : ∃ n, n = N.length := ⟨_, rfl⟩
  have HN := hid hn
  have HR := hid hr; have HO := hid hok
  clear h hr hok hK hn hsm
  go_enter Tryz.func26, Tryz.ntmps26
  go_wp2_with (fail)
  have S0 : Hid ((w.alloc (.cells (kc K) 25)).heap.size = w.heap.size + 1) := by show _ = _; simp
  have I0 : Hid (WyI N K t i (w.alloc (.cells (kc K) 25)) [] t i 0 none 0 (w.alloc (.cells (kc K) 25))) := ⟨Way.nil, HR.out, HO.out, rfl, by simp, ⟨rfl, .inl ⟨rfl, rfl⟩⟩, Below.refl _ _⟩
  generalize w.alloc (.cells (kc K) 25) = w0 at K1 B0 S0 I0 ⊢
  go_loopw [8, 9] (fun v8 v9 wr => ∃ L s x m A2 c2, v8 = .slice A2 m c2 ∧ v9 = .int .i64 (x : Nat) ∧ Hid (WyI N K t i w0 L s x m A2 c2 wr)) (fun _ e _ => (intOf e).toNat)
  case atStart => exact ⟨[], t, i, 0, none, 0, rfl, rfl, I0⟩
  case round =>
    obtain ⟨L, s, x, m, A2, c2, rfl, rfl, HI⟩ := hrel
    have BB := hid (B0.out.trans (HI.out.bl.mono B0.out.size))
    have F1 := FO.out.below BB.out
    have KB := hid (K1.out.below HI.out.bl)
    have hne : ((x : Int) != -1) = true := by simp
    have hm1 : m < 100000 := by have := HI.out.few; have := HSM.out; omega
    cases s with
    | leaf k v =>
      have hq : N[x]? = some (ndL k v (hLf k v)) := HI.out.rep
      obtain ⟨hA, na⟩ := F1.node hq
      have cn : wr.cell? ⟨f, 0, none⟩ = some (.slice (some ⟨g, 0, none⟩) n c) := by rw [HN.out, ← hA]; exact F1.kf.cell 0
      have hlt : x < n := by rw [HN.out]; exact (List.getElem?_eq_some_iff.1 hq).1
      have cl0 : wr.cell? ⟨g, x * 132, none⟩ = some (.bool true) := na.leaf
      have cl := fun p : PW (Kp wr) => cell_bel p.h cl0
      clear hA na hq F1
      go_upto_region 5 with (fail)
      refine region_kept (Kp wr) (by kernel_rfl) (by kernel_rfl) (kp_begin wr) ?_
      repeat (first
        | go_big_quiet_skip
        | (go_big_quiet_want; go_big_quiet_op; first | go_big_quiet_on))
      refine wpQuiet_nil ?_
      intro _ hw'
      obtain ⟨p, hw''⟩ := hw'
      subst hw''
      go_wp2
      go_ret2
      exact ⟨L, .leaf k v, x, A2, c2, by rw [← HI.out.len]; rfl, HI.out.way, HI.out.rep, HI.out.ok, trivial, by have := HI.out.few; rw [HI.out.len] at this; exact this, by have := own_weak (own_keep HI.out.row (fun k hk => p.h.block k (HI.out.row.lt k hk).2)) B0.out.size; rw [HI.out.len] at this; exact this, BB.out.trans (p.h.mono BB.out.size)⟩
    | inner n0 b l r =>
      obtain ⟨a, d, hq, ha, hd, hra, hrd⟩ := HI.out.rep
      obtain ⟨hA, na⟩ := F1.node hq
      have qok := F1.ok _ (List.mem_of_getElem? hq)
      have cn : wr.cell? ⟨f, 0, none⟩ = some (.slice (some ⟨g, 0, none⟩) n c) := by rw [HN.out, ← hA]; exact F1.kf.cell 0
      have hlt : x < n := by rw [HN.out]; exact (List.getElem?_eq_some_iff.1 hq).1
      have cl0 : wr.cell? ⟨g, x * 132, none⟩ = some (.bool false) := na.leaf
      have cl := fun p : PW (Kp wr) => cell_bel p.h cl0
      have NP : Hid (wr.rangeAt g (x * 132 + 65) (.int .i64 n0 :: u8s b)) := na.pre
      have NPp := hid (fun p : PW (Kp wr) => rng_bel p.h NP.out)
      have KBp := hid (fun p : PW (Kp wr) => kp_key KB.out p)
      have hb : Ky b := qok.b
      have HPI := hid (pcl_info n0 hb)
      have hn0 : n0 < 256 := HI.out.ok.2.2.1
      have CH := hid (fun w => pHolds_any n0 b K hb HK.out w)
      rw [hld_nat hn0] at CH
      have NA := hid na
      have HQ := hid hq
      have HRA := hid hra; have HRD := hid hrd
      clear hA qok hq F1 na hra hrd
      by_cases hc : cut K n0 = b
      · rw [decide_eq_true hc] at CH
        have CB := hid (fun w => pBit_any K HK.out n0 w)
        rw [bitI_in K n0 hn0] at CB
        have hcc := hid hc
        have h01 := bit01 K n0
        clear hc
        go_upto_region 5 with (fail)
        refine region_kept (Kp wr) (by kernel_rfl) (by kernel_rfl) (kp_begin wr) ?_
        repeat (first
          | go_big_quiet_skip
          | (go_big_quiet_want; refine quiet_load 47 (.tmp 27) rfl g (x * 132 + 65) rfl (.int .i64 n0 :: u8s b) _ (fun p => NPp.out p) Tryz.underlying47 rfl HPI.out (pc n0 b) rfl ?_; go_big_quiet_on; simp only [Act.put, List.setIfInBounds_toArray, List.set_cons_zero, List.set_cons_succ])
          | (go_big_quiet_want; refine quiet_load 25 (.tmp 5) rfl w.heap.size 0 rfl (u8s K) _ (fun p => KBp.out p) Tryz.underlying25 rfl HKI.out (kc K) rfl ?_; go_big_quiet_on; simp only [Act.put, List.setIfInBounds_toArray, List.set_cons_zero, List.set_cons_succ])
          | (go_big_quiet_want; go_big_quiet_op; first | go_big_quiet_on | go_big_quiet_call (first
            | (go_at_call 49; with_reducible exact kp_call (CH.out _)))))
        refine wpQuiet_nil ?_
        intro _ hw'
        obtain ⟨p, hw''⟩ := hw'
        subst hw''
        have PB1 := hid p.h
        generalize p.w = w1 at PB1 ⊢
        have RW1 : Hid (w1.ownsRow w0.heap.size 3 1 (.slice A2 m c2) m (i64s (ns L))) := own_keep HI.out.row (fun k hk => PB1.out.block k (HI.out.row.lt k hk).2)
        have BL1 := hid (HI.out.bl.trans (PB1.out.mono HI.out.bl.size))
        have NA1 := hid (NA.out.same (FO.out.ok _ (List.mem_of_getElem? HQ.out)) (PB1.out.block g (block_lt_of_cell cl0)))
        clear cl cl0 NP NPp KBp cn
        go_upto_region 7 with (first
          | (at_builtin; refine append_int rfl (.tmp 33) (.tmp 35) rfl w0.heap.size A2 c2 (ns L) m (by rw [ns_len]; exact HI.out.len) rfl (own_keep RW1.out (fun k hk => Below.heap_alloc w1 _ k (RW1.out.lt k hk).2)) ⟨w1.heap.size, 0, none⟩ x rfl ((Blk.new w1 3 #[.int .i64 x]).cell 0) (by omega) (by rw [World.size_alloc]; exact Nat.le_succ_of_le BL1.out.size) ?_; intro A3 c3 w2 RW2 B2))
        have GLT : g < w0.heap.size := Nat.lt_of_lt_of_le FO.out.lts.2.1 B0.out.size
        have BL2 := hid ((BL1.out.alloc BL1.out.size (.cells #[.int .i64 x] 3)).trans B2.out)
        have NA2 := hid (NA1.out.same (FO.out.ok _ (List.mem_of_getElem? HQ.out)) ((B2.out.block g GLT).trans (Below.heap_alloc w1 _ g (Nat.lt_of_lt_of_le GLT BL1.out.size))))
        have c98 : w2.cell? ⟨g, x * 132 + 98, none⟩ = some (.int .i64 a) := NA2.out.left
        go_upto_region 8 with (fail)
        clear c98
        have KB2 := hid (K1.out.below BL2.out)
        have KBq := hid (fun p : PW (Kp w2) => kp_key KB2.out p)
        have c65 : w2.cell? ⟨g, x * 132 + 65, none⟩ = some (.int .i64 n0) := NA2.out.len
        have cm := fun p : PW (Kp w2) => cell_bel p.h c65
        have HST : Hid ((bit K n0 = 1 ∧ Stp N K (.inner n0 b l r) x r d) ∨ (bit K n0 = 0 ∧ Stp N K (.inner n0 b l r) x l a)) := by
          rcases h01 with h0 | h0
          · exact .inr ⟨h0, n0, b, l, r, a, d, rfl, HQ.out, hcc.out, HRA.out, HRD.out, HI.out.ok, .inr ⟨h0, rfl, rfl⟩⟩
          · exact .inl ⟨h0, n0, b, l, r, a, d, rfl, HQ.out, hcc.out, HRA.out, HRD.out, HI.out.ok, .inl ⟨h0, rfl, rfl⟩⟩
        obtain ⟨y, hy⟩ : ∃ y, y = bit K n0 := ⟨_, rfl⟩
        rw [← hy] at CB HST
        clear h01 hy
        have HOK := hid HI.out.ok
        rcases HST.out with ⟨rfl, hst⟩ | ⟨rfl, hst⟩
        · have HS2 := hid hst
          clear hst HST
          refine region_kept (Kp w2) (by kernel_rfl) (by kernel_rfl) (kp_begin w2) ?_
          repeat (first
            | go_big_quiet_skip
            | (go_big_quiet_want; refine quiet_load 25 (.tmp 5) rfl w.heap.size 0 rfl (u8s K) _ (fun p => KBq.out p) Tryz.underlying25 rfl HKI.out (kc K) rfl ?_; go_big_quiet_on; simp only [Act.put, List.setIfInBounds_toArray, List.set_cons_zero, List.set_cons_succ])
            | (go_big_quiet_want; go_big_quiet_op; first | go_big_quiet_on | go_big_quiet_call (first
              | (go_at_call 50; with_reducible exact kp_call (CB.out _)))))
          refine wpQuiet_nil ?_
          intro _ hw'
          obtain ⟨p, hw''⟩ := hw'
          subst hw''
          have c99 : p.w.cell? ⟨g, x * 132 + 99, none⟩ = some (.int .i64 d) := cell_bel p.h NA2.out.right
          go_wp2
          go_roundw
          case rel => exact ⟨L ++ [x], r, d, m + 1, A3, c3, rfl, rfl, HI.out.way.snoc HS2.out, HRD.out, HOK.out.2.1, by rw [List.length_append, HI.out.len]; rfl, by have := HI.out.few; have := HS2.out.less; omega, by rw [ns_snoc]; exact own_keep RW2.out (fun k hk => p.h.block k (RW2.out.lt k hk).2), BL2.out.trans (p.h.mono BL2.out.size)⟩
          case measure => simp [intOf]; omega
        · have HS2 := hid hst
          clear hst HST
          refine region_kept (Kp w2) (by kernel_rfl) (by kernel_rfl) (kp_begin w2) ?_
          repeat (first
            | go_big_quiet_skip
            | (go_big_quiet_want; refine quiet_load 25 (.tmp 5) rfl w.heap.size 0 rfl (u8s K) _ (fun p => KBq.out p) Tryz.underlying25 rfl HKI.out (kc K) rfl ?_; go_big_quiet_on; simp only [Act.put, List.setIfInBounds_toArray, List.set_cons_zero, List.set_cons_succ])
            | (go_big_quiet_want; go_big_quiet_op; first | go_big_quiet_on | go_big_quiet_call (first
              | (go_at_call 50; with_reducible exact kp_call (CB.out _)))))
          refine wpQuiet_nil ?_
          intro _ hw'
          obtain ⟨p, hw''⟩ := hw'
          subst hw''
          go_wp2
          go_roundw
          case rel => exact ⟨L ++ [x], l, a, m + 1, A3, c3, rfl, rfl, HI.out.way.snoc HS2.out, HRA.out, HOK.out.1, by rw [List.length_append, HI.out.len]; rfl, by have := HI.out.few; have := HS2.out.less; omega, by rw [ns_snoc]; exact own_keep RW2.out (fun k hk => p.h.block k (RW2.out.lt k hk).2), BL2.out.trans (p.h.mono BL2.out.size)⟩
          case measure => simp [intOf]; omega
      · rw [decide_eq_false hc] at CH
        have hc2 := hid hc
        clear hc
        go_upto_region 5 with (fail)
        refine region_kept (Kp wr) (by kernel_rfl) (by kernel_rfl) (kp_begin wr) ?_
        repeat (first
          | go_big_quiet_skip
          | (go_big_quiet_want; refine quiet_load 47 (.tmp 27) rfl g (x * 132 + 65) rfl (.int .i64 n0 :: u8s b) _ (fun p => NPp.out p) Tryz.underlying47 rfl HPI.out (pc n0 b) rfl ?_; go_big_quiet_on; simp only [Act.put, List.setIfInBounds_toArray, List.set_cons_zero, List.set_cons_succ])
          | (go_big_quiet_want; refine quiet_load 25 (.tmp 5) rfl w.heap.size 0 rfl (u8s K) _ (fun p => KBp.out p) Tryz.underlying25 rfl HKI.out (kc K) rfl ?_; go_big_quiet_on; simp only [Act.put, List.setIfInBounds_toArray, List.set_cons_zero, List.set_cons_succ])
          | (go_big_quiet_want; go_big_quiet_op; first | go_big_quiet_on | go_big_quiet_call (first
            | (go_at_call 49; with_reducible exact kp_call (CH.out _)))))
        refine wpQuiet_nil ?_
        intro _ hw'
        obtain ⟨p, hw''⟩ := hw'
        subst hw''
        go_wp2
        go_ret2
        exact ⟨L, .inner n0 b l r, x, A2, c2, by rw [← HI.out.len]; rfl, HI.out.way, HI.out.rep, HI.out.ok, hc2.out, by have := HI.out.few; rw [HI.out.len] at this; exact this, by have := own_weak (own_keep HI.out.row (fun k hk => p.h.block k (HI.out.row.lt k hk).2)) B0.out.size; rw [HI.out.len] at this; exact this, BB.out.trans (p.h.mono BB.out.size)⟩
end
end Go.Proofs.YtjhaamffgkialaaGreatDoor
/-
  What is proved here: the iterator over numbers, from the last one on; a tree's way put anew, in trees.
-/
namespace Go.Proofs.YtjhaamffgkialaaGreatDoor
open Go.ChangeShapes Go.WideShapes Go.ChangeAt Go.RowKit Go.Shelf
set_option linter.unusedVariables false
set_option linter.unusedSimpArgs false
set_option maxRecDepth 20000
attribute [local go_sem] Oper.semAt_some

/-- these blocks lie as they lay -/
def KpS (S : Nat → Prop) (W W' : World) : Prop := W.heap.size ≤ W'.heap.size ∧ ∀ g, S g → g < W.heap.size → W'.heap[g]? = W.heap[g]?
theorem KpS.refl (S : Nat → Prop) (W : World) : KpS S W W := ⟨Nat.le_refl _, fun _ _ _ => rfl⟩
theorem KpS.t {S : Nat → Prop} {A B C : World} (h : KpS S A B) (k : KpS S B C) : KpS S A C := ⟨Nat.le_trans h.1 k.1, fun g hs hl => (k.2 g hs (Nat.lt_of_lt_of_le hl h.1)).trans (h.2 g hs hl)⟩
theorem KpS.b {S : Nat → Prop} {w : World} (hS : ∀ g, S g → g < w.heap.size) (W : World) (l : Nat) (o o' : Obj) (hl : w.heap.size ≤ l) (h : W.heap[l]? = some o) (_ : o.isCells = false) (_ : o.isWalk = false) : KpS S W (W.putObj l o') :=
  ⟨by simp [World.putObj], fun g hg _ => World.putObj_heap_other (by have := hS g hg; omega)⟩
theorem KpS.below {S : Nat → Prop} {W W' : World} (h : Below W.heap.size W W') : KpS S W W' := ⟨h.size, fun g _ hl => h.block g hl⟩
theorem KpS.only {S T : Nat → Prop} {W W' : World} (h : OnlyS T W W') (hd : ∀ g, S g → ¬ T g) : KpS S W W' := ⟨h.size, fun g hg hl => h.block g hl (hd g hg)⟩
/-- a block of cells lies as it lay, whatever else is turned -/
theorem Blk.own {W W' : World} {g : Nat} {t : TypeId} {cs : Array Value} {row : Option Nat} (h : Blk W g t cs) (hg : W.grownBy W' row) (hr : ∀ r, row = some r → ∃ o : Obj, W.heap[r]? = some o ∧ o.isCells = false) : Blk W' g t cs :=
  h.same (hg.block g h.lt (fun e => by
    obtain ⟨o, ho, hc⟩ := hr g e.symm
    unfold Blk at h
    rw [h] at ho
    injection ho with ho
    subst ho
    cases hc))
theorem own_own {W W' : World} {base e size n : Nat} {v : Value} {xs : List Value} {row : Option Nat} (h : W.ownsRow base e size v n xs) (hg : W.grownBy W' row) (hr : ∀ r, row = some r → ∃ o : Obj, W.heap[r]? = some o ∧ o.isCells = false) : W'.ownsRow base e size v n xs := by
  refine ⟨h.1, ?_⟩
  rcases h.2 with h1 | ⟨g, cap, cur, hv, hb, hh, rest⟩
  · exact .inl h1
  · exact .inr ⟨g, cap, cur, hv, hb, (show Blk W g e cur from hh).own hg hr, rest⟩
/-- the numbers from m - 1 on downwards, so many -/
def downs (m j : Nat) : List Nat := (List.range j).map fun t => m - 1 - t
theorem downs_succ (m j : Nat) : downs m (j + 1) = downs m j ++ [m - 1 - j] := by simp [downs, List.range_succ]
theorem downs_length (m j : Nat) : (downs m j).length = j := by simp [downs]
/-- what the iterator reads: its box, and the row -/
structure ItB (bs : Nat) (A : Option Addr) (m c : Nat) (X : List Int) (w : World) : Prop where
  kb : Blk w bs 71 #[.slice A m c]
  row : w.ownsRow 0 3 1 (.slice A m c) m (i64s X)
def ItS (bs : Nat) (A : Option Addr) (g : Nat) : Prop := g = bs ∨ ∃ a, A = some a ∧ g = a.block
theorem ItB.kp {bs m c : Nat} {A : Option Addr} {X : List Int} {W W' : World} (h : ItB bs A m c X W) (hk : KpS (ItS bs A) W W') : ItB bs A m c X W' := by
  refine ⟨h.kb.same (hk.2 bs (.inl rfl) h.kb.lt), own_keep h.row (fun k e => ?_)⟩
  have hlt := (h.row.lt k e).2
  cases A with
  | none => cases e
  | some a => injection e with e; exact hk.2 k (.inr ⟨a, rfl, e.symm⟩) hlt
theorem ItB.below {bs m c : Nat} {A : Option Addr} {X : List Int} {W W' : World} (h : ItB bs A m c X W) (hb : Below W.heap.size W W') : ItB bs A m c X W' := h.kp (KpS.below hb)
theorem ItB.at {bs m c : Nat} {A : Option Addr} {X : List Int} {W : World} (h : ItB bs A m c X W) {k : Nat} (hk : k < m) : ∃ g, A = some ⟨g, 0, none⟩ ∧ W.cell? ⟨g, k, none⟩ = some (.int .i64 (X[k]?.getD 0)) := by
  have hl := h.row.1
  rw [i64s_len, Nat.mul_one] at hl
  rcases h.row.2 with ⟨_, h0⟩ | ⟨g, cap, cur, hv, hb, hh, hnc, hcm, hcs, htk⟩
  · omega
  · injection hv with hA
    refine ⟨g, hA, ?_⟩
    have h2 := h.row.cells (g := g) (by rw [hA]; rfl) k (.int .i64 (X[k]?.getD 0)) (by unfold i64s; rw [List.getElem?_map, List.getElem?_eq_getElem (by omega)]; rfl)
    rw [Addr.add_lit, Nat.zero_add] at h2
    exact h2
def nv (X : List Int) {m : Nat} (x : Fin m) : Int := X[x.val]?.getD 0
def encB (X : List Int) {m : Nat} (x : Fin m) : Array Value := #[.int .i64 (x.val : Int), .int .i64 (nv X x)]
set_option maxHeartbeats 4000000 in
theorem back_walk {m : Nat} (hm : m < 1000000) (l bs : Nat) (A : Option Addr) (c : Nat) (X : List Int) (J Jx : List (Fin m) → World → Prop) (W : World)
    (hJ : AbidesFrom W.heap.size J)
    (hY : ∀ pre x W1, J pre W1 → pre.length < m → YieldAt Fence.wide 0 Tryz.prog l (encB X x) W1 fun e W' =>
      (e = .returned (.bool true) ∧ J (pre ++ [x]) W' ∧ KpS (ItS bs A) W1 W') ∨ (e = .returned (.bool false) ∧ Jx (pre ++ [x]) W'))
    (hc : ItB bs A m c X W) (h0 : J [] W) :
    CallsIn Fence.wide 1 Tryz.prog 56 #[.func (.yield l) #[] #[], .pointer (some ⟨bs, 0, none⟩)] W fun e W' => (∃ v, e = .returned v) ∧
      ((∃ ys : List (Fin m), ys.map (·.val) = downs m m ∧ J ys W') ∨ (∃ pre : List (Fin m), True ∧ Jx pre W')) := by
  have HC := hid hc; have HY := hid hY; have HJ := hid hJ
  have H0 := hid h0
  clear hY hJ h0
  refine callsIn_of_wp Tryz.func56 rfl trivial ?_ rfl
  simp only [Tryz.ntmps56, List.size_toArray, List.length_cons, List.length_nil, Nat.reduceAdd, Nat.reduceSub, Array.replicate_succ, Array.replicate_zero, List.push_toArray, List.append_toArray, List.nil_append, List.cons_append]
  have s0 : W.cell? ⟨bs, 0, none⟩ = some (.slice A m c) := hc.kb.cell 0
  have hm2 : (m : Int) < 1000000 := by omega
  have HM := hid hm
  clear hm
  clear hc
  gi_wp2
  clear s0
  gi_loopw [3] (fun i wr => ∃ r : Nat, r ≤ m ∧ i = .int .i64 ((r : Int) - 1) ∧ Hid (ItB bs A m c X wr) ∧ ∃ pre : List (Fin m), Hid (pre.map (·.val) = downs m (m - r)) ∧ Hid (J pre wr)) (fun i _ => (intOf i + 1).toNat)
  case atStart => exact ⟨m, Nat.le_refl _, rfl, HC.out, [], by show _ = _; simp [downs], H0.out⟩
  case round =>
    obtain ⟨r, hr, rfl, HCR, pre, HP, HJR⟩ := hrel
    cases r with
    | zero =>
      have e0 : ((0 : Nat) : Int) - 1 = -1 := by simp
      rw [e0]
      gi_wp2
      go_end0
      exact ⟨⟨_, rfl⟩, .inl ⟨pre, by have := HP.out; rwa [Nat.sub_zero] at this, HJR.out⟩⟩
    | succ k =>
      have e0 : ((k + 1 : Nat) : Int) - 1 = (k : Int) := by omega
      rw [e0]
      obtain ⟨h, rfl, hC⟩ := HCR.out.at (show k < m by omega)
      have s0 : wr.cell? ⟨bs, 0, none⟩ = some (.slice (some ⟨h, 0, none⟩) m c) := HCR.out.kb.cell 0
      have HL : Hid (pre.length = m - (k + 1)) := by
        have := HP.out
        have := congrArg List.length this
        rw [List.length_map, downs_length] at this
        exact this
      obtain ⟨fn, tmps, assign, body, hy, hR⟩ := HY.out pre (⟨k, by omega⟩ : Fin m) wr HJR.out (by rw [HL.out]; omega)
      have hy2 : (Instr.yield l #[.int .i64 (k : Int), .int .i64 (X[k]?.getD 0)]).run Tryz.prog wr = .ok (.round l fn tmps assign body) wr := hy
      have HR := hid hR
      have hk : k < m := by omega
      clear hy hR
      gi_wp2
      refine HR.out.mono ?_
      rintro e W3 h3
      clear s0 hC hy2
      have KK : Hid (m - (k + 1) + 1 = m - k ∧ m - 1 - (m - (k + 1)) = k) := by show _ ∧ _; omega
      rcases h3 with ⟨rfl, hj3, hk3⟩ | ⟨rfl, hj3⟩
      · have HJ3 := hid hj3; have HK3 := hid hk3; clear hj3 hk3
        gi_wp2
        go_roundw
        case rel =>
          refine ⟨k, by omega, rfl, HCR.out.kp HK3.out, _, ?_, HJ3.out⟩
          show _ = _
          rw [List.map_append, HP.out, ← KK.out.1, downs_succ, KK.out.2]
          rfl
        case measure => simp [intOf]
      · have HJ3 := hid hj3; clear hj3
        gi_wp2
        refine bodyPost_ret (results_none rfl _ _ _) rfl ?_
        exact ⟨⟨_, rfl⟩, .inr ⟨_, trivial, HJ3.out⟩⟩
theorem back_stops {m : Nat} (hm : m < 1000000) (bs : Nat) (A : Option Addr) (c : Nat) (X : List Int) (w : World) (hc : ItB bs A m c X w) :
    SeqStopsK Fence.wide 1 Tryz.prog 56 #[.pointer (some ⟨bs, 0, none⟩)] (encB X (m := m)) (KpS (ItS bs A)) (fun ys => ys.map (·.val) = downs m m) (fun _ => True) m w :=
  fun l J Jx W hW hJ _ hY h0 => (back_walk hm l bs A c X J Jx W hJ hY (hc.below (hW.mono (Nat.le_refl _))) h0)
theorem xback_any (A : Option Addr) (n c : Nat) (w : World) :
    Calls Tryz.prog 30 #[.slice A n c] w fun e w' => e = .returned (.func (.func 56) #[] #[.pointer (some ⟨w.heap.size, 0, none⟩)]) ∧ w' = w.alloc (.cells #[.slice A n c] 71) := by
  go_enter Tryz.func30, Tryz.ntmps30
  go_wp2
  go_ret
  exact ⟨rfl, rfl⟩

/-! Put, in trees. -/
theorem rep_hash {N : List Nd} {x : Nat} {s : Tr} (h : Rep hLf hIn N x s) : hashN N (x : Int) = s.hash hLf hIn := by
  obtain ⟨q, h1, _, h3⟩ := rep_node h
  unfold hashN
  rw [Int.toNat_natCast, h1]
  exact h3
/-- an inner node put above two trees -/
theorem fr_inner {N : List Nd} (h : FrOk hLf hIn N) {n a c : Nat} {b : List Int} {l r : Tr} (hl : Rep hLf hIn N a l) (hr : Rep hLf hIn N c r) (ht : (Tr.inner n b l r).ok) :
    FrOk hLf hIn (N ++ [ndI n b a c (hIn n b (hashN N (a : Int)) (hashN N (c : Int)))]) ∧ Rep hLf hIn (N ++ [ndI n b a c (hIn n b (hashN N (a : Int)) (hashN N (c : Int)))]) N.length (.inner n b l r) := by
  rw [rep_hash hl, rep_hash hr]
  exact FrOk.inner hLf hIn h hl hr ht
/-- a step of the way, put anew -/
theorem stp_put {N M : List Nd} {K V : List Int} (hK : Ky K) (hV : Ky V) {s s' : Tr} {x x' j : Nat} (hs : Stp N K s x s' x') (hf : FrOk hLf hIn (N ++ M)) (hj : Rep hLf hIn (N ++ M) j (s'.put K V)) :
    ∃ q n a c, N[x]? = some q ∧ q.n = (n : Nat) ∧ q.l = (a : Nat) ∧ q.r = (c : Nat) ∧ a < N.length ∧ c < N.length ∧ n ≤ 255 ∧
      (let q' := if bit K n = 1 then ndI n q.b a j (hIn n q.b (hashN (N ++ M) a) (hashN (N ++ M) j)) else ndI n q.b j c (hIn n q.b (hashN (N ++ M) j) (hashN (N ++ M) c))
       FrOk hLf hIn (N ++ M ++ [q']) ∧ Rep hLf hIn (N ++ M ++ [q']) (N ++ M).length (s.put K V)) := by
  obtain ⟨n, b, l, r, a, c, rfl, hq, hc, hra, hrc, hok, hh⟩ := hs
  refine ⟨_, n, a, c, hq, rfl, rfl, rfl, hra.lt, hrc.lt, by have := hok.2.2.1; omega, ?_⟩
  have hp := (Tr.put_ok hok hK hV).1
  show FrOk hLf hIn (N ++ M ++ [if bit K n = 1 then ndI n b a j _ else ndI n b j c _]) ∧ _
  rcases hh with ⟨hb, rfl, rfl⟩ | ⟨hb, rfl, rfl⟩
  · have e : (Tr.inner n b l s').put K V = .inner n b l (s'.put K V) := by
      show (if cut K n = b then (if bit K n = 0 then _ else _) else _) = _
      rw [if_pos hc, if_neg (by rw [hb]; decide)]
    rw [e] at hp ⊢
    simp only [if_pos hb]
    exact fr_inner hf (hra.more hLf hIn M) hj hp
  · have e : (Tr.inner n b s' r).put K V = .inner n b (s'.put K V) r := by
      show (if cut K n = b then (if bit K n = 0 then _ else _) else _) = _
      rw [if_pos hc, if_pos hb]
    rw [e] at hp ⊢
    have hb1 : ¬ bit K n = 1 := by rw [hb]; decide
    simp only [if_neg hb1]
    exact fr_inner hf hj (hrc.more hLf hIn M) hp
/-- where a key is already, with that value -/
theorem way_same {N : List Nd} {K V : List Int} {t : Tr} {i x : Nat} {L : List Nat} (h : Way N K t i L (.leaf K V) x) : t.put K V = t := by
  obtain ⟨T, h0, h1, h2, h3⟩ := h
  have key : ∀ j, j ≤ L.length → (T (L.length - j)).put K V = T (L.length - j) := by
    intro j
    induction j with
    | zero => intro _; rw [Nat.sub_zero, h1]; show (if K = K then _ else _) = _; rw [if_pos rfl]
    | succ j ih =>
      intro hj
      have h4 := ih (by omega)
      obtain ⟨y, y', _, _, hs⟩ := h3 (L.length - (j + 1)) (by omega)
      rw [show L.length - (j + 1) + 1 = L.length - j by omega] at hs
      obtain ⟨n, b, l, r, a, c, e, hq, hc, hra, hrc, hok, hh⟩ := hs
      rw [e]
      show (if cut K n = b then (if bit K n = 0 then _ else _) else _) = _
      rw [if_pos hc]
      rcases hh with ⟨hb, h5, _⟩ | ⟨hb, h5, _⟩
      · rw [if_neg (by rw [hb]; decide), ← h5, h4]
      · rw [if_pos hb, ← h5, h4]
  have := key L.length (Nat.le_refl _)
  rw [Nat.sub_self, h0] at this
  exact this
end Go.Proofs.YtjhaamffgkialaaGreatDoor
/-
  What this file is for: what is so between two steps of a put; where a key parts from a tree. Nothing of the program is walked here.
-/
namespace Go.Proofs.YtjhaamffgkialaaGreatDoor
open Go.ChangeShapes Go.WideShapes Go.ChangeAt Go.RowKit Go.Shelf
set_option linter.unusedVariables false
set_option linter.unusedSimpArgs false
set_option maxRecDepth 20000
attribute [local go_sem] Oper.semAt_some

theorem exec_load {P : Program} {o : Oper} {a : Act} {w : World} (ty : TypeId) (x : Operand) (p v : Value) (ho : o.op = .load ty x) (hx : a.eval x = p) (hr : (Instr.loadAt ty p).run P w = .ok v w) : (execOp a.eval o).run P w = .ok (.value v) w := by
  unfold execOp
  simp only [ho, hx, Sem.run_bind, hr, Result.andThen_ok]
  rfl
theorem wpInR_value {n l : Nat} {P : Program} {o : Oper} {a : Act} {w : World} {K : Act → World → Prop} {Q : Exit → Act → World → Prop} (v : Value) (hd : ∀ c, o.op ≠ .defer c) (hr : (execOp a.eval o).run P w = .ok (.value v) w) (h : K (a.put o.dst v) w) : o.wpIn (Fence.wide.inRound l) n P a w K Q := by
  unfold Oper.wpIn
  refine ⟨fun _ _ => trivial, ?_⟩
  rw [Oper.semAt_plain _ _ _ hd, hr]
  exact h
theorem keeps_only {S : Nat → Prop} {W W' : World} (h : OnlyS S W W') (hS : ∀ k, S k → ∀ o, W.heap[k]? = some o → o.isCells = true) : KeepsOthers W W' :=
  ⟨h.size, fun k o hk hc => by
    have hlt : k < W.heap.size := by
      rcases Nat.lt_or_ge k W.heap.size with h1 | h1
      · exact h1
      · rw [Array.getElem?_eq_none h1] at hk; cases hk
    rw [h.block k hlt (fun hs => by rw [hS k hs o hk] at hc; cases hc)]
    exact hk⟩
section
variable {w w' : World} {f g b : Nat} {N : List Nd} {A : Option Addr} {c : Nat} {tv : Value}
theorem Fo.cells (h : Fo w f g b N A c tv) : ∀ k, Ow f g b k → ∀ o, w.heap[k]? = some o → o.isCells = true := fun k hk o ho => by
  have key : ∀ {k t cs}, Blk w k t cs → w.heap[k]? = some o → o.isCells = true := fun {k t cs} hb ho => by
    unfold Blk at hb
    rw [hb] at ho
    injection ho with ho
    rw [← ho]; rfl
  rcases h.how with ⟨_, _, _, _, rfl, rfl⟩ | ⟨_, _, _, hb, C, hg⟩
  · rcases hk with rfl | rfl | rfl <;> exact key h.kf ho
  · rcases hk with rfl | rfl | rfl
    · exact key h.kf ho
    · exact key hg ho
    · exact key hb ho
theorem Fo.own {row : Option Nat} (h : Fo w f g b N A c tv) (hg : w.grownBy w' row) (hr : ∀ r, row = some r → ∃ o : Obj, w.heap[r]? = some o ∧ o.isCells = false) : Fo w' f g b N A c tv :=
  h.keep (fun k hk => by
    have hlt : k < w.heap.size := by
      obtain ⟨h1, h2, h3⟩ := h.lts
      rcases hk with rfl | rfl | rfl <;> assumption
    refine hg.block k hlt (fun e => ?_)
    obtain ⟨o, ho, hc⟩ := hr k e.symm
    rw [h.cells k hk o ho] at hc
    cases hc)
end
/-- each step of the way can be put anew -/
def StepsOk (N : List Nd) (K : List Int) (U : Nat → Tr) (L : List Nat) : Prop := ∀ k, k < L.length → ∃ x q n a c, L[k]? = some x ∧ N[x]? = some q ∧ q.n = (n : Nat) ∧ q.l = (a : Nat) ∧ q.r = (c : Nat) ∧ a < N.length ∧ c < N.length ∧ n ≤ 255 ∧
  ∀ M j, FrOk hLf hIn (N ++ M) → Rep hLf hIn (N ++ M) j (U (k + 1)) →
    FrOk hLf hIn (N ++ M ++ [if bit K n = 1 then ndI n q.b a j (hIn n q.b (hashN (N ++ M) a) (hashN (N ++ M) j)) else ndI n q.b j c (hIn n q.b (hashN (N ++ M) j) (hashN (N ++ M) c))]) ∧
    Rep hLf hIn (N ++ M ++ [if bit K n = 1 then ndI n q.b a j (hIn n q.b (hashN (N ++ M) a) (hashN (N ++ M) j)) else ndI n q.b j c (hIn n q.b (hashN (N ++ M) j) (hashN (N ++ M) c))]) (N ++ M).length (U k)
theorem StepsOk.nil {N : List Nd} {K : List Int} {U : Nat → Tr} : StepsOk N K U [] := fun k hk => absurd hk (Nat.not_lt_zero _)
theorem steps_of {N : List Nd} {K V : List Int} (hK : Ky K) (hV : Ky V) {t u : Tr} {i x : Nat} {L : List Nat} (h : Way N K t i L u x) : ∃ U : Nat → Tr, U 0 = t.put K V ∧ U L.length = u.put K V ∧ StepsOk N K U L := by
  obtain ⟨T, h0, h1, h2, h3⟩ := h
  refine ⟨fun k => (T k).put K V, by simp only [h0], by simp only [h1], fun k hk => ?_⟩
  obtain ⟨y, y', e1, _, hs⟩ := h3 k hk
  have hs' := hs
  obtain ⟨n, b, l, r, a, c, e, hq, hc, hra, hrc, hok, hh⟩ := hs
  refine ⟨y, _, n, a, c, by rw [List.getElem?_append_left hk] at e1; exact e1, hq, rfl, rfl, rfl, hra.lt, hrc.lt, by rw [e] at hok; have := hok.2.2.1; omega, fun M j hf hj => ?_⟩
  obtain ⟨q2, n2, a2, c2, g1, g2, g3, g4, _, _, _, g5⟩ := stp_put hK hV hs' hf hj
  rw [hq] at g1
  injection g1 with g1
  subst g1
  have en : n2 = n := by have : ((n : Nat) : Int) = (n2 : Nat) := g2; omega
  have ea : a2 = a := by have : ((a : Nat) : Int) = (a2 : Nat) := g3; omega
  have ec : c2 = c := by have : ((c : Nat) : Int) = (c2 : Nat) := g4; omega
  subst en ea ec
  exact g5
/-- where a key parts from a tree's keys -/
def joinM (u : Tr) (K : List Int) : Nat := match u with | .leaf k _ => shr K k | .inner _ b _ _ => shr K b
/-- the tree isn't the key's leaf -/
def NotLeaf (K : List Int) : Tr → Prop
  | .leaf k _ => k ≠ K
  | .inner _ _ _ _ => True
theorem frm_key {K : List Int} (hK : Ky K) : frm 256 K = true := by
  unfold frm
  exact decide_eq_true ⟨by omega, by omega, cut_all hK _ (by decide)⟩
theorem join_of {u : Tr} {K V : List Int} (hok : u.ok) (hK : Ky K) (hend : Ends K u) (hne : NotLeaf K u) : joinM u K < 256 ∧ meetV u.pre.1 u.pre.2 256 K = pc (joinM u K) (cut K (joinM u K)) ∧ u.put K V = joinT K V u (joinM u K) := by
  cases u with
  | leaf k v =>
    have hk : Ky k := hok.1
    have hap := apart_leaf (v' := v) hK hk hne
    refine ⟨hap.1, ?_, ?_⟩
    · have hm : mt ((256 : Nat) : Int) 256 (shr k K) = shr K k := by
        unfold mt
        have h256 : shr K k < 256 := hap.1
        rw [shr_comm k K]
        simp only [Int.toNat_natCast]
        have : (256 : Int).toNat = 256 := rfl
        rw [this]
        omega
      show meetV ((256 : Nat) : Int) k 256 K = pc (shr K k) (cut K (shr K k))
      unfold meetV
      simp only [show frm ((256 : Nat) : Int) k = true from frm_key hk, frm_key hK, Bool.and_self, if_true, hm]
      have hc : cut k (shr K k) = cut K (shr K k) := ((le_shr_iff (K := k) (L := K) (by have := hap.1; omega)).1 (by rw [shr_comm]; exact Nat.le_refl _))
      rw [hc]
    · show (if k = K then _ else _) = _
      rw [if_neg hne]
      rfl
  | inner n b l r =>
    have hc : cut K n ≠ b := hend
    obtain ⟨hap, hlt⟩ := apart_inner hok hc
    have hn : n < 256 := hok.2.2.1
    have hbk : Ky b := by
      obtain ⟨x, hx⟩ := l.one
      rw [← (hok.2.2.2.1 x hx).1]; exact cut_ky _ _
    have hb : cut b n = b := by
      obtain ⟨x, hx⟩ := l.one
      rw [← (hok.2.2.2.1 x hx).1, cut_cut, Nat.min_self]
    refine ⟨hap.1, ?_, ?_⟩
    · have hm : mt (n : Int) 256 (shr b K) = shr K b := by
        unfold mt
        rw [shr_comm b K, Int.toNat_natCast]
        have : (256 : Int).toNat = 256 := rfl
        rw [this]
        omega
      show meetV (n : Int) b 256 K = pc (shr K b) (cut K (shr K b))
      unfold meetV
      have hf : frm (n : Int) b = true := by
        unfold frm
        exact decide_eq_true ⟨by omega, by omega, by rw [Int.toNat_natCast]; exact hb⟩
      simp only [hf, frm_key hK, Bool.and_self, if_true, hm]
      have hc : cut b (shr K b) = cut K (shr K b) := ((le_shr_iff (K := b) (L := K) (by omega)).1 (by rw [shr_comm]; exact Nat.le_refl _))
      rw [hc]
    · show (if cut K n = b then _ else _) = _
      rw [if_neg hc]
      rfl
/-- a leaf more, and an inner node above it and what didn't hold the key -/
theorem fork_put {N : List Nd} (h : FrOk hLf hIn N) {u : Tr} {x : Nat} {K V : List Int} (hK : Ky K) (hV : Ky V) (hr : Rep hLf hIn N x u) (hok : u.ok) (hend : Ends K u) (hne : NotLeaf K u) :
    FrOk hLf hIn (N ++ [ndL K V (hLf K V)] ++ [if bit K (joinM u K) = 1 then ndI (joinM u K) (cut K (joinM u K)) x N.length (hIn (joinM u K) (cut K (joinM u K)) (hashN (N ++ [ndL K V (hLf K V)]) x) (hashN (N ++ [ndL K V (hLf K V)]) (N.length : Int))) else ndI (joinM u K) (cut K (joinM u K)) N.length x (hIn (joinM u K) (cut K (joinM u K)) (hashN (N ++ [ndL K V (hLf K V)]) (N.length : Int)) (hashN (N ++ [ndL K V (hLf K V)]) x))]) ∧
    Rep hLf hIn (N ++ [ndL K V (hLf K V)] ++ [if bit K (joinM u K) = 1 then ndI (joinM u K) (cut K (joinM u K)) x N.length (hIn (joinM u K) (cut K (joinM u K)) (hashN (N ++ [ndL K V (hLf K V)]) x) (hashN (N ++ [ndL K V (hLf K V)]) (N.length : Int))) else ndI (joinM u K) (cut K (joinM u K)) N.length x (hIn (joinM u K) (cut K (joinM u K)) (hashN (N ++ [ndL K V (hLf K V)]) (N.length : Int)) (hashN (N ++ [ndL K V (hLf K V)]) x))]) (N ++ [ndL K V (hLf K V)]).length (u.put K V) := by
  obtain ⟨h1, h2⟩ := FrOk.leaf hLf hIn h hK hV
  obtain ⟨_, _, e⟩ := join_of (V := V) hok hK hend hne
  have hp := (Tr.put_ok (v := V) hok hK hV).1
  rw [e] at hp ⊢
  have hr2 := hr.more hLf hIn [ndL K V (hLf K V)]
  unfold joinT at hp ⊢
  rcases bit01 K (joinM u K) with h0 | h0
  · rw [if_pos h0] at hp ⊢
    have hb1 : ¬ bit K (joinM u K) = 1 := by rw [h0]; decide
    simp only [if_neg hb1]
    exact fr_inner h1 h2 hr2 hp
  · have hb0 : ¬ bit K (joinM u K) = 0 := by rw [h0]; decide
    rw [if_neg hb0] at hp ⊢
    simp only [if_pos h0]
    exact fr_inner h1 hr2 h2 hp
/-- what Put answers: new nodes behind all others, among them the tree's -/
def PutA (w : World) (f g b : Nat) (N : List Nd) (t : Tr) (d : Nat) (e : Ending) (w' : World) : Prop :=
  ∃ M top, e = .returned (.tuple #[.int .i64 (top : Nat), .int .i64 0]) ∧ Grew w f g b (N ++ M) w' ∧ Rep hLf hIn (N ++ M) top t ∧ FrOk hLf hIn (N ++ M) ∧ M.length ≤ d
/-- between two rounds of a put -/
structure PtI (m0 : Nat) (S : Nat → Prop) (f g b : Nat) (w1 : World) (N : List Nd) (K : List Int) (U : Nat → Tr) (L : List Nat) (e4 e6 e15 : Nat) (pre : List (Fin L.length)) (W : World) (g' b' : Nat) (A' : Option Addr) (c' : Nat) (tv' : Value) (M : List Nd) (top : Nat) : Prop where
  fo : Fo W f g' b' (N ++ M) A' c' tv'
  hg : g' = g ∨ w1.heap.size ≤ g'
  hb : b' = b ∨ w1.heap.size ≤ b'
  on : OnlyS (Ow f g b) w1 W
  k4 : Blk W e4 27 #[.pointer (some ⟨f, 0, none⟩)]
  k6 : Blk W e6 25 (kc K)
  k15 : Blk W e15 3 #[.int .i64 (top : Nat)]
  he : w1.heap.size ≤ e15
  lt : top < (N ++ M).length
  few : M.length ≤ m0 + pre.length
  it : ∀ k, S k → (∃ t cs, Blk W k t cs ∧ (t = 71 ∨ t = 3)) ∧ k ≠ e15
  cond : pre.map (·.val) = downs L.length pre.length → FrOk hLf hIn (N ++ M) ∧ Rep hLf hIn (N ++ M) top (U (L.length - pre.length))
def PtE (m0 : Nat) (S : Nat → Prop) (f g b : Nat) (w1 : World) (N : List Nd) (K : List Int) (U : Nat → Tr) (L : List Nat) (e4 e6 e15 : Nat) (pre : List (Fin L.length)) (W : World) : Prop := ∃ g' b' A' c' tv' M top, PtI m0 S f g b w1 N K U L e4 e6 e15 pre W g' b' A' c' tv' M top
theorem PtE.own {m0 f g b : Nat} {S : Nat → Prop} {w1 : World} {N : List Nd} {K : List Int} {U : Nat → Tr} {L : List Nat} {e4 e6 e15 B : Nat} (hB : w1.heap.size ≤ B) : OwnFrom B (PtE m0 S f g b w1 N K U L e4 e6 e15) := fun pre W W' row ⟨g', b', A', c', tv', M, top, hs⟩ hg hr =>
  ⟨g', b', A', c', tv', M, top, hs.fo.own hg (fun r e => (hr r e).2), hs.hg, hs.hb, hs.on.grown hg (fun k e => .inr (Nat.le_trans hB (hr k e).1)), hs.k4.own hg (fun r e => (hr r e).2), hs.k6.own hg (fun r e => (hr r e).2), hs.k15.own hg (fun r e => (hr r e).2), hs.he, hs.lt, hs.few, fun k hk => by obtain ⟨⟨t, cs, h1, h2⟩, h3⟩ := hs.it k hk; exact ⟨⟨t, cs, h1.own hg (fun r e => (hr r e).2), h2⟩, h3⟩, hs.cond⟩
theorem downs_last {m : Nat} {pre : List (Fin m)} {x : Fin m} (h : (pre ++ [x]).map (·.val) = downs m (pre ++ [x]).length) : pre.map (·.val) = downs m pre.length ∧ x.val = m - 1 - pre.length := by
  rw [List.length_append, List.length_singleton, downs_succ, List.map_append, List.map_singleton] at h
  have := List.append_inj' h rfl
  exact ⟨this.1, by have := this.2; injection this⟩
/-- a round -/
theorem PtI.step {m0 f g b : Nat} {S : Nat → Prop} {w1 : World} {N : List Nd} {K : List Int} {U : Nat → Tr} {L : List Nat} {e4 e6 e15 : Nat} {pre : List (Fin L.length)} {W W2 : World} {g' b' : Nat} {A' : Option Addr} {c' : Nat} {tv' : Value} {M : List Nd} {top : Nat}
    (h : PtI m0 S f g b w1 N K U L e4 e6 e15 pre W g' b' A' c' tv' M top) (hlt : pre.length < L.length) (x : Fin L.length) (q' : Nd) (hgr : Grew W f g' b' (N ++ M ++ [q']) W2)
    (hst : FrOk hLf hIn (N ++ M) → Rep hLf hIn (N ++ M) top (U (x.val + 1)) → FrOk hLf hIn (N ++ M ++ [q']) ∧ Rep hLf hIn (N ++ M ++ [q']) (N ++ M).length (U x.val)) :
    KeepsOthers W (W2.setCell ⟨e15, 0, none⟩ (.int .i64 ((N ++ M).length : Nat))) ∧ KpS S W (W2.setCell ⟨e15, 0, none⟩ (.int .i64 ((N ++ M).length : Nat))) ∧ PtE m0 S f g b w1 N K U L e4 e6 e15 (pre ++ [x]) (W2.setCell ⟨e15, 0, none⟩ (.int .i64 ((N ++ M).length : Nat))) := by
  obtain ⟨g2, b2, A2, c2, tv2, hfo, hg2, hb2, hon⟩ := hgr
  have n4 := h.fo.not_own h.k4 (by decide) (by decide) (by decide)
  have n6 := h.fo.not_own h.k6 (by decide) (by decide) (by decide)
  have n15 := h.fo.not_own h.k15 (by decide) (by decide) (by decide)
  have k4 := h.k4.same (hon.block _ h.k4.lt n4)
  have k6 := h.k6.same (hon.block _ h.k6.lt n6)
  have k15 := h.k15.same (hon.block _ h.k15.lt n15)
  have hS : ∀ k, S k → ¬ Ow f g' b' k ∧ k ≠ e15 := fun k hk => by
    obtain ⟨⟨t, cs, h1, h2⟩, h3⟩ := h.it k hk
    refine ⟨?_, h3⟩
    rcases h2 with rfl | rfl
    · exact h.fo.not_own h1 (by decide) (by decide) (by decide)
    · exact h.fo.not_own h1 (by decide) (by decide) (by decide)
  have ne4 : e4 ≠ e15 := h.k4.ne h.k15 (by decide)
  have ne6 : e6 ≠ e15 := h.k6.ne h.k15 (by decide)
  have o15 := hfo.not_own k15 (by decide) (by decide) (by decide)
  have lg : g' = g ∨ w1.heap.size ≤ g' := h.hg
  have on2 : OnlyS (Ow f g b) w1 W2 := ⟨hon.os.trans h.on.os, hon.tape.trans h.on.tape, hon.output.trans h.on.output, Nat.le_trans h.on.size hon.size, fun k hk hn => (hon.block k (Nat.lt_of_lt_of_le hk h.on.size) (fun ho => by
    rcases ho with e | e | e
    · exact hn (.inl e)
    · rcases h.hg with e2 | e2
      · exact hn (.inr (.inl (e.trans e2)))
      · omega
    · rcases h.hb with e2 | e2
      · exact hn (.inr (.inr (e.trans e2)))
      · omega)).trans (h.on.block k hk hn)⟩
  refine ⟨(keeps_only hon h.fo.cells).trans (KeepsOthers.setCell _ _ _), ⟨by simpa [World.setCell] using hon.size, fun k hk hl => ?_⟩, g2, b2, A2, c2, tv2, M ++ [q'], (N ++ M).length, ?_⟩
  · obtain ⟨h5, h6⟩ := hS k hk
    exact (Below.heap_setCell W2 _ _ k h6).trans (hon.block k hl h5)
  · rw [List.append_assoc] at hfo hst
    refine ⟨hfo.keep (fun k hk => Below.heap_setCell W2 _ _ k (fun e => o15 (by have e' : k = e15 := e; rw [← e']; exact hk))), ?_, ?_, on2.setCell (.inr h.he) _, k4.far ne4 _, k6.far ne6 _, k15.setd 0 _, h.he, by simp, by have := h.few; simp only [List.length_append, List.length_singleton]; omega, fun k hk => ?_, fun hp => ?_⟩
    · rcases hg2 with e | e
      · rw [e]; exact h.hg
      · exact .inr (Nat.le_trans h.on.size e)
    · rcases hb2 with e | e
      · rw [e]; exact h.hb
      · exact .inr (Nat.le_trans h.on.size e)
    · obtain ⟨⟨t, cs, h1, h2⟩, h3⟩ := h.it k hk
      exact ⟨⟨t, cs, (h1.same (hon.block k h1.lt (hS k hk).1)).far h3 _, h2⟩, h3⟩
    · obtain ⟨h5, h6⟩ := downs_last hp
      obtain ⟨h7, h8⟩ := h.cond h5
      have hx := x.isLt
      rw [show L.length - pre.length = x.val + 1 by omega] at h8
      rw [show L.length - (pre ++ [x]).length = x.val by simp only [List.length_append, List.length_singleton]; omega]
      exact hst h7 h8
theorem grew_blk {m0 f g b : Nat} {S : Nat → Prop} {w1 : World} {N : List Nd} {K : List Int} {U : Nat → Tr} {L : List Nat} {e4 e6 e15 : Nat} {pre : List (Fin L.length)} {W W2 : World} {g' b' : Nat} {A' : Option Addr} {c' : Nat} {tv' : Value} {M N2 : List Nd} {top : Nat}
    (h : PtI m0 S f g b w1 N K U L e4 e6 e15 pre W g' b' A' c' tv' M top) (hgr : Grew W f g' b' N2 W2) : Blk W2 e15 3 #[.int .i64 (top : Nat)] := by
  obtain ⟨g2, b2, A2, c2, tv2, hfo, hg2, hb2, hon⟩ := hgr
  exact h.k15.same (hon.block _ h.k15.lt (h.fo.not_own h.k15 (by decide) (by decide) (by decide)))
end Go.Proofs.YtjhaamffgkialaaGreatDoor
