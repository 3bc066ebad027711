/-
  What is proved here: Put, whatever the tree, the key and the value.
-/
import Derived.Test.YtdeohkgdmbfocaaDoorMX15
import Derived.Test.YtdeohkgdmbfocaaDoorMX16
set_option linter.unusedSimpArgs false
set_option linter.unusedVariables false
namespace Go.Proofs.YtdeohkgdmbfocaaDoor
open Go.ChangeShapes Go.WideShapes Go.ChangeAt Go.RowKit
set_option linter.unusedVariables false
set_option linter.unusedSimpArgs false
set_option maxRecDepth 20000

set_option maxHeartbeats 8000000 in
theorem put_same {w : World} {f g b : Nat} {N : List Nd} {A : Option Addr} {c : Nat} {tv : Value} (h : Fo w f g b N A c tv) (hfr : FrOk hLf hIn N) {K V : List Int} (hK : Ky K) (hV : Ky V) (i : Nat) (t : Tr) (hr : Rep hLf hIn N i t) (hok : t.ok) (hsm : Few t.list.length)
    (hg0 : ∀ L u x, Way N K t i L u x → Rep hLf hIn N x u → u.ok → Ends K u → u = .leaf K V) :
    Calls Tryd.prog 10 #[.pointer (some ⟨f, 0, none⟩), .int .i64 i, .agg (kc K), .agg (kc V)] w (PutA w f g b N (t.put K V) (2 + t.list.length)) := by
  obtain ⟨hk1, hk2, hk3, hb0⟩ := three_blks w #[.pointer (some ⟨f, 0, none⟩)] (kc K) (kc V) 26 24 24
  have BX0 : Hid (Bx3 w.heap.size f K V (((w.alloc (.cells #[.pointer (some ⟨f, 0, none⟩)] 26)).alloc (.cells (kc K) 24)).alloc (.cells (kc V) 24))) := ⟨hk1, hk2, hk3⟩
  have B0 := hid hb0
  have HKI := hid (u8s_info hK); have HVI := hid (u8s_info hV)
  have FO := hid h; have HF := hid hfr; have HK := hid hK; have HV := hid hV; have HR := hid hr
  have CI := hid (fun w1 (hb : Below w.heap.size w w1) => xisTree_at (h.below hb) i)
  have hti : isTr N.length i = true := by unfold isTr isNd; rw [decide_eq_true (show (0 : Int) ≤ i ∧ (i : Int) < N.length from ⟨by omega, by have := hr.lt; omega⟩)]; simp
  rw [hti] at CI
  have CW := hid (fun w1 (hb : Below w.heap.size w w1) => xway_at (h.below hb) i t hr hok K hK (show t.list.length < 100000 from hsm))
  have HG0 := hid hg0
  clear hti hr hok hsm hg0 hk1 hk2 hk3 hb0 h hfr hK hV
  have c4 : (((w.alloc (.cells #[.pointer (some ⟨f, 0, none⟩)] 26)).alloc (.cells (kc K) 24)).alloc (.cells (kc V) 24)).cell? ⟨w.heap.size, 0, none⟩ = some (.pointer (some ⟨f, 0, none⟩)) := BX0.out.k4.cell 0
  go_enter Tryd.func10, Tryd.ntmps10
  go_upto_region 4 with (first
    | (go_at_call 34; refine (CI.out _ B0.out).mono ?_; rintro e w1 ⟨rfl, rfl⟩)
    | (refine load_at rfl 24 (.tmp 6) rfl (w.heap.size + 1) 0 rfl (u8s K) _ (blk_key BX0.out.k6) Tryd.underlying24 rfl HKI.out (kc K) rfl ?_)
    | (go_at_call 35; refine (CW.out _ B0.out).mono ?_; rintro e w2 ⟨L, u, x, A2, c2, rfl, hway, hru, huok, hend, hlu, hrow, hb⟩; have BX2 := hid (BX0.out.below hb); have B2 := hid (B0.out.trans (hb.mono B0.out.size)); obtain rfl := HG0.out L u x hway hru huok hend; have hq : N[x]? = some (ndL K V (hLf K V)) := hru; have CH := hid (xhasKey_at (FO.out.below B2.out) x _ hq K HK.out); rw [show (ndL K V (hLf K V)).has K = true by unfold Nd.has; simp [ndL]] at CH; have WAY := hid hway; have HQ := hid hq; clear hway hru huok hend hlu hrow hb hq))
  clear c4
  have c4 : w2.cell? ⟨w.heap.size, 0, none⟩ = some (.pointer (some ⟨f, 0, none⟩)) := BX2.out.k4.cell 0
  go_upto_region 5 with (first
    | (refine load_at rfl 24 (.tmp 6) rfl (w.heap.size + 1) 0 rfl (u8s K) _ (blk_key BX2.out.k6) Tryd.underlying24 rfl HKI.out (kc K) rfl ?_)
    | (go_at_call 36; refine CH.out.mono ?_; rintro e w3 ⟨rfl, hb⟩; have BX3 := hid (BX2.out.below hb); have B3 := hid (B2.out.trans (hb.mono B2.out.size)); clear hb))
  clear c4
  have F3 := FO.out.below B3.out
  obtain ⟨hA3, na3⟩ := F3.node HQ.out
  have cn0 : w3.cell? ⟨f, 0, none⟩ = some (.slice (some ⟨g, 0, none⟩) N.length c) := by rw [← hA3]; exact F3.kf.cell 0
  obtain ⟨n, hn⟩ : ∃ n, n = N.length := ⟨_, rfl⟩
  rw [← hn] at cn0
  have hlt : x < n := by rw [hn]; exact (List.getElem?_eq_some_iff.1 HQ.out).1
  have c40 : w3.cell? ⟨w.heap.size, 0, none⟩ = some (.pointer (some ⟨f, 0, none⟩)) := BX3.out.k4.cell 0
  have cn := fun p : PW (Kp w3) => cell_bel p.h cn0
  have cp := fun p : PW (Kp w3) => cell_bel p.h c40
  have NV : Hid (w3.rangeAt g (x * 132 + 33) (u8s V)) := na3.val
  have NVp := hid (fun p : PW (Kp w3) => rng_bel p.h NV.out)
  have K7p := hid (fun p : PW (Kp w3) => kp_key BX3.out.k7 p)
  have heq := fun w => eql_key V V HV.out HV.out w
  rw [decide_eq_true rfl] at heq
  clear hA3 na3 cn0 c40 hn
  have HF3 := hid F3
  clear F3
  refine region_kept (Kp w3) (by kernel_rfl) (by kernel_rfl) (kp_begin w3) ?_
  repeat (first
    | go_big_quiet_skip
    | (go_big_quiet_want; refine quiet_load 24 (.tmp 41) rfl g (x * 132 + 33) rfl (u8s V) _ (fun p => NVp.out p) Tryd.underlying24 rfl HVI.out (kc V) rfl ?_; go_big_quiet_on; simp only [Act.put, List.setIfInBounds_toArray, List.set_cons_zero, List.set_cons_succ])
    | (go_big_quiet_want; refine quiet_load 24 (.tmp 7) rfl (w.heap.size + 1 + 1) 0 rfl (u8s V) _ (fun p => K7p.out p) Tryd.underlying24 rfl HVI.out (kc V) rfl ?_; go_big_quiet_on; simp only [Act.put, List.setIfInBounds_toArray, List.set_cons_zero, List.set_cons_succ])
    | (go_big_quiet_want; go_big_quiet_op; first | go_big_quiet_on))
  refine wpQuiet_nil ?_
  intro _ hw'
  obtain ⟨p, hw''⟩ := hw'
  subst hw''
  have B4 := hid (B3.out.trans (p.h.mono B3.out.size))
  have F4 := hid (HF3.out.below p.h)
  clear cn cp heq
  go_wp2
  go_ret2
  refine ⟨[], i, rfl, ⟨g, b, A, c, tv, by rw [List.append_nil]; exact F4.out, .inl rfl, .inl rfl, OnlyS.of_below B4.out (Nat.le_refl _)⟩, ?_, by rw [List.append_nil]; exact HF.out, by simp⟩
  rw [List.append_nil, way_same WAY.out]
  exact HR.out
/-- a way ends at one tree -/
theorem way_end {N : List Nd} {K : List Int} {t : Tr} {i : Nat} : ∀ {L : List Nat} {u : Tr} {x : Nat}, Way N K t i L u x → Rep hLf hIn N x u → u.ok → Ends K u → ∀ {L' : List Nat} {u' : Tr} {x' : Nat}, Way N K t i L' u' x' → Ends K u' → u = u' := by
  intro L u x h hru huok hend L' u' x' h' hend'
  obtain ⟨T, h0, h1, h2, h3⟩ := h
  obtain ⟨T', h0', h1', h2', h3'⟩ := h'
  -- both go the same way
  have key : ∀ k, k ≤ L.length → k ≤ L'.length → T k = T' k := by
    intro k
    induction k with
    | zero => intro _ _; rw [h0, h0']
    | succ k ih =>
      intro hk hk'
      have e := ih (by omega) (by omega)
      obtain ⟨y, y2, _, _, n, b, l, r, a, c, e1, _, _, _, _, _, hh⟩ := h3 k (by omega)
      obtain ⟨z, z2, _, _, n', b', l', r', a', c', e1', _, _, _, _, _, hh'⟩ := h3' k (by omega)
      rw [e, e1'] at e1
      injection e1 with n1 n2 n3 n4
      subst n1 n2 n3 n4
      rcases hh with ⟨g1, g2, _⟩ | ⟨g1, g2, _⟩ <;> rcases hh' with ⟨g1', g2', _⟩ | ⟨g1', g2', _⟩
      · rw [g2, g2']
      · rw [g1] at g1'; cases g1'
      · rw [g1] at g1'; cases g1'
      · rw [g2, g2']
  have stop : ∀ {T : Nat → Tr} {M : List Nat} {v : Tr} {z : Nat}, (∀ k, k < M.length → ∃ x x', (M ++ [z])[k]? = some x ∧ (M ++ [z])[k + 1]? = some x' ∧ Stp N K (T k) x (T (k + 1)) x') → ∀ k, k < M.length → ¬ Ends K (T k) := by
    intro T M v z h3 k hk he
    obtain ⟨y, y2, _, _, n, b, l, r, a, c, e1, _, hc, _⟩ := h3 k hk
    rw [e1] at he
    exact he hc
  rcases Nat.lt_trichotomy L.length L'.length with hlt | heq | hgt
  · exact absurd hend (by rw [← h1, key _ (Nat.le_refl _) (by omega)]; exact stop (v := u) h3' _ hlt)
  · rw [← h1, ← h1', ← heq]; exact key _ (Nat.le_refl _) (by omega)
  · exact absurd hend' (by rw [← h1', ← key _ (by omega) (Nat.le_refl _)]; exact stop (v := u) h3 _ hgt)
/-- a way leads to some end -/
theorem way_to {N : List Nd} {K : List Int} {t : Tr} {i : Nat} (hr : Rep hLf hIn N i t) (hok : t.ok) : ∃ L u x, Way N K t i L u x ∧ Rep hLf hIn N x u ∧ u.ok ∧ Ends K u := by
  have key : ∀ (m : Nat) (s : Tr) (x : Nat) (L : List Nat), s.list.length ≤ m → Way N K t i L s x → Rep hLf hIn N x s → s.ok → ∃ L u x, Way N K t i L u x ∧ Rep hLf hIn N x u ∧ u.ok ∧ Ends K u := by
    intro m
    induction m with
    | zero => intro s x L hl; have := s.pos; omega
    | succ m ih =>
      intro s x L hl hw hrs hos
      cases s with
      | leaf k v => exact ⟨L, _, x, hw, hrs, hos, trivial⟩
      | inner n b l r =>
        by_cases hc : cut K n = b
        · obtain ⟨a, c, hq, ha, hd, hra, hrc⟩ := hrs
          rcases bit01 K n with h0 | h0
          · have hst : Stp N K (.inner n b l r) x l a := ⟨n, b, l, r, a, c, rfl, hq, hc, hra, hrc, hos, .inr ⟨h0, rfl, rfl⟩⟩
            exact ih l a (L ++ [x]) (by have := hst.less; omega) (hw.snoc hst) hra hos.1
          · have hst : Stp N K (.inner n b l r) x r c := ⟨n, b, l, r, a, c, rfl, hq, hc, hra, hrc, hos, .inl ⟨h0, rfl, rfl⟩⟩
            exact ih r c (L ++ [x]) (by have := hst.less; omega) (hw.snoc hst) hrc hos.2.1
        · exact ⟨L, _, x, hw, hrs, hos, hc⟩
  exact key _ t i [] (Nat.le_refl _) Way.nil hr hok
/-- Put into a tree that has keys -/
theorem put_tree {w : World} {f g b : Nat} {N : List Nd} {A : Option Addr} {c : Nat} {tv : Value} (h : Fo w f g b N A c tv) (hfr : FrOk hLf hIn N) {K V : List Int} (hK : Ky K) (hV : Ky V) (hlen : Few N.length) (ht : Tab w) (i : Nat) (t : Tr) (hr : Rep hLf hIn N i t) (hok : t.ok) (hsm : Few t.list.length) :
    Calls Tryd.prog 10 #[.pointer (some ⟨f, 0, none⟩), .int .i64 i, .agg (kc K), .agg (kc V)] w (PutA w f g b N (t.put K V) (2 + t.list.length)) := by
  obtain ⟨L, u, x, hw, hru, huok, hend⟩ := way_to (K := K) hr hok
  have one : ∀ L' u' x', Way N K t i L' u' x' → Rep hLf hIn N x' u' → u'.ok → Ends K u' → u' = u := fun L' u' x' h1 _ _ h4 => (way_end hw hru huok hend h1 h4).symm
  cases u with
  | leaf k v =>
    by_cases hk : k = K
    · subst hk
      by_cases hv : v = V
      · subst hv
        exact put_same h hfr hK hV i t hr hok hsm one
      · exact put_over h hfr hK hV hlen ht i t hr hok hsm v one hv
    · exact put_fork h hfr hK hV hlen ht i t hr hok hsm (fun L' u' x' h1 h2 h3 h4 => by rw [one L' u' x' h1 h2 h3 h4]; exact hk)
  | inner n b l r => exact put_fork h hfr hK hV hlen ht i t hr hok hsm (fun L' u' x' h1 h2 h3 h4 => by rw [one L' u' x' h1 h2 h3 h4]; exact trivial)
/-- a tree's number: none, or a node's -/
def TAt (N : List Nd) (i : Int) (T : Option Tr) : Prop := match T with | none => i = -1 | some t => ∃ k : Nat, i = k ∧ Rep hLf hIn N k t ∧ t.ok
def putO (T : Option Tr) (K V : List Int) : Tr := match T with | none => .leaf K V | some t => t.put K V
def szO (T : Option Tr) : Nat := match T with | none => 0 | some t => t.list.length
theorem put_any {w : World} {f g b : Nat} {N : List Nd} {A : Option Addr} {c : Nat} {tv : Value} (h : Fo w f g b N A c tv) (hfr : FrOk hLf hIn N) {K V : List Int} (hK : Ky K) (hV : Ky V) (hlen : Few N.length) (ht : Tab w) (i : Int) (T : Option Tr) (hT : TAt N i T) (hsm : Few (szO T)) :
    Calls Tryd.prog 10 #[.pointer (some ⟨f, 0, none⟩), .int .i64 i, .agg (kc K), .agg (kc V)] w (PutA w f g b N (putO T K V) (2 + szO T)) := by
  cases T with
  | none =>
    obtain rfl : i = -1 := hT
    exact (put_none h hfr hK hV hlen ht).mono fun e w' ⟨M, top, h1, h2, h3, h4, h5⟩ => ⟨M, top, h1, h2, h3, h4, by show _ ≤ 2 + 0; omega⟩
  | some t =>
    obtain ⟨k, rfl, hr, hok⟩ := hT
    exact put_tree h hfr hK hV hlen ht k t hr hok hsm
end Go.Proofs.YtdeohkgdmbfocaaDoor
