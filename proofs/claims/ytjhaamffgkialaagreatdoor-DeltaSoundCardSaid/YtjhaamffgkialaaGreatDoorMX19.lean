/-
  What is proved here: a forest with a tree of some pairs, put one behind the other.
-/
import Derived.Test.YtjhaamffgkialaaGreatDoorMX21
set_option linter.unusedSimpArgs false
set_option linter.unusedVariables false
namespace Go.Proofs.YtjhaamffgkialaaGreatDoor
open Go.ChangeShapes Go.WideShapes Go.ChangeAt Go.RowKit
set_option linter.unusedVariables false
set_option linter.unusedSimpArgs false
set_option maxRecDepth 20000

def PairAt (b o : Nat) (q : KV) (w : World) : Prop := w.rangeAt b o (kvc q)
theorem pair_1 {w : World} {b o : Nat} {q : KV} (h : PairAt b o q w) (hq : Ky q.1 ∧ Ky q.2) : w.rangeAt b o (u8s q.1) := range_sub0 (B := u8s q.2) h
theorem pair_2 {w : World} {b o : Nat} {q : KV} (h : PairAt b o q w) (hq : Ky q.1 ∧ Ky q.2) : w.rangeAt b (o + 32) (u8s q.2) := by
  have h' : w.rangeAt b o (u8s q.1 ++ (u8s q.2 ++ [])) := by rw [List.append_nil]; exact h
  have := range_sub h'
  rw [u8s_length, hq.1.len] at this
  exact this
/-- between two puts: the forest, and the tree of the first k pairs -/
structure BtI (w : World) (f : Nat) (P : List KV) (k : Nat) (ti : Int) (g b : Nat) (N : List Nd) (A : Option Addr) (c : Nat) (tv : Value) (T : Option Tr) (wr : World) : Prop where
  fo : Fo wr f g b N A c tv
  fr : FrOk hLf hIn N
  t : TAt N ti T
  l : lstO T = allL (P.take k)
  sz : szO T ≤ k
  nl : N.length ≤ 70 * k
  bl : Below w.heap.size w wr
  own : w.heap.size ≤ f ∧ w.heap.size ≤ g ∧ w.heap.size ≤ b
theorem BtI.drew {w : World} {f : Nat} {P : List KV} {k : Nat} {ti : Int} {g b : Nat} {N : List Nd} {A : Option Addr} {c : Nat} {tv : Value} {T : Option Tr} {wr : World} (h : BtI w f P k ti g b N A c tv T wr) : BtI w f P k ti g b N A c tv T wr.drew :=
  ⟨h.fo.below (Below.refl _ _).drew, h.fr, h.t, h.l, h.sz, h.nl, h.bl.drew, h.own⟩
theorem bt_next {w : World} {f : Nat} {P : List KV} {k : Nat} {ti : Int} {g b : Nat} {N M : List Nd} {A : Option Addr} {c : Nat} {tv : Value} {T : Option Tr} {wr w2 : World} {q : KV} {top : Nat}
    (h : BtI w f P k ti g b N A c tv T wr) (hq : Ky q.1 ∧ Ky q.2) (hk : P[k]? = some q ∧ k < 60) (hgr : Grew wr f g b (N ++ M) w2) (hrep : Rep hLf hIn (N ++ M) top (putO T q.1 q.2)) (hfr : FrOk hLf hIn (N ++ M)) (hm : M.length ≤ 2 + szO T) :
    ∃ g' b' N' A' c' tv' T', BtI w f P (k + 1) top g' b' N' A' c' tv' T' w2 := by
  obtain ⟨g', b', A', c', tv', hfo, hg, hb, ho⟩ := hgr
  obtain ⟨h1, h2, h3⟩ := putO_list (T := T) h.t.ok hq.1 hq.2
  obtain ⟨o1, o2, o3⟩ := h.own
  have hsz := h.bl.size
  refine ⟨g', b', N ++ M, A', c', tv', some (putO T q.1 q.2), hfo, hfr, ⟨top, rfl, hrep, h2⟩, ?_, ?_, ?_, ?_, o1, ?_, ?_⟩
  · show (putO T q.1 q.2).list = _
    rw [h1, h.l, List.take_add_one, hk.1, Option.toList_some, allL_snoc]
  · show (putO T q.1 q.2).list.length ≤ _
    have := h.sz; omega
  · rw [List.length_append]
    have := h.nl; have := h.sz; have := hk.2
    omega
  · exact h.bl.trans (ho.below (B := w.heap.size) hsz (fun k hk => by rcases hk with e | e | e <;> omega))
  · rcases hg with e | e
    · omega
    · omega
  · rcases hb with e | e
    · omega
    · have e' : wr.heap.size ≤ b' := e; omega
theorem rng_only {wr w2 : World} {f g b0 : Nat} {N' : List Nd} {b o : Nat} {q : KV} (hgr : Grew wr f g b0 N' w2) (h : PairAt b o q wr) (hn : ¬ Ow f g b0 b) : PairAt b o q w2 := by
  obtain ⟨g', b', A', c', tv', hfo, hg, hb, ho⟩ := hgr
  exact fun j v hv => (World.cell?_of_block (a := ⟨b, o + j, none⟩) (ho.block b (block_lt_of_cell (h j v hv)) hn)).trans (h j v hv)
/-- what Built answers -/
def BtA (w : World) (P : List KV) (e : Ending) (w' : World) : Prop := ∃ f ti g b N A c tv T, e = .returned (.tuple #[.pointer (some ⟨f, 0, none⟩), .int .i64 ti]) ∧ BtI w f P P.length ti g b N A c tv T w'
set_option maxHeartbeats 8000000 in
theorem xBuilt_any {w : World} {A0 : Option Addr} {n c0 : Nat} {P : List KV} (h : InP w A0 n P) (hn : n ≤ 60) (ht : Tab w) : Calls Tryz.prog 5 #[.slice A0 n c0] w (BtA w P) := by
  have KF : Hid (Blk (w.alloc (.cells #[.slice none 0 0, .pointer none] 53)) w.heap.size 53 #[.slice none 0 0, .pointer none]) := Blk.new w 53 _
  have B0 : Hid (Below w.heap.size w (w.alloc (.cells #[.slice none 0 0, .pointer none] 53))) := (Below.refl _ _).alloc (Nat.le_refl _) _
  have hb0 := built_forest
  have HIN := hid h; have HT := hid ht
  have HPN : Hid (P.length = n) := h.1
  have I0 : Hid (BtI w w.heap.size P 0 (-1) w.heap.size w.heap.size [] none 0 (.pointer none) none (w.alloc (.cells #[.slice none 0 0, .pointer none] 53))) := ⟨fo_new KF.out, fr_new, rfl, by rw [List.take_zero]; rfl, Nat.le_refl _, by simp, B0.out, Nat.le_refl _, Nat.le_refl _, Nat.le_refl _⟩
  clear h ht
  unfold BtA
  go_enter Tryz.func5, Tryz.ntmps5
  go_wp2_with (refine wpList_buildC rfl 53 _ rfl #[.slice none 0 0, .pointer none] ?hc ?_; case hc => (simp only [List.map_toArray, List.map_cons, List.map_nil, Act.eval]; exact hb0))
  generalize w.alloc (.cells #[.slice none 0 0, .pointer none] 53) = w0 at KF B0 I0 ⊢
  clear hb0
  go_loopw [5, 6] (fun tv5 iv wr => ∃ k, k ≤ n ∧ ∃ g b N A c tv T ti, tv5 = .int .i64 ti ∧ iv = .int .i64 (k : Nat) ∧ Hid (BtI w w.heap.size P k ti g b N A c tv T wr)) (fun _ iv _ => n - (intOf iv).toNat)
  case atStart => exact ⟨0, Nat.zero_le _, _, _, _, _, _, _, _, -1, rfl, rfl, I0⟩
  case round =>
    obtain ⟨k, hk, g, b1, N, A, c, tv, T, ti, rfl, rfl, FI⟩ := hrel
    clear I0 KF B0
    by_cases hlt : k < n
    · have hpos : 0 < n := by omega
      obtain ⟨b, o, rfl, hbl, hat⟩ := HIN.out.2.2.2 hpos
      have hkP : k < P.length := by rw [HPN.out]; exact hlt
      obtain ⟨q, hq⟩ : ∃ q, P[k]? = some q := ⟨_, List.getElem?_eq_getElem hkP⟩
      have HQ : Hid (Ky q.1 ∧ Ky q.2) := HIN.out.2.2.1 q (List.mem_of_getElem? hq)
      have HQK : Hid (P[k]? = some q ∧ k < 60) := ⟨hq, by omega⟩
      have HKI := hid (u8s_info HQ.out.1); have HVI := hid (u8s_info HQ.out.2)
      have HFEW : Hid (Few N.length) := by show N.length < 100000; have := FI.out.nl; omega
      have HFS : Hid (Few (szO T)) := by show szO T < 100000; have := FI.out.sz; omega
      have NOWN : Hid (¬ Ow w.heap.size g b1 b) := by
        have := FI.out.own
        intro ho
        rcases ho with e | e | e <;> omega
      have PA : Hid (PairAt b (o + k * 64) q wr) := rng_bel FI.out.bl (hat k q hq)
      have hlt2 : (k : Int) < n := by omega
      clear hat hq hbl hkP hpos
      go_upto_region 6 with (fail)
      refine wp_region_held (S := fun w' => Hid (PairAt b (o + k * 64) q w')) (by kernel_rfl) ?_
      change wpAnyH _ _ _ _ _ _ _ _ wr.drew
      have Gx0 : Hid (PairAt b (o + k * 64) q wr.drew) := PA.out
      have FI' : Hid (BtI w w.heap.size P k ti g b1 N A c tv T wr.drew) := FI.out.drew
      clear FI
      have FI := FI'
      clear FI'
      generalize wr.drew = x0 at Gx0 FI ⊢
      refine wpAnyH_take (i := 0) (oi := { dst := some 18, op := _, type := _, pos := _, after := _, guard := _ }) (v := ?_) rfl (by kernel_rfl) (by kernel_rfl) (by kernel_rfl) (fun _ _ _ h => h) (Or.inl ⟨by kernel_rfl, ?_⟩) Gx0 ?_
      rotate_left
      · (intro w hSw; go_simp; try with_reducible rfl)
      try simp only [Act.put, List.setIfInBounds_toArray, List.set_cons_zero, List.set_cons_succ]
      refine wpAnyH_take (i := 1) (oi := { dst := some 19, op := _, type := _, pos := _, after := _, guard := _ }) (v := ?_) rfl (by kernel_rfl) (by kernel_rfl) (by kernel_rfl) (fun _ _ _ h => h) (Or.inl ⟨by kernel_rfl, ?_⟩) Gx0 ?_
      rotate_left
      · (intro w hSw; go_simp; try with_reducible rfl)
      try simp only [Act.put, List.setIfInBounds_toArray, List.set_cons_zero, List.set_cons_succ]
      refine wpAnyH_take (i := 2) (oi := { dst := some 20, op := _, type := _, pos := _, after := _, guard := _ }) (v := ?_) rfl (by kernel_rfl) (by kernel_rfl) (by kernel_rfl) (fun _ _ _ h => h) (Or.inl ⟨by kernel_rfl, ?_⟩) Gx0 ?_
      rotate_left
      · (intro w hSw; go_simp; try with_reducible rfl)
      try simp only [Act.put, List.setIfInBounds_toArray, List.set_cons_zero, List.set_cons_succ]
      refine wpAnyH_take (i := 3) (oi := { dst := some 21, op := _, type := _, pos := _, after := _, guard := _ }) (v := ?_) rfl (by kernel_rfl) (by kernel_rfl) (by kernel_rfl) (fun _ _ _ h => h) (Or.inl ⟨by kernel_rfl, ?_⟩) Gx0 ?_
      rotate_left
      · (intro w hSw; go_simp; try with_reducible rfl)
      try simp only [Act.put, List.setIfInBounds_toArray, List.set_cons_zero, List.set_cons_succ]
      refine wpAnyH_take (i := 4) (oi := { dst := some 22, op := _, type := _, pos := _, after := _, guard := _ }) (v := ?_) rfl (by kernel_rfl) (by kernel_rfl) (by kernel_rfl) (fun _ _ _ h => h) (Or.inl ⟨by kernel_rfl, ?_⟩) Gx0 ?_
      rotate_left
      · (intro w hSw; go_simp; try with_reducible rfl)
      try simp only [Act.put, List.setIfInBounds_toArray, List.set_cons_zero, List.set_cons_succ]
      refine wpAnyH_take (i := 5) (oi := { dst := some 23, op := _, type := _, pos := _, after := _, guard := _ }) (v := ?_) rfl (by kernel_rfl) (by kernel_rfl) (by kernel_rfl) (fun _ _ _ h => h) (Or.inl ⟨by kernel_rfl, ?_⟩) Gx0 ?_
      rotate_left
      · (intro w hSw; go_simp; try with_reducible rfl)
      try simp only [Act.put, List.setIfInBounds_toArray, List.set_cons_zero, List.set_cons_succ]
      refine wpAnyH_take (i := 6) (oi := { dst := some 24, op := _, type := _, pos := _, after := _, guard := _ }) (v := .agg ((kc q.1))) rfl (by kernel_rfl) (by kernel_rfl) (by kernel_rfl) (fun _ _ _ h => h) (yieldsIf_load_mid (cs := u8s q.1) (by rfl) _ _ rfl _ _ rfl _ (fun w' hSw => (pair_1 hSw.out HQ.out)) Tryz.underlying25 rfl HKI.out) Gx0 ?_
      try simp only [Act.put, List.setIfInBounds_toArray, List.set_cons_zero, List.set_cons_succ]
      refine wpAnyH_take (i := 7) (oi := { dst := some 25, op := _, type := _, pos := _, after := _, guard := _ }) (v := ?_) rfl (by kernel_rfl) (by kernel_rfl) (by kernel_rfl) (fun _ _ _ h => h) (Or.inl ⟨by kernel_rfl, ?_⟩) Gx0 ?_
      rotate_left
      · (intro w hSw; go_simp; try with_reducible rfl)
      try simp only [Act.put, List.setIfInBounds_toArray, List.set_cons_zero, List.set_cons_succ]
      refine wpAnyH_take (i := 8) (oi := { dst := some 26, op := _, type := _, pos := _, after := _, guard := _ }) (v := ?_) rfl (by kernel_rfl) (by kernel_rfl) (by kernel_rfl) (fun _ _ _ h => h) (Or.inl ⟨by kernel_rfl, ?_⟩) Gx0 ?_
      rotate_left
      · (intro w hSw; go_simp; try with_reducible rfl)
      try simp only [Act.put, List.setIfInBounds_toArray, List.set_cons_zero, List.set_cons_succ]
      refine wpAnyH_take (i := 9) (oi := { dst := some 27, op := _, type := _, pos := _, after := _, guard := _ }) (v := ?_) rfl (by kernel_rfl) (by kernel_rfl) (by kernel_rfl) (fun _ _ _ h => h) (Or.inl ⟨by kernel_rfl, ?_⟩) Gx0 ?_
      rotate_left
      · (intro w hSw; go_simp; try with_reducible rfl)
      try simp only [Act.put, List.setIfInBounds_toArray, List.set_cons_zero, List.set_cons_succ]
      refine wpAnyH_take (i := 10) (oi := { dst := some 28, op := _, type := _, pos := _, after := _, guard := _ }) (v := ?_) rfl (by kernel_rfl) (by kernel_rfl) (by kernel_rfl) (fun _ _ _ h => h) (Or.inl ⟨by kernel_rfl, ?_⟩) Gx0 ?_
      rotate_left
      · (intro w hSw; go_simp; try with_reducible rfl)
      try simp only [Act.put, List.setIfInBounds_toArray, List.set_cons_zero, List.set_cons_succ]
      refine wpAnyH_take (i := 11) (oi := { dst := some 29, op := _, type := _, pos := _, after := _, guard := _ }) (v := .agg ((kc q.2))) rfl (by kernel_rfl) (by kernel_rfl) (by kernel_rfl) (fun _ _ _ h => h) (yieldsIf_load_mid (cs := u8s q.2) (by rfl) _ _ rfl _ _ rfl _ (fun w' hSw => (pair_2 hSw.out HQ.out)) Tryz.underlying25 rfl HVI.out) Gx0 ?_
      try simp only [Act.put, List.setIfInBounds_toArray, List.set_cons_zero, List.set_cons_succ]
      refine wpAnyH_ready (rs := [12]) (by kernel_rfl) (by simp) ?_
      refine (AllReadyH.cons (o := { dst := some 30, op := _, type := _, pos := _, after := _, guard := _ }) rfl (fun Qc hQc => ?_) AllReadyH.nil)
      go_simp
      have CP := put_any FI.out.fo FI.out.fr HQ.out.1 HQ.out.2 HFEW.out (HT.out.below FI.out.bl) ti T FI.out.t HFS.out
      go_at_call 13
      refine CP.mono ?_
      clear CP
      rintro e x1 ⟨M, top, rfl, hgr, hrep, hfr, hm⟩
      have NX := hid (bt_next FI.out HQ.out HQK.out hgr hrep hfr hm)
      have Gx1 : Hid (PairAt b (o + k * 64) q x1) := rng_only (hgr) Gx0.out NOWN.out
      clear hgr hrep hfr hm
      go_wp2_with fail
      refine hQc.out _ _ Gx1 (fun hHeld => ?_)
      clear hQc Qc hHeld
      try simp only [Act.put, List.setIfInBounds_toArray, List.set_cons_zero, List.set_cons_succ]
      refine wpAnyH_take (i := 13) (oi := { dst := some 17, op := _, type := _, pos := _, after := _, guard := _ }) (v := ?_) rfl (by kernel_rfl) (by kernel_rfl) (by kernel_rfl) (fun _ _ _ h => h) (Or.inl ⟨by kernel_rfl, ?_⟩) Gx1 ?_
      rotate_left
      · (intro w hSw; go_simp; try with_reducible rfl)
      try simp only [Act.put, List.setIfInBounds_toArray, List.set_cons_zero, List.set_cons_succ]
      refine wpAnyH_take (i := 14) (oi := { dst := some 31, op := _, type := _, pos := _, after := _, guard := _ }) (v := ?_) rfl (by kernel_rfl) (by kernel_rfl) (by kernel_rfl) (fun _ _ _ h => h) (Or.inl ⟨by kernel_rfl, ?_⟩) Gx1 ?_
      rotate_left
      · (intro w hSw; go_simp; try with_reducible rfl)
      try simp only [Act.put, List.setIfInBounds_toArray, List.set_cons_zero, List.set_cons_succ]
      refine wpAnyH_take (i := 15) (oi := { dst := some 32, op := _, type := _, pos := _, after := _, guard := _ }) (v := ?_) rfl (by kernel_rfl) (by kernel_rfl) (by kernel_rfl) (fun _ _ _ h => h) (Or.inl ⟨by kernel_rfl, ?_⟩) Gx1 ?_
      rotate_left
      · (intro w hSw; go_simp; try with_reducible rfl)
      try simp only [Act.put, List.setIfInBounds_toArray, List.set_cons_zero, List.set_cons_succ]
      refine wpAnyH_take (i := 16) (oi := { dst := some 7, op := _, type := _, pos := _, after := _, guard := _ }) (v := ?_) rfl (by kernel_rfl) (by kernel_rfl) (by kernel_rfl) (fun _ _ _ h => h) (Or.inl ⟨by kernel_rfl, ?_⟩) Gx1 ?_
      rotate_left
      · (intro w hSw; go_simp; try with_reducible rfl)
      try simp only [Act.put, List.setIfInBounds_toArray, List.set_cons_zero, List.set_cons_succ]
      refine wpAnyH_take (i := 17) (oi := { dst := some 8, op := _, type := _, pos := _, after := _, guard := _ }) (v := ?_) rfl (by kernel_rfl) (by kernel_rfl) (by kernel_rfl) (fun _ _ _ h => h) (Or.inl ⟨by kernel_rfl, ?_⟩) Gx1 ?_
      rotate_left
      · (intro w hSw; go_simp; try with_reducible rfl)
      try simp only [Act.put, List.setIfInBounds_toArray, List.set_cons_zero, List.set_cons_succ]
      refine wpAnyH_done (by kernel_rfl) ?_ _
      try simp only [Act.put, List.setIfInBounds_toArray, List.set_cons_zero, List.set_cons_succ]
      go_wp2
      go_roundw
      case rel =>
          obtain ⟨g2, b2, N2, A2, c2, tv2, T2, h2⟩ := NX.out
          exact ⟨k + 1, by omega, g2, b2, N2, A2, c2, tv2, T2, _, rfl, by go_num, h2⟩
      case measure => simp [intOf]; omega
    · obtain rfl : k = n := by omega
      go_wp2
      go_ret2
      exact ⟨w.heap.size, ti, g, b1, N, A, c, tv, T, rfl, by rw [HPN.out]; exact FI.out⟩
end Go.Proofs.YtjhaamffgkialaaGreatDoor
