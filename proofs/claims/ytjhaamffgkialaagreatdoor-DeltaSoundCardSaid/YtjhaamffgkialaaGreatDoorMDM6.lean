/-
  What is proved here: add: a row's node is put behind all others, or may not be.
-/
import Derived.Test.YtjhaamffgkialaaGreatDoorMQZ2
import Derived.Test.YtjhaamffgkialaaGreatDoorMYN0
import Derived.Test.YtjhaamffgkialaaGreatDoorMDE11
import Derived.Test.YtjhaamffgkialaaGreatDoorMY25
import Derived.Test.YtjhaamffgkialaaGreatDoorMX20
set_option linter.unusedSimpArgs false
set_option linter.unusedVariables false
namespace Go.Proofs.YtjhaamffgkialaaGreatDoor
open Go.ChangeShapes Go.WideShapes Go.ChangeAt Go.RowKit Go.Shelf
set_option linter.unusedVariables false
set_option linter.unusedSimpArgs false
set_option maxRecDepth 20000

theorem wth_held {t : Tr} (h : t.ok) {m : Nat} {c : List Int} (hm : m ≤ 256) (hw : wth (m : Int) c (t.pre.1 : Int) t.pre.2 = true) : ∀ q ∈ t.list, cut q.1 m = c := by
  unfold wth hld at hw
  simp only [Bool.and_eq_true, decide_eq_true_eq] at hw
  obtain ⟨⟨_, h2⟩, _, _, h5⟩ := hw
  rw [Int.toNat_natCast] at h5
  exact (held_iff h hm).2 ⟨by omega, h5⟩
/-- where Add lets an inner node stand, it is a tree's -/
theorem may_rep {N : List Nd} {a d n : Nat} {b : List Int} {l r : Tr} (hl : Rep hLf hIn N a l) (hr : Rep hLf hIn N d r) (ol : l.ok) (or : r.ok) (hb : Ky b) (hn : n < 256) (hm : mayB N (n : Int) b (a : Int) (d : Int) = true) : (Tr.inner n b l r).ok := by
  have i1 : isNd N.length (a : Int) = true := by unfold isNd; rw [decide_eq_true_eq]; have := hl.lt; omega
  have i2 : isNd N.length (d : Int) = true := by unfold isNd; rw [decide_eq_true_eq]; have := hr.lt; omega
  obtain ⟨n0, x, y, e1, _, hfrm, _⟩ := may_parts hm
  have e1' : n = n0 := by omega
  subst e1'
  have hcb : cut b n = b := by
    unfold frm at hfrm
    rw [decide_eq_true_eq, Int.toNat_natCast] at hfrm
    exact hfrm.2.2
  rw [may_yes i1 i2 hfrm (by omega), Bool.and_eq_true] at hm
  rw [Int.toNat_natCast, Int.toNat_natCast, Int.toNat_natCast, (rep_pref hl).1, (rep_pref hl).2, (rep_pref hr).1, (rep_pref hr).2] at hm
  have e : (n : Int) + 1 = ((n + 1 : Nat) : Int) := by omega
  rw [e] at hm
  have w1 := wth_held ol (by omega) hm.1
  have w2 := wth_held or (by omega) hm.2
  refine (inner_ok_iff ol or hn).2 ⟨fun q hq => ?_, fun q hq => ?_⟩
  · refine (cut_succ hn hcb hb 0 (.inl rfl)).2 ?_
    rw [if_neg (by decide)]
    exact w1 q hq
  · refine (cut_succ hn hcb hb 1 (.inr rfl)).2 ?_
    rw [if_pos rfl]
    exact w2 q hq
/-- an inner node more -/
theorem may_more {N : List Nd} (hfr : FrOk hLf hIn N) {q : Nd} (hb : Ky q.b) (hm : mayB N q.n q.b q.l q.r = true) :
    ∃ t, FrOk hLf hIn (N ++ [ndI q.n.toNat q.b q.l.toNat q.r.toNat (hIn q.n.toNat q.b (hashN N q.l) (hashN N q.r))]) ∧ Rep hLf hIn (N ++ [ndI q.n.toNat q.b q.l.toNat q.r.toNat (hIn q.n.toNat q.b (hashN N q.l) (hashN N q.r))]) N.length t ∧ t.ok := by
  obtain ⟨n0, x, y, e1, hn0, hfrm, e2, e3, hx, hy⟩ := may_parts hm
  rw [e1, e2, e3] at hm ⊢
  obtain ⟨tl, ol, hl⟩ := hfr x hx
  obtain ⟨tr, or, hr⟩ := hfr y hy
  have hok := may_rep hl hr ol or hb hn0 hm
  have h := FrOk.inner hLf hIn hfr hl hr hok
  rw [Int.toNat_natCast, Int.toNat_natCast, Int.toNat_natCast, rep_hash hl, rep_hash hr]
  exact ⟨_, h.1, h.2, hok⟩
def rNd (q : Rw) (a d : Int) : Nd := ⟨q.leaf, q.k, q.v, q.n, q.b, a, d, z32⟩
theorem rNd_ok {q : Rw} (h : RwOk q) (a d : Int) : NdOk (rNd q a d) := ⟨h.k, h.v, h.b, ky_zero⟩
theorem rNd_built {q : Rw} (h : RwOk q) : Tryz.prog.built 63 [(0, .bool q.leaf), (1, .agg (kc q.k)), (2, .agg (kc q.v)), (3, .agg (pc q.n q.b))] = some (nc (rNd q 0 0)).toArray := by
  obtain ⟨i0, hi, hz0, hz1, hz2⟩ := info_parts info_node
  obtain ⟨fields, hu, hpl⟩ := node_places
  unfold Program.built
  rw [hi, hu]
  simp only [hz0, hpl]
  have e3 : (Value.agg (nc ndZ).toArray).cells = (nc ndZ).toArray := rfl
  have sz : (nc ndZ).toArray.size = 132 := rfl
  rw [e3, fill_step (v := .bool q.leaf) (off := 0) (size := 1) rfl rfl (by simp only [putRow_len, sz]; decide), fill_step (v := .agg (kc q.k)) (off := 1) (size := 32) rfl (kc_size h.k) (by simp only [putRow_len, sz]; decide), fill_step (v := .agg (kc q.v)) (off := 33) (size := 32) rfl (kc_size h.v) (by simp only [putRow_len, sz]; decide), fill_step (v := .agg (pc q.n q.b)) (off := 65) (size := 33) rfl (pc_size q.n h.b) (by simp only [putRow_len, sz]; decide), fill_end]
  have c1 : (Value.agg (kc q.k)).cells.toList = u8s q.k := rfl
  have c2 : (Value.agg (kc q.v)).cells.toList = u8s q.v := rfl
  have c0 : (Value.bool q.leaf).cells.toList = [.bool q.leaf] := rfl
  have c3 : (Value.agg (pc q.n q.b)).cells.toList = .int .i64 q.n :: u8s q.b := rfl
  rw [c0, c1, c2, c3, nc_0, nc_1 ky_zero h.k, nc_2 h.k ky_zero h.v, nc_3 h.k h.v ky_zero h.b]
  rfl
/-- what add answers -/
def DaA (w : World) (f g b : Nat) (N : List Nd) (e : Ending) (w' : World) : Prop :=
  (e = .returned (.tuple #[.int .i64 0, .int .i64 9]) ∧ Below w.heap.size w w') ∨
  ∃ x t, e = .returned (.tuple #[.int .i64 N.length, .int .i64 0]) ∧ Grew w f g b (N ++ [x]) w' ∧ FrOk hLf hIn (N ++ [x]) ∧ Rep hLf hIn (N ++ [x]) N.length t ∧ t.ok
theorem grew_from {w w1 w' : World} {f g b : Nat} {N : List Nd} {A : Option Addr} {c : Nat} {tv : Value} {N' : List Nd} (h : Fo w f g b N A c tv) (hb : Below w.heap.size w w1) (hg : Grew w1 f g b N' w') : Grew w f g b N' w' := by
  obtain ⟨g', b', A', c', tv', h1, h2, h3, h4⟩ := hg
  have hs := hb.size
  refine ⟨g', b', A', c', tv', h1, h2.imp id (fun e => by omega), h3.imp id (fun e => by omega), (OnlyS.of_below hb (Nat.le_refl _)).trans h4⟩
set_option maxHeartbeats 8000000 in
theorem dadd_any {w : World} {f g b c m k : Nat} {N : List Nd} {A : Option Addr} {tv : Value} {q : Rw} (h : Fo w f g b N A c tv) (hfr : FrOk hLf hIn N) (hq : RwOk q) (hm : MapN w m k N.length) (hlen : Few N.length) (ht : Tab w) :
    Calls Tryz.prog 15 #[.pointer (some ⟨f, 0, none⟩), .agg (rwc q).toArray, .map (some m)] w (DaA w f g b N) := by
  obtain ⟨X, HX, hX0, hXs⟩ := zero_node
  have K0 : Hid (Blk (w.alloc (.cells (rwc q).toArray 49)) w.heap.size 49 (rwc q).toArray) := Blk.new w 49 _
  have B0 : Hid (Below w.heap.size w (w.alloc (.cells (rwc q).toArray 49))) := (Below.refl _ _).alloc (Nat.le_refl _) _
  have S0 : Hid ((w.alloc (.cells (rwc q).toArray 49)).heap.size = w.heap.size + 1) := World.size_alloc ..
  have R0 := hid (rw_at (q := q) (fun j v hv => by rw [K0.out.cell, Nat.zero_add, List.getElem?_toArray]; exact hv) hq)
  have cl0 := R0.out.leaf
  have HFO := hid h; have HFR := hid hfr; have HQ := hid hq; have HM := hid hm; have HL := hid hlen; have HT := hid ht
  have HNB := rNd_built hq
  have HN2 := hid (node_info2 (rNd_ok hq 0 0))
  have HNZ : Hid (X.size = (nc (rNd q 0 0)).toArray.size) := by show _ = _; rw [HX.out, List.size_toArray, List.size_toArray, ndZ_ok.nc, (rNd_ok hq 0 0).nc]
  have HN3 := hid (nc_one2 (rNd q 0 0))
  have HKI := hid (u8s_info hq.k); have HVI := hid (u8s_info hq.v); have HPI := hid (pcl_info q.n hq.b); have HLI := hid (u8s_info hq.l); have HRI := hid (u8s_info hq.r)
  clear h hfr hm hlen ht
  unfold DaA
  go_enter Tryz.func15, Tryz.ntmps15
  go_upto_region 2 with (first
    | (refine load_at rfl 25 (.tmp 17) rfl w.heap.size 1 rfl (u8s q.k) _ R0.out.key Tryz.underlying25 rfl HKI.out (kc q.k) rfl ?_)
    | (refine load_at rfl 25 (.tmp 19) rfl w.heap.size 33 rfl (u8s q.v) _ R0.out.val Tryz.underlying25 rfl HVI.out (kc q.v) rfl ?_)
    | (refine load_at rfl 47 (.tmp 21) rfl w.heap.size 65 rfl (.int .i64 q.n :: u8s q.b) _ R0.out.pre Tryz.underlying47 rfl HPI.out (pc q.n q.b) rfl ?_)
    | (refine wpList_buildC rfl 63 _ rfl (nc (rNd q 0 0)).toArray ?hc ?_; case hc => (simp only [List.map_toArray, List.map_cons, List.map_nil, Act.eval]; exact HNB))
    | (refine wpList_store_row rfl 63 (.tmp 8) (.tmp 23) rfl (w.heap.size + 1) (nc (rNd q 0 0)).toArray rfl rfl 63 X (by have := Blk.new (w.alloc (.cells (rwc q).toArray 49)) 63 X; rwa [S0.out] at this) HN2.out HNZ.out HN3.out ?_))
  have RW : Hid (RwAt (((w.alloc (.cells (rwc q).toArray 49)).alloc (.cells X 63)).setRow (w.heap.size + 1) (nc (rNd q 0 0)).toArray) w.heap.size 0 q) := by
    have k1 := (K0.out.alloc (.cells X 63)).rowFar (show w.heap.size ≠ w.heap.size + 1 by omega) (nc (rNd q 0 0)).toArray
    exact rw_at (fun j v hv => by rw [k1.cell, Nat.zero_add, List.getElem?_toArray]; exact hv) HQ.out
  have NB : Hid (Blk (((w.alloc (.cells (rwc q).toArray 49)).alloc (.cells X 63)).setRow (w.heap.size + 1) (nc (rNd q 0 0)).toArray) (w.heap.size + 1) 63 (nc (rNd q 0 0)).toArray) := by
    have := Blk.new (w.alloc (.cells (rwc q).toArray 49)) 63 X
    rw [S0.out] at this
    exact this.row _
  have B1 : Hid (Below w.heap.size w (((w.alloc (.cells (rwc q).toArray 49)).alloc (.cells X 63)).setRow (w.heap.size + 1) (nc (rNd q 0 0)).toArray)) := below_setRow (B0.out.alloc (by rw [S0.out]; omega) _) (by omega) _
  clear K0 B0 S0 R0 cl0 HNB HN2 HNZ HN3 HX hX0 hXs
  generalize ((w.alloc (.cells (rwc q).toArray 49)).alloc (.cells X 63)).setRow (w.heap.size + 1) (nc (rNd q 0 0)).toArray = w1 at RW NB B1 ⊢
  have cl := RW.out.leaf
  have FO1 := hid (HFO.out.below B1.out)
  have HT1 := hid (HT.out.below B1.out)
  cases hlf : q.leaf with
  | true =>
    rw [hlf] at cl
    have hnok := rNd_ok HQ.out 0 0
    have CA := hid (xAdd_leaf FO1.out (rNd q 0 0) hnok hlf HL.out HT1.out)
    have HFL := hid (FrOk.leaf hLf hIn HFR.out (k := q.k) (v := q.v) HQ.out.k HQ.out.v)
    have NI := hid (node_info hnok)
    have NA := hid (NB.out.node hnok)
    clear hnok
    go_wp2_with (first
      | (refine load_at rfl 63 (.tmp 8) rfl (w.heap.size + 1) 0 rfl (nc (rNd q 0 0)) _ NA.out.all Tryz.underlying63 rfl NI.out (nc (rNd q 0 0)).toArray rfl ?_)
      | (go_at_call 32; refine CA.out.mono ?_; rintro e w2 ⟨rfl, hg⟩; have HG := hid hg; clear hg))
    go_ret2
    exact .inr ⟨_, _, rfl, grew_from HFO.out B1.out HG.out, HFL.out.1, HFL.out.2, HQ.out.k, HQ.out.v⟩
  | false =>
    rw [hlf] at cl
    have hml := (HM.out.below B1.out).get HQ.out.l
    have hmr := (HM.out.below B1.out).get HQ.out.r
    have RL : Hid (w1.rangeAt w.heap.size 98 (u8s q.l)) := by have := RW.out.left; rwa [Nat.zero_add] at this
    have RR : Hid (w1.rangeAt w.heap.size 130 (u8s q.r)) := by have := RW.out.right; rwa [Nat.zero_add] at this
    have c98 : w1.cell? ⟨w.heap.size + 1, 98, none⟩ = some (.int .i64 0) := by have := (NB.out.node (rNd_ok HQ.out 0 0)).left; rwa [Nat.zero_add] at this
    have c99 : w1.cell? ⟨w.heap.size + 1, 99, none⟩ = some (.int .i64 0) := by have := (NB.out.node (rNd_ok HQ.out 0 0)).right; rwa [Nat.zero_add] at this
    have f98 := NB.out.frozen 98
    have f99 := NB.out.frozen 99
    rcases hml with hl1 | ⟨i, hi, hl1⟩
    · rcases hmr with hr1 | ⟨j, hj, hr1⟩
      · go_wp2_with (first
        | (refine load_at rfl 25 (.tmp 29) rfl w.heap.size 98 rfl (u8s q.l) _ (RL.out) Tryz.underlying25 rfl HLI.out (kc q.l) rfl ?_)
        | (refine load_at rfl 25 (.tmp 36) rfl w.heap.size 130 rfl (u8s q.r) _ (RR.out) Tryz.underlying25 rfl HRI.out (kc q.r) rfl ?_))
        go_ret2
        exact .inl ⟨rfl, B1.out⟩
      · go_wp2_with (first
        | (refine load_at rfl 25 (.tmp 29) rfl w.heap.size 98 rfl (u8s q.l) _ (RL.out) Tryz.underlying25 rfl HLI.out (kc q.l) rfl ?_)
        | (refine load_at rfl 25 (.tmp 36) rfl w.heap.size 130 rfl (u8s q.r) _ (RR.out) Tryz.underlying25 rfl HRI.out (kc q.r) rfl ?_))
        go_ret2
        exact .inl ⟨rfl, B1.out⟩
    · rcases hmr with hr1 | ⟨j, hj, hr1⟩
      · go_wp2_with (first
        | (refine load_at rfl 25 (.tmp 29) rfl w.heap.size 98 rfl (u8s q.l) _ (RL.out) Tryz.underlying25 rfl HLI.out (kc q.l) rfl ?_)
        | (refine load_at rfl 25 (.tmp 36) rfl w.heap.size 130 rfl (u8s q.r) _ (RR.out) Tryz.underlying25 rfl HRI.out (kc q.r) rfl ?_))
        go_ret2
        exact .inl ⟨rfl, B1.out⟩
      · go_upto_region 8 with (first
        | (refine load_at rfl 25 (.tmp 29) rfl w.heap.size 98 rfl (u8s q.l) _ (RL.out) Tryz.underlying25 rfl HLI.out (kc q.l) rfl ?_)
        | (refine load_at rfl 25 (.tmp 36) rfl w.heap.size 130 rfl (u8s q.r) _ (RR.out) Tryz.underlying25 rfl HRI.out (kc q.r) rfl ?_))
        have NB2 : Hid (Blk ((w1.setCell ⟨w.heap.size + 1, 98, none⟩ (.int .i64 (i : Nat))).setCell ⟨w.heap.size + 1, 99, none⟩ (.int .i64 (j : Nat))) (w.heap.size + 1) 63 (nc (rNd q i j)).toArray) := by
          have h1 := (NB.out.setd 98 (.int .i64 (i : Nat))).setd 99 (.int .i64 (j : Nat))
          have e1 : (nc (rNd q 0 0)).toArray.setIfInBounds 98 (.int .i64 (i : Nat)) = (nc (rNd q i 0)).toArray := nc_4 (q := rNd q 0 0) (x := (i : Nat)) HQ.out.k HQ.out.v HQ.out.b
          have e2 : (nc (rNd q i 0)).toArray.setIfInBounds 99 (.int .i64 (j : Nat)) = (nc (rNd q i j)).toArray := nc_5 (q := rNd q i 0) (x := (j : Nat)) HQ.out.k HQ.out.v HQ.out.b
          rw [e1, e2] at h1
          exact h1
        have B2 : Hid (Below w.heap.size w ((w1.setCell ⟨w.heap.size + 1, 98, none⟩ (.int .i64 (i : Nat))).setCell ⟨w.heap.size + 1, 99, none⟩ (.int .i64 (j : Nat)))) := (B1.out.setCell (p := ⟨w.heap.size + 1, 98, none⟩) (Nat.le_succ _) _).setCell (p := ⟨w.heap.size + 1, 99, none⟩) (Nat.le_succ _) _
        clear c98 c99 f98 f99 hl1 hr1 RL RR RW NB FO1 HT1 cl
        generalize (w1.setCell ⟨w.heap.size + 1, 98, none⟩ (.int .i64 (i : Nat))).setCell ⟨w.heap.size + 1, 99, none⟩ (.int .i64 (j : Nat)) = w2 at NB2 B2 ⊢
        have hnok := rNd_ok HQ.out (i : Nat) (j : Nat)
        have FO2 := hid (HFO.out.below B2.out)
        have NI := hid (node_info hnok)
        have NA := hid (NB2.out.node hnok)
        cases hmay : mayB N q.n q.b (i : Nat) (j : Nat) with
        | false =>
          have CA := hid (xAdd_no FO2.out (rNd q i j) hnok hlf hmay)
          clear hnok hmay
          go_wp2_with (first
            | (refine load_at rfl 63 (.tmp 8) rfl (w.heap.size + 1) 0 rfl (nc (rNd q i j)) _ NA.out.all Tryz.underlying63 rfl NI.out (nc (rNd q i j)).toArray rfl ?_)
            | (go_at_call 32; refine CA.out.mono ?_; rintro e w3 ⟨rfl, hb⟩; have B3 := hid (B2.out.trans (hb.mono B2.out.size)); clear hb))
          go_ret2
          exact .inl ⟨rfl, B3.out⟩
        | true =>
          have CA := hid (xAdd_yes FO2.out (rNd q i j) hnok hlf hmay HL.out (HT.out.below B2.out))
          have HMM := hid (may_more HFR.out (q := rNd q i j) HQ.out.b hmay)
          clear hnok hmay
          obtain ⟨x, hx⟩ : ∃ x, x = ndI (rNd q i j).n.toNat (rNd q i j).b (rNd q i j).l.toNat (rNd q i j).r.toNat (hIn (rNd q i j).n.toNat (rNd q i j).b (hashN N (rNd q i j).l) (hashN N (rNd q i j).r)) := ⟨_, rfl⟩
          rw [← hx] at CA HMM
          clear hx
          go_wp2_with (first
            | (refine load_at rfl 63 (.tmp 8) rfl (w.heap.size + 1) 0 rfl (nc (rNd q i j)) _ NA.out.all Tryz.underlying63 rfl NI.out (nc (rNd q i j)).toArray rfl ?_)
            | (go_at_call 32; refine CA.out.mono ?_; rintro e w3 ⟨rfl, hg⟩; have HG := hid hg; clear hg))
          go_ret2
          obtain ⟨t, h1, h2, h3⟩ := HMM.out
          exact .inr ⟨x, t, rfl, grew_from HFO.out B2.out HG.out, h1, h2, h3⟩
end Go.Proofs.YtjhaamffgkialaaGreatDoor
/-
  What is proved here: Apply of any rows.
-/
namespace Go.Proofs.YtjhaamffgkialaaGreatDoor
open Go.ChangeShapes Go.WideShapes Go.ChangeAt Go.RowKit Go.Shelf
set_option linter.unusedVariables false
set_option linter.unusedSimpArgs false
set_option maxRecDepth 20000

theorem MapN.not_own {x : World} {m k n f g b : Nat} {N : List Nd} {A : Option Addr} {c : Nat} {tv : Value} (h : MapN x m k n) (hf : Fo x f g b N A c tv) : ¬ Ow f g b m := by
  intro ho
  have hf0 := h.notCells hf.kf
  rcases hf.how with ⟨_, _, _, _, rfl, rfl⟩ | ⟨_, _, _, hb, C, hg⟩
  · rcases ho with e | e | e <;> exact hf0 e
  · rcases ho with e | e | e
    · exact hf0 e
    · exact h.notCells hg e
    · exact h.notCells hb e
/-- between two rounds -/
structure ApI (w : World) (f g11 m n0 B M k0 : Nat) (A2 : Option Addr) (c2 : Nat) (L : List Rw) (K : List Int) (j g b : Nat) (N : List Nd) (A : Option Addr) (c : Nat) (tv : Value) (H : List Int) (wr : World) : Prop where
  fo : Fo wr f g b N A c tv
  fr : FrOk hLf hIn N
  mp : MapN wr m (k0 + j) N.length
  hb : Blk wr g11 25 (kc H)
  rb : Blk wr w.heap.size 25 (kc K)
  ro : OwR n0 wr (.slice A2 L.length c2) L
  bl : Below B w wr
  lo : B ≤ f ∧ B ≤ g ∧ B ≤ b
  nl : N.length ≤ M + j
  tb : Tab wr
  ne : g11 ≠ w.heap.size ∧ B ≤ w.heap.size ∧ B ≤ g11 ∧ B ≤ m ∧ 0 < B
section
variable {w : World} {f g11 m n0 B M k0 : Nat} {A2 : Option Addr} {c2 : Nat} {L : List Rw} {K : List Int} {j g b : Nat} {N : List Nd} {A : Option Addr} {c : Nat} {tv : Value} {H : List Int} {wr x : World}
theorem ApI.below (h : ApI w f g11 m n0 B M k0 A2 c2 L K j g b N A c tv H wr) (hb : Below wr.heap.size wr x) : ApI w f g11 m n0 B M k0 A2 c2 L K j g b N A c tv H x :=
  ⟨h.fo.below hb, h.fr, h.mp.below hb, h.hb.below hb, h.rb.below hb, h.ro.below hb, h.bl.trans (hb.mono (Nat.le_trans h.ne.2.1 (by have := h.rb.lt; omega))), h.lo, h.nl, h.tb.below hb, h.ne⟩
theorem ApI.grow (h : ApI w f g11 m n0 B M k0 A2 c2 L K j g b N A c tv H wr) {q : Nd} (hg : Grew wr f g b (N ++ [q]) x) (hfr : FrOk hLf hIn (N ++ [q])) : ∃ g' b' A' c' tv', ApI w f g11 m n0 B (M + 1) k0 A2 c2 L K j g' b' (N ++ [q]) A' c' tv' H x := by
  obtain ⟨g', b', A', c', tv', h1, h2, h3, h4⟩ := hg
  have kp : ∀ k t C, Blk wr k t C → t ≠ 53 → t ≠ 63 → t ≠ 158 → x.heap[k]? = wr.heap[k]? := fun k t C hb n1 n2 n3 => h4.block k hb.lt (h.fo.not_own hb n1 n2 n3)
  have hsz : B ≤ wr.heap.size := Nat.le_trans h.ne.2.1 (by have := h.rb.lt; omega)
  obtain ⟨l1, l2, l3⟩ := h.lo
  refine ⟨g', b', A', c', tv', h1, hfr, ?_, h.hb.same (kp _ _ _ h.hb (by decide) (by decide) (by decide)), h.rb.same (kp _ _ _ h.rb (by decide) (by decide) (by decide)), h.ro.keep (fun k hk => ?_), h.bl.trans (h4.below hsz (fun k hk => ?_)), ⟨l1, ?_, ?_⟩, ?_, tab_only h.tb (h.fo.not_tab h.tb) h4, h.ne⟩
  · rw [List.length_append]
    exact (h.mp.same (h4.block m h.mp.lt (h.mp.not_own h.fo))).more (Nat.le_add_right _ _)
  · obtain ⟨_, _, C, hb⟩ := h.ro.ty k hk
    exact kp k _ _ hb (by decide) (by decide) (by decide)
  · rcases hk with e | e | e <;> omega
  · rcases h2 with e | e <;> omega
  · rcases h3 with e | e <;> omega
  · have := h.nl; rw [List.length_append, List.length_singleton]; omega
theorem ApI.hash (h : ApI w f g11 m n0 B M k0 A2 c2 L K j g b N A c tv H wr) (H' : List Int) : ApI w f g11 m n0 B M k0 A2 c2 L K j g b N A c tv H' (wr.setRow g11 (kc H')) := by
  have ky : ∀ k, k ≠ g11 → (wr.setRow g11 (kc H')).heap[k]? = wr.heap[k]? := fun k hk => setRow_other wr g11 k (kc H') hk
  have hno := h.fo.not_own h.hb (by decide) (by decide) (by decide)
  refine ⟨h.fo.keep (fun k hk => ky k (fun e => hno (e ▸ hk))), h.fr, h.mp.same (ky _ (h.mp.notCells h.hb)), h.hb.row _, h.rb.same (ky _ (Ne.symm h.ne.1)), h.ro.keep (fun k hk => ky k (fun e => ?_)), below_setRow h.bl h.ne.2.2.1 _, h.lo, h.nl, ?_, h.ne⟩
  · obtain ⟨_, _, C, hb⟩ := h.ro.ty k hk
    exact hb.ne h.hb (by decide) e
  · exact fun j hj => (World.cell?_of_block (a := ⟨0, j, none⟩) (ky 0 (fun e => by have h1 := h.ne.2.2.1; have h2 := h.ne.2.2.2.2; omega))).trans (h.tb j hj)
theorem ApI.put (h : ApI w f g11 m n0 B (M + 1) k0 A2 c2 L K j g b N A c tv H wr) (hm : MapN x m (k0 + j + 1) N.length) (hg : wr.grownBy x (some m)) : ApI w f g11 m n0 B M k0 A2 c2 L K (j + 1) g b N A c tv H x := by
  have kp : ∀ k t C, Blk wr k t C → x.heap[k]? = wr.heap[k]? := fun k t C hb => hg.block k hb.lt (fun e => h.mp.notCells hb (by injection e with e; exact e.symm))
  refine ⟨h.fo.keep (fun k hk => ?_), h.fr, by rw [← Nat.add_assoc]; exact hm, h.hb.same (kp _ _ _ h.hb), h.rb.same (kp _ _ _ h.rb), h.ro.keep (fun k hk => ?_), h.bl.grown hg (Nat.le_trans h.ne.2.1 h.bl.size) (fun k e => by cases e; exact h.ne.2.2.2.1), h.lo, by have := h.nl; omega, ?_, h.ne⟩
  · rcases h.fo.how with ⟨_, _, _, _, e1, e2⟩ | ⟨_, _, _, hb, C, hg2⟩
    · rw [e1, e2] at hk
      have e : k = f := by rcases hk with e | e | e <;> exact e
      rw [e]; exact kp _ _ _ h.fo.kf
    · rcases hk with e | e | e
      · rw [e]; exact kp _ _ _ h.fo.kf
      · rw [e]; exact kp _ _ _ hg2
      · rw [e]; exact kp _ _ _ hb
  · obtain ⟨_, _, C, hb⟩ := h.ro.ty k hk
    exact kp k _ _ hb
  · exact fun j hj => (World.cell?_of_block (a := ⟨0, j, none⟩) (hg.block 0 (block_lt_of_cell (h.tb j hj)) (fun e => by injection e with e; have h1 := h.ne.2.2.2.1; have h2 := h.ne.2.2.2.2; omega))).trans (h.tb j hj)
end
theorem DaA.form {w : World} {f g b : Nat} {N : List Nd} {e : Ending} {w' : World} (h : DaA w f g b N e w') : ∃ n5 er5 : Int, e = .returned (.tuple #[.int .i64 n5, .int .i64 er5]) ∧
    ((n5 = 0 ∧ er5 = 9 ∧ Below w.heap.size w w') ∨ ∃ x t, n5 = N.length ∧ er5 = 0 ∧ Grew w f g b (N ++ [x]) w' ∧ FrOk hLf hIn (N ++ [x]) ∧ Rep hLf hIn (N ++ [x]) N.length t ∧ t.ok) := by
  rcases h with ⟨rfl, hb⟩ | ⟨x, t, rfl, h1, h2, h3, h4⟩
  · exact ⟨0, 9, rfl, .inl ⟨rfl, rfl, hb⟩⟩
  · exact ⟨_, 0, rfl, .inr ⟨x, t, rfl, rfl, h1, h2, h3, h4⟩⟩
/-- what Apply answers, if the rows make a tree with the root -/
def DpY (f M : Nat) (K : List Int) (e : Ending) (w' : World) : Prop := ∃ (top : Int) (g' b' : Nat) (N' : List Nd) (A' : Option Addr) (c' : Nat) (tv' : Value) (T' : Option Tr), e = .returned (.tuple #[.int .i64 top, .int .i64 0]) ∧ Fo w' f g' b' N' A' c' tv' ∧ FrOk hLf hIn N' ∧ TAt N' top T' ∧ hsO T' = K ∧ N'.length ≤ M
def DpN (e : Ending) : Prop := ∃ er : Int, er ≠ 0 ∧ e = .returned (.tuple #[.int .i64 0, .int .i64 er])
/-- what Apply answers -/
def DpA (w : World) (f B M : Nat) (K : List Int) (e : Ending) (w' : World) : Prop := Below B w w' ∧ (DpN e ∨ DpY f M K e w')
set_option maxHeartbeats 16000000 in
theorem dApply_any {w : World} {f g b c B n0 c2 : Nat} {N : List Nd} {A A2 : Option Addr} {tv : Value} {ti : Int} {T : Option Tr} {K : List Int} {L : List Rw} (hK : Ky K) (h : Fo w f g b N A c tv) (hfr : FrOk hLf hIn N) (hT : TAt N ti T) (htb : Tab w) (hO : OwR n0 w (.slice A2 L.length c2) L)
    (hB : 0 < B ∧ B ≤ w.heap.size ∧ B ≤ f ∧ B ≤ g ∧ B ≤ b) (hN : N.length ≤ 2000) (hL : L.length ≤ 100) :
    Calls Tryz.prog 6 #[.pointer (some ⟨f, 0, none⟩), .int .i64 ti, .slice A2 L.length c2, .agg (kc K)] w (DpA w f B (N.length + L.length) K) := by
  obtain ⟨Z, HZ, hZ0, hZs⟩ := zero_key
  obtain ⟨X, HX, hX0, hXs⟩ := zero_drow
  have KK : Hid (Blk (w.alloc (.cells (kc K) 25)) w.heap.size 25 (kc K)) := Blk.new w 25 (kc K)
  have B0 : Hid (Below w.heap.size w (w.alloc (.cells (kc K) 25))) := (Below.refl _ _).alloc (Nat.le_refl _) _
  obtain ⟨hky, hcr⟩ := droot_any (h.below B0.out) hT (htb.below B0.out)
  have CR := hid hcr
  have hw1 := tat_small hT
  have CB := hid (fun (w2 : World) (hb : Below w.heap.size w w2) => dby_any (h.below hb) hT (by omega) (Nat.lt_of_le_of_lt numOlen (by omega)))
  have HKB : Hid ((numO N 0 (ti, T)).length ≤ 5000) := Nat.le_trans numOlen (by omega)
  obtain ⟨E, hE⟩ : ∃ E, E = hsO T := ⟨_, rfl⟩
  rw [← hE] at CR hky
  have HE := hid hky; have HK := hid hK
  have HI := hid (kc_info hky); have HIK := hid (kc_info hK)
  have hzs : Hid (Z.size = (kc E).size) := by show _ = _; rw [HZ.out, kc_size zk_ky, kc_size hky]
  have HHE := hid hE; have HTT := hid hT; have HFO := hid h; have HFR := hid hfr; have HTB := hid htb; have HO := hid hO; have HB := hid hB; have HNN := hid hN; have HLL := hid hL
  have hln : L.length ≤ 100 := hL
  clear h hT htb hky hcr hE hK hfr hO hB hN hL hw1
  unfold hV at CR
  unfold ByA at CB
  generalize (numO N 0 (ti, T)).length = k0 at CB HKB
  unfold DpA
  go_enter Tryz.func6, Tryz.ntmps6
  go_upto_region 3 with (first
    | (go_at_call 8; refine CR.out.mono ?_; rintro e w1 ⟨rfl, hb⟩; have K1 := hid (KK.out.below hb); have B1 := hid (B0.out.trans (hb.mono B0.out.size)); clear hb)
    | (refine wpList_store_row rfl 25 (.tmp 11) (.tmp 21) rfl w1.heap.size (kc E) rfl rfl 25 Z (Blk.new w1 25 Z) HI.out hzs.out (kc_one _) ?_))
  have B2 : Hid (Below w.heap.size w ((w1.alloc (.cells Z 25)).setRow w1.heap.size (kc E))) := below_setRow (B1.out.alloc B1.out.size _) B1.out.size _
  have E2 : Hid (Blk ((w1.alloc (.cells Z 25)).setRow w1.heap.size (kc E)) w1.heap.size 25 (kc E)) := (Blk.new w1 25 Z).row _
  have K2 : Hid (Blk ((w1.alloc (.cells Z 25)).setRow w1.heap.size (kc E)) w.heap.size 25 (kc K)) := K1.out.below (below_setRow ((Below.refl _ _).alloc (Nat.le_refl _) _) (Nat.le_refl _) _)
  have NE1 : Hid (w.heap.size < w1.heap.size) := K1.out.lt
  clear K1 B1 KK B0 CR
  generalize (w1.alloc (.cells Z 25)).setRow w1.heap.size (kc E) = w2 at B2 E2 K2 ⊢
  generalize w1.heap.size = g11 at E2 NE1 ⊢
  go_upto_region 6 with (go_at_call 14; refine (CB.out w2 B2.out).mono ?_; rintro e w3 ⟨m, rfl, hm, hmp, hb⟩; have B3 := hid (B2.out.trans (hb.mono B2.out.size)); have K3 := hid (K2.out.below hb); have E3 := hid (E2.out.below hb); have MP := hid hmp; have MB := hid (Nat.le_trans B2.out.size hm); clear hb hm hmp)
  have I0 : Hid (ApI w f g11 m n0 B N.length k0 A2 c2 L K 0 g b N A c tv (hsO T) w3) := by
    obtain ⟨b0, b1, b2, b3, b4⟩ := HB.out
    have n1 := NE1.out; have n2 := MB.out
    refine ⟨HFO.out.below B3.out, HFR.out, MP.out, by rw [← HHE.out]; exact E3.out, K3.out, HO.out.below B3.out, B3.out.mono b1, ⟨b2, b3, b4⟩, Nat.le_add_right _ _, HTB.out.below B3.out, by omega, b1, by omega, by omega, b0⟩
  clear CB B2 E2 K2 B3 K3 E3 MP MB NE1 HFO HFR HTB HO HB HHE HE HI hzs
  obtain ⟨n, hn⟩ : ∃ n, n = L.length := ⟨_, rfl⟩
  have HNL := hid hn
  rw [← hn] at hln ⊢
  clear hn
  go_wp2
  go_loopw [10, 30] (fun s10 s30 wr => ∃ (j : Nat) (top : Int) (g1 b1 : Nat) (N1 : List Nd) (A1 : Option Addr) (c1 : Nat) (tv1 : Value) (T1 : Option Tr), j ≤ n ∧ s10 = .int .i64 top ∧ s30 = .int .i64 (j : Nat) ∧ Hid (TAt N1 top T1) ∧ Hid (ApI w f g11 m n0 B N.length k0 A2 c2 L K j g1 b1 N1 A1 c1 tv1 (hsO T1) wr)) (fun _ s30 _ => n - (intOf s30).toNat)
  case atStart => exact ⟨0, ti, g, b, N, A, c, tv, T, Nat.zero_le _, rfl, rfl, HTT, I0⟩
  case round =>
    obtain ⟨j, top, g1, b1, N1, A1, c1, tv1, T1, hj, rfl, rfl, HT1, FI⟩ := hrel
    clear I0
    have hkh : Ky (hsO T1) := (droot_any FI.out.fo HT1.out FI.out.tb).1
    have HTP : Hid (TAt N1 top T1 ∧ hsO T1 = hsO T1) := ⟨HT1.out, rfl⟩
    obtain ⟨HH, hHH⟩ : ∃ HH, HH = hsO T1 := ⟨_, rfl⟩
    rw [← hHH] at FI hkh
    have HEQ := hid hHH
    have HKH := hid hkh
    clear hHH hkh HTP
    by_cases hlt : j < n
    · have hlt2 : (j : Int) < n := by omega
      have hjl : j < L.length := by rw [← HNL.out]; exact hlt
      obtain ⟨q, hq⟩ : ∃ q, L[j]? = some q := ⟨_, List.getElem?_eq_getElem hjl⟩
      have hqo := FI.out.ro.ok q (List.mem_of_getElem? hq)
      have row := FI.out.ro.row
      rcases row.2 with ⟨_, h0⟩ | ⟨gs, cap, cur, hv, hbs, hh, hnc, hcm, hcs, htk⟩
      · exfalso; omega
      injection hv with hA hm2 hc2
      subst hA
      have RA := hid (FI.out.ro.at hq)
      have HQO := hid hqo
      have HDI := hid (drow_info hqo); have HD2 := hid (drow_info2 hqo)
      have HXS : Hid (X.size = (rwc q).toArray.size) := by show _ = _; rw [HX.out, List.size_toArray, List.size_toArray, rwZ_ok.len, hqo.len]
      have HR1 := hid (rwc_one q)
      clear hm2 hc2 hbs hh hnc hcm hcs htk hqo row hq hjl
      go_upto_region 9 with (first
        | (refine load_at rfl 49 (.tmp 32) rfl gs (j * 162) rfl (rwc q) _ RA.out.all Tryz.underlying49 rfl HDI.out (rwc q).toArray rfl ?_)
        | (refine wpList_store_row rfl 49 (.tmp 15) (.tmp 33) rfl wr.heap.size (rwc q).toArray rfl rfl 49 X (Blk.new wr 49 X) HD2.out HXS.out HR1.out ?_))
      have BB : Hid (Below wr.heap.size wr ((wr.alloc (.cells X 49)).setRow wr.heap.size (rwc q).toArray)) := below_setRow ((Below.refl _ _).alloc (Nat.le_refl _) _) (Nat.le_refl _) _
      have KR : Hid (Blk ((wr.alloc (.cells X 49)).setRow wr.heap.size (rwc q).toArray) wr.heap.size 49 (rwc q).toArray) := (Blk.new wr 49 X).row _
      have FI4 := hid (FI.out.below BB.out)
      generalize (wr.alloc (.cells X 49)).setRow wr.heap.size (rwc q).toArray = w4 at BB KR FI4 ⊢
      have RQ := hid (rw_at (w := w4) (g := wr.heap.size) (o := 0) (q := q) (fun j v hv => by rw [KR.out.cell, Nat.zero_add, List.getElem?_toArray]; exact hv) HQO.out)
      have CD := hid (dadd_any FI4.out.fo FI4.out.fr HQO.out FI4.out.mp (by have h1 := FI4.out.nl; have h2 := HNN.out; show _ < _; omega) FI4.out.tb)
      clear RA BB FI
      go_upto_region 10 with (first
        | (refine load_at rfl 49 (.tmp 15) rfl wr.heap.size 0 rfl (rwc q) _ RQ.out.all Tryz.underlying49 rfl HDI.out (rwc q).toArray rfl ?_)
        | (go_at_call 15; refine CD.out.mono ?_; rintro e w5 h5; obtain ⟨n5, er5, rfl, h55⟩ := DaA.form h5; have H5 := hid h55; clear h5 h55))
      clear CD
      rcases H5.out with ⟨rfl, rfl, hb5⟩ | ⟨x, t, rfl, rfl, hgr, hfr5, hrep, hok⟩
      · have FI5 := hid (FI4.out.below hb5)
        clear H5 hb5
        go_wp2
        go_ret2
        exact ⟨FI5.out.bl, .inl ⟨9, by decide, rfl⟩⟩
      · obtain ⟨g5, b5, A5, c5, tv5, hfi5⟩ := FI4.out.grow hgr hfr5
        have FI5 := hid hfi5
        obtain ⟨qd, hqd, hlf9, hqh⟩ := rep_node hrep
        have hkq : Ky qd.h := (hfi5.fo.ok qd (List.mem_of_getElem? hqd)).h
        have CH := hid (dhash_at hfi5.fo N1.length qd hqd)
        have HTN : Hid (TAt (N1 ++ [x]) (N1.length : Nat) (some t)) := ⟨N1.length, rfl, hrep, hok⟩
        have HQE : Hid (qd.h = hsO (some t)) := hqh
        have HKQ := hid hkq; have HQI := hid (kc_info hkq)
        have HQS : Hid ((kc HH).size = (kc qd.h).size) := by show _ = _; rw [kc_size HKH.out, kc_size hkq]
        have HLT : Hid (N1.length < (N1 ++ [x]).length) := by show _ < _; rw [List.length_append, List.length_singleton]; omega
        clear H5 hgr hfr5 hlf9 hrep hok hfi5 hqd hqh hkq FI4 KR RQ
        go_upto_region 13 with (first
          | (go_at_call 16; refine CH.out.mono ?_; rintro e w6 ⟨rfl, hb⟩; have FI6 := hid (FI5.out.below hb); clear hb)
          | (refine wpList_store_row rfl 25 (.tmp 11) (.tmp 46) rfl g11 (kc qd.h) rfl rfl 25 (kc HH) FI6.out.hb HQI.out HQS.out (kc_one _) ?_))
        have FI7 := hid (FI6.out.hash qd.h)
        clear FI5 FI6 CH
        generalize w6.setRow g11 (kc qd.h) = w7 at FI7 ⊢
        obtain ⟨y, hrun, hmy, hgy⟩ := FI7.out.mp.put (by have h1 := HKB.out; omega) HKQ.out HLT.out
        have FI8 := hid (FI7.out.put hmy hgy)
        clear hmy hgy
        go_wp2_with (refine load_at rfl 25 (.tmp 11) rfl g11 0 rfl (u8s qd.h) _ (blk_key FI7.out.hb) Tryz.underlying25 rfl (u8s_info HKQ.out) (kc qd.h) rfl ?_)
        go_roundw
        case rel => exact ⟨j + 1, _, g5, b5, N1 ++ [x], A5, c5, tv5, some t, by omega, rfl, by go_num, HTN, by rw [← HQE.out]; exact FI8⟩
        case measure => simp [intOf]; omega
    · obtain rfl : j = n := by omega
      have hnl : ¬ ((j : Int) < (j : Int)) := by omega
      by_cases hEK : HH = K
      · subst hEK
        have hq2 : ∀ w, (binOp .neq 25 (.agg (kc HH)) (.agg (kc HH))).run Tryz.prog w = .ok (.bool false) w := fun w => by rw [mneq_key HH HH HKH.out HKH.out w, decide_eq_true rfl]; rfl
        go_wp2_with (first
          | (refine load_at rfl 25 (.tmp 11) rfl g11 0 rfl (u8s HH) _ (blk_key FI.out.hb) Tryz.underlying25 rfl (u8s_info HKH.out) (kc HH) rfl ?_)
          | (refine load_at rfl 25 (.tmp 7) rfl w.heap.size 0 rfl (u8s HH) _ (blk_key FI.out.rb) Tryz.underlying25 rfl (u8s_info HKH.out) (kc HH) rfl ?_))
        go_ret2
        exact ⟨FI.out.bl, .inr ⟨_, _, _, _, _, _, _, _, rfl, FI.out.fo, FI.out.fr, HT1.out, HEQ.out.symm, by have h1 := FI.out.nl; have h2 := HNL.out; omega⟩⟩
      · have hd : decide (HH = K) = false := decide_eq_false hEK
        have hneq := fun w => mneq_key HH K HKH.out HK.out w
        go_wp2_with (first
          | (refine load_at rfl 25 (.tmp 11) rfl g11 0 rfl (u8s HH) _ (blk_key FI.out.hb) Tryz.underlying25 rfl (u8s_info HKH.out) (kc HH) rfl ?_)
          | (refine load_at rfl 25 (.tmp 7) rfl w.heap.size 0 rfl (u8s K) _ (blk_key FI.out.rb) Tryz.underlying25 rfl (u8s_info HK.out) (kc K) rfl ?_))
        go_ret2
        exact ⟨FI.out.bl, .inl ⟨9, by decide, rfl⟩⟩
end Go.Proofs.YtjhaamffgkialaaGreatDoor
/-
  What is proved here: rows and pairs of the statement: lists copied one by one.
-/
namespace Go.Proofs.YtjhaamffgkialaaGreatDoor
open Go.ChangeShapes Go.WideShapes Go.ChangeAt Go.RowKit
set_option linter.unusedVariables false
set_option linter.unusedSimpArgs false
set_option maxRecDepth 20000

set_option maxHeartbeats 8000000 in
theorem dlpairs_any {A0 : Option Addr} {n c0 : Nat} {P : List KV} (w : World) (hin : InP w A0 n P) (hn : n ≤ 3000) :
    Calls Tryz.prog 10 #[.slice A0 n c0] w fun e w' => ∃ v, e = .returned v ∧ OwP w.heap.size w' v P ∧ Below w.heap.size w w' := by
  have HIN := hid hin
  have HPN : Hid (P.length = n) := hin.1
  have hmax := hin.2.1
  have hn2 : n ≤ 3000 := hn
  have I0 : Hid (OwP w.heap.size w (.slice none 0 0) (P.take 0)) := by
    show OwP _ _ _ _
    rw [List.take_zero]; exact OwP.nil _ _
  have B0 : Hid (Below w.heap.size w w) := Below.refl _ _
  clear hin
  go_enter Tryz.func10, Tryz.ntmps10
  go_wp2
  go_loopw [3, 4] (fun s3 s4 wr => ∃ (k : Nat) (v : Value), k ≤ n ∧ s3 = v ∧ s4 = .int .i64 (k : Nat) ∧ OwP w.heap.size wr v (P.take k) ∧ Below w.heap.size w wr) (fun _ iv _ => n - (intOf iv).toNat)
  case atStart => exact ⟨0, _, Nat.zero_le _, rfl, rfl, I0.out, B0.out⟩
  case round =>
    obtain ⟨k, v, hk, rfl, rfl, hol, hbl⟩ := hrel
    clear I0 B0
    obtain ⟨AA, cc, hv⟩ := hol.len
    have hkl : (P.take k).length = k := by rw [List.length_take]; have := HPN.out; omega
    rw [hkl] at hv
    subst hv
    have OL := hid hol; have BL := hid hbl
    have HKL := hid hkl
    clear hol hbl hkl
    by_cases hlt : k < n
    · obtain ⟨b, o, q, rfl, hq, hq1, hq2, hr0, _, _⟩ := (HIN.out.below BL.out).at hlt
      have HPK := hid hq
      have HQ : Hid (Ky q.1 ∧ Ky q.2) := ⟨hq1, hq2⟩
      have HPI : Hid ((Tryz.prog.info? 67).map (·.size) = some (kvc q).length) := by show _ = _; rw [kvc_len hq1 hq2]; kernel_rfl
      have R0 := hid hr0
      have hlt2 : (k : Int) < n := by omega
      have BSZ : Hid (w.heap.size ≤ wr.heap.size) := BL.out.size
      clear hq hq1 hq2 hr0
      go_wp2_with (first
        | (refine load_at rfl 67 (.tmp 14) rfl b (o + k * 64) rfl (kvc q) _ R0.out Tryz.underlying67 rfl HPI.out (kvc q).toArray rfl ?_)
        | (refine wpList_pair_one rfl (.tmp 15) rfl q HQ.out rfl ?_)
        | (at_builtin; refine wpList_append_pair rfl (.tmp 11) (.tmp 16) rfl w.heap.size (P.take k) (.slice AA k cc) rfl OL.out q HQ.out rfl (by have h9 := HKL.out; omega) BSZ.out ?_; intro v9 w9 how9 hb9; have OWB := hid how9; have BLB := hid (BL.out.trans hb9); clear how9 hb9))
      go_roundw
      case rel => exact ⟨k + 1, v9, by omega, rfl, by go_num, by rw [List.take_add_one, HPK.out]; exact OWB.out, BLB.out⟩
      case measure => simp [intOf]; omega
    · obtain rfl : k = n := by omega
      have hnl : ¬ ((k : Int) < (k : Int)) := by omega
      go_wp2
      go_ret
      exact ⟨_, rfl, by
        have h9 := OL.out
        rw [List.take_of_length_le (Nat.le_of_eq HPN.out)] at h9
        exact h9, BL.out⟩
/-- a list of rows that is read -/
def InW (w : World) (A : Option Addr) (n : Nat) (L : List Rw) : Prop :=
  L.length = n ∧ n ≤ 9223372036854775807 ∧ (∀ q ∈ L, RwOk q) ∧ (0 < n → ∃ b o, A = some ⟨b, o, none⟩ ∧ b < w.heap.size ∧ ∀ (i : Nat) (q : Rw), L[i]? = some q → w.rangeAt b (o + i * 162) (rwc q))
theorem InW.below {w w' : World} {A : Option Addr} {n : Nat} {L : List Rw} (h : InW w A n L) (hb : Below w.heap.size w w') : InW w' A n L := by
  refine ⟨h.1, h.2.1, h.2.2.1, fun hn => ?_⟩
  obtain ⟨b, o, e, hlt, hat⟩ := h.2.2.2 hn
  exact ⟨b, o, e, Nat.lt_of_lt_of_le hlt hb.size, fun i q hq => rng_bel hb (hat i q hq)⟩
theorem InW.at {w : World} {A : Option Addr} {n : Nat} {L : List Rw} (h : InW w A n L) {k : Nat} (hk : k < n) : ∃ b o q, A = some ⟨b, o, none⟩ ∧ L[k]? = some q ∧ RwOk q ∧ w.rangeAt b (o + k * 162) (rwc q) := by
  obtain ⟨b, o, e, _, hat⟩ := h.2.2.2 (by omega)
  have hl := h.1
  have hq : L[k]? = some L[k] := List.getElem?_eq_getElem (by omega)
  exact ⟨b, o, L[k], e, hq, h.2.2.1 _ (List.getElem_mem (by omega)), hat k _ hq⟩
theorem dsrow_info {q : Rw} (h : RwOk q) : (Tryz.prog.info? 59).map (·.size) = some (rwc q).length := by rw [h.len]; kernel_rfl
set_option maxHeartbeats 8000000 in
theorem drows_any {A0 : Option Addr} {n c0 : Nat} {P : List Rw} (w : World) (hin : InW w A0 n P) (hn : n ≤ 3000) :
    Calls Tryz.prog 7 #[.slice A0 n c0] w fun e w' => ∃ v, e = .returned v ∧ OwR w.heap.size w' v P ∧ Below w.heap.size w w' := by
  have HIN := hid hin
  have HPN : Hid (P.length = n) := hin.1
  have hmax := hin.2.1
  have hn2 : n ≤ 3000 := hn
  have I0 : Hid (OwR w.heap.size w (.slice none 0 0) (P.take 0)) := by
    show OwR _ _ _ _
    rw [List.take_zero]; exact OwR.nil _ _
  have B0 : Hid (Below w.heap.size w w) := Below.refl _ _
  clear hin
  go_enter Tryz.func7, Tryz.ntmps7
  go_wp2
  go_loopw [3, 4] (fun s3 s4 wr => ∃ (k : Nat) (v : Value), k ≤ n ∧ s3 = v ∧ s4 = .int .i64 (k : Nat) ∧ OwR w.heap.size wr v (P.take k) ∧ Below w.heap.size w wr) (fun _ iv _ => n - (intOf iv).toNat)
  case atStart => exact ⟨0, _, Nat.zero_le _, rfl, rfl, I0.out, B0.out⟩
  case round =>
    obtain ⟨k, v, hk, rfl, rfl, hol, hbl⟩ := hrel
    clear I0 B0
    obtain ⟨AA, cc, hv⟩ := hol.len
    have hkl : (P.take k).length = k := by rw [List.length_take]; have := HPN.out; omega
    rw [hkl] at hv
    subst hv
    have OL := hid hol; have BL := hid hbl
    have HKL := hid hkl
    clear hol hbl hkl
    by_cases hlt : k < n
    · obtain ⟨b, o, q, rfl, hq, hq1, hr0⟩ := (HIN.out.below BL.out).at hlt
      have HPK := hid hq
      have HQ := hid hq1
      have HPI := hid (dsrow_info hq1)
      have R0 := hid hr0
      have hlt2 : (k : Int) < n := by omega
      have BSZ : Hid (w.heap.size ≤ wr.heap.size) := BL.out.size
      have BGR := hid (fun (y : World) (hg : wr.grownBy y (Value.slice AA k cc).ownBlock) => (show Below w.heap.size w y from BL.out.trans ((Below.refl _ _).grown hg BL.out.size (fun k hk => (OL.out.ty k hk).1))))
      clear hq hq1 hr0
      go_wp2_with (first
        | (refine load_at rfl 59 (.tmp 14) rfl b (o + k * 162) rfl (rwc q) _ R0.out Tryz.underlying59 rfl HPI.out (rwc q).toArray rfl ?_)
        | (refine wpList_drow_one rfl (.tmp 15) rfl q HQ.out rfl ?_)
        | (at_builtin; refine wpList_append_drow rfl (.tmp 11) (.tmp 16) rfl w.heap.size (P.take k) (.slice AA k cc) rfl OL.out q HQ.out rfl (by have h9 := HKL.out; omega) BSZ.out ?_; intro v9 w9 how9 hb9; have OWB := hid how9; have BLB := hid (BGR.out w9 hb9); clear how9 hb9))
      go_roundw
      case rel => exact ⟨k + 1, v9, by omega, rfl, by go_num, by rw [List.take_add_one, HPK.out]; exact OWB.out, BLB.out⟩
      case measure => simp [intOf]; omega
    · obtain rfl : k = n := by omega
      have hnl : ¬ ((k : Int) < (k : Int)) := by omega
      go_wp2
      go_ret
      exact ⟨_, rfl, by
        have h9 := OL.out
        rw [List.take_of_length_le (Nat.le_of_eq HPN.out)] at h9
        exact h9, BL.out⟩
end Go.Proofs.YtjhaamffgkialaaGreatDoor
/-
  What is proved here: a list of rows that is read.
-/
namespace Go.Proofs.YtjhaamffgkialaaGreatDoor
open Go.ChangeShapes Go.WideShapes Go.ChangeAt Go.RowKit
set_option linter.unusedVariables false
set_option maxRecDepth 20000

section
variable {H : Type} {enc : TypeId × Value → H} {w : World} {base : Nat} {spare : Nat → Bool} {held : Bool}
theorem open_row {fuel : Nat} {cs : List Value} {x : DataW H × List MemPlace} (h : DataW.trod enc Tryz.prog w base spare held fuel 59 cs = some x) : ∃ q : Rw, RwOk q ∧ cs = rwc q := by
  obtain ⟨xs, n, _, _, hl, hn, he⟩ := DataW.trod_struct Tryz.underlying59 h
  rw [show Tryz.prog.cellsOf 59 = 162 by kernel_rfl] at hl
  have c1 : Tryz.prog.cellsOf 4 = 1 := by kernel_rfl
  have ch : Tryz.prog.cellsOf 25 = 32 := by kernel_rfl
  have cp : Tryz.prog.cellsOf 47 = 33 := by kernel_rfl
  match xs, hn with
  | [y0, y1, y2, y3, y4, y5], _ =>
    have e0 : DataW.trod enc Tryz.prog w base spare held n 4 ((cs.drop 0).take (Tryz.prog.cellsOf 4)) = some y0 := he 0 _ rfl
    have e1 : DataW.trod enc Tryz.prog w base spare held n 25 ((cs.drop 1).take (Tryz.prog.cellsOf 25)) = some y1 := he 1 _ rfl
    have e2 : DataW.trod enc Tryz.prog w base spare held n 25 ((cs.drop 33).take (Tryz.prog.cellsOf 25)) = some y2 := he 2 _ rfl
    have e3 : DataW.trod enc Tryz.prog w base spare held n 47 ((cs.drop 65).take (Tryz.prog.cellsOf 47)) = some y3 := he 3 _ rfl
    have e4 : DataW.trod enc Tryz.prog w base spare held n 25 ((cs.drop 98).take (Tryz.prog.cellsOf 25)) = some y4 := he 4 _ rfl
    have e5 : DataW.trod enc Tryz.prog w base spare held n 25 ((cs.drop 130).take (Tryz.prog.cellsOf 25)) = some y5 := he 5 _ rfl
    rw [c1] at e0; rw [ch] at e1 e2 e4 e5; rw [cp] at e3
    obtain ⟨lf, h0, _⟩ := DataW.trod_bool Tryz.underlying4 e0
    obtain ⟨k, hk, h1⟩ := open_key e1
    obtain ⟨v, hv, h2⟩ := open_key e2
    obtain ⟨pn, pb, hp, h3⟩ := open_pre e3
    obtain ⟨l, hll, h4⟩ := open_key e4
    obtain ⟨r, hrr, h5⟩ := open_key e5
    refine ⟨⟨lf, k, v, pn, pb, l, r⟩, ⟨hk, hv, hp, hll, hrr⟩, ?_⟩
    have d0 := drop_cons h0
    have d1 := drop_app h1 (by rw [u8s_length, hk.len])
    have d2 := drop_app h2 (by rw [u8s_length, hv.len])
    have d3 := drop_app h3 (by rw [List.length_cons, u8s_length, hp.len])
    have d4 := drop_app h4 (by rw [u8s_length, hll.len])
    have d5 := drop_app h5 (by rw [u8s_length, hrr.len])
    have d7 : cs.drop (130 + 32) = [] := List.drop_of_length_le (by omega)
    rw [List.drop_zero] at d0
    rw [d0, d1, d2, d3, d4, d5, d7]
    unfold rwc
    simp
theorem open_drows {fuel : Nat} {cs : List Value} {x : DataW H × List MemPlace} (h : DataW.trod enc Tryz.prog w base spare held fuel 23 cs = some x) :
    ∃ A n c P, cs = [.slice A n c] ∧ InW w A n P := by
  have hc4 : Tryz.prog.cellsOf 59 = 162 := by kernel_rfl
  rcases Deep.open_slice Tryz.underlying23 h with ⟨hcs, _⟩ | ⟨a, len, cap, m, n, D, Pl, hcs, hb, hl, hm, hmm, _, hx⟩
  · exact ⟨none, 0, 0, [], hcs, rfl, by omega, fun q hq => by simp at hq, fun h => by omega⟩
  · have each : ∀ i : Nat, ∃ q : Rw, i < len → RwOk q ∧ ∀ j v, (rwc q)[j]? = some v → w.cell? (a.add (i * 162 + j)) = some v := by
      intro i
      by_cases hi : i < len
      · obtain ⟨cs', h1, h2⟩ := hx i (by rw [hmm]; split <;> omega)
        obtain ⟨q, hq, rfl⟩ := open_row h2
        refine ⟨q, fun _ => ⟨hq, fun j v hv => ?_⟩⟩
        rw [hc4] at h1
        obtain ⟨hlen, _, hcell⟩ := World.cells?_some h1
        have hj : j < 162 := by
          rcases Nat.lt_or_ge j 162 with h3 | h3
          · exact h3
          · rw [List.getElem?_eq_none (by rw [RwOk.len hq]; exact h3)] at hv; cases hv
        have z := hcell j hj
        rw [add_add] at z
        rw [z]
        exact hv
      · exact ⟨rwZ, fun h => absurd h hi⟩
    obtain ⟨F, hF⟩ := Classical.axiomOfChoice each
    refine ⟨some a, len, cap, (List.range len).map F, hcs, by simp, by unfold maxLen at hm; omega, fun q hq => ?_, fun hpos => ?_⟩
    · simp only [List.mem_map, List.mem_range] at hq
      obtain ⟨i, hi, rfl⟩ := hq
      exact (hF i hi).1
    · obtain ⟨hq0, hc0⟩ := hF 0 hpos
      obtain ⟨b, o, s⟩ := a
      have hl0 := RwOk.len hq0
      have h00 := hc0 0 _ (List.getElem?_eq_getElem (by omega))
      have hs : s = none := by simpa [Addr.add] using World.cell?_spot h00
      subst hs
      refine ⟨b, o, rfl, by have := block_lt_of_cell h00; rwa [add_block] at this, fun i q hq j v hv => ?_⟩
      have hi : i < len := by
        rcases Nat.lt_or_ge i len with h3 | h3
        · exact h3
        · rw [List.getElem?_eq_none (by simp; exact h3)] at hq; cases hq
      have e : F i = q := by
        rw [List.getElem?_map, List.getElem?_range hi] at hq
        injection hq
      have := (hF i hi).2 j v (by rw [e]; exact hv)
      rw [Addr.add_lit, ← Nat.add_assoc] at this
      exact this
end
end Go.Proofs.YtjhaamffgkialaaGreatDoor
