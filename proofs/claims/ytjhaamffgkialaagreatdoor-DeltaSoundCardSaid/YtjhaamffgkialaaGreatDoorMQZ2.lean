/-
  What this file is for: as QZ, but whoever ranges is told which number comes. Nothing of the program is walked here.
-/
import Derived.Test.YtjhaamffgkialaaGreatDoorMDE1
import Derived.Test.YtjhaamffgkialaaGreatDoorMP1
import Derived.Maps.OwnIn
import Derived.WideKeyArr
import Derived.Test.YtjhaamffgkialaaGreatDoorMDE4
import Derived.RangeFuncNested
import Derived.OrdersHeld
import Derived.Deep.RegionLaw
import Derived.Test.YtjhaamffgkialaaGreatDoorMDE10
set_option linter.unusedSimpArgs false
set_option linter.unusedVariables false
namespace Go.Proofs.YtjhaamffgkialaaGreatDoor
open Go.ChangeShapes Go.WideShapes Go.ChangeAt Go.RowKit Go.Shelf
set_option linter.unusedVariables false
set_option linter.unusedSimpArgs false
set_option maxRecDepth 20000

/-- what an iterator is worth to whoever ranges over it to its end: SS is what it reads from the outset, Z what it has laid -/
def SeqP {α : Type} (n : Nat) (P : Program) (gf : Nat) (lb : Array Value) (encs : α → Array Value) (SS : Nat → Prop) (S : List α → Prop) (LL : List α) (w : World) : Prop :=
  ∀ (l : Nat) (J : (Nat → Prop) → List α → World → Prop) (W : World), Below w.heap.size w W → GhJ J →
    (∀ Z pre x W1, J Z pre W1 → (∀ k, Z k → k < W1.heap.size) → (∃ r, pre ++ x :: r = LL) → YieldAt Fence.wide (n - 1) P l (encs x) W1 fun e W' => e = .returned (.bool true) ∧ J Z (pre ++ [x]) W' ∧ KpS (fun k => SS k ∨ Z k) W1 W') →
    J (fun _ => False) [] W →
    CallsIn Fence.wide n P gf (#[.func (.yield l) #[] #[]] ++ lb) W fun e W' => (∃ v, e = .returned v) ∧ ∃ Z xs, S xs ∧ J Z xs W'
theorem range_ghostP {α : Type} {P : Program} {n : Nat} {g : Operand} {ps : Array Tmp} {assign body : Code} {Q : Exit → Act → World → Prop} {a : Act} {w : World} (h1 : 1 ≤ n) {gf : Nat} {lb : Array Value} (hg : a.eval g = .func (.func gf) #[] lb) (eg : ∀ args w, (callFunc gf args).run P w = .ok (.enter gf args) w)
    {encs : α → Array Value} {SS : Nat → Prop} {S : List α → Prop} {LL : List α} {w0 : World} (hseq : SeqP (n - 1) P gf lb encs SS S LL w0) (hSS : ∀ k, SS k → k < w.heap.size) (hb0 : Below w0.heap.size w0 w) (hps : ∀ x, (encs x).size = ps.size)
    (I : (Nat → Prop) → List α → World → Prop) (hI : GhJ I) (hO : ∀ Z, OwnFrom w.heap.size (I Z)) (h0 : I (fun _ => False) [] w) (a₁ : α → Act)
    (hassign : ∀ (l : Nat) (x : α) (W : World) (K : Act → World → Prop), K (a₁ x) W → assign.wpIn (Fence.wide.inRound l) (n - 1 - 1) P (Exit.then K (fun _ _ _ => False)) { tmps := (ps.zip (encs x)).foldl (fun t (p, v) => t.setIfInBounds p v) a.tmps, defers := [] } W)
    (hbody : ∀ (l : Nat) (Z : Nat → Prop) (pre : List α) (x : α) (W : World), w.heap.size ≤ W.heap.size → I Z pre W → (∀ k, Z k → k < W.heap.size) → (∃ r, pre ++ x :: r = LL) → body.wpIn (Fence.wide.inRound l) (n - 1 - 1) P (fun e _ W' => e = .normal ∧ KeepsFrom w.heap.size W W' ∧ KpS (fun k => SS k ∨ Z k) W W' ∧ I Z (pre ++ [x]) W') (a₁ x) W)
    (hdone : ∀ (D : Nat) (Z : Nat → Prop) (xs : List α) (W : World), w.heap.size ≤ D → S xs → I Z xs W → W.heap[D]? = some (.deferred (some [])) → Q .normal { a with defers := { target := .collected D, args := #[] } :: a.defers } W) :
    (Code.rangeFunc g ps assign body).wpIn Fence.wide n P Q a w := by
  refine wpIn_rangeFunc fun fn hfn => ?_
  obtain ⟨rec, hrec⟩ : ∃ rec : LoopState → Option Code → Loop, rec = fun st pe => { state := st, pending := pe, fn, tmps := a.tmps, params := ps, assign, body, defers := w.heap.size } := ⟨_, rfl⟩
  obtain ⟨W1, hW1⟩ : ∃ W1, (w.alloc (.deferred (some []))).alloc (.loop (rec .ready none)) = W1 := ⟨_, rfl⟩
  have sz0 : (w.alloc (.deferred (some []))).heap.size = w.heap.size + 1 := World.size_alloc ..
  have sz1 : W1.heap.size = w.heap.size + 1 + 1 := by rw [← hW1, World.size_alloc, sz0]
  have lp1 : W1.heap[w.heap.size + 1]? = some (.loop (rec .ready none)) := by rw [← hW1, ← sz0]; exact World.alloc_heap_new _ _
  have df1 : W1.heap[w.heap.size]? = some (.deferred (some [])) := by rw [← hW1, Below.heap_alloc _ _ _ (by rw [sz0]; omega)]; exact World.alloc_heap_new w _
  have i1 : I (fun _ => False) [] W1 := by rw [← hW1]; exact (hO _).alloc _ ((hO _).alloc _ h0)
  have b1 : Below w0.heap.size w0 W1 := by rw [← hW1]; exact (hb0.alloc hb0.size _).alloc (Nat.le_trans hb0.size (by rw [sz0]; omega)) _
  -- the loop's two blocks are none of the iterator's
  obtain ⟨J, hJ⟩ : ∃ J : (Nat → Prop) → List α → World → Prop, J = fun Z pre W => I Z pre W ∧ (¬ Z w.heap.size ∧ ¬ Z (w.heap.size + 1)) ∧ w.heap.size + 1 < W.heap.size ∧ W.heap[w.heap.size + 1]? = some (.loop (rec .ready none)) ∧ W.heap[w.heap.size]? = some (.deferred (some [])) := ⟨_, rfl⟩
  have gJ : GhJ J := by
    subst hJ
    refine ⟨fun Z s W W' ⟨hi, hz, hs, hl, hd⟩ ho => ⟨hI.only Z s W W' hi ho, hz, Nat.lt_of_lt_of_le hs ho.size, (ho.block _ hs hz.2).trans hl, (ho.block _ (by omega) hz.1).trans hd⟩, fun Z s W k ⟨hi, hz, hs, hl, hd⟩ hk => ⟨hI.more Z s W k hi hk, ⟨fun h => ?_, fun h => ?_⟩, hs, hl, hd⟩⟩
    · rcases h with h | h
      · exact hz.1 h
      · omega
    · rcases h with h | h
      · exact hz.2 h
      · omega
  refine ⟨w.heap.size + 1, [{ target := .collected w.heap.size, args := #[] }], W1, { target := .fn (.func gf) lb, args := #[.func (.yield (w.heap.size + 1)) #[] #[]] }, W1, gf, #[.func (.yield (w.heap.size + 1)) #[] #[]] ++ lb, W1, ?_, ?_, ?_, ?_, fun _ => h1, ?_⟩
  · rw [← hW1, hrec]; exact run_enterLoop_outer _ _ _ _ _
  · simp only [resolve, hg]
    simp [go_sem]
  · intro f' hf'; simp [Target.leads] at hf'; subst hf'; trivial
  · simp [invoke, go_sem, eg]
  · refine (hseq (w.heap.size + 1) J W1 b1 gJ (fun Z pre x W hj hzl hlen => ?_) (by subst hJ; exact ⟨i1, ⟨id, id⟩, by omega, lp1, df1⟩)).mono ?_
    · rw [hJ] at hj
      obtain ⟨hi, hz, hs, hl, hd⟩ := hj
      have hy := run_yield (P := P) (args := encs x) hl (by rw [hrec]; exact hps x)
      rw [hrec] at hy
      refine ⟨fn, _, assign, body, hy, roundIn_of_wpIn hfn (hassign _ x W _ ?_)⟩
      clear hy
      refine ⟨_, run_beginRound hl (by rw [hrec]), ?_⟩
      -- what a turn of the record leaves
      have turn : ∀ (X : World) (o o' : Obj), w.heap.size + 1 < X.heap.size → X.heap[w.heap.size + 1]? = some o → KpS (fun k => SS k ∨ Z k) X (X.putObj (w.heap.size + 1) o') := fun X o o' hx ho => ⟨by simp, fun k hk hlt => World.putObj_heap_other (fun e => by
        subst e
        rcases hk with h | h
        · have := hSS _ h; omega
        · exact hz.2 h)⟩
      have l2 : (W.putObj (w.heap.size + 1) (.loop { rec .ready none with state := .busy })).heap[w.heap.size + 1]? = some (.loop { rec .ready none with state := .busy }) := World.putObj_heap_same hs
      have d2 : (W.putObj (w.heap.size + 1) (.loop { rec .ready none with state := .busy })).heap[w.heap.size]? = some (.deferred (some [])) := (World.putObj_heap_other (by omega)).trans hd
      have s2 : w.heap.size + 1 < (W.putObj (w.heap.size + 1) (.loop { rec .ready none with state := .busy })).heap.size := (Array.getElem?_eq_some_iff.1 l2).1
      refine wpIn_mono (hbody _ Z pre x _ (by simp; omega) ((hO Z).putObj _ hi (by omega) hl rfl) (fun k hk => by have := hzl k hk; simpa using this) hlen) ?_
      rintro e a3 W3 ⟨rfl, hk3, hkp3, hi3⟩
      have l3 := hk3.same _ _ (by omega) l2 rfl
      have d3 := hk3.same _ _ (Nat.le_refl _) d2 rfl
      have s3 : w.heap.size + 1 < W3.heap.size := (Array.getElem?_eq_some_iff.1 l3).1
      have hr := run_endRound (P := P) none l3
      rw [hrec] at hr
      refine ⟨_, _, hr, rfl, ?_, ((turn W _ _ hs hl).t hkp3).t (turn W3 _ _ s3 l3)⟩
      rw [hJ]
      refine ⟨(hO Z).putObj _ hi3 (by omega) l3 rfl, hz, ?_, ?_, ?_⟩
      · simpa using s3
      · rw [hrec]; exact World.putObj_heap_same s3
      · exact (World.putObj_heap_other (by omega)).trans d3
    · rintro e W2 ⟨⟨v, rfl⟩, Z, xs, hS, hj⟩
      rw [hJ] at hj
      obtain ⟨hi, hz, hs, hl, hd⟩ := hj
      have hr := run_endLoop (P := P) hl (by rw [hrec]; simp)
      rw [hrec] at hr
      exact ⟨none, _, hr, hdone _ Z xs _ (Nat.le_refl _) hS ((hO Z).putObj _ hi (by omega) hl rfl) ((World.putObj_heap_other (by omega)).trans hd)⟩
end Go.Proofs.YtjhaamffgkialaaGreatDoor
/-
  What is proved here: the numbers of a tree's nodes, where whoever ranges is told which number comes.
-/
namespace Go.Proofs.YtjhaamffgkialaaGreatDoor
open Go.ChangeShapes Go.WideShapes Go.ChangeAt Go.RowKit Go.Shelf
set_option linter.unusedVariables false
set_option linter.unusedSimpArgs false
set_option maxRecDepth 20000
attribute [local go_sem] Oper.semAt_some
set_option maxHeartbeats 8000000 in
theorem nums_walkP {bt bs bf f g b c : Nat} {N : List Nd} {A : Option Addr} {tv : Value} {ti sz : Int} {T : Option Tr} (hsz : 0 ≤ sz) (hT : TAt N ti T) (hsm : wtO T < 200000) (w : World) (hc : NmI bt bs bf f g b N A c tv ti sz w) :
    SeqP 1 Tryz.prog 48 #[.pointer (some ⟨bt, 0, none⟩), .pointer (some ⟨bs, 0, none⟩), .pointer (some ⟨bf, 0, none⟩)] encN (NmS bt bs bf f g b) (fun xs => xs = numO N sz (ti, T)) (numO N sz (ti, T)) w := by
  intro l J W hW hJ hY h0
  have HC := hid (hc.below hW)
  obtain ⟨L, hL⟩ : ∃ L, L = numO N sz (ti, T) := ⟨_, rfl⟩
  have HL := hid hL
  rw [← hL] at hY ⊢
  have HY := hid hY; have HJ := hid hJ; have HT := hid hT; have HSM := hid hsm
  have HSZ := hid hsz
  obtain ⟨X, HX, hX0, hXs⟩ := zero_node
  have c0 : W.cell? ⟨bt, 0, none⟩ = some (.int .i64 ti) := HC.out.kt.cell 0
  have ROW0 : Hid ((W.alloc (.cells #[.int .i64 ti] 3)).ownsRow W.heap.size 3 1 (.slice (some ⟨W.heap.size, 0, none⟩) 1 1) 1 (i64s [ti])) := ⟨rfl, .inr ⟨W.heap.size, 1, _, rfl, Nat.le_refl _, World.alloc_heap_new W _, Nat.le_refl _, by decide, rfl, rfl⟩⟩
  have J0 : Hid (∃ Z : Nat → Prop, Z W.heap.size ∧ J Z [] (W.alloc (.cells #[.int .i64 ti] 3)) ∧ ∀ j, Z j → W.heap.size ≤ j ∧ j < (W.alloc (.cells #[.int .i64 ti] 3)).heap.size) :=
    gh_grow hJ h0 ((OnlyS.refl _ _).alloc _) (.inr (Nat.le_refl _)) (by simp) (fun j h => h.elim) (Nat.le_refl _)
  have N0 : Hid (NmI bt bs bf f g b N A c tv ti sz (W.alloc (.cells #[.int .i64 ti] 3))) := HC.out.below ((Below.refl _ _).alloc (Nat.le_refl _) _)
  have SLT : Hid (∀ k, NmS bt bs bf f g b k → k < W.heap.size) := HC.out.lt
  clear hc hL hY hJ h0 hW HC hsm hsz
  refine callsIn_of_wp Tryz.func48 rfl trivial ?_ rfl
  simp only [Tryz.ntmps48, List.size_toArray, List.length_cons, List.length_nil, Nat.reduceAdd, Nat.reduceSub, Array.replicate_succ, Array.replicate_zero, List.push_toArray, List.append_toArray, List.nil_append, List.cons_append]
  refine (wpIn_wide (n := 1)).2 ?_
  go_wp2
  clear c0
  have HB : Hid (W.heap.size ≤ (W.alloc (.cells #[.int .i64 ti] 3)).heap.size) := by show _ ≤ _; simp
  obtain ⟨B, hB⟩ : ∃ B, B = W.heap.size := ⟨_, rfl⟩
  rw [← hB] at ROW0 J0 SLT HB ⊢
  clear hB
  generalize W.alloc (.cells #[.int .i64 ti] 3) = W1 at ROW0 J0 N0 HB ⊢
  go_loopg [5] (wtS [(ti, T)]) (fun k s5 wr => ∃ (st : List ItN) (A5 : Option Addr) (c5 : Nat) (Z : Nat → Prop) (pre : List Nat), s5 = .slice A5 st.length c5 ∧ k = wtS st ∧ k ≤ wtO T ∧ Hid (B ≤ wr.heap.size) ∧ Hid (NmL bt bs bf f g b N A c tv ti sz B J L st pre Z A5 c5 wr))
  case atStart =>
    obtain ⟨Z, hz1, hz2, hz3⟩ := J0.out
    refine ⟨[(ti, T)], _, 1, Z, [], rfl, rfl, by simp [wtS], HB, N0.out, ROW0.out, fun k hk => by injection hk with hk; rw [← hk]; exact hz1, hz3, fun p hp => by rw [List.mem_singleton.1 hp]; exact HT.out, ?_, hz2⟩
    rw [HL.out]; simp [remS]
  case round =>
    obtain ⟨st, A5, c5, Z, pre, rfl, hgk, hle, HBr, NL⟩ := hrel
    clear ROW0 J0 N0 HB
    have HGK := hid hgk; have HLE := hid hle
    clear hgk hle
    by_cases hst : st = []
    · subst hst
      have HJE := hid NL.out.j
      have HEQ := hid NL.out.eq
      clear NL
      go_wp2
      go_end0
      exact ⟨⟨_, rfl⟩, Z, pre, by have := HEQ.out; simpa [remS] using this, HJE.out⟩
    · obtain ⟨st', it, hc⟩ := concat_of st hst
      subst hc
      obtain ⟨i, Ti⟩ := it
      obtain ⟨m, hm⟩ : ∃ m, m = st'.length := ⟨_, rfl⟩
      have hlen : (st' ++ [(i, Ti)]).length = m + 1 := by rw [hm]; simp
      have ROW := NL.out.row
      rw [hlen, List.map_append] at ROW
      obtain ⟨g5, rfl, hg5, hc5, ce, row'⟩ := row_last ROW (by rw [List.length_map, hm])
      have hZg : Z g5 := NL.out.zz g5 rfl
      have ROWM := hid row'; have HZG := hid hZg; have HM := hid hm; have HG5 := hid hg5
      have cs : wr.cell? ⟨bs, 0, none⟩ = some (.int .i64 sz) := NL.out.ni.ks.cell 0
      have HTI : Hid (TAt N i Ti) := NL.out.its (i, Ti) (List.mem_append_right _ (List.mem_singleton.2 rfl))
      have HITS : Hid (∀ p ∈ st', TAt N p.1 p.2) := fun p hp => NL.out.its p (List.mem_append_left _ hp)
      have HEQ : Hid (pre ++ (numO N sz (i, Ti) ++ remS N sz st') = L) := by show _ = _; rw [← remS_snoc]; exact NL.out.eq
      have HWT : Hid (gk = wtS st' + wtO Ti) := by show _ = _; rw [HGK.out, wtS_snoc]
      have NI := hid NL.out.ni; have ZB := hid NL.out.zb; have JJ := hid NL.out.j
      have hmb : m < 1000000 := by
        have h1 := wtS_len st'; have h2 := HWT.out; have h3 := HLE.out; have h4 := HSM.out
        omega
      clear NL ROW row' hZg hm hg5 hst HGK
      rw [hlen]
      clear hlen
      by_cases hi : i < sz
      · have HFL := hid (show NmL bt bs bf f g b N A c tv ti sz B J L st' pre Z (some ⟨g5, 0, none⟩) c5 wr from ⟨NI.out, by rw [← HM.out]; exact ROWM.out, fun k hk => by injection hk with hk; rw [← hk]; exact HZG.out, ZB.out, HITS.out, by
          have e := HEQ.out
          have e2 : numO N sz (i, Ti) = [] := by
            cases Ti with
            | none => rfl
            | some t =>
              obtain ⟨k, hk, _⟩ := HTI.out
              have hk' : i = (k : Int) := hk
              subst hk'
              cases t <;> (show numT N sz _ _ = []; unfold numT; rw [if_pos (by rw [Int.toNat_natCast]; exact hi)])
          rw [e2] at e; exact e, JJ.out⟩)
        go_wp2
        go_roundg (wtS st')
        case measure => have := HWT.out; have := wtO_pos Ti; omega
        case rel => exact ⟨st', _, c5, Z, pre, by rw [← HM.out], rfl, by have := HWT.out; have := HLE.out; omega, HBr, HFL⟩
      · have hT2 : ∃ t, Ti = some t := by
          cases Ti with
          | none => have h1 : i = -1 := HTI.out; have h2 := HSZ.out; omega
          | some t => exact ⟨t, rfl⟩
        obtain ⟨t, rfl⟩ := hT2
        obtain ⟨k, hk, hr, hok⟩ := HTI.out
        have hk' : i = (k : Int) := hk
        subst hk'
        cases t with
        | leaf K V =>
          obtain ⟨q, hq0⟩ : ∃ q, q = ndL K V (hLf K V) := ⟨_, rfl⟩
          have HQ0 : Hid (N[k]? = some q) := by rw [hq0]; exact hr
          have HLF : Hid (q.leaf = true) := by rw [hq0]; rfl
          have HNE : Hid (numO N sz ((k : Int), some (.leaf K V)) = [k]) := by
            show numT N sz _ _ = _
            unfold numT
            rw [if_neg (by rw [Int.toNat_natCast]; exact hi), Int.toNat_natCast]
          clear hq0 hr hok hk HTI
          have hq : N[k]? = some q := HQ0.out
          have hqo : NdOk q := NI.out.fo.ok q (List.mem_of_getElem? hq)
          have HQ := hid hqo
          have HN2 := hid (node_info2 hqo)
          have HNZ : Hid (X.size = (nc q).toArray.size) := by show _ = _; rw [HX.out, List.size_toArray, List.size_toArray, ndZ_ok.nc, hqo.nc]
          have CN0 := hid (fun W3 (h : NmI bt bs bf f g b N A c tv ti sz W3) => xNode_at h.fo k q hq)
          unfold ndV at CN0
          obtain ⟨fn, tmps, assign, body, hy, hR⟩ := HY.out Z pre k wr JJ.out (fun j hj => (ZB.out j hj).2) ⟨_, by rw [← HEQ.out, HNE.out]; rfl⟩
          have hy2 : (Instr.yield l #[.int .i64 (k : Int)]).run Tryz.prog wr = .ok (.round l fn tmps assign body) wr := hy
          have HR := hid hR
          clear hy hR hq hqo
          go_upto_region 6 with (fail)
          refine (wpIn_wide (n := 1)).1 ?_
          gi_wp2
          refine (round_dep2 HR.out).mono ?_
          rintro e W3 ⟨rfl, hj3, hk3⟩
          have J3 := hid hj3
          have NI3 := hid (NI.out.keep (fun j hj => hk3.2 j (.inl hj) (NI.out.lt j hj)))
          have ROW3 := hid (own_keep ROWM.out (fun j hj => hk3.2 j (.inr (by injection hj with hj; rw [← hj]; exact HZG.out)) (by injection hj with hj; rw [← hj]; exact (ZB.out _ HZG.out).2)))
          have S3 : Hid (wr.heap.size ≤ W3.heap.size) := hk3.1
          have CN := hid (CN0.out W3 NI3.out)
          have cf : W3.cell? ⟨bf, 0, none⟩ = some (.pointer (some ⟨f, 0, none⟩)) := NI3.out.kf.cell 0
          clear hj3 hk3 hy2 cs ce HR CN0
          gi_wp2
          go_upto_region 8 with (first
            | (go_at_call 33; refine CN.out.mono ?_; rintro e W4 ⟨rfl, hb⟩; have B4 := hid hb; clear hb)
            | (refine wpList_store_row rfl 63 (.tmp 8) (.tmp 36) rfl W4.heap.size (nc q).toArray rfl rfl 63 X (Blk.new W4 63 X) HN2.out HNZ.out (nc_one2 _) ?_))
          have NQ : Hid (Blk ((W4.alloc (.cells X 63)).setRow W4.heap.size (nc q).toArray) W4.heap.size 63 (nc q).toArray) := (Blk.new W4 63 X).row _
          have B5 : Hid (Below W3.heap.size W3 ((W4.alloc (.cells X 63)).setRow W4.heap.size (nc q).toArray)) := below_setRow (B4.out.alloc B4.out.size _) B4.out.size _
          clear B4 CN cf
          generalize (W4.alloc (.cells X 63)).setRow W4.heap.size (nc q).toArray = W5 at NQ B5 ⊢
          generalize W4.heap.size = e8 at NQ ⊢
          have NB := hid (NQ.out.node HQ.out)
          have NI5 := hid (NI3.out.below B5.out)
          have ROW5 := hid (own_below ROW3.out B5.out)
          have J5 := hid (HJ.out.only _ _ _ _ J3.out (OnlyS.of_below B5.out (Nat.le_refl _)))
          have ZB5 : Hid (∀ j, Z j → B ≤ j ∧ j < W5.heap.size) := fun j hj => ⟨(ZB.out j hj).1, by have h1 := (ZB.out j hj).2; have h2 := S3.out; have h3 := B5.out.size; omega⟩
          have SB5 : Hid (B ≤ W5.heap.size) := by have h1 := HBr.out; have h2 := S3.out; have h3 := B5.out.size; show _ ≤ _; omega
          have cl := NB.out.leaf
          rw [HLF.out] at cl
          clear NI NI3 ROWM ROW3 J3 B5 S3 ZB HBr JJ NQ
          have HFL := hid (show NmL bt bs bf f g b N A c tv ti sz B J L st' (pre ++ [k]) Z (some ⟨g5, 0, none⟩) c5 W5 from ⟨NI5.out, by rw [← HM.out]; exact ROW5.out, fun k hk => by injection hk with hk; rw [← hk]; exact HZG.out, ZB5.out, HITS.out, by
            have e := HEQ.out
            rw [HNE.out] at e
            rw [← e, List.append_assoc], J5.out⟩)
          go_wp2
          go_roundg (wtS st')
          case measure => have := HWT.out; have h1 : wtO (some (Tr.leaf K V)) = 1 := rfl; omega
          case rel => exact ⟨st', _, c5, Z, pre ++ [k], by rw [← HM.out], rfl, by have := HWT.out; have := HLE.out; omega, SB5, HFL⟩
        | inner n0 b0 tl tr =>
          obtain ⟨a, d, hqi, ha, hd, hrl, hrr⟩ := hr
          obtain ⟨q, hq0⟩ : ∃ q, q = ndI n0 b0 a d ((Tr.inner n0 b0 tl tr).hash hLf hIn) := ⟨_, rfl⟩
          have HQ0 : Hid (N[k]? = some q) := by rw [hq0]; exact hqi
          have HLF : Hid (q.leaf = false) := by rw [hq0]; rfl
          have HQL : Hid (q.l = (a : Nat)) := by rw [hq0]; rfl
          have HQR : Hid (q.r = (d : Nat)) := by rw [hq0]; rfl
          have HNE : Hid (numO N sz ((k : Int), some (.inner n0 b0 tl tr)) = k :: (numT N sz tr d ++ numT N sz tl a)) := by
            show numT N sz _ _ = _
            rw [Int.toNat_natCast, numTin hi, hqi]
            rfl
          have HTL : Hid (TAt N (a : Nat) (some tl)) := ⟨a, rfl, hrl, hok.1⟩
          have HTR : Hid (TAt N (d : Nat) (some tr)) := ⟨d, rfl, hrr, hok.2.1⟩
          clear hq0 hqi hrl hrr hok hk HTI ha hd
          have hq : N[k]? = some q := HQ0.out
          have hqo : NdOk q := NI.out.fo.ok q (List.mem_of_getElem? hq)
          have HQ := hid hqo
          have HN2 := hid (node_info2 hqo)
          have HNZ : Hid (X.size = (nc q).toArray.size) := by show _ = _; rw [HX.out, List.size_toArray, List.size_toArray, ndZ_ok.nc, hqo.nc]
          have CN0 := hid (fun W3 (h : NmI bt bs bf f g b N A c tv ti sz W3) => xNode_at h.fo k q hq)
          unfold ndV at CN0
          obtain ⟨fn, tmps, assign, body, hy, hR⟩ := HY.out Z pre k wr JJ.out (fun j hj => (ZB.out j hj).2) ⟨_, by rw [← HEQ.out, HNE.out]; rfl⟩
          have hy2 : (Instr.yield l #[.int .i64 (k : Int)]).run Tryz.prog wr = .ok (.round l fn tmps assign body) wr := hy
          have HR := hid hR
          clear hy hR hq hqo
          go_upto_region 6 with (fail)
          refine (wpIn_wide (n := 1)).1 ?_
          gi_wp2
          refine (round_dep2 HR.out).mono ?_
          rintro e W3 ⟨rfl, hj3, hk3⟩
          have J3 := hid hj3
          have NI3 := hid (NI.out.keep (fun j hj => hk3.2 j (.inl hj) (NI.out.lt j hj)))
          have ROW3 := hid (own_keep ROWM.out (fun j hj => hk3.2 j (.inr (by injection hj with hj; rw [← hj]; exact HZG.out)) (by injection hj with hj; rw [← hj]; exact (ZB.out _ HZG.out).2)))
          have S3 : Hid (wr.heap.size ≤ W3.heap.size) := hk3.1
          have CN := hid (CN0.out W3 NI3.out)
          have cf : W3.cell? ⟨bf, 0, none⟩ = some (.pointer (some ⟨f, 0, none⟩)) := NI3.out.kf.cell 0
          clear hj3 hk3 hy2 cs ce HR CN0
          gi_wp2
          go_upto_region 8 with (first
            | (go_at_call 33; refine CN.out.mono ?_; rintro e W4 ⟨rfl, hb⟩; have B4 := hid hb; clear hb)
            | (refine wpList_store_row rfl 63 (.tmp 8) (.tmp 36) rfl W4.heap.size (nc q).toArray rfl rfl 63 X (Blk.new W4 63 X) HN2.out HNZ.out (nc_one2 _) ?_))
          have NQ : Hid (Blk ((W4.alloc (.cells X 63)).setRow W4.heap.size (nc q).toArray) W4.heap.size 63 (nc q).toArray) := (Blk.new W4 63 X).row _
          have B5 : Hid (Below W3.heap.size W3 ((W4.alloc (.cells X 63)).setRow W4.heap.size (nc q).toArray)) := below_setRow (B4.out.alloc B4.out.size _) B4.out.size _
          clear B4 CN cf
          generalize (W4.alloc (.cells X 63)).setRow W4.heap.size (nc q).toArray = W5 at NQ B5 ⊢
          generalize W4.heap.size = e8 at NQ ⊢
          have NB := hid (NQ.out.node HQ.out)
          have NI5 := hid (NI3.out.below B5.out)
          have ROW5 := hid (own_below ROW3.out B5.out)
          have J5 := hid (HJ.out.only _ _ _ _ J3.out (OnlyS.of_below B5.out (Nat.le_refl _)))
          have ZB5 : Hid (∀ j, Z j → B ≤ j ∧ j < W5.heap.size) := fun j hj => ⟨(ZB.out j hj).1, by have h1 := (ZB.out j hj).2; have h2 := S3.out; have h3 := B5.out.size; omega⟩
          have SB5 : Hid (B ≤ W5.heap.size) := by have h1 := HBr.out; have h2 := S3.out; have h3 := B5.out.size; show _ ≤ _; omega
          have cl := NB.out.leaf
          rw [HLF.out] at cl
          clear NI NI3 ROWM ROW3 J3 B5 S3 ZB HBr JJ NQ
          go_upto_region 9 with (fail)
          clear cl
          have c98 : W5.cell? ⟨e8, 98, none⟩ = some (.int .i64 (a : Nat)) := by have := NB.out.left; rw [HQL.out, Nat.zero_add] at this; exact this
          have c99 : W5.cell? ⟨e8, 99, none⟩ = some (.int .i64 (d : Nat)) := by have := NB.out.right; rw [HQR.out, Nat.zero_add] at this; exact this
          go_wp2_with (at_builtin; refine append_int2 rfl (.tmp 41) (.tmp 46) rfl B (some ⟨g5, 0, none⟩) c5 (st'.map (·.1)) m (by rw [List.length_map, HM.out]) rfl ROW5.out (a : Nat) (d : Nat) rfl hmb SB5.out ?_; intro A9 c9 W6 HROW HBUT HWH; obtain ⟨g9, e9, hg9, hc9, _, _⟩ := row_last (X := st'.map (·.1) ++ [((a : Nat) : Int)]) HROW.out (by rw [List.length_append, List.length_map, HM.out]; rfl); subst e9; have HG9 := hid hg9; clear hg9 hc9)
          have OZ : Hid (OnlyS Z W5 W6) := by
            obtain ⟨u1, u2, u3, u4, u5⟩ := HBUT.out
            exact ⟨u1, u2, u3, u4, fun j hj hn => u5 j hj (fun e => hn (by injection e with e; rw [e]; exact HZG.out))⟩
          have LT9 : Hid (g9 < W6.heap.size) := (HROW.out.lt g9 rfl).2
          obtain ⟨Z', hz1, hz2, hz3⟩ := gh_grow HJ.out J5.out OZ.out (k := g9) (B := B) (by
            rcases HWH.out g9 rfl with e | e
            · injection e with e; left; rw [← e]; exact HZG.out
            · exact .inr e) LT9.out ZB5.out SB5.out
          have NI6 := hid (NI5.out.keep (W' := W6) (fun j hj => OZ.out.block j (NI5.out.lt j hj) (fun hz => by have h1 := (ZB5.out j hz).1; have h2 := SLT.out j hj; omega)))
          have HFL := hid (show NmL bt bs bf f g b N A c tv ti sz B J L (st' ++ [(((a : Nat) : Int), some tl)] ++ [(((d : Nat) : Int), some tr)]) (pre ++ [k]) Z' (some ⟨g9, 0, none⟩) c9 W6 from ⟨NI6.out, by
            have e : (st' ++ [(((a : Nat) : Int), some tl)] ++ [(((d : Nat) : Int), some tr)]).length = m + 2 := by rw [HM.out]; simp
            rw [e, List.map_append, List.map_append]; exact HROW.out, fun k hk => by injection hk with hk; rw [← hk]; exact hz1, hz3, fun p hp => by
            rw [List.mem_append, List.mem_append, List.mem_singleton, List.mem_singleton] at hp
            rcases hp with (hp | rfl) | rfl
            · exact HITS.out p hp
            · exact HTL.out
            · exact HTR.out, by
            have e := HEQ.out
            rw [HNE.out] at e
            rw [← e, remS_snoc, remS_snoc]
            show pre ++ [k] ++ (numT N sz tr ((d : Nat) : Int).toNat ++ (numT N sz tl ((a : Nat) : Int).toNat ++ remS N sz st')) = _
            rw [Int.toNat_natCast, Int.toNat_natCast]
            simp, hz2⟩)
          have HWI : Hid (wtO (some (Tr.inner n0 b0 tl tr)) = 1 + wtT tl + wtT tr) := rfl
          have HWN : Hid (wtS (st' ++ [(((a : Nat) : Int), some tl)] ++ [(((d : Nat) : Int), some tr)]) = wtS st' + wtT tl + wtT tr) := by show _ = _; rw [wtS_snoc, wtS_snoc]; rfl
          have SB6 : Hid (B ≤ W6.heap.size) := by show _ ≤ _; have := SB5.out; have := OZ.out.size; omega
          clear hz1 hz2 hz3
          go_wp2
          go_roundg (wtS (st' ++ [(((a : Nat) : Int), some tl)] ++ [(((d : Nat) : Int), some tr)]))
          case measure => have := HWT.out; have := HWI.out; have := HWN.out; omega
          case rel => exact ⟨_, _, c9, Z', pre ++ [k], by rw [show (st' ++ [(((a : Nat) : Int), some tl)] ++ [(((d : Nat) : Int), some tr)]).length = m + 2 by rw [HM.out]; simp], rfl, by have := HWT.out; have := HLE.out; have := HWI.out; have := HWN.out; omega, SB6, HFL⟩
end Go.Proofs.YtjhaamffgkialaaGreatDoor
/-
  What is proved here: words on a map from hashes to nodes' numbers.
-/
namespace Go.Proofs.YtjhaamffgkialaaGreatDoor
open Go.ChangeShapes Go.WideShapes Go.ChangeAt Go.RowKit
open Go.WideElems (Fit rd rg pl)
set_option linter.unusedVariables false
set_option linter.unusedSimpArgs false
set_option maxRecDepth 20000

theorem hash_arr : Go.WideMaps.ArrKey Tryz.prog 25 5 32 := ⟨Tryz.underlying25, by kernel_rfl, by kernel_rfl, by kernel_rfl⟩
theorem hash_keyed : Go.Maps.Keyed Tryz.prog 25 := .of_law hash_arr.law
theorem mapM_ex {α β : Type} {f : α → Option β} : ∀ L : List α, (∀ x ∈ L, ∃ y, f x = some y) → ∃ ys, L.mapM f = some ys
  | [], _ => ⟨[], rfl⟩
  | a :: L, h => by
    obtain ⟨y, hy⟩ := h a (by simp)
    obtain ⟨ys, hys⟩ := mapM_ex L (fun x hx => h x (by simp [hx]))
    exact ⟨y :: ys, by simp [hy, hys]⟩
theorem types_pos : ∃ m, Tryz.prog.types.size = m + 1 := by
  have h : (Tryz.prog.types.size == 0) = false := by kernel_rfl
  cases hs : Tryz.prog.types.size with
  | zero => rw [hs] at h; cases h
  | succ m => exact ⟨m, rfl⟩
theorem key_kc {K : List Int} (hK : Ky K) : ∃ l, keyOf Tryz.prog 25 (.agg (kc K)) = some l := by
  obtain ⟨m, hm⟩ := types_pos
  have hkt := hash_arr.keyType types_pos
  have hu := Tryz.underlying25
  have hsz : Tryz.prog.cellsOf 25 = 32 := hash_arr.size
  have h1 : Tryz.prog.cellsOf 5 = 1 := hash_arr.one
  have hcl : (Value.agg (kc K)).cells.toList.length = 32 := by show (kc K).toList.length = 32; rw [Array.length_toList, kc_size hK]
  have hfm : (Value.agg (kc K)).formed Tryz.prog 25 = true := by
    simp only [Value.formed, hu, hsz, kc_size hK]; rfl
  obtain ⟨ys, hys⟩ := mapM_ex (f := fun i => Tryz.prog.keyLits (m + 1) 5 (((Value.agg (kc K)).cells.toList.drop (i * 1)).take 1)) (List.range 32) (fun i hi => by
    have hi' : i < 32 := List.mem_range.1 hi
    have hi2 : i < K.length := by rw [hK.len]; exact hi'
    have e : ((Value.agg (kc K)).cells.toList.drop (i * 1)).take 1 = [.int .u8 K[i]] := by
      show ((u8s K).toArray.toList.drop (i * 1)).take 1 = _
      rw [Nat.mul_one, List.toList_toArray, List.drop_eq_getElem_cons (by rw [u8s_length]; exact hi2)]
      simp [u8s]
    have hb := hK.bs K[i] (List.getElem_mem hi2)
    refine ⟨[.int .u8 K[i]], ?_⟩
    rw [e]
    unfold Program.keyLits
    rw [Tryz.underlying5]
    have : (Lit.int .u8 K[i]).wf = true := by have e1 : IntKind.u8.min = 0 := rfl; have e2 : IntKind.u8.max = 255 := rfl; simp only [Lit.wf, e1, e2]; simp; omega
    simp [this])
  refine ⟨.string (keyBytes ys.flatten), ?_⟩
  unfold keyOf
  simp only [hu]
  rw [if_pos (by rw [hkt, hfm]; rfl)]
  unfold Program.keyLits
  simp only [hu]
  rw [if_pos (by rw [hcl, hsz]), h1, hm, hys]
  rfl
/-- how a node's number reads: n nodes -/
def numR (n : Nat) (v : Value) : Option (DataW Unit × List MemPlace) :=
  match v with
  | .int .i64 x => if 0 ≤ x ∧ x < n then some (.lit (.int .i64 x), []) else none
  | _ => none
theorem numR_mk {n i : Nat} (h : i < n) : numR n (.int .i64 (i : Nat)) = some (.lit (.int .i64 (i : Nat)), []) := by
  show (if _ then _ else _) = _
  rw [if_pos (by omega)]
theorem numR_inv {n : Nat} {v : Value} {z : DataW Unit × List MemPlace} (h : numR n v = some z) : ∃ i : Nat, i < n ∧ v = .int .i64 (i : Nat) := by
  unfold numR at h
  split at h
  · rename_i x
    split at h
    · rename_i hc
      exact ⟨x.toNat, by omega, by congr 1; omega⟩
    · cases h
  · cases h
theorem numR_more {n n' : Nat} (hn : n ≤ n') {v : Value} {z : DataW Unit × List MemPlace} (h : numR n v = some z) : numR n' v = some z := by
  unfold numR at h ⊢
  split at h
  · split at h
    · rename_i hc
      rw [if_pos (by omega)]; exact h
    · cases h
  · cases h
/-- block m is a map of at most k entries, from hashes to numbers below n -/
def MapN (w : World) (m k n : Nat) : Prop := ∃ es clock, w.heap[m]? = some (.map es clock) ∧ Fit Tryz.prog 25 (numR n) es clock ∧ es.size ≤ k
theorem MapN.lt {w : World} {m k n : Nat} (h : MapN w m k n) : m < w.heap.size := by
  obtain ⟨es, clock, hb, _⟩ := h
  exact (Array.getElem?_eq_some_iff.1 hb).1
theorem MapN.same {w w' : World} {m k n : Nat} (h : MapN w m k n) (e : w'.heap[m]? = w.heap[m]?) : MapN w' m k n := by
  obtain ⟨es, clock, hb, F, hs⟩ := h
  exact ⟨es, clock, e.trans hb, F, hs⟩
theorem MapN.below {w w' : World} {m k n : Nat} (h : MapN w m k n) (hb : Below w.heap.size w w') : MapN w' m k n := h.same (hb.block _ h.lt)
theorem MapN.mono {w : World} {m k k' n : Nat} (h : MapN w m k n) (hk : k ≤ k') : MapN w m k' n := by
  obtain ⟨es, clock, hb, F, hs⟩ := h
  exact ⟨es, clock, hb, F, Nat.le_trans hs hk⟩
theorem MapN.more {w : World} {m k n n' : Nat} (h : MapN w m k n) (hn : n ≤ n') : MapN w m k n' := by
  obtain ⟨es, clock, hb, F, hs⟩ := h
  exact ⟨es, clock, hb, (F.stay (fun x _ z hz => numR_more hn hz)).1, hs⟩
theorem MapN.made (w : World) (n : Nat) : MapN (w.alloc (.map #[] 0)) w.heap.size 0 n := by
  obtain ⟨es, clock, hb, F, hs, _⟩ := World.ownsMap_made w Tryz.prog 25 (numR n)
  exact ⟨es, clock, hb, F, hs⟩
theorem MapN.notCells {w : World} {m k n : Nat} (h : MapN w m k n) {g : Nat} {t : TypeId} {C : Array Value} (hB : Blk w g t C) : m ≠ g := by
  obtain ⟨es, clock, hb, _⟩ := h
  intro e
  subst e
  unfold Blk at hB
  rw [hb] at hB
  cases hB
/-- an entry more, or turned -/
theorem MapN.put {w : World} {m k n : Nat} (h : MapN w m k n) (hk : k < 1000000) {K : List Int} (hK : Ky K) {i : Nat} (hi : i < n) :
    ∃ w', (Instr.mapUpdate 55 (.map (some m)) (.agg (kc K)) (.int .i64 (i : Nat))).run Tryz.prog w = .ok () w' ∧ MapN w' m (k + 1) n ∧ w.grownBy w' (some m) := by
  obtain ⟨kl, hkl⟩ := key_kc hK
  obtain ⟨es, clock, hb, F, hs⟩ := h
  have hown : w.ownsMap Tryz.prog 25 (numR n) m k _ := ⟨es, clock, hb, F, hs, rfl⟩
  obtain ⟨w', h1, h2, h3⟩ := hown.update hash_keyed Tryz.underlying55 (by unfold maxLen; omega) hkl (numR_mk hi)
  obtain ⟨es', clock', hb', F', hs', _⟩ := h2
  exact ⟨w', h1, ⟨es', clock', hb', F', hs'⟩, h3⟩
/-- what is found -/
theorem MapN.get {w : World} {m k n : Nat} (h : MapN w m k n) {K : List Int} (hK : Ky K) :
    (Instr.lookup 55 (.map (some m)) (.agg (kc K)) true).run Tryz.prog w = .ok (.tuple #[.int .i64 0, .bool false]) w ∨ ∃ i : Nat, i < n ∧ (Instr.lookup 55 (.map (some m)) (.agg (kc K)) true).run Tryz.prog w = .ok (.tuple #[.int .i64 (i : Nat), .bool true]) w := by
  obtain ⟨kl, hkl⟩ := key_kc hK
  obtain ⟨es, clock, hb, F, hs⟩ := h
  have hz : (zeroValue 3).run Tryz.prog w = .ok (.int .i64 0) w := by kernel_rfl
  rcases Go.Maps.fit_look true hash_keyed Tryz.underlying55 hz hb F hkl with ⟨h1, _⟩ | ⟨e0, y, _, _, h1, hR, _⟩
  · exact .inl h1
  · obtain ⟨i, hi, hv⟩ := numR_inv hR
    rw [hv] at h1
    exact .inr ⟨i, hi, h1⟩
end Go.Proofs.YtjhaamffgkialaaGreatDoor
/-
  What is proved here: byHash: a map of a tree's nodes' numbers by their hashes.
-/
namespace Go.Proofs.YtjhaamffgkialaaGreatDoor
open Go.ChangeShapes Go.WideShapes Go.ChangeAt Go.RowKit Go.Shelf
set_option linter.unusedVariables false
set_option linter.unusedSimpArgs false
set_option maxRecDepth 20000
attribute [local go_sem] Oper.semAt_some

section
variable {P : Program} {R : Act → World → Prop} {l n : Nat}
theorem any_roundM {md : Region.Mode} {ops : Array Oper} (hd : ∀ (i : Nat) o, ops[i]? = some o → ∀ c, o.op ≠ .defer c) : ∀ (fuel : Nat) (listed : Array Bool) (a : Act) (w : World), wpAny P md ops (Qr R) fuel listed a w → wpAnyIn (Fence.wide.inRound l) n P md ops (Qr R) fuel listed a w := by
  intro fuel
  induction fuel with
  | zero => intro listed a w h; exact h
  | succ fuel ih =>
    intro listed a w h
    refine ⟨h.1, fun i hi => ?_⟩
    have h1 := h.2 i hi
    unfold wpOp at h1
    unfold wpOpIn
    cases ho : ops[i]? with
    | none => rw [ho] at h1; exact ih _ _ _ h1
    | some o =>
      rw [ho] at h1
      simp only at h1 ⊢
      by_cases hw : Region.wanted o (yielded ops a.tmps) = true
      · rw [if_pos hw] at h1 ⊢
        rcases h1 with h1 | ⟨_, a0, w0, h1⟩
        · exact oper_round (hd i o ho) (fun a w h => ih _ _ _ h) h1
        · exact h1.elim
      · rw [if_neg hw] at h1 ⊢
        exact ⟨fun _ _ => trivial, ih _ _ _ h1⟩
theorem region_roundM {id : Nat} {ops : Array Oper} {S : World → Prop} {a : Act} {w : World} (hm : P.follows .mixedOrders = true) (hd : (ops.toList.all fun o => match o.op with | .defer _ => false | _ => true) = true)
    (h : wpAnyH P .any ops (Qr R) S ops.size (Array.replicate ops.size false) a { w with drawn := w.drawn + 1 }) : (Code.region id ops true).wpIn (Fence.wide.inRound l) n P (Qr R) a w :=
  wpIn_region_any hm (any_roundM (fun i o ho c hc => by
    rw [List.all_eq_true] at hd
    have := hd o (by rw [← Array.getElem?_toList] at ho; exact List.mem_of_getElem? ho)
    rw [hc] at this
    cases this) _ _ _ _ (wpAny_of_held _ _ _ _ h))
end
theorem keeps_belowM {B : Nat} {W W' : World} (h : Below W.heap.size W W') : KeepsFrom B W W' := ⟨h.size, fun k o _ hk _ => (h.block k (by
  rcases Nat.lt_or_ge k W.heap.size with h1 | h1
  · exact h1
  · rw [Array.getElem?_eq_none h1] at hk; cases hk)).trans hk⟩
/-- between two rounds -/
structure ByI (w : World) (f n : Nat) (Z : Nat → Prop) (pre : List Nat) (W : World) : Prop where
  bf : Blk W w.heap.size 27 #[.pointer (some ⟨f, 0, none⟩)]
  bm : Blk W (w.heap.size + 1 + 1) 55 #[.map (some (w.heap.size + 1))]
  mp : MapN W (w.heap.size + 1) pre.length n
  bl : Below w.heap.size w W
  zb : ∀ k, Z k → w.heap.size + 1 + 1 < k
theorem ByI.gh (w : World) (f n : Nat) : GhJ (ByI w f n) := by
  refine ⟨fun Z s W W' h ho => ?_, fun Z s W k h hk => ⟨h.bf, h.bm, h.mp, h.bl, fun j hj => ?_⟩⟩
  · have nz : ∀ k, k ≤ w.heap.size + 1 + 1 → ¬ Z k := fun k hk hz => by have := h.zb k hz; omega
    exact ⟨h.bf.same (ho.block _ h.bf.lt (nz _ (by omega))), h.bm.same (ho.block _ h.bm.lt (nz _ (by omega))), h.mp.same (ho.block _ h.mp.lt (nz _ (by omega))), h.bl.trans (ho.below h.bl.size (fun k hz => by have := h.zb k hz; omega)), h.zb⟩
  · rcases hj with hj | rfl
    · exact h.zb j hj
    · have := h.bm.lt; omega
theorem ByI.own {w : World} {f n B : Nat} (hB : w.heap.size + 1 + 1 < B) (Z : Nat → Prop) : OwnFrom B (ByI w f n Z) := fun pre W W' row h hg hr => by
  have hr2 := fun r e => (hr r e).2
  exact ⟨h.bf.own hg hr2, h.bm.own hg hr2, h.mp.same (hg.block _ h.mp.lt (fun e => by have := (hr _ e.symm).1; omega)), h.bl.grown hg h.bl.size (fun k e => by have := (hr k e).1; omega), h.zb⟩
theorem ByI.below {w W W' : World} {f n : Nat} {Z : Nat → Prop} {pre : List Nat} (h : ByI w f n Z pre W) (hb : Below W.heap.size W W') : ByI w f n Z pre W' :=
  ⟨h.bf.below hb, h.bm.below hb, h.mp.below hb, h.bl.trans (hb.mono h.bl.size), h.zb⟩
/-- a round's end -/
theorem ByI.step {w W x y : World} {f n B i : Nat} {Z SS : Nat → Prop} {pre : List Nat} (h : ByI w f n Z pre W) (hB : w.heap.size + 1 < B) (hSS : ¬ SS (w.heap.size + 1)) (hb : Below W.heap.size W x)
    (hm : MapN y (w.heap.size + 1) (pre.length + 1) n) (hg : x.grownBy y (some (w.heap.size + 1))) : KeepsFrom B W y ∧ KpS (fun k => SS k ∨ Z k) W y ∧ ByI w f n Z (pre ++ [i]) y := by
  have h2 := h.below hb
  have ne : ∀ k, k ≠ w.heap.size + 1 → some k ≠ some (w.heap.size + 1) := fun k hk e => hk (by injection e)
  refine ⟨(keeps_belowM hb).trans (KeepsFrom.of_grownBy hg (fun j e => by cases e; exact hB)), ⟨Nat.le_trans hb.size hg.size, fun k hk hlt => ?_⟩, h2.bf.same (hg.block _ h2.bf.lt (ne _ (by omega))), h2.bm.same (hg.block _ h2.bm.lt (ne _ (by omega))), by rw [List.length_append]; exact hm, h2.bl.grown hg h2.bl.size (fun k e => by cases e; omega), h.zb⟩
  refine (hg.block _ (Nat.lt_of_lt_of_le hlt hb.size) (ne _ (fun e => ?_))).trans (hb.block _ hlt)
  subst e
  rcases hk with hk | hk
  · exact hSS hk
  · have := h.zb _ hk; omega
/-- the two boxes -/
structure ByS (w : World) (f : Nat) (W : World) : Prop where
  bf : Blk W w.heap.size 27 #[.pointer (some ⟨f, 0, none⟩)]
  bm : Blk W (w.heap.size + 1 + 1) 55 #[.map (some (w.heap.size + 1))]
theorem ByS.below {w W W' : World} {f : Nat} (h : ByS w f W) (hb : Below W.heap.size W W') : ByS w f W' := ⟨h.bf.below hb, h.bm.below hb⟩
/-- what byHash answers -/
def ByA (w : World) (k n : Nat) (e : Ending) (w' : World) : Prop := ∃ m, e = .returned (.map (some m)) ∧ w.heap.size ≤ m ∧ MapN w' m k n ∧ Below w.heap.size w w'
set_option maxHeartbeats 8000000 in
theorem dby_any {w : World} {f g b c : Nat} {N : List Nd} {A : Option Addr} {tv : Value} {ti : Int} {T : Option Tr} (h : Fo w f g b N A c tv) (hT : TAt N ti T) (hsm : wtO T < 90000) (hnl : (numO N 0 (ti, T)).length < 90000) :
    Calls Tryz.prog 14 #[.pointer (some ⟨f, 0, none⟩), .int .i64 ti] w (ByA w (numO N 0 (ti, T)).length N.length) := by
  obtain ⟨L, hL⟩ : ∃ L, L = numO N 0 (ti, T) := ⟨_, rfl⟩
  have HLL : Hid (∀ k ∈ L, k < N.length) := fun k hk => by
    rw [hL] at hk
    cases T with
    | none => exact absurd hk (by show ¬ k ∈ ([] : List Nat); simp)
    | some t =>
      obtain ⟨i, hi, hr, _⟩ := hT
      have hi' : ti = (i : Int) := hi
      subst hi'
      have hk' : k ∈ numT N 0 t ((i : Int)).toNat := hk
      rw [Int.toNat_natCast] at hk'
      exact (numTlt hr k hk').1
  have CN := hid (fun w => dnums_any ⟨f, 0, none⟩ ti 0 w)
  have CS := hid (fun (w9 : World) (b0 : Nat) (hc : NmI (b0 + 1) (b0 + 1 + 1) b0 f g b N A c tv ti 0 w9) => nums_walkP (Int.le_refl 0) hT (by omega) w9 hc)
  rw [← hL] at CS hnl ⊢
  have HFO := hid h; have HNL := hid hnl
  have hmm := @run_makeMap Tryz.prog
  have hfl := h.lts
  clear h hT hsm hnl hL
  refine (callsIn_wide (n := 2)).1 ?_
  refine callsIn_of_wp_marks Tryz.func14 rfl trivial ?_ rfl
  simp only [Tryz.ntmps14, List.size_toArray, List.length_cons, List.length_nil, Nat.reduceAdd, Nat.reduceSub, Array.replicate_succ, Array.replicate_zero, List.push_toArray, List.append_toArray, List.nil_append, List.cons_append]
  refine (wpIn_wide (n := 2)).2 ?_
  --DM2END
  unfold ByA
  go_wp2_with (go_at_call 24; refine (CN.out _).mono ?_; rintro e w9 ⟨rfl, rfl⟩)
  have KF : Hid (Blk (((w.alloc (.cells #[.pointer (some ⟨f, 0, none⟩)] 27)).alloc (.map #[] 0)).alloc (.cells #[.map (some (w.heap.size + 1))] 55)) w.heap.size 27 #[.pointer (some ⟨f, 0, none⟩)]) := ((Blk.new w 27 _).alloc _).alloc _
  have S1 : (w.alloc (.cells #[.pointer (some ⟨f, 0, none⟩)] 27)).heap.size = w.heap.size + 1 := World.size_alloc ..
  have S2 : ((w.alloc (.cells #[.pointer (some ⟨f, 0, none⟩)] 27)).alloc (.map #[] 0)).heap.size = w.heap.size + 1 + 1 := by rw [World.size_alloc, S1]
  have KM : Hid (Blk (((w.alloc (.cells #[.pointer (some ⟨f, 0, none⟩)] 27)).alloc (.map #[] 0)).alloc (.cells #[.map (some (w.heap.size + 1))] 55)) (w.heap.size + 1 + 1) 55 #[.map (some (w.heap.size + 1))]) := by
    have := Blk.new ((w.alloc (.cells #[.pointer (some ⟨f, 0, none⟩)] 27)).alloc (.map #[] 0)) 55 #[.map (some (w.heap.size + 1))]
    rwa [S2] at this
  have MM : Hid (MapN (((w.alloc (.cells #[.pointer (some ⟨f, 0, none⟩)] 27)).alloc (.map #[] 0)).alloc (.cells #[.map (some (w.heap.size + 1))] 55)) (w.heap.size + 1) 0 N.length) := by
    have := MapN.made (w.alloc (.cells #[.pointer (some ⟨f, 0, none⟩)] 27)) N.length
    rw [S1] at this
    exact this.below ((Below.refl _ _).alloc (Nat.le_refl _) _)
  have BL : Hid (Below w.heap.size w (((w.alloc (.cells #[.pointer (some ⟨f, 0, none⟩)] 27)).alloc (.map #[] 0)).alloc (.cells #[.map (some (w.heap.size + 1))] 55))) := (((Below.refl _ _).alloc (Nat.le_refl _) _).alloc (by rw [S1]; omega) _).alloc (by rw [S2]; omega) _
  have S3 : Hid ((((w.alloc (.cells #[.pointer (some ⟨f, 0, none⟩)] 27)).alloc (.map #[] 0)).alloc (.cells #[.map (some (w.heap.size + 1))] 55)).heap.size = w.heap.size + 1 + 1 + 1) := by show _ = _; rw [World.size_alloc, S2]
  rw [← S3.out]
  generalize ((w.alloc (.cells #[.pointer (some ⟨f, 0, none⟩)] 27)).alloc (.map #[] 0)).alloc (.cells #[.map (some (w.heap.size + 1))] 55) = w2 at KF KM MM BL S3 ⊢
  clear S1 S2
  have K1 : Hid (Blk (w2.alloc (.cells #[.pointer (some ⟨f, 0, none⟩)] 27)) w2.heap.size 27 #[.pointer (some ⟨f, 0, none⟩)]) := Blk.new w2 27 _
  have S1 : (w2.alloc (.cells #[.pointer (some ⟨f, 0, none⟩)] 27)).heap.size = w2.heap.size + 1 := World.size_alloc ..
  have S2 : ((w2.alloc (.cells #[.pointer (some ⟨f, 0, none⟩)] 27)).alloc (.cells #[.int .i64 ti] 3)).heap.size = w2.heap.size + 1 + 1 := by rw [World.size_alloc, S1]
  have K2 : Hid (Blk ((w2.alloc (.cells #[.pointer (some ⟨f, 0, none⟩)] 27)).alloc (.cells #[.int .i64 ti] 3)) (w2.heap.size + 1) 3 #[.int .i64 ti]) := by
    have := Blk.new (w2.alloc (.cells #[.pointer (some ⟨f, 0, none⟩)] 27)) 3 #[.int .i64 ti]
    rwa [S1] at this
  have K3 : Hid (Blk (((w2.alloc (.cells #[.pointer (some ⟨f, 0, none⟩)] 27)).alloc (.cells #[.int .i64 ti] 3)).alloc (.cells #[.int .i64 0] 3)) (w2.heap.size + 1 + 1) 3 #[.int .i64 0]) := by
    have := Blk.new ((w2.alloc (.cells #[.pointer (some ⟨f, 0, none⟩)] 27)).alloc (.cells #[.int .i64 ti] 3)) 3 #[.int .i64 0]
    rwa [S2] at this
  have BA : Hid (Below w2.heap.size w2 (((w2.alloc (.cells #[.pointer (some ⟨f, 0, none⟩)] 27)).alloc (.cells #[.int .i64 ti] 3)).alloc (.cells #[.int .i64 0] 3))) := (((Below.refl _ _).alloc (Nat.le_refl _) _).alloc (by rw [S1]; omega) _).alloc (by rw [S2]; omega) _
  have HCI : Hid (NmI (w2.heap.size + 1) (w2.heap.size + 1 + 1) w2.heap.size f g b N A c tv ti 0 (((w2.alloc (.cells #[.pointer (some ⟨f, 0, none⟩)] 27)).alloc (.cells #[.int .i64 ti] 3)).alloc (.cells #[.int .i64 0] 3))) := ⟨K2.out.alloc _, K3.out, (K1.out.alloc _).alloc _, HFO.out.below (BL.out.trans (BA.out.mono BL.out.size))⟩
  have S4 : Hid ((((w2.alloc (.cells #[.pointer (some ⟨f, 0, none⟩)] 27)).alloc (.cells #[.int .i64 ti] 3)).alloc (.cells #[.int .i64 0] 3)).heap.size = w2.heap.size + 1 + 1 + 1) := by show _ = _; rw [World.size_alloc, S2]
  have I0 : Hid (ByI w f N.length (fun _ => False) [] (((w2.alloc (.cells #[.pointer (some ⟨f, 0, none⟩)] 27)).alloc (.cells #[.int .i64 ti] 3)).alloc (.cells #[.int .i64 0] 3))) := ⟨KF.out.below BA.out, KM.out.below BA.out, MM.out.below BA.out, BL.out.trans (BA.out.mono BL.out.size), fun _ h => h.elim⟩
  have CS2 := hid (CS.out _ w2.heap.size HCI.out)
  have SLT := hid HCI.out.lt
  have NSS : Hid (¬ NmS (w2.heap.size + 1) (w2.heap.size + 1 + 1) w2.heap.size f g b (w.heap.size + 1)) := fun hk => by
    have h3 := S3.out
    obtain ⟨h4, h5, h6⟩ := hfl
    rcases hk with h | h | h | h | h | h <;> omega
  clear K1 K2 K3 BA HCI KF KM MM CS CN S1 S2 hmm
  have SZ : Hid (w.heap.size + 1 + 1 < (((w2.alloc (.cells #[.pointer (some ⟨f, 0, none⟩)] 27)).alloc (.cells #[.int .i64 ti] 3)).alloc (.cells #[.int .i64 0] 3)).heap.size) := by show _ < _; rw [S4.out, S3.out]; omega
  clear S3 S4 hfl BL
  generalize ((w2.alloc (.cells #[.pointer (some ⟨f, 0, none⟩)] 27)).alloc (.cells #[.int .i64 ti] 3)).alloc (.cells #[.int .i64 0] 3) = w1 at I0 CS2 SLT SZ ⊢
  refine (wpIn_wide (n := 2)).1 ?_
  refine range_ghostP (n := 2) (by omega) (gf := 48) (lb := #[.pointer (some ⟨w2.heap.size + 1, 0, none⟩), .pointer (some ⟨w2.heap.size + 1 + 1, 0, none⟩), .pointer (some ⟨w2.heap.size, 0, none⟩)]) rfl (enters_of Tryz.func48 (by kernel_rfl) rfl) CS2.out SLT.out (Below.refl _ _) (fun _ => rfl) (ByI w f N.length) (ByI.gh w f N.length) (fun Z => ByI.own SZ.out Z) I0.out ?F ?assign ?body ?done
  case assign =>
    intro l x W K hK
    have HKK := hid hK
    clear hK
    dsimp only [encN]
    rw [zip1i]
    simp only [List.setIfInBounds_toArray, List.set_cons_succ, List.set_cons_zero]
    refine wpIn_cut K (plain_round (L := [_]) (by rfl) ?_) (fun _ _ h => h)
    go_wp2
    try simp only [Qr]
    exact HKK.out
  case body =>
    rintro l Z pre x W hWs hI hzl ⟨r, hr⟩
    have hx := HLL.out x (by rw [← hr]; simp)
    obtain ⟨q, hq⟩ : ∃ q, N[x]? = some q := ⟨_, List.getElem?_eq_getElem hx⟩
    have hw0 := HFO.out.below hI.bl
    have hqk : Ky q.h := (hw0.ok q (List.mem_of_getElem? hq)).h
    have hkl : pre.length < 1000000 := by
      have h1 := congrArg List.length hr
      rw [List.length_append, List.length_cons] at h1
      have h2 := HNL.out
      omega
    have CD := hid (fun x1 (hb : Below W.heap.size W x1) => dhash_at (hw0.below hb) x q hq)
    have HPUT := hid (fun (x1 : World) (hb : Below W.heap.size W x1) => (hI.below hb).mp.put hkl hqk hx)
    have HST := hid (fun (x1 y : World) (hb : Below W.heap.size W x1) hm hg => hI.step (SS := NmS (w2.heap.size + 1) (w2.heap.size + 1 + 1) w2.heap.size f g b) (B := w1.heap.size) (i := x) (x := x1) (y := y) (by have h := SZ.out; omega) NSS.out hb hm hg)
    refine wpIn_block ?_
    refine wpIn_cut (fun _ W' => KeepsFrom w1.heap.size W W' ∧ KpS (fun k => NmS (w2.heap.size + 1) (w2.heap.size + 1 + 1) w2.heap.size f g b k ∨ Z k) W W' ∧ ByI w f N.length Z (pre ++ [x]) W') ?_ (fun _ _ h => ⟨rfl, h⟩)
    refine region_roundM (S := fun w' => Hid (ByS w f w')) (by kernel_rfl) (by rfl) ?_
    change wpAnyH _ _ _ _ _ _ _ _ W.drew
    have BWx0 : Hid (Below W.heap.size W W.drew) := (Below.refl _ _).drew
    have Gx0 : Hid (ByS w f W.drew) := ByS.below ⟨hI.bf, hI.bm⟩ BWx0.out
    have HBS := hid (fun (y : World) (h : ByI w f N.length Z (pre ++ [x]) y) => (ByS.mk h.bf h.bm : ByS w f y))
    clear hI hr hq hqk hkl hx hw0 hWs hzl
    generalize W.drew = x0 at Gx0 BWx0 ⊢
    refine wpAnyH_take (i := 0) (oi := { dst := some 12, op := _, type := _, pos := _, after := _, guard := _ }) (v := .map (some (w.heap.size + 1))) rfl (by kernel_rfl) (by kernel_rfl) (by kernel_rfl) (fun _ _ _ h => h) (Or.inl ⟨by kernel_rfl, ?_⟩) Gx0 ?_
    · (intro w' hSw; have hc : w'.cell? ⟨w.heap.size + 1 + 1, 0, none⟩ = some (.map (some (w.heap.size + 1))) := hSw.out.bm.cell 0; go_simp; try with_reducible rfl)
    try simp only [Act.put, List.setIfInBounds_toArray, List.set_cons_zero, List.set_cons_succ]
    refine wpAnyH_take (i := 1) (oi := { dst := some 13, op := _, type := _, pos := _, after := _, guard := _ }) (v := .pointer (some ⟨f, 0, none⟩)) rfl (by kernel_rfl) (by kernel_rfl) (by kernel_rfl) (fun _ _ _ h => h) (Or.inl ⟨by kernel_rfl, ?_⟩) Gx0 ?_
    · (intro w' hSw; have hc : w'.cell? ⟨w.heap.size, 0, none⟩ = some (.pointer (some ⟨f, 0, none⟩)) := hSw.out.bf.cell 0; go_simp; try with_reducible rfl)
    try simp only [Act.put, List.setIfInBounds_toArray, List.set_cons_zero, List.set_cons_succ]
    refine wpAnyH_take (i := 2) (oi := { dst := some 14, op := _, type := _, pos := _, after := _, guard := _ }) (v := .int .i64 (x : Nat)) rfl (by kernel_rfl) (by kernel_rfl) (by kernel_rfl) (fun _ _ _ h => h) (Or.inl ⟨by kernel_rfl, ?_⟩) Gx0 ?_
    · (intro w' hSw; go_simp; try with_reducible rfl)
    try simp only [Act.put, List.setIfInBounds_toArray, List.set_cons_zero, List.set_cons_succ]
    refine wpAnyH_take (i := 4) (oi := { dst := some 16, op := _, type := _, pos := _, after := _, guard := _ }) (v := .int .i64 (x : Nat)) rfl (by kernel_rfl) (by kernel_rfl) (by kernel_rfl) (fun _ _ _ h => h) (Or.inl ⟨by kernel_rfl, ?_⟩) Gx0 ?_
    · (intro w' hSw; go_simp; try with_reducible rfl)
    try simp only [Act.put, List.setIfInBounds_toArray, List.set_cons_zero, List.set_cons_succ]
    refine wpAnyH_ready (rs := [3]) (by kernel_rfl) (by simp) ?_
    refine (AllReadyH.cons (o := { dst := some 15, op := _, type := _, pos := _, after := _, guard := _ }) rfl (fun Qc hQc => ?_) AllReadyH.nil)
    go_simp
    go_at_call 16
    refine (CD.out x0 BWx0.out).mono ?_
    rintro e x1 ⟨rfl, hb⟩
    have BWx1 := hid (BWx0.out.trans (hb.mono BWx0.out.size))
    have Gx1 := hid (Gx0.out.below hb)
    clear hb
    go_wp2_with fail
    refine hQc.out _ _ Gx1 (fun hHeld => ?_)
    clear hQc Qc hHeld
    try simp only [Act.put, List.setIfInBounds_toArray, List.set_cons_zero, List.set_cons_succ]
    refine wpAnyH_ready (rs := [5]) (by kernel_rfl) (by simp) ?_
    refine (AllReadyH.cons (o := { dst := none, op := _, type := _, pos := _, after := _, guard := _ }) rfl (fun Qc hQc => ?_) AllReadyH.nil)
    obtain ⟨y, hrun, hm, hg⟩ := HPUT.out x1 BWx1.out
    have HFIN := hid (HST.out x1 y BWx1.out hm hg)
    have Gy : Hid (ByS w f y) := HBS.out y HFIN.out.2.2
    clear hm hg HST HPUT CD HBS Gx1 Gx0 BWx0
    rw [if_pos (by rfl)]
    unfold Oper.wp
    go_simp
    refine hQc.out _ _ Gy (fun hHeld => ?_)
    clear hQc Qc hHeld
    try simp only [Act.put, List.setIfInBounds_toArray, List.set_cons_zero, List.set_cons_succ]
    refine wpAnyH_done (by kernel_rfl) ?_ _
    try simp only [Act.put, List.setIfInBounds_toArray, List.set_cons_zero, List.set_cons_succ]
    try simp only [Qr]
    exact HFIN.out
  case done =>
    rintro D Z ys W hD hys hI hK
    subst hys
    have cb : W.cell? ⟨w.heap.size + 1 + 1, 0, none⟩ = some (.map (some (w.heap.size + 1))) := hI.bm.cell 0
    have HI := hid hI; have HKD := hid hK
    have HD : Hid (w1.heap.size ≤ D) := hD
    clear hI hK hD I0 CS2 SLT NSS HNL HFO HLL
    go_wp2
    refine ⟨by simp, .inl ⟨_, _, rfl, run_takeDeferred HKD.out, ?_⟩⟩
    have hg := grownBy_putObj' W D (.deferred none)
    exact ⟨_, results_tmp rfl _ _ _, w.heap.size + 1, rfl, by omega, HI.out.mp.same (hg.block _ HI.out.mp.lt (fun e => by injection e with e; have h1 := HD.out; have h2 := SZ.out; omega)), HI.out.bl.grown hg HI.out.bl.size (fun k e => by cases e; have h1 := HD.out; have h2 := SZ.out; omega)⟩
end Go.Proofs.YtjhaamffgkialaaGreatDoor
/-
  What is proved here: Apply of no rows.
-/
namespace Go.Proofs.YtjhaamffgkialaaGreatDoor
open Go.ChangeShapes Go.WideShapes Go.ChangeAt Go.RowKit Go.Shelf
set_option linter.unusedVariables false
set_option linter.unusedSimpArgs false
set_option maxRecDepth 20000

theorem mneq_key (a b : List Int) (ha : Ky a) (hb : Ky b) (w : World) : (binOp .neq 25 (.agg (kc a)) (.agg (kc b))).run Tryz.prog w = .ok (.bool (!decide (a = b))) w := by
  have h := eql_key a b ha hb w
  unfold binOp at h ⊢
  simp only [Sem.run_bind] at h ⊢
  cases hr : (Op.equal 25 (Value.agg (kc a)) (Value.agg (kc b))).run Tryz.prog w with
  | ok x w' =>
    rw [hr] at h
    simp only [Result.andThen_ok] at h ⊢
    cases h
    rfl
  | halt x w' =>
    rw [hr] at h
    cases h
set_option maxHeartbeats 8000000 in
theorem dApply_bad {w : World} {p : Option Addr} {ti : Int} {K : List Int} (hK : Ky K) (CI0 : ∀ w1, Below w.heap.size w w1 → Calls Tryz.prog 8 #[.pointer p, .int .i64 ti] w1 fun e w' => e = .returned (hV zk (.int .i64 1)) ∧ Below w1.heap.size w1 w') :
    Calls Tryz.prog 6 #[.pointer p, .int .i64 ti, .slice none 0 0, .agg (kc K)] w fun e w' => e = .returned (.tuple #[.int .i64 0, .int .i64 1]) ∧ Below w.heap.size w w' := by
  obtain ⟨Z, HZ, hZ0, hZs⟩ := zero_key
  have KZ : Hid (Blk (w.alloc (.cells (kc K) 25)) w.heap.size 25 (kc K)) := Blk.new w 25 (kc K)
  have B0 : Hid (Below w.heap.size w (w.alloc (.cells (kc K) 25))) := (Below.refl _ _).alloc (Nat.le_refl _) _
  have CI := hid (CI0 _ B0.out)
  have HI := hid (kc_info zk_ky)
  have hzs : Hid (Z.size = (kc zk).size) := by show _ = _; rw [HZ.out]
  clear CI0
  unfold hV at CI
  go_enter Tryz.func6, Tryz.ntmps6
  go_wp2_with (first
    | (go_at_call 8; refine CI.out.mono ?_; rintro e w1 ⟨rfl, hb⟩; have B1 := hid (B0.out.trans (hb.mono B0.out.size)); clear hb)
    | (refine wpList_store_row rfl 25 (.tmp 11) (.tmp 21) rfl w1.heap.size (kc zk) rfl rfl 25 Z (Blk.new w1 25 Z) HI.out hzs.out (kc_one _) ?_))
  go_ret2
  exact ⟨rfl, below_setRow (B1.out.alloc B1.out.size _) B1.out.size _⟩
set_option maxHeartbeats 8000000 in
theorem dApply_nil {w : World} {f g b c : Nat} {N : List Nd} {A : Option Addr} {tv : Value} {ti : Int} {T : Option Tr} {K : List Int} (hK : Ky K) (h : Fo w f g b N A c tv) (hT : TAt N ti T) (htb : Tab w) (hsm : wtO T < 90000) (hnl : (numO N 0 (ti, T)).length < 90000) :
    Calls Tryz.prog 6 #[.pointer (some ⟨f, 0, none⟩), .int .i64 ti, .slice none 0 0, .agg (kc K)] w fun e w' => (hsO T = K ∧ e = .returned (.tuple #[.int .i64 ti, .int .i64 0]) ∨ hsO T ≠ K ∧ e = .returned (.tuple #[.int .i64 0, .int .i64 9])) ∧ Below w.heap.size w w' := by
  obtain ⟨Z, HZ, hZ0, hZs⟩ := zero_key
  have KK : Hid (Blk (w.alloc (.cells (kc K) 25)) w.heap.size 25 (kc K)) := Blk.new w 25 (kc K)
  have B0 : Hid (Below w.heap.size w (w.alloc (.cells (kc K) 25))) := (Below.refl _ _).alloc (Nat.le_refl _) _
  obtain ⟨hky, hcr⟩ := droot_any (h.below B0.out) hT (htb.below B0.out)
  have CR := hid hcr
  have CB := hid (fun (w2 : World) (hb : Below w.heap.size w w2) => dby_any (h.below hb) hT hsm hnl)
  obtain ⟨E, hE⟩ : ∃ E, E = hsO T := ⟨_, rfl⟩
  rw [← hE] at CR hky ⊢
  have HE := hid hky; have HK := hid hK
  have HI := hid (kc_info hky); have HIK := hid (kc_info hK)
  have hzs : Hid (Z.size = (kc E).size) := by show _ = _; rw [HZ.out, kc_size zk_ky, kc_size hky]
  have hneq := fun w => mneq_key E K hky hK w
  clear h hT htb hsm hnl hky hcr hE hK
  unfold hV at CR
  unfold ByA at CB
  go_enter Tryz.func6, Tryz.ntmps6
  go_upto_region 3 with (first
    | (go_at_call 8; refine CR.out.mono ?_; rintro e w1 ⟨rfl, hb⟩; have K1 := hid (KK.out.below hb); have B1 := hid (B0.out.trans (hb.mono B0.out.size)); clear hb)
    | (refine wpList_store_row rfl 25 (.tmp 11) (.tmp 21) rfl w1.heap.size (kc E) rfl rfl 25 Z (Blk.new w1 25 Z) HI.out hzs.out (kc_one _) ?_))
  have B2 : Hid (Below w.heap.size w ((w1.alloc (.cells Z 25)).setRow w1.heap.size (kc E))) := below_setRow (B1.out.alloc B1.out.size _) B1.out.size _
  have E2 : Hid (Blk ((w1.alloc (.cells Z 25)).setRow w1.heap.size (kc E)) w1.heap.size 25 (kc E)) := (Blk.new w1 25 Z).row _
  have K2 : Hid (Blk ((w1.alloc (.cells Z 25)).setRow w1.heap.size (kc E)) w.heap.size 25 (kc K)) := K1.out.below (below_setRow ((Below.refl _ _).alloc (Nat.le_refl _) _) (Nat.le_refl _) _)
  clear K1 B1 KK B0 CR
  generalize (w1.alloc (.cells Z 25)).setRow w1.heap.size (kc E) = w2 at B2 E2 K2 ⊢
  generalize w1.heap.size = g11 at E2 ⊢
  go_upto_region 6 with (go_at_call 14; refine (CB.out w2 B2.out).mono ?_; rintro e w3 ⟨m, rfl, hm, hmp, hb⟩; have B3 := hid (B2.out.trans (hb.mono B2.out.size)); have K3 := hid (K2.out.below hb); have E3 := hid (E2.out.below hb); clear hb hm hmp)
  clear CB B2 E2 K2
  go_wp2
  go_loopw [10, 30] (fun s10 s30 wr => s10 = .int .i64 ti ∧ s30 = .int .i64 0 ∧ wr = w3) (fun _ _ _ => 0)
  case atStart => exact ⟨rfl, rfl, rfl⟩
  case round =>
    obtain ⟨rfl, rfl, rfl⟩ := hrel
    by_cases hEK : E = K
    · subst hEK
      have hq2 : ∀ w, (binOp .neq 25 (.agg (kc E)) (.agg (kc E))).run Tryz.prog w = .ok (.bool false) w := fun w => by rw [hneq w, decide_eq_true rfl]; rfl
      clear hneq
      go_wp2_with (first
        | (refine load_at rfl 25 (.tmp 11) rfl g11 0 rfl (u8s E) _ (blk_key E3.out) Tryz.underlying25 rfl (u8s_info HE.out) (kc E) rfl ?_)
        | (refine load_at rfl 25 (.tmp 7) rfl w.heap.size 0 rfl (u8s E) _ (blk_key K3.out) Tryz.underlying25 rfl (u8s_info HE.out) (kc E) rfl ?_))
      go_ret2
      exact ⟨rfl, B3.out⟩
    · have hd : decide (E = K) = false := decide_eq_false hEK
      go_wp2_with (first
        | (refine load_at rfl 25 (.tmp 11) rfl g11 0 rfl (u8s E) _ (blk_key E3.out) Tryz.underlying25 rfl (u8s_info HE.out) (kc E) rfl ?_)
        | (refine load_at rfl 25 (.tmp 7) rfl w.heap.size 0 rfl (u8s K) _ (blk_key K3.out) Tryz.underlying25 rfl (u8s_info HK.out) (kc K) rfl ?_))
      go_ret2
      exact ⟨.inr ⟨hEK, rfl⟩, B3.out⟩
end Go.Proofs.YtjhaamffgkialaaGreatDoor
/-
  What is proved here: every number of a forest is a tree's, and such a tree is small; Since where there is no tree.
-/
namespace Go.Proofs.YtjhaamffgkialaaGreatDoor
open Go.ChangeShapes Go.WideShapes Go.ChangeAt Go.RowKit Go.Shelf
set_option linter.unusedVariables false
set_option linter.unusedSimpArgs false
set_option maxRecDepth 20000

theorem pigeon {α : Type} [DecidableEq α] (key : Nat → Option α) : ∀ (n : Nat) (L : List α), L.Nodup → (∀ q ∈ L, ∃ j, j < n ∧ key j = some q) → L.length ≤ n
  | 0, L, _, h => by
    cases L with
    | nil => exact Nat.le_refl _
    | cons q L => obtain ⟨j, hj, _⟩ := h q (by simp); omega
  | n + 1, L, hn, h => by
    by_cases hq : ∃ q ∈ L, key n = some q
    · obtain ⟨q, hqL, hk⟩ := hq
      have h1 := pigeon key n (L.erase q) (hn.erase q) (fun x hx => by
        have hx2 := (hn.mem_erase_iff).1 hx
        obtain ⟨j, hj, hk2⟩ := h x hx2.2
        refine ⟨j, ?_, hk2⟩
        rcases Nat.lt_or_ge j n with h3 | h3
        · exact h3
        · obtain rfl : j = n := by omega
          rw [hk] at hk2
          injection hk2 with e
          exact absurd e.symm hx2.1)
      have h2 := List.length_erase_of_mem hqL
      omega
    · have h1 := pigeon key n L hn (fun x hx => by
        obtain ⟨j, hj, hk⟩ := h x hx
        refine ⟨j, ?_, hk⟩
        rcases Nat.lt_or_ge j n with h3 | h3
        · exact h3
        · obtain rfl : j = n := by omega
          exact absurd ⟨x, hx, hk⟩ hq)
      omega
theorem rep_leafs {N : List Nd} : ∀ {t : Tr} {i : Nat}, Rep hLf hIn N i t → ∀ q ∈ t.list, ∃ j, j < N.length ∧ (N[j]?).map (fun x => ((x.k, x.v) : KV)) = some q
  | .leaf k v, i, hr, q, hq => by
    have hr' : N[i]? = some (ndL k v (hLf k v)) := hr
    have hq' : q = (k, v) := List.mem_singleton.1 hq
    subst hq'
    refine ⟨i, hr.lt, ?_⟩
    rw [hr']; rfl
  | .inner n b l r, i, hr, q, hq => by
    obtain ⟨a, d, _, _, _, hl, hr2⟩ := hr
    have hq' : q ∈ l.list ++ r.list := hq
    rcases List.mem_append.1 hq' with h | h
    · exact rep_leafs hl q h
    · exact rep_leafs hr2 q h
theorem srt_nodup {l : List KV} (h : Srt l) : l.Nodup := by
  unfold Srt at h
  refine List.Pairwise.imp (fun {a b} hab e => ?_) h
  rw [e, lss_self] at hab
  cases hab
theorem tree_small {N : List Nd} {t : Tr} {i : Nat} (hr : Rep hLf hIn N i t) (hok : t.ok) : t.list.length ≤ N.length :=
  pigeon (fun j => (N[j]?).map (fun x => ((x.k, x.v) : KV))) N.length t.list (srt_nodup (Tr.srt hok).1) (rep_leafs hr)
theorem numTlen {N : List Nd} {sz : Int} : ∀ {t : Tr} {i : Nat}, (numT N sz t i).length ≤ wtT t
  | .leaf k v, i => by
    unfold numT wtT
    split <;> simp
  | .inner n b l r, i => by
    unfold numT wtT
    split
    · simp
    · have h1 := numTlen (N := N) (sz := sz) (t := r) (i := (N[i]?.getD ndZ).r.toNat)
      have h2 := numTlen (N := N) (sz := sz) (t := l) (i := (N[i]?.getD ndZ).l.toNat)
      simp only [List.length_cons, List.length_append]
      omega
theorem numOlen {N : List Nd} {sz ti : Int} {T : Option Tr} : (numO N sz (ti, T)).length ≤ wtO T := by
  cases T with
  | none => exact Nat.zero_le _
  | some t => exact numTlen
theorem tat_small {N : List Nd} {ti : Int} {T : Option Tr} (hT : TAt N ti T) : wtO T ≤ 2 * N.length + 1 := by
  cases T with
  | none => show 1 ≤ _; omega
  | some t =>
    obtain ⟨k, _, hr, hok⟩ := hT
    have h1 := tree_small hr hok
    have h2 := wtTlen t
    show wtT t ≤ _
    omega
/-- every number is a tree's -/
theorem tat_of {N : List Nd} (hfr : FrOk hLf hIn N) {ti : Int} (h : isTr N.length ti = true) : ∃ T, TAt N ti T := by
  unfold isTr at h
  rw [Bool.or_eq_true, decide_eq_true_eq] at h
  rcases h with rfl | h
  · exact ⟨none, rfl⟩
  · unfold isNd at h
    rw [decide_eq_true_eq] at h
    obtain ⟨t, hok, hr⟩ := hfr ti.toNat (by omega)
    exact ⟨some t, ti.toNat, by omega, hr, hok⟩
set_option maxHeartbeats 8000000 in
theorem since_no {w : World} {p : Option Addr} {ti sz : Int} (CI0 : Calls Tryz.prog 8 #[.pointer p, .int .i64 ti] w fun e w' => e = .returned (hV zk (.int .i64 1)) ∧ Below w.heap.size w w') :
    Calls Tryz.prog 12 #[.pointer p, .int .i64 ti, .int .i64 sz] w fun e w' => e = .returned (.tuple #[.slice none 0 0, .int .i64 1]) ∧ Below w.heap.size w w' := by
  obtain ⟨Z, HZ, hZ0, hZs⟩ := zero_key
  have CI := hid CI0
  have HI := hid (kc_info zk_ky)
  have hzs : Hid (Z.size = (kc zk).size) := by show _ = _; rw [HZ.out]
  clear CI0
  unfold hV at CI
  go_enter Tryz.func12, Tryz.ntmps12
  go_wp2_with (first
    | (go_at_call 8; refine CI.out.mono ?_; rintro e w1 ⟨rfl, hb⟩; have B1 := hid hb; clear hb)
    | (refine wpList_store_row rfl 25 (.tmp 8) (.tmp 17) rfl w1.heap.size (kc zk) rfl rfl 25 Z (Blk.new w1 25 Z) HI.out hzs.out (kc_one _) ?_))
  go_ret2
  exact ⟨rfl, below_setRow (B1.out.alloc B1.out.size _) B1.out.size _⟩
set_option maxHeartbeats 8000000 in
theorem since_neg {w : World} {p : Option Addr} {ti sz : Int} {K : List Int} (hK : Ky K) (hs : sz < 0) (CI0 : Calls Tryz.prog 8 #[.pointer p, .int .i64 ti] w fun e w' => e = .returned (hV K (.int .i64 0)) ∧ Below w.heap.size w w') :
    Calls Tryz.prog 12 #[.pointer p, .int .i64 ti, .int .i64 sz] w fun e w' => e = .returned (.tuple #[.slice none 0 0, .int .i64 1]) ∧ Below w.heap.size w w' := by
  obtain ⟨Z, HZ, hZ0, hZs⟩ := zero_key
  have CI := hid CI0
  have HI := hid (kc_info hK)
  have hzs : Hid (Z.size = (kc K).size) := by show _ = _; rw [HZ.out, kc_size zk_ky, kc_size hK]
  clear CI0 hK
  unfold hV at CI
  go_enter Tryz.func12, Tryz.ntmps12
  go_wp2_with (first
    | (go_at_call 8; refine CI.out.mono ?_; rintro e w1 ⟨rfl, hb⟩; have B1 := hid hb; clear hb)
    | (refine wpList_store_row rfl 25 (.tmp 8) (.tmp 17) rfl w1.heap.size (kc K) rfl rfl 25 Z (Blk.new w1 25 Z) HI.out hzs.out (kc_one _) ?_))
  go_ret2
  exact ⟨rfl, below_setRow (B1.out.alloc B1.out.size _) B1.out.size _⟩
end Go.Proofs.YtjhaamffgkialaaGreatDoor
