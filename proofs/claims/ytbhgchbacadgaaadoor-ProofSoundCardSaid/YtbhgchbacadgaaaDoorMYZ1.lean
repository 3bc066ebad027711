/-
  What is proved here: what the document shows of a key in a tree.
-/
import Derived.Test.YtbhgchbacadgaaaDoorMTk
import Derived.Test.YtbhgchbacadgaaaDoorMY14
import Derived.Test.YtbhgchbacadgaaaDoorMY25
import Derived.Test.YtbhgchbacadgaaaDoorMX19
import Derived.Test.YtbhgchbacadgaaaDoorMY17
import Derived.Test.YtbhgchbacadgaaaDoorMX21
set_option linter.unusedSimpArgs false
set_option linter.unusedVariables false
namespace Go.Proofs.YtbhgchbacadgaaaDoor
open Go.ChangeShapes Go.WideShapes Go.ChangeAt Go.RowKit
set_option linter.unusedVariables false
set_option linter.unusedSimpArgs false
set_option maxRecDepth 20000

theorem info_zstep : (Tryd.prog.info? 130).map (fun i => (i.zero, i.size, i.bytes)) = some (some (.agg (stc stZ).toArray), 65, 72) := by kernel_rfl
theorem zst_places : ∃ fields, Tryd.prog.underlying 130 = some (.struct fields) ∧ fields.toList.mapM (fun f => (Tryd.prog.info? f.type).map fun i => (f.offset, i.size)) = some [(0, 33), (33, 32)] := ⟨_, Tryd.underlying130, by kernel_rfl⟩
theorem zst_built {s : QS} (h : s.Ok) : Tryd.prog.built 130 [(0, .agg (pc s.n s.b)), (1, .agg (kc s.o))] = some (stc s).toArray := by
  obtain ⟨i0, hi, hz0, hz1, hz2⟩ := info_parts info_zstep
  obtain ⟨fields, hu, hpl⟩ := zst_places
  unfold Program.built
  rw [hi, hu]
  simp only [hz0, hpl]
  have e3 : (Value.agg (stc stZ).toArray).cells = (stc stZ).toArray := rfl
  have sz : (stc stZ).toArray.size = 65 := rfl
  rw [e3, fill_step (v := .agg (pc s.n s.b)) (off := 0) (size := 33) rfl (pc_size s.n h.b) (by simp only [putRow_len, sz]; decide), fill_step (v := .agg (kc s.o)) (off := 33) (size := 32) rfl (kc_size h.o) (by simp only [putRow_len, sz]; decide), fill_end]
  have c1 : (Value.agg (pc s.n s.b)).cells.toList = .int .i64 s.n :: u8s s.b := rfl
  have c2 : (Value.agg (kc s.o)).cells.toList = u8s s.o := rfl
  rw [c1, c2]
  have p1 : putRow (stc stZ).toArray 0 (Value.int .i64 s.n :: u8s s.b) = ((Value.int .i64 s.n :: u8s s.b) ++ (u8s z32 ++ [])).toArray := by
    rw [List.append_nil]
    exact putRow_mid (A := []) (M := Value.int .i64 0 :: u8s z32) (M' := Value.int .i64 s.n :: u8s s.b) (C := u8s z32) rfl (by rw [List.length_cons, List.length_cons, u8s_length, u8s_length, h.b.len]; decide)
  have p2 : putRow ((Value.int .i64 s.n :: u8s s.b) ++ (u8s z32 ++ [])).toArray 33 (u8s s.o) = ((Value.int .i64 s.n :: u8s s.b) ++ (u8s s.o ++ [])).toArray := putRow_mid (A := Value.int .i64 s.n :: u8s s.b) (M := u8s z32) (by rw [List.length_cons, u8s_length, h.b.len]) (by rw [u8s_length, u8s_length, h.o.len, ky_zero.len])
  rw [p1, p2, List.append_nil]
  rfl
/-! What stands in Show. -/
structure ZhF (w : World) (K : List Int) (Z : Array Value) (g10 : Nat) (V : Value) (q : QP) (S : List QS) (x : World) : Prop where
  kk : Blk x w.heap.size 24 (kc K)
  rs : Blk x (w.heap.size + 1) 72 Z
  pb : Blk x g10 72 (prc V q).toArray
  st : OwS w.heap.size 130 x V S
  bl : Below w.heap.size w x
section
variable {w x y : World} {K : List Int} {Z : Array Value} {g10 : Nat} {V : Value} {q q' : QP} {S : List QS}
theorem ZhF.below (h : ZhF w K Z g10 V q S x) (hb : Below x.heap.size x y) : ZhF w K Z g10 V q S y := ⟨h.kk.below hb, h.rs.below hb, h.pb.below hb, h.st.below hb, h.bl.trans (hb.mono h.bl.size)⟩
theorem ZhF.set (h : ZhF w K Z g10 V q S x) (hg : w.heap.size + 1 < g10) (hB : Blk y g10 72 (prc V q').toArray) (hk : ∀ k t cs, k ≠ g10 → Blk x k t cs → Blk y k t cs) (hbl : Below w.heap.size w y) : ZhF w K Z g10 V q' S y :=
  ⟨hk _ _ _ (by omega) h.kk, hk _ _ _ (by omega) h.rs, hB, h.st.keep (fun k e => by
    obtain ⟨_, C, h2⟩ := h.st.ty k e
    have h3 := hk k _ _ (fun e' => by subst e'; exact h.pb.ne h2 (by decide) rfl) h2
    exact (show y.heap[k]? = _ from h3).trans (show x.heap[k]? = _ from h2).symm), hbl⟩
theorem ZhF.push {v' : Value} {s : QS} (h : ZhF w K Z g10 V q S x) (hg : w.heap.size + 1 < g10) (ht : OwS w.heap.size 130 y v' (S ++ [s])) (hb : But V x y) : Blk y g10 72 (prc V q).toArray ∧ ZhF w K Z g10 v' q (S ++ [s]) (y.setCell ⟨g10, 0, none⟩ v') := by
  have ne : ∀ {k t cs}, Blk x k t cs → t ≠ 130 → V.ownBlock ≠ some k := fun hk ht e => by
    obtain ⟨_, C, h2⟩ := h.st.ty _ e
    exact hk.ne h2 ht rfl
  have kb := hb.blk h.pb (ne h.pb (by decide))
  refine ⟨kb, (hb.blk h.kk (ne h.kk (by decide))).far (show w.heap.size ≠ g10 by omega) _, (hb.blk h.rs (ne h.rs (by decide))).far (show w.heap.size + 1 ≠ g10 by omega) _, kb.setd 0 v', ht.keep (fun k hk => Below.heap_setCell y _ _ k (fun e => ?_)), ?_⟩
  · have e' : k = g10 := e
    obtain ⟨_, C, h2⟩ := ht.ty k hk
    rw [e'] at h2
    exact kb.ne h2 (by decide) rfl
  · exact (h.bl.trans (hb.bel h.bl.size (fun k hk => (h.st.ty k hk).1))).setCell (p := ⟨g10, 0, none⟩) (by show _ ≤ g10; omega) _
theorem zpr_there {g : Nat} (h : Blk x g 72 (prc V q).toArray) (hq : q.Ok) {o n : Nat} (ho : o + n ≤ 163) : x.there g o n := fun j hj => ⟨by rw [h.cell, List.getElem?_toArray, List.getElem?_eq_getElem (by rw [hq.len]; omega)]; rfl, h.frozen _⟩
/-- a field of the proof is stored -/
theorem ZhF.mid {cells : Array Value} {o : Nat} (h : ZhF w K Z g10 V q S x) (hg : w.heap.size + 1 < g10) (hp : putRow (prc V q).toArray o cells.toList = (prc V q').toArray) : ZhF w K Z g10 V q' S (x.setCells g10 o cells.toList) :=
  h.set hg (by have := h.pb.putCells cells.toList o; rwa [hp] at this) (fun k t cs hk hb => hb.farCells hk _ _) (below_setCells (by omega) _ h.bl _)
theorem ZhF.int (h : ZhF w K Z g10 V q S x) (hg : w.heap.size + 1 < g10) (e : Int) : ZhF w K Z g10 V { q with e := e } S (x.setCell ⟨g10, 1, none⟩ (.int .i64 e)) :=
  h.set hg (h.pb.setd 1 (.int .i64 e)) (fun k t cs hk hb => hb.far hk _) (h.bl.setCell (p := ⟨g10, 1, none⟩) (by show _ ≤ g10; omega) _)
end
/-- the prefix at hand stands -/
structure ZhN (w : World) (g6 n0 : Nat) (b : List Int) (x : World) : Prop where
  nb : Blk x g6 55 (pc n0 b)
  bl : Below w.heap.size w x
theorem ZhN.below {w x y : World} {g6 n0 : Nat} {b : List Int} (h : ZhN w g6 n0 b x) (hb : Below x.heap.size x y) : ZhN w g6 n0 b y := ⟨h.nb.below hb, h.bl.trans (hb.mono h.bl.size)⟩
/-- what Show answers -/
def ZhA (w : World) (p : QP) (e : Ending) (w' : World) : Prop := ∃ A c, e = .returned (.agg (prc (.slice A p.ss.length c) p).toArray) ∧ InS w' A p.ss.length p.ss ∧ Below w.heap.size w w'
theorem zshow_end {w w' : World} {K : List Int} {Z : Array Value} {g10 m2 c2 : Nat} {A2 : Option Addr} {q : QP} {t u : Tr} {S : List QS} (h : ZhF w K Z g10 (.slice A2 m2 c2) q S w') (hq : q = endP [] u) (h1 : shS K t = S) (h2 : shE K t = u) (hm : m2 = S.length) (hl : S.length ≤ 1000) :
    ZhA w (shP K t) (.returned (.agg (prc (.slice A2 m2 c2) q).toArray)) (w'.setRow (w.heap.size + 1) (prc (.slice A2 m2 c2) q).toArray) := by
  have e : shP K t = endP S u := by unfold shP; rw [h1, h2]
  have hin : InS w' A2 m2 S := by rw [hm] at h ⊢; exact h.st.in (by omega)
  rw [e]
  unfold ZhA
  rw [endP_ss]
  refine ⟨A2, c2, by rw [hq, prc_end _ S, hm], ?_, below_setRow h.bl (by omega) _⟩
  rw [← hm]
  refine InS.keep hin (below_setRow (Below.refl 0 w') (Nat.zero_le (w.heap.size + 1)) _).size (fun _ a ha hl => ?_)
  refine setRow_other w' (w.heap.size + 1) a.block _ (fun e' => ?_)
  obtain ⟨_, C, h5⟩ := h.st.ty a.block (by rw [ha]; rfl)
  rw [e'] at h5
  exact h.rs.ne h5 (by decide) rfl
def lenV : Value → Nat
  | .slice _ n _ => n
  | _ => 0
set_option maxHeartbeats 16000000 in
theorem zShow_tree {w : World} {A0 : Option Addr} {n c0 : Nat} (t : Tr) (hok : t.ok) (hin : InP w A0 n t.list) (hc0 : n ≤ c0) (K : List Int) (hK : Ky K) (hsm : t.list.length < 500) :
    Calls Tryd.prog 30 #[.slice A0 n c0, .agg (kc K)] w (ZhA w (shP K t)) := by
  obtain ⟨Z, HZ, hZ0, hZs⟩ := zero_zproof
  obtain ⟨X, HX, hX0, hXs⟩ := zero_pre
  obtain ⟨hk1, hk2, hk3, hb0⟩ := three_blks w (kc K) Z Z 24 72 72
  have hlen : t.list.length = n := hin.1
  obtain ⟨bb0, oo0, _, rfl, _⟩ := hin.at (k := 0) (by have := t.pos; omega)
  have HK := hid hK
  have HKI := hid (u8s_info hK)
  have N10 : Hid (Blk (((w.alloc (.cells (kc K) 24)).alloc (.cells Z 72)).alloc (.cells Z 72)) (w.heap.size + 1 + 1) 72 (prc nilV qZ).toArray) := by
    have e : (prc nilV qZ).toArray = Z := HZ.out.symm
    rw [e]; exact hk3
  have I0 : Hid (ZhF w K Z (w.heap.size + 1 + 1) nilV qZ [] (((w.alloc (.cells (kc K) 24)).alloc (.cells Z 72)).alloc (.cells Z 72))) := ⟨hk1, hk2, N10.out, OwS.nil _ _ _, hb0⟩
  have HG10 : Hid (w.heap.size + 1 < w.heap.size + 1 + 1) := by show _ < _; omega
  have HIN := hid hin; have HOK := hid hok; have HSM := hid hsm
  clear hk1 hk2 hk3 hb0 hK N10 hin hok hsm
  go_enter Tryd.func30, Tryd.ntmps30
  go_wp2
  generalize ((w.alloc (.cells (kc K) 24)).alloc (.cells Z 72)).alloc (.cells Z 72) = wB at I0 ⊢
  generalize w.heap.size + 1 + 1 = g10 at I0 HG10 ⊢
  go_loopw [0] (fun s0 wr => ∃ (u : Tr) (bb oo c1 : Nat) (S : List QS) (A2 : Option Addr) (m2 c2 : Nat), s0 = .slice (some ⟨bb, oo, none⟩) u.list.length c1 ∧ True ∧ Hid (InP w (some ⟨bb, oo, none⟩) u.list.length u.list) ∧ u.list.length ≤ c1 ∧ Hid u.ok ∧ Hid (shS K t = S ++ shS K u) ∧ Hid (shE K t = shE K u) ∧ Hid (S.length + u.list.length ≤ t.list.length ∧ m2 = S.length) ∧ Hid (ZhF w K Z g10 (.slice A2 m2 c2) qZ S wr)) (fun s0 _ => lenV s0)
  case atStart => exact ⟨t, bb0, oo0, c0, [], none, 0, 0, by rw [hlen], trivial, by rw [hlen]; exact HIN, by omega, HOK, rfl, rfl, ⟨by simp, rfl⟩, I0⟩
  case round =>
    obtain ⟨u, bb, oo, c1, S, A2, m2, c2, rfl, _, HIU, hc1, HUO, HRS, HRE, HRM, SH⟩ := hrel
    clear I0 HIN
    have HM2 : Hid (m2 = S.length) := HRM.out.2
    cases u with
    | leaf k v =>
      have HSO : Hid (Ky k ∧ Ky v) := HUO.out
      have HkI := hid (u8s_info HSO.out.1); have HvI := hid (u8s_info HSO.out.2); have HkK := hid (kc_info HSO.out.1); have HvK := hid (kc_info HSO.out.2)
      have HOK1 : Hid (({ qZ with e := 1, k := k } : QP).Ok) := ⟨fun s hs => by simp [qZ] at hs, HSO.out.1, ky_zero, ky_zero, ky_zero, ky_zero⟩
      have HOK2 : Hid (({ qZ with e := 1, k := k, v := v } : QP).Ok) := ⟨fun s hs => by simp [qZ] at hs, HSO.out.1, HSO.out.2, ky_zero, ky_zero, ky_zero⟩
      have HEND : Hid (∀ (w' : World), ZhF w K Z g10 (.slice A2 m2 c2) ({ qZ with e := 1, k := k, v := v }) S w' → ZhA w (shP K t) (.returned (.agg (prc (.slice A2 m2 c2) ({ qZ with e := 1, k := k, v := v })).toArray)) (w'.setRow (w.heap.size + 1) (prc (.slice A2 m2 c2) ({ qZ with e := 1, k := k, v := v })).toArray)) := fun w' h' => zshow_end (u := .leaf k v) h' rfl (by rw [HRS.out, show shS K (.leaf k v) = [] from rfl, List.append_nil]) (by rw [HRE.out]; rfl) HM2.out (by have := HRM.out.1; have := HSM.out; omega)
      have R0 : Hid (w.rangeAt bb oo (kvc (k, v))) := by
        have := inp_at (k := 0) HIU.out (q := (k, v)) rfl
        rwa [Nat.zero_mul, Nat.add_zero] at this
      rw [show (Tr.leaf k v).list.length = 1 from rfl]
      have c1' : wr.cell? ⟨g10, 1, none⟩ = some (.int .i64 (qZ).e) := SH.out.pb.cell 1
      have f1' : wr.frozen? ⟨g10, 1, none⟩ = false := SH.out.pb.frozen 1
      have SH5 := hid (SH.out.int HG10.out 1)
      clear hc1
      go_upto_region 18 with (fail)
      clear c1' f1' SH
      generalize wr.setCell ⟨g10, 1, none⟩ (.int .i64 1) = w5 at SH5 ⊢
      have TH1 : Hid (w5.there g10 2 (kc k).size) := zpr_there SH5.out.pb (qZe_ok 1) (by rw [kc_size HSO.out.1]; decide)
      have RK : Hid (w5.rangeAt bb oo (u8s k)) := rng_bel SH5.out.bl (pair_1 R0.out HSO.out)
      go_upto_region 19 with (first
        | (refine load_at rfl 24 (.tmp 73) rfl bb oo rfl (u8s k) _ RK.out Tryd.underlying24 rfl HkI.out (kc k) rfl ?_)
        | (refine wpList_store_mid rfl 24 (.tmp 75) (.tmp 74) rfl g10 2 (kc k) rfl rfl TH1.out HkK.out (kc_one _) ?_))
      have SH6 := hid (SH5.out.mid (cells := kc k) HG10.out (pu_2 ky_zero HSO.out.1))
      clear SH5 RK TH1
      generalize w5.setCells g10 2 (kc k).toList = w6 at SH6 ⊢
      have TH1 : Hid (w6.there g10 34 (kc v).size) := zpr_there SH6.out.pb HOK1.out (by rw [kc_size HSO.out.2]; decide)
      have RK : Hid (w6.rangeAt bb (oo + 32) (u8s v)) := rng_bel SH6.out.bl (pair_2 R0.out HSO.out)
      go_upto_region 20 with (first
        | (refine load_at rfl 24 (.tmp 78) rfl bb (oo + 32) rfl (u8s v) _ RK.out Tryd.underlying24 rfl HvI.out (kc v) rfl ?_)
        | (refine wpList_store_mid rfl 24 (.tmp 80) (.tmp 79) rfl g10 34 (kc v) rfl rfl TH1.out HvK.out (kc_one _) ?_))
      have SHF := hid (SH6.out.mid (cells := kc v) HG10.out (pu_3 (q := { qZ with e := 1, k := k }) HSO.out.1 ky_zero HSO.out.2))
      clear SH6 RK TH1
      generalize w6.setCells g10 34 (kc v).toList = w10 at SHF ⊢
      have HIF := hid (zproof_info HOK2.out (.slice A2 m2 c2)); have HIF2 := hid (zproof_info2 HOK2.out (.slice A2 m2 c2))
      have HZS : Hid (Z.size = (prc (.slice A2 m2 c2) ({ qZ with e := 1, k := k, v := v })).toArray.size) := by show _ = _; rw [HZ.out, List.size_toArray, List.size_toArray, qZ_ok.len, HOK2.out.len]
      have PB := hid (SHF.out.pb.pr HOK2.out)
      go_wp2_with (first
        | (refine load_at rfl 72 (.tmp 5) rfl g10 0 rfl (prc (.slice A2 m2 c2) ({ qZ with e := 1, k := k, v := v })) _ PB.out.all Tryd.underlying72 rfl HIF.out (prc (.slice A2 m2 c2) ({ qZ with e := 1, k := k, v := v })).toArray rfl ?_)
        | (refine wpList_store_row rfl 72 (.tmp 4) (.tmp 81) rfl (w.heap.size + 1) (prc (.slice A2 m2 c2) ({ qZ with e := 1, k := k, v := v })).toArray rfl rfl 72 Z SHF.out.rs HIF2.out HZS.out pr_one ?_))
      try go_frame
      try rw [Exit.noGoto_ret]
      refine bodyPost_ret (results_cell_row Tryd.results30 _ _ (w.heap.size + 1) 72 (prc (.slice A2 m2 c2) ({ qZ with e := 1, k := k, v := v })).toArray (0, 0) _ rfl (SHF.out.rs.row _) Tryd.underlying72 rfl HIF2.out) rfl ?_
      exact HEND.out _ SHF.out
    | inner n0 b l r =>
      have HB : Hid (Ky b) := tr_bits HUO.out
      have hn0 : n0 < 256 := HUO.out.2.2.1
      obtain ⟨e1, e2, e3⟩ := inner_parts HUO.out
      have hlen2 : (Tr.inner n0 b l r).list.length = l.list.length + r.list.length := by show (l.list ++ r.list).length = _; rw [List.length_append]
      have p1 := l.pos; have p2 := r.pos
      obtain ⟨m, hm⟩ : ∃ m, l.list.length + r.list.length = m + 1 := ⟨_, (Nat.succ_pred_eq_of_pos (by omega)).symm⟩
      have hinL : InP w (some ⟨bb, oo, none⟩) (m + 1) (l.list ++ r.list) := by have := HIU.out; rw [hlen2, hm] at this; exact this
      have hS9 : S.length + (m + 1) ≤ t.list.length := by have := HRM.out.1; rw [hlen2, hm] at this; exact this
      have HLN : Hid (l.list.length + r.list.length = m + 1 ∧ m + 1 ≤ c1 ∧ m + 1 ≤ 1000 ∧ 0 < l.list.length ∧ 0 < r.list.length) := ⟨hm, by rw [hlen2] at hc1; omega, by have := HSM.out; omega, p1, p2⟩
      have CO0 := fun w1 (hb : Below w.heap.size w w1) => yOver_any (c0 := c1) (P := l.list ++ r.list) w1 (hinL.below hb) (by have := HLN.out; omega)
      have CP0 := fun w1 (hb : Below w.heap.size w w1) => yPart_any (c0 := c1) (P := l.list ++ r.list) w1 (hinL.below hb) HB.out hn0
      rw [show ovN (l.list ++ r.list) = n0 from e1, show ovB (l.list ++ r.list) = b from e2] at CO0
      rw [show prt (l.list ++ r.list) n0 = l.list.length from e3] at CP0
      have CO := hid CO0; have CPt := hid CP0
      have HpI := hid (pcl_info n0 HB.out); have HpK := hid (pc_info n0 HB.out)
      have HZP : Hid (X.size = (pc n0 b).size) := by show _ = _; rw [HX.out, pc_size _ zk_ky, pc_size _ HB.out]
      have CH := hid (fun w => rHolds_any n0 b K HB.out HK.out w)
      rw [hld_nat hn0] at CH
      have CBt := hid (fun w => rBit_any K HK.out n0 w)
      rw [show bitI K (n0 : Int) = bit K n0 from bitI_in K n0 hn0] at CBt
      have HIL := hid (fun x (hb : Below w.heap.size w x) => hinL.below hb)
      have HIL1 : Hid (InP w (some ⟨bb, oo, none⟩) l.list.length l.list) := hinL.take
      have HIR1 : Hid (InP w (some ⟨bb, oo + l.list.length * 64, none⟩) r.list.length r.list) := hinL.drop
      have CHL := hid (fun x (hb : Below w.heap.size w x) => yRoot_tree l HUO.out.1 x (some ⟨bb, oo, none⟩) c1 (HIL1.out.below hb) (by have := HLN.out; omega) (by have := HLN.out; omega))
      have CHR := hid (fun x (hb : Below w.heap.size w x) => yRoot_tree r HUO.out.2.1 x (some ⟨bb, oo + l.list.length * 64, none⟩) (c1 - l.list.length) (HIR1.out.below hb) (by have := HLN.out; omega) (by have := HLN.out; omega))
      have HOKl : Hid l.ok := HUO.out.1
      have HOKr : Hid r.ok := HUO.out.2.1
      have HS1000 : Hid (S.length ≤ 1000) := by have h8 := HSM.out; show _ ≤ _; omega
      rw [show (Tr.inner n0 b l r).list.length = m + 1 by rw [hlen2, hm]]
      have hm1 : (1 : Int) < (m : Int) + 1 := by omega
      clear hinL e1 e2 e3 hlen2 hm CO0 CP0 hc1 p1 p2
      go_upto_region 4 with (first
        | (go_at_call 64; refine (CO.out _ SH.out.bl).mono ?_; clear CO; rintro e w1 ⟨rfl, hb⟩; have SH1 := hid (SH.out.below hb); clear hb)
        | (refine wpList_store_row rfl 55 (.tmp 6) (.tmp 12) rfl w1.heap.size (pc n0 b) rfl rfl 55 X (Blk.new w1 55 X) HpK.out HZP.out (pc_one _ _) ?_))
      have BX : Hid (Below w1.heap.size w1 ((w1.alloc (.cells X 55)).setRow w1.heap.size (pc n0 b))) := below_setRow ((Below.refl _ _).alloc (Nat.le_refl _) _) (Nat.le_refl _) _
      have NB0 : Hid (Blk ((w1.alloc (.cells X 55)).setRow w1.heap.size (pc n0 b)) w1.heap.size 55 (pc n0 b)) := (Blk.new w1 55 X).row _
      have SH2 := hid (SH1.out.below BX.out)
      clear BX SH1 SH
      generalize (w1.alloc (.cells X 55)).setRow w1.heap.size (pc n0 b) = w2 at NB0 SH2 ⊢
      generalize w1.heap.size = g6 at NB0 ⊢
      go_upto_region 5 with (first
        | (refine load_at rfl 55 (.tmp 6) rfl g6 0 rfl (.int .i64 n0 :: u8s b) _ (blk_pre NB0.out) Tryd.underlying55 rfl HpI.out (pc n0 b) rfl ?_)
        | (go_at_call 65; refine (CPt.out _ SH2.out.bl).mono ?_; clear CPt; rintro e w3 ⟨rfl, hb⟩; have SH3 := hid (SH2.out.below hb); have NB3 := hid (NB0.out.below hb); clear hb))
      clear SH2 NB0
      by_cases hc : cut K n0 = b
      · rw [decide_eq_true hc] at CH
        go_upto_region 11 with (first
          | (refine load_at rfl 55 (.tmp 6) rfl g6 0 rfl (.int .i64 n0 :: u8s b) _ (blk_pre NB3.out) Tryd.underlying55 rfl HpI.out (pc n0 b) rfl ?_)
          | (refine load_at rfl 24 (.tmp 3) rfl w.heap.size 0 rfl (u8s K) _ (blk_key SH3.out.kk) Tryd.underlying24 rfl HKI.out (kc K) rfl ?_)
          | (go_at_call 66; refine (CH.out _).mono ?_; clear CH; rintro e w4 ⟨rfl, hb⟩; have SH4 := hid (SH3.out.below hb); have NB4 := hid (NB3.out.below hb); clear hb))
        clear SH3 NB3
        have c60 : w4.cell? ⟨g6, 0, none⟩ = some (.int .i64 (n0 : Nat)) := NB4.out.cell 0
        have ARMB := CBt
        by_cases hbit : bit K n0 = 0
        · have HS9 : Hid (shS K (.inner n0 b l r) = ⟨n0, b, r.hash hLf hIn⟩ :: shS K l ∧ shE K (.inner n0 b l r) = shE K l) := ⟨by show (if cut K n0 = b then _ else _) = _; rw [if_pos hc, if_pos hbit], by show (if cut K n0 = b then _ else _) = _; rw [if_pos hc, if_pos hbit]⟩
          rw [hbit] at CBt
          have CHO := CHR
          obtain ⟨s, hsq⟩ : ∃ s : QS, s = ⟨n0, b, r.hash hLf hIn⟩ := ⟨_, rfl⟩
          have SOK : Hid s.Ok := by show s.Ok; rw [hsq]; exact ⟨HB.out, hash_ky2 r⟩
          have HSB0 := zst_built SOK.out
          rw [hsq] at HSB0
          have HSB : Hid (Tryd.prog.built 130 [(0, .agg (pc n0 b)), (1, .agg (kc (r.hash hLf hIn)))] = some (stc s).toArray) := by show _ = _; rw [hsq]; exact HSB0
          have HRS2 : Hid (shS K t = (S ++ [s]) ++ shS K l) := by show _ = _; rw [HRS.out, HS9.out.1, ← hsq]; simp
          have HRE2 : Hid (shE K t = shE K l) := by show _ = _; rw [HRE.out, HS9.out.2]
          have HRM2 : Hid ((S ++ [s]).length + l.list.length ≤ t.list.length ∧ m2 + 1 = (S ++ [s]).length) := by
            show _ ∧ _
            rw [List.length_append, List.length_singleton]; have := HLN.out; have := HM2.out; omega
          generalize r.hash hLf hIn = ho at CHO HSB
          clear HSB0 HS9 hsq hbit hc HRS HRE
          go_upto_region 12 with (first
            | (refine load_at rfl 24 (.tmp 3) rfl w.heap.size 0 rfl (u8s K) _ (blk_key SH4.out.kk) Tryd.underlying24 rfl HKI.out (kc K) rfl ?_)
            | (go_at_call 67; refine (CBt.out _).mono ?_; clear CBt; rintro e w5 ⟨rfl, hb⟩; have SH := hid (SH4.out.below hb); have NB5 := hid (NB4.out.below hb); clear hb))
          have GN0 : Hid (ZhN w g6 n0 b w5) := ⟨NB5.out, SH.out.bl⟩
          clear SH4 NB4 NB5 c60 ARMB
          refine wp_region_held (S := fun w' => Hid (ZhN w g6 n0 b w')) (by kernel_rfl) ?_
          change wpAnyH _ _ _ _ _ _ _ _ w5.drew
          have Gx0 : Hid (ZhN w g6 n0 b w5.drew) := GN0.out.below (Below.refl _ _).drew
          have SH' : Hid (ZhF w K Z g10 (.slice A2 m2 c2) qZ S w5.drew) := SH.out.below (Below.refl _ _).drew
          clear SH
          have SH := SH'
          clear SH'
          generalize w5.drew = x0 at Gx0 SH ⊢
          have SHx0 := SH
          clear SH
          refine tk 0 (some 39) ?_
          refine tkv 2 (some 41) (.agg (pc n0 b)) rfl (yieldsIf_load_mid (cs := (.int .i64 n0 :: u8s b)) (by rfl) _ _ rfl _ _ rfl _ (fun w' hSw => (blk_pre hSw.out.nb)) Tryd.underlying55 rfl HpI.out) ?_
          refine tk 3 (some 42) ?_
          refine tk 4 (some 43) ?_
          refine wpAnyH_take (i := 5) (oi := { dst := some 44, op := _, type := _, pos := _, after := _, guard := _ }) (v := .slice (some ⟨bb, oo + l.list.length * 64, none⟩) r.list.length (c1 - l.list.length)) rfl (by kernel_rfl) (by kernel_rfl) (by kernel_rfl) (fun _ _ _ h => h) (Or.inl ⟨by kernel_rfl, ?_⟩) Gx0 ?_
          · (intro w hSw; go_simp; rw [if_pos (by have := HLN.out; omega), if_neg (by have := HLN.out; omega), show m + 1 - l.list.length = r.list.length by have := HLN.out; omega])
          try simp only [Act.put, List.setIfInBounds_toArray, List.set_cons_zero, List.set_cons_succ]
          refine wpAnyH_ready (rs := [1, 6]) (by kernel_rfl) (by simp) ?_
          refine (AllReadyH.cons (o := { dst := some 40, op := _, type := _, pos := _, after := _, guard := _ }) rfl (fun Qc hQc => ?_) (AllReadyH.cons (o := { dst := some 45, op := _, type := _, pos := _, after := _, guard := _ }) rfl (fun Qc hQc => ?_) AllReadyH.nil))
          ·
            have c0 : x0.cell? ⟨g10, 0, none⟩ = some (.slice A2 m2 c2) := SHx0.out.pb.cell 0
            go_simp
            refine hQc.out _ _ Gx0 (fun hHeld => ?_)
            clear hQc Qc c0
            try simp only [Act.put, List.setIfInBounds_toArray, List.set_cons_zero, List.set_cons_succ]
            refine rd1 6 (some 45) (fun Qc hQc => ?_)
            go_simp
            go_at_call 16
            refine (CHO.out x0 Gx0.out.bl).mono ?_
            rintro e x1 ⟨rfl, hb⟩
            have SHx1 := hid (SHx0.out.below hb)
            have Gx1 := hid (Gx0.out.below hb)
            clear hb
            go_wp2_with fail
            refine hQc.out _ _ Gx1 (fun hHeld => ?_)
            clear hQc Qc hHeld
            try simp only [Act.put, List.setIfInBounds_toArray, List.set_cons_zero, List.set_cons_succ]
            refine wpAnyH_take (i := 7) (oi := { dst := some 46, op := _, type := _, pos := _, after := _, guard := _ }) (v := .agg (stc s).toArray) rfl (by kernel_rfl) (by kernel_rfl) (by kernel_rfl) (fun _ _ _ h => h) (Or.inl ⟨by kernel_rfl, ?_⟩) Gx1 ?_
            · (intro w hSw; have hbw := HSB.out; exact exec_build 130 #[(0, .tmp 41), (1, .tmp 45)] rfl _ (by simp only [List.map_toArray, List.map_cons, List.map_nil, Act.eval]; exact hbw) _)
            try simp only [Act.put, List.setIfInBounds_toArray, List.set_cons_zero, List.set_cons_succ]
            refine rd1 8 (some 47) (fun Qc hQc => ?_)
            rw [if_pos (by rfl)]
            refine wp_step_one stTy_z (.tmp 46) rfl s SOK.out rfl ?_
            have NB : Hid (Blk (x1.alloc (.cells (stc s).toArray 130)) x1.heap.size 130 (stc s).toArray) := Blk.new x1 130 (stc s).toArray
            have hb : Below x1.heap.size x1 (x1.alloc (.cells (stc s).toArray 130)) := (Below.refl _ _).alloc (Nat.le_refl _) _
            have SHx2 := hid (SHx1.out.below hb)
            have Gx2 := hid (Gx1.out.below hb)
            clear hb
            refine hQc.out _ _ Gx2 (fun hHeld => ?_)
            clear hQc Qc hHeld
            generalize x1.heap.size = g5 at NB ⊢
            generalize x1.alloc (.cells (stc s).toArray 130) = x2 at NB SHx2 Gx2 ⊢
            try simp only [Act.put, List.setIfInBounds_toArray, List.set_cons_zero, List.set_cons_succ]
            refine rd1 9 (some 48) (fun Qc hQc => ?_)
            rw [if_pos (by rfl)]
            refine wp_append_st stTy_z (.tmp 40) (.tmp 47) rfl w.heap.size S (.slice A2 m2 c2) rfl SHx2.out.st g5 s rfl NB.out SOK.out HS1000.out SHx2.out.bl.size ?_
            intro v9 x3 ht9 hbt9
            have HT9 := hid ht9; have HB9 := hid hbt9
            have PSH := hid (fun v' => SHx2.out.push (v' := v') (y := x3) HG10.out (s := s))
            obtain ⟨A9, c9, hv9⟩ := HT9.out.len
            rw [List.length_append, List.length_singleton, ← HM2.out] at hv9
            subst hv9
            have PS9 := hid (PSH.out _ HT9.out HB9.out)
            have Gx3 : Hid (ZhN w g6 n0 b x3) := ⟨HB9.out.blk Gx2.out.nb (fun e => by obtain ⟨_, C, h2⟩ := SHx2.out.st.ty _ e; exact Gx2.out.nb.ne h2 (by decide) rfl), SHx2.out.bl.trans (HB9.out.bel SHx2.out.bl.size (fun k hk => (SHx2.out.st.ty k hk).1))⟩
            clear ht9 hbt9 PSH
            refine hQc.out _ _ Gx3 (fun hHeld => ?_)
            clear hQc Qc hHeld
            try simp only [Act.put, List.setIfInBounds_toArray, List.set_cons_zero, List.set_cons_succ]
            refine tk 10 (some 49) ?_
            refine rd1 11 none (fun Qc hQc => ?_)
            have c1 : x3.cell? ⟨g10, 0, none⟩ = some (.slice A2 m2 c2) := PS9.out.1.cell 0
            have f1 : x3.frozen? ⟨g10, 0, none⟩ = false := PS9.out.1.frozen 0
            go_simp
            clear c1 f1
            have TF := hid PS9.out.2
            have Gx4 : Hid (ZhN w g6 n0 b (x3.setCell ⟨g10, 0, none⟩ (Value.slice A9 (m2 + 1) c9))) := ⟨Gx3.out.nb.far (Gx3.out.nb.ne PS9.out.1 (by decide)) _, TF.out.bl⟩
            refine hQc.out _ _ Gx4 (fun hHeld => ?_)
            clear hQc Qc hHeld
            generalize x3.setCell ⟨g10, 0, none⟩ (Value.slice A9 (m2 + 1) c9) = x4 at TF Gx4 ⊢
            try simp only [Act.put, List.setIfInBounds_toArray, List.set_cons_zero, List.set_cons_succ]
            refine wpAnyH_done (by kernel_rfl) ?_ _
            try simp only [Act.put, List.setIfInBounds_toArray, List.set_cons_zero, List.set_cons_succ]
            have e0 : ¬ (c1 = 0) := by have := HLN.out; omega
            have e1 : l.list.length ≤ c1 := by have := HLN.out; omega
            have e2 : (l.list.length : Int) ≤ (c1 : Int) := by omega
            go_wp2
            go_roundw
            case rel => exact ⟨l, bb, oo, c1, S ++ [s], A9, m2 + 1, c9, rfl, trivial, HIL1, by have := HLN.out; omega, HOKl, HRS2, HRE2, HRM2, TF⟩
            case measure => simp [lenV]; have := HLN.out; omega
          ·
            go_simp
            go_at_call 16
            refine (CHO.out x0 Gx0.out.bl).mono ?_
            rintro e x5 ⟨rfl, hb⟩
            have SHx5 := hid (SHx0.out.below hb)
            have Gx5 := hid (Gx0.out.below hb)
            clear hb
            go_wp2_with fail
            refine hQc.out _ _ Gx5 (fun hHeld => ?_)
            clear hQc Qc hHeld
            try simp only [Act.put, List.setIfInBounds_toArray, List.set_cons_zero, List.set_cons_succ]
            refine wpAnyH_take (i := 7) (oi := { dst := some 46, op := _, type := _, pos := _, after := _, guard := _ }) (v := .agg (stc s).toArray) rfl (by kernel_rfl) (by kernel_rfl) (by kernel_rfl) (fun _ _ _ h => h) (Or.inl ⟨by kernel_rfl, ?_⟩) Gx5 ?_
            · (intro w hSw; have hbw := HSB.out; exact exec_build 130 #[(0, .tmp 41), (1, .tmp 45)] rfl _ (by simp only [List.map_toArray, List.map_cons, List.map_nil, Act.eval]; exact hbw) _)
            try simp only [Act.put, List.setIfInBounds_toArray, List.set_cons_zero, List.set_cons_succ]
            refine wpAnyH_ready (rs := [1, 8]) (by kernel_rfl) (by simp) ?_
            refine (AllReadyH.cons (o := { dst := some 40, op := _, type := _, pos := _, after := _, guard := _ }) rfl (fun Qc hQc => ?_) (AllReadyH.cons (o := { dst := some 47, op := _, type := _, pos := _, after := _, guard := _ }) rfl (fun Qc hQc => ?_) AllReadyH.nil))
            ·
              have c0 : x5.cell? ⟨g10, 0, none⟩ = some (.slice A2 m2 c2) := SHx5.out.pb.cell 0
              go_simp
              refine hQc.out _ _ Gx5 (fun hHeld => ?_)
              clear hQc Qc c0
              try simp only [Act.put, List.setIfInBounds_toArray, List.set_cons_zero, List.set_cons_succ]
              refine rd1 8 (some 47) (fun Qc hQc => ?_)
              rw [if_pos (by rfl)]
              refine wp_step_one stTy_z (.tmp 46) rfl s SOK.out rfl ?_
              have NB : Hid (Blk (x5.alloc (.cells (stc s).toArray 130)) x5.heap.size 130 (stc s).toArray) := Blk.new x5 130 (stc s).toArray
              have hb : Below x5.heap.size x5 (x5.alloc (.cells (stc s).toArray 130)) := (Below.refl _ _).alloc (Nat.le_refl _) _
              have SHx6 := hid (SHx5.out.below hb)
              have Gx6 := hid (Gx5.out.below hb)
              clear hb
              refine hQc.out _ _ Gx6 (fun hHeld => ?_)
              clear hQc Qc hHeld
              generalize x5.heap.size = g5 at NB ⊢
              generalize x5.alloc (.cells (stc s).toArray 130) = x6 at NB SHx6 Gx6 ⊢
              try simp only [Act.put, List.setIfInBounds_toArray, List.set_cons_zero, List.set_cons_succ]
              refine rd1 9 (some 48) (fun Qc hQc => ?_)
              rw [if_pos (by rfl)]
              refine wp_append_st stTy_z (.tmp 40) (.tmp 47) rfl w.heap.size S (.slice A2 m2 c2) rfl SHx6.out.st g5 s rfl NB.out SOK.out HS1000.out SHx6.out.bl.size ?_
              intro v9 x7 ht9 hbt9
              have HT9 := hid ht9; have HB9 := hid hbt9
              have PSH := hid (fun v' => SHx6.out.push (v' := v') (y := x7) HG10.out (s := s))
              obtain ⟨A9, c9, hv9⟩ := HT9.out.len
              rw [List.length_append, List.length_singleton, ← HM2.out] at hv9
              subst hv9
              have PS9 := hid (PSH.out _ HT9.out HB9.out)
              have Gx7 : Hid (ZhN w g6 n0 b x7) := ⟨HB9.out.blk Gx6.out.nb (fun e => by obtain ⟨_, C, h2⟩ := SHx6.out.st.ty _ e; exact Gx6.out.nb.ne h2 (by decide) rfl), SHx6.out.bl.trans (HB9.out.bel SHx6.out.bl.size (fun k hk => (SHx6.out.st.ty k hk).1))⟩
              clear ht9 hbt9 PSH
              refine hQc.out _ _ Gx7 (fun hHeld => ?_)
              clear hQc Qc hHeld
              try simp only [Act.put, List.setIfInBounds_toArray, List.set_cons_zero, List.set_cons_succ]
              refine tk 10 (some 49) ?_
              refine rd1 11 none (fun Qc hQc => ?_)
              have c1 : x7.cell? ⟨g10, 0, none⟩ = some (.slice A2 m2 c2) := PS9.out.1.cell 0
              have f1 : x7.frozen? ⟨g10, 0, none⟩ = false := PS9.out.1.frozen 0
              go_simp
              clear c1 f1
              have TF := hid PS9.out.2
              have Gx8 : Hid (ZhN w g6 n0 b (x7.setCell ⟨g10, 0, none⟩ (Value.slice A9 (m2 + 1) c9))) := ⟨Gx7.out.nb.far (Gx7.out.nb.ne PS9.out.1 (by decide)) _, TF.out.bl⟩
              refine hQc.out _ _ Gx8 (fun hHeld => ?_)
              clear hQc Qc hHeld
              generalize x7.setCell ⟨g10, 0, none⟩ (Value.slice A9 (m2 + 1) c9) = x8 at TF Gx8 ⊢
              try simp only [Act.put, List.setIfInBounds_toArray, List.set_cons_zero, List.set_cons_succ]
              refine wpAnyH_done (by kernel_rfl) ?_ _
              try simp only [Act.put, List.setIfInBounds_toArray, List.set_cons_zero, List.set_cons_succ]
              have e0 : ¬ (c1 = 0) := by have := HLN.out; omega
              have e1 : l.list.length ≤ c1 := by have := HLN.out; omega
              have e2 : (l.list.length : Int) ≤ (c1 : Int) := by omega
              go_wp2
              go_roundw
              case rel => exact ⟨l, bb, oo, c1, S ++ [s], A9, m2 + 1, c9, rfl, trivial, HIL1, by have := HLN.out; omega, HOKl, HRS2, HRE2, HRM2, TF⟩
              case measure => simp [lenV]; have := HLN.out; omega
            ·
              rw [if_pos (by rfl)]
              refine wp_step_one stTy_z (.tmp 46) rfl s SOK.out rfl ?_
              have NB : Hid (Blk (x5.alloc (.cells (stc s).toArray 130)) x5.heap.size 130 (stc s).toArray) := Blk.new x5 130 (stc s).toArray
              have hb : Below x5.heap.size x5 (x5.alloc (.cells (stc s).toArray 130)) := (Below.refl _ _).alloc (Nat.le_refl _) _
              have SHx9 := hid (SHx5.out.below hb)
              have Gx9 := hid (Gx5.out.below hb)
              clear hb
              refine hQc.out _ _ Gx9 (fun hHeld => ?_)
              clear hQc Qc hHeld
              generalize x5.heap.size = g5 at NB ⊢
              generalize x5.alloc (.cells (stc s).toArray 130) = x9 at NB SHx9 Gx9 ⊢
              try simp only [Act.put, List.setIfInBounds_toArray, List.set_cons_zero, List.set_cons_succ]
              refine rd1 1 (some 40) (fun Qc hQc => ?_)
              have c0 : x9.cell? ⟨g10, 0, none⟩ = some (.slice A2 m2 c2) := SHx9.out.pb.cell 0
              go_simp
              refine hQc.out _ _ Gx9 (fun hHeld => ?_)
              clear hQc Qc c0
              try simp only [Act.put, List.setIfInBounds_toArray, List.set_cons_zero, List.set_cons_succ]
              refine rd1 9 (some 48) (fun Qc hQc => ?_)
              rw [if_pos (by rfl)]
              refine wp_append_st stTy_z (.tmp 40) (.tmp 47) rfl w.heap.size S (.slice A2 m2 c2) rfl SHx9.out.st g5 s rfl NB.out SOK.out HS1000.out SHx9.out.bl.size ?_
              intro v9 x10 ht9 hbt9
              have HT9 := hid ht9; have HB9 := hid hbt9
              have PSH := hid (fun v' => SHx9.out.push (v' := v') (y := x10) HG10.out (s := s))
              obtain ⟨A9, c9, hv9⟩ := HT9.out.len
              rw [List.length_append, List.length_singleton, ← HM2.out] at hv9
              subst hv9
              have PS9 := hid (PSH.out _ HT9.out HB9.out)
              have Gx10 : Hid (ZhN w g6 n0 b x10) := ⟨HB9.out.blk Gx9.out.nb (fun e => by obtain ⟨_, C, h2⟩ := SHx9.out.st.ty _ e; exact Gx9.out.nb.ne h2 (by decide) rfl), SHx9.out.bl.trans (HB9.out.bel SHx9.out.bl.size (fun k hk => (SHx9.out.st.ty k hk).1))⟩
              clear ht9 hbt9 PSH
              refine hQc.out _ _ Gx10 (fun hHeld => ?_)
              clear hQc Qc hHeld
              try simp only [Act.put, List.setIfInBounds_toArray, List.set_cons_zero, List.set_cons_succ]
              refine tk 10 (some 49) ?_
              refine rd1 11 none (fun Qc hQc => ?_)
              have c1 : x10.cell? ⟨g10, 0, none⟩ = some (.slice A2 m2 c2) := PS9.out.1.cell 0
              have f1 : x10.frozen? ⟨g10, 0, none⟩ = false := PS9.out.1.frozen 0
              go_simp
              clear c1 f1
              have TF := hid PS9.out.2
              have Gx11 : Hid (ZhN w g6 n0 b (x10.setCell ⟨g10, 0, none⟩ (Value.slice A9 (m2 + 1) c9))) := ⟨Gx10.out.nb.far (Gx10.out.nb.ne PS9.out.1 (by decide)) _, TF.out.bl⟩
              refine hQc.out _ _ Gx11 (fun hHeld => ?_)
              clear hQc Qc hHeld
              generalize x10.setCell ⟨g10, 0, none⟩ (Value.slice A9 (m2 + 1) c9) = x11 at TF Gx11 ⊢
              try simp only [Act.put, List.setIfInBounds_toArray, List.set_cons_zero, List.set_cons_succ]
              refine wpAnyH_done (by kernel_rfl) ?_ _
              try simp only [Act.put, List.setIfInBounds_toArray, List.set_cons_zero, List.set_cons_succ]
              have e0 : ¬ (c1 = 0) := by have := HLN.out; omega
              have e1 : l.list.length ≤ c1 := by have := HLN.out; omega
              have e2 : (l.list.length : Int) ≤ (c1 : Int) := by omega
              go_wp2
              go_roundw
              case rel => exact ⟨l, bb, oo, c1, S ++ [s], A9, m2 + 1, c9, rfl, trivial, HIL1, by have := HLN.out; omega, HOKl, HRS2, HRE2, HRM2, TF⟩
              case measure => simp [lenV]; have := HLN.out; omega
        · have hbit1 : bit K n0 = 1 := (bit01 K n0).resolve_left hbit
          have HS9 : Hid (shS K (.inner n0 b l r) = ⟨n0, b, l.hash hLf hIn⟩ :: shS K r ∧ shE K (.inner n0 b l r) = shE K r) := ⟨by show (if cut K n0 = b then _ else _) = _; rw [if_pos hc, if_neg hbit], by show (if cut K n0 = b then _ else _) = _; rw [if_pos hc, if_neg hbit]⟩
          rw [hbit1] at CBt
          have CHO := CHL
          obtain ⟨s, hsq⟩ : ∃ s : QS, s = ⟨n0, b, l.hash hLf hIn⟩ := ⟨_, rfl⟩
          have SOK : Hid s.Ok := by show s.Ok; rw [hsq]; exact ⟨HB.out, hash_ky2 l⟩
          have HSB0 := zst_built SOK.out
          rw [hsq] at HSB0
          have HSB : Hid (Tryd.prog.built 130 [(0, .agg (pc n0 b)), (1, .agg (kc (l.hash hLf hIn)))] = some (stc s).toArray) := by show _ = _; rw [hsq]; exact HSB0
          have HRS2 : Hid (shS K t = (S ++ [s]) ++ shS K r) := by show _ = _; rw [HRS.out, HS9.out.1, ← hsq]; simp
          have HRE2 : Hid (shE K t = shE K r) := by show _ = _; rw [HRE.out, HS9.out.2]
          have HRM2 : Hid ((S ++ [s]).length + r.list.length ≤ t.list.length ∧ m2 + 1 = (S ++ [s]).length) := by
            show _ ∧ _
            rw [List.length_append, List.length_singleton]; have := HLN.out; have := HM2.out; omega
          generalize l.hash hLf hIn = ho at CHO HSB
          clear HSB0 HS9 hsq hbit hbit1 hc HRS HRE
          go_upto_region 14 with (first
            | (refine load_at rfl 24 (.tmp 3) rfl w.heap.size 0 rfl (u8s K) _ (blk_key SH4.out.kk) Tryd.underlying24 rfl HKI.out (kc K) rfl ?_)
            | (go_at_call 67; refine (CBt.out _).mono ?_; clear CBt; rintro e w5 ⟨rfl, hb⟩; have SH := hid (SH4.out.below hb); have NB5 := hid (NB4.out.below hb); clear hb))
          have GN0 : Hid (ZhN w g6 n0 b w5) := ⟨NB5.out, SH.out.bl⟩
          clear SH4 NB4 NB5 c60 ARMB
          refine wp_region_held (S := fun w' => Hid (ZhN w g6 n0 b w')) (by kernel_rfl) ?_
          change wpAnyH _ _ _ _ _ _ _ _ w5.drew
          have Gx0 : Hid (ZhN w g6 n0 b w5.drew) := GN0.out.below (Below.refl _ _).drew
          have SH' : Hid (ZhF w K Z g10 (.slice A2 m2 c2) qZ S w5.drew) := SH.out.below (Below.refl _ _).drew
          clear SH
          have SH := SH'
          clear SH'
          generalize w5.drew = x0 at Gx0 SH ⊢
          have SHx0 := SH
          clear SH
          refine tk 0 (some 53) ?_
          refine tkv 2 (some 55) (.agg (pc n0 b)) rfl (yieldsIf_load_mid (cs := (.int .i64 n0 :: u8s b)) (by rfl) _ _ rfl _ _ rfl _ (fun w' hSw => (blk_pre hSw.out.nb)) Tryd.underlying55 rfl HpI.out) ?_
          refine tk 3 (some 56) ?_
          refine tk 4 (some 57) ?_
          refine wpAnyH_take (i := 5) (oi := { dst := some 58, op := _, type := _, pos := _, after := _, guard := _ }) (v := .slice (some ⟨bb, oo, none⟩) l.list.length c1) rfl (by kernel_rfl) (by kernel_rfl) (by kernel_rfl) (fun _ _ _ h => h) (Or.inl ⟨by kernel_rfl, ?_⟩) Gx0 ?_
          · (intro w hSw; go_simp; intro hlt9; have := HLN.out; omega)
          try simp only [Act.put, List.setIfInBounds_toArray, List.set_cons_zero, List.set_cons_succ]
          refine wpAnyH_ready (rs := [1, 6]) (by kernel_rfl) (by simp) ?_
          refine (AllReadyH.cons (o := { dst := some 54, op := _, type := _, pos := _, after := _, guard := _ }) rfl (fun Qc hQc => ?_) (AllReadyH.cons (o := { dst := some 59, op := _, type := _, pos := _, after := _, guard := _ }) rfl (fun Qc hQc => ?_) AllReadyH.nil))
          ·
            have c0 : x0.cell? ⟨g10, 0, none⟩ = some (.slice A2 m2 c2) := SHx0.out.pb.cell 0
            go_simp
            refine hQc.out _ _ Gx0 (fun hHeld => ?_)
            clear hQc Qc c0
            try simp only [Act.put, List.setIfInBounds_toArray, List.set_cons_zero, List.set_cons_succ]
            refine rd1 6 (some 59) (fun Qc hQc => ?_)
            go_simp
            go_at_call 16
            refine (CHO.out x0 Gx0.out.bl).mono ?_
            rintro e x1 ⟨rfl, hb⟩
            have SHx1 := hid (SHx0.out.below hb)
            have Gx1 := hid (Gx0.out.below hb)
            clear hb
            go_wp2_with fail
            refine hQc.out _ _ Gx1 (fun hHeld => ?_)
            clear hQc Qc hHeld
            try simp only [Act.put, List.setIfInBounds_toArray, List.set_cons_zero, List.set_cons_succ]
            refine wpAnyH_take (i := 7) (oi := { dst := some 60, op := _, type := _, pos := _, after := _, guard := _ }) (v := .agg (stc s).toArray) rfl (by kernel_rfl) (by kernel_rfl) (by kernel_rfl) (fun _ _ _ h => h) (Or.inl ⟨by kernel_rfl, ?_⟩) Gx1 ?_
            · (intro w hSw; have hbw := HSB.out; exact exec_build 130 #[(0, .tmp 55), (1, .tmp 59)] rfl _ (by simp only [List.map_toArray, List.map_cons, List.map_nil, Act.eval]; exact hbw) _)
            try simp only [Act.put, List.setIfInBounds_toArray, List.set_cons_zero, List.set_cons_succ]
            refine rd1 8 (some 61) (fun Qc hQc => ?_)
            rw [if_pos (by rfl)]
            refine wp_step_one stTy_z (.tmp 60) rfl s SOK.out rfl ?_
            have NB : Hid (Blk (x1.alloc (.cells (stc s).toArray 130)) x1.heap.size 130 (stc s).toArray) := Blk.new x1 130 (stc s).toArray
            have hb : Below x1.heap.size x1 (x1.alloc (.cells (stc s).toArray 130)) := (Below.refl _ _).alloc (Nat.le_refl _) _
            have SHx2 := hid (SHx1.out.below hb)
            have Gx2 := hid (Gx1.out.below hb)
            clear hb
            refine hQc.out _ _ Gx2 (fun hHeld => ?_)
            clear hQc Qc hHeld
            generalize x1.heap.size = g5 at NB ⊢
            generalize x1.alloc (.cells (stc s).toArray 130) = x2 at NB SHx2 Gx2 ⊢
            try simp only [Act.put, List.setIfInBounds_toArray, List.set_cons_zero, List.set_cons_succ]
            refine rd1 9 (some 62) (fun Qc hQc => ?_)
            rw [if_pos (by rfl)]
            refine wp_append_st stTy_z (.tmp 54) (.tmp 61) rfl w.heap.size S (.slice A2 m2 c2) rfl SHx2.out.st g5 s rfl NB.out SOK.out HS1000.out SHx2.out.bl.size ?_
            intro v9 x3 ht9 hbt9
            have HT9 := hid ht9; have HB9 := hid hbt9
            have PSH := hid (fun v' => SHx2.out.push (v' := v') (y := x3) HG10.out (s := s))
            obtain ⟨A9, c9, hv9⟩ := HT9.out.len
            rw [List.length_append, List.length_singleton, ← HM2.out] at hv9
            subst hv9
            have PS9 := hid (PSH.out _ HT9.out HB9.out)
            have Gx3 : Hid (ZhN w g6 n0 b x3) := ⟨HB9.out.blk Gx2.out.nb (fun e => by obtain ⟨_, C, h2⟩ := SHx2.out.st.ty _ e; exact Gx2.out.nb.ne h2 (by decide) rfl), SHx2.out.bl.trans (HB9.out.bel SHx2.out.bl.size (fun k hk => (SHx2.out.st.ty k hk).1))⟩
            clear ht9 hbt9 PSH
            refine hQc.out _ _ Gx3 (fun hHeld => ?_)
            clear hQc Qc hHeld
            try simp only [Act.put, List.setIfInBounds_toArray, List.set_cons_zero, List.set_cons_succ]
            refine tk 10 (some 63) ?_
            refine rd1 11 none (fun Qc hQc => ?_)
            have c1 : x3.cell? ⟨g10, 0, none⟩ = some (.slice A2 m2 c2) := PS9.out.1.cell 0
            have f1 : x3.frozen? ⟨g10, 0, none⟩ = false := PS9.out.1.frozen 0
            go_simp
            clear c1 f1
            have TF := hid PS9.out.2
            have Gx4 : Hid (ZhN w g6 n0 b (x3.setCell ⟨g10, 0, none⟩ (Value.slice A9 (m2 + 1) c9))) := ⟨Gx3.out.nb.far (Gx3.out.nb.ne PS9.out.1 (by decide)) _, TF.out.bl⟩
            refine hQc.out _ _ Gx4 (fun hHeld => ?_)
            clear hQc Qc hHeld
            generalize x3.setCell ⟨g10, 0, none⟩ (Value.slice A9 (m2 + 1) c9) = x4 at TF Gx4 ⊢
            try simp only [Act.put, List.setIfInBounds_toArray, List.set_cons_zero, List.set_cons_succ]
            refine wpAnyH_done (by kernel_rfl) ?_ _
            try simp only [Act.put, List.setIfInBounds_toArray, List.set_cons_zero, List.set_cons_succ]
            have e1 : ¬ (c1 = l.list.length) := by have := HLN.out; omega
            have e2 : m + 1 - l.list.length = r.list.length := by have := HLN.out; omega
            have e3 : l.list.length ≤ m + 1 := by have := HLN.out; omega
            have e4 : (l.list.length : Int) ≤ (m : Int) + 1 := by omega
            go_wp2
            go_roundw
            case rel => exact ⟨r, bb, oo + l.list.length * 64, c1 - l.list.length, S ++ [s], A9, m2 + 1, c9, rfl, trivial, HIR1, by have := HLN.out; omega, HOKr, HRS2, HRE2, HRM2, TF⟩
            case measure => simp [lenV]; have := HLN.out; omega
          ·
            go_simp
            go_at_call 16
            refine (CHO.out x0 Gx0.out.bl).mono ?_
            rintro e x5 ⟨rfl, hb⟩
            have SHx5 := hid (SHx0.out.below hb)
            have Gx5 := hid (Gx0.out.below hb)
            clear hb
            go_wp2_with fail
            refine hQc.out _ _ Gx5 (fun hHeld => ?_)
            clear hQc Qc hHeld
            try simp only [Act.put, List.setIfInBounds_toArray, List.set_cons_zero, List.set_cons_succ]
            refine wpAnyH_take (i := 7) (oi := { dst := some 60, op := _, type := _, pos := _, after := _, guard := _ }) (v := .agg (stc s).toArray) rfl (by kernel_rfl) (by kernel_rfl) (by kernel_rfl) (fun _ _ _ h => h) (Or.inl ⟨by kernel_rfl, ?_⟩) Gx5 ?_
            · (intro w hSw; have hbw := HSB.out; exact exec_build 130 #[(0, .tmp 55), (1, .tmp 59)] rfl _ (by simp only [List.map_toArray, List.map_cons, List.map_nil, Act.eval]; exact hbw) _)
            try simp only [Act.put, List.setIfInBounds_toArray, List.set_cons_zero, List.set_cons_succ]
            refine wpAnyH_ready (rs := [1, 8]) (by kernel_rfl) (by simp) ?_
            refine (AllReadyH.cons (o := { dst := some 54, op := _, type := _, pos := _, after := _, guard := _ }) rfl (fun Qc hQc => ?_) (AllReadyH.cons (o := { dst := some 61, op := _, type := _, pos := _, after := _, guard := _ }) rfl (fun Qc hQc => ?_) AllReadyH.nil))
            ·
              have c0 : x5.cell? ⟨g10, 0, none⟩ = some (.slice A2 m2 c2) := SHx5.out.pb.cell 0
              go_simp
              refine hQc.out _ _ Gx5 (fun hHeld => ?_)
              clear hQc Qc c0
              try simp only [Act.put, List.setIfInBounds_toArray, List.set_cons_zero, List.set_cons_succ]
              refine rd1 8 (some 61) (fun Qc hQc => ?_)
              rw [if_pos (by rfl)]
              refine wp_step_one stTy_z (.tmp 60) rfl s SOK.out rfl ?_
              have NB : Hid (Blk (x5.alloc (.cells (stc s).toArray 130)) x5.heap.size 130 (stc s).toArray) := Blk.new x5 130 (stc s).toArray
              have hb : Below x5.heap.size x5 (x5.alloc (.cells (stc s).toArray 130)) := (Below.refl _ _).alloc (Nat.le_refl _) _
              have SHx6 := hid (SHx5.out.below hb)
              have Gx6 := hid (Gx5.out.below hb)
              clear hb
              refine hQc.out _ _ Gx6 (fun hHeld => ?_)
              clear hQc Qc hHeld
              generalize x5.heap.size = g5 at NB ⊢
              generalize x5.alloc (.cells (stc s).toArray 130) = x6 at NB SHx6 Gx6 ⊢
              try simp only [Act.put, List.setIfInBounds_toArray, List.set_cons_zero, List.set_cons_succ]
              refine rd1 9 (some 62) (fun Qc hQc => ?_)
              rw [if_pos (by rfl)]
              refine wp_append_st stTy_z (.tmp 54) (.tmp 61) rfl w.heap.size S (.slice A2 m2 c2) rfl SHx6.out.st g5 s rfl NB.out SOK.out HS1000.out SHx6.out.bl.size ?_
              intro v9 x7 ht9 hbt9
              have HT9 := hid ht9; have HB9 := hid hbt9
              have PSH := hid (fun v' => SHx6.out.push (v' := v') (y := x7) HG10.out (s := s))
              obtain ⟨A9, c9, hv9⟩ := HT9.out.len
              rw [List.length_append, List.length_singleton, ← HM2.out] at hv9
              subst hv9
              have PS9 := hid (PSH.out _ HT9.out HB9.out)
              have Gx7 : Hid (ZhN w g6 n0 b x7) := ⟨HB9.out.blk Gx6.out.nb (fun e => by obtain ⟨_, C, h2⟩ := SHx6.out.st.ty _ e; exact Gx6.out.nb.ne h2 (by decide) rfl), SHx6.out.bl.trans (HB9.out.bel SHx6.out.bl.size (fun k hk => (SHx6.out.st.ty k hk).1))⟩
              clear ht9 hbt9 PSH
              refine hQc.out _ _ Gx7 (fun hHeld => ?_)
              clear hQc Qc hHeld
              try simp only [Act.put, List.setIfInBounds_toArray, List.set_cons_zero, List.set_cons_succ]
              refine tk 10 (some 63) ?_
              refine rd1 11 none (fun Qc hQc => ?_)
              have c1 : x7.cell? ⟨g10, 0, none⟩ = some (.slice A2 m2 c2) := PS9.out.1.cell 0
              have f1 : x7.frozen? ⟨g10, 0, none⟩ = false := PS9.out.1.frozen 0
              go_simp
              clear c1 f1
              have TF := hid PS9.out.2
              have Gx8 : Hid (ZhN w g6 n0 b (x7.setCell ⟨g10, 0, none⟩ (Value.slice A9 (m2 + 1) c9))) := ⟨Gx7.out.nb.far (Gx7.out.nb.ne PS9.out.1 (by decide)) _, TF.out.bl⟩
              refine hQc.out _ _ Gx8 (fun hHeld => ?_)
              clear hQc Qc hHeld
              generalize x7.setCell ⟨g10, 0, none⟩ (Value.slice A9 (m2 + 1) c9) = x8 at TF Gx8 ⊢
              try simp only [Act.put, List.setIfInBounds_toArray, List.set_cons_zero, List.set_cons_succ]
              refine wpAnyH_done (by kernel_rfl) ?_ _
              try simp only [Act.put, List.setIfInBounds_toArray, List.set_cons_zero, List.set_cons_succ]
              have e1 : ¬ (c1 = l.list.length) := by have := HLN.out; omega
              have e2 : m + 1 - l.list.length = r.list.length := by have := HLN.out; omega
              have e3 : l.list.length ≤ m + 1 := by have := HLN.out; omega
              have e4 : (l.list.length : Int) ≤ (m : Int) + 1 := by omega
              go_wp2
              go_roundw
              case rel => exact ⟨r, bb, oo + l.list.length * 64, c1 - l.list.length, S ++ [s], A9, m2 + 1, c9, rfl, trivial, HIR1, by have := HLN.out; omega, HOKr, HRS2, HRE2, HRM2, TF⟩
              case measure => simp [lenV]; have := HLN.out; omega
            ·
              rw [if_pos (by rfl)]
              refine wp_step_one stTy_z (.tmp 60) rfl s SOK.out rfl ?_
              have NB : Hid (Blk (x5.alloc (.cells (stc s).toArray 130)) x5.heap.size 130 (stc s).toArray) := Blk.new x5 130 (stc s).toArray
              have hb : Below x5.heap.size x5 (x5.alloc (.cells (stc s).toArray 130)) := (Below.refl _ _).alloc (Nat.le_refl _) _
              have SHx9 := hid (SHx5.out.below hb)
              have Gx9 := hid (Gx5.out.below hb)
              clear hb
              refine hQc.out _ _ Gx9 (fun hHeld => ?_)
              clear hQc Qc hHeld
              generalize x5.heap.size = g5 at NB ⊢
              generalize x5.alloc (.cells (stc s).toArray 130) = x9 at NB SHx9 Gx9 ⊢
              try simp only [Act.put, List.setIfInBounds_toArray, List.set_cons_zero, List.set_cons_succ]
              refine rd1 1 (some 54) (fun Qc hQc => ?_)
              have c0 : x9.cell? ⟨g10, 0, none⟩ = some (.slice A2 m2 c2) := SHx9.out.pb.cell 0
              go_simp
              refine hQc.out _ _ Gx9 (fun hHeld => ?_)
              clear hQc Qc c0
              try simp only [Act.put, List.setIfInBounds_toArray, List.set_cons_zero, List.set_cons_succ]
              refine rd1 9 (some 62) (fun Qc hQc => ?_)
              rw [if_pos (by rfl)]
              refine wp_append_st stTy_z (.tmp 54) (.tmp 61) rfl w.heap.size S (.slice A2 m2 c2) rfl SHx9.out.st g5 s rfl NB.out SOK.out HS1000.out SHx9.out.bl.size ?_
              intro v9 x10 ht9 hbt9
              have HT9 := hid ht9; have HB9 := hid hbt9
              have PSH := hid (fun v' => SHx9.out.push (v' := v') (y := x10) HG10.out (s := s))
              obtain ⟨A9, c9, hv9⟩ := HT9.out.len
              rw [List.length_append, List.length_singleton, ← HM2.out] at hv9
              subst hv9
              have PS9 := hid (PSH.out _ HT9.out HB9.out)
              have Gx10 : Hid (ZhN w g6 n0 b x10) := ⟨HB9.out.blk Gx9.out.nb (fun e => by obtain ⟨_, C, h2⟩ := SHx9.out.st.ty _ e; exact Gx9.out.nb.ne h2 (by decide) rfl), SHx9.out.bl.trans (HB9.out.bel SHx9.out.bl.size (fun k hk => (SHx9.out.st.ty k hk).1))⟩
              clear ht9 hbt9 PSH
              refine hQc.out _ _ Gx10 (fun hHeld => ?_)
              clear hQc Qc hHeld
              try simp only [Act.put, List.setIfInBounds_toArray, List.set_cons_zero, List.set_cons_succ]
              refine tk 10 (some 63) ?_
              refine rd1 11 none (fun Qc hQc => ?_)
              have c1 : x10.cell? ⟨g10, 0, none⟩ = some (.slice A2 m2 c2) := PS9.out.1.cell 0
              have f1 : x10.frozen? ⟨g10, 0, none⟩ = false := PS9.out.1.frozen 0
              go_simp
              clear c1 f1
              have TF := hid PS9.out.2
              have Gx11 : Hid (ZhN w g6 n0 b (x10.setCell ⟨g10, 0, none⟩ (Value.slice A9 (m2 + 1) c9))) := ⟨Gx10.out.nb.far (Gx10.out.nb.ne PS9.out.1 (by decide)) _, TF.out.bl⟩
              refine hQc.out _ _ Gx11 (fun hHeld => ?_)
              clear hQc Qc hHeld
              generalize x10.setCell ⟨g10, 0, none⟩ (Value.slice A9 (m2 + 1) c9) = x11 at TF Gx11 ⊢
              try simp only [Act.put, List.setIfInBounds_toArray, List.set_cons_zero, List.set_cons_succ]
              refine wpAnyH_done (by kernel_rfl) ?_ _
              try simp only [Act.put, List.setIfInBounds_toArray, List.set_cons_zero, List.set_cons_succ]
              have e1 : ¬ (c1 = l.list.length) := by have := HLN.out; omega
              have e2 : m + 1 - l.list.length = r.list.length := by have := HLN.out; omega
              have e3 : l.list.length ≤ m + 1 := by have := HLN.out; omega
              have e4 : (l.list.length : Int) ≤ (m : Int) + 1 := by omega
              go_wp2
              go_roundw
              case rel => exact ⟨r, bb, oo + l.list.length * 64, c1 - l.list.length, S ++ [s], A9, m2 + 1, c9, rfl, trivial, HIR1, by have := HLN.out; omega, HOKr, HRS2, HRE2, HRM2, TF⟩
              case measure => simp [lenV]; have := HLN.out; omega
      · rw [decide_eq_false hc] at CH
        obtain ⟨hl, hhl⟩ : ∃ hl, hl = l.hash hLf hIn := ⟨_, rfl⟩
        obtain ⟨hr, hhr⟩ : ∃ hr, hr = r.hash hLf hIn := ⟨_, rfl⟩
        have HKl : Hid (Ky hl) := by show Ky hl; rw [hhl]; exact hash_ky2 l
        have HKr : Hid (Ky hr) := by show Ky hr; rw [hhr]; exact hash_ky2 r
        rw [← hhl] at CHL; rw [← hhr] at CHR
        have HlK := hid (kc_info HKl.out); have HrK := hid (kc_info HKr.out)
        have HOK1 : Hid (({ qZ with e := 2, n := (n0 : Int), b := b } : QP).Ok) := ⟨fun s hs => by simp [qZ] at hs, ky_zero, ky_zero, HB.out, ky_zero, ky_zero⟩
        have HOK2 : Hid (({ qZ with e := 2, n := (n0 : Int), b := b, l := hl } : QP).Ok) := ⟨fun s hs => by simp [qZ] at hs, ky_zero, ky_zero, HB.out, HKl.out, ky_zero⟩
        have HOK3 : Hid (({ qZ with e := 2, n := (n0 : Int), b := b, l := hl, r := hr } : QP).Ok) := ⟨fun s hs => by simp [qZ] at hs, ky_zero, ky_zero, HB.out, HKl.out, HKr.out⟩
        have HEND : Hid (∀ (w' : World), ZhF w K Z g10 (.slice A2 m2 c2) ({ qZ with e := 2, n := (n0 : Int), b := b, l := hl, r := hr }) S w' → ZhA w (shP K t) (.returned (.agg (prc (.slice A2 m2 c2) ({ qZ with e := 2, n := (n0 : Int), b := b, l := hl, r := hr })).toArray)) (w'.setRow (w.heap.size + 1) (prc (.slice A2 m2 c2) ({ qZ with e := 2, n := (n0 : Int), b := b, l := hl, r := hr })).toArray)) := fun w' h' => zshow_end (u := .inner n0 b l r) h' (by rw [hhl, hhr]; rfl) (by rw [HRS.out, show shS K (.inner n0 b l r) = [] from if_neg hc, List.append_nil]) (by rw [HRE.out]; exact if_neg hc) HM2.out HS1000.out
        clear hhl hhr hc
        go_upto_region 6 with (first
          | (refine load_at rfl 55 (.tmp 6) rfl g6 0 rfl (.int .i64 n0 :: u8s b) _ (blk_pre NB3.out) Tryd.underlying55 rfl HpI.out (pc n0 b) rfl ?_)
          | (refine load_at rfl 24 (.tmp 3) rfl w.heap.size 0 rfl (u8s K) _ (blk_key SH3.out.kk) Tryd.underlying24 rfl HKI.out (kc K) rfl ?_)
          | (go_at_call 66; refine (CH.out _).mono ?_; clear CH; rintro e w4 ⟨rfl, hb⟩; have SH4 := hid (SH3.out.below hb); have NB4 := hid (NB3.out.below hb); clear hb))
        clear SH3 NB3
        have c1' : w4.cell? ⟨g10, 1, none⟩ = some (.int .i64 (qZ).e) := SH4.out.pb.cell 1
        have f1' : w4.frozen? ⟨g10, 1, none⟩ = false := SH4.out.pb.frozen 1
        have NB5 : Hid (Blk (w4.setCell ⟨g10, 1, none⟩ (.int .i64 2)) g6 55 (pc n0 b)) := NB4.out.far (NB4.out.ne SH4.out.pb (by decide)) _
        have SH5 := hid (SH4.out.int HG10.out 2)
        go_upto_region 7 with (fail)
        clear c1' f1' SH4 NB4
        generalize w4.setCell ⟨g10, 1, none⟩ (.int .i64 2) = w5 at NB5 SH5 ⊢
        have HpO : Hid ((pc n0 b).size = 33) := pc_size _ HB.out
        have TH1 : Hid (w5.there g10 66 (pc n0 b).size) := zpr_there SH5.out.pb (qZe_ok 2) (by rw [HpO.out]; decide)
        go_upto_region 8 with (first
          | (refine load_at rfl 55 (.tmp 6) rfl g6 0 rfl (.int .i64 n0 :: u8s b) _ (blk_pre NB5.out) Tryd.underlying55 rfl HpI.out (pc n0 b) rfl ?_)
          | (refine wpList_store_mid rfl 55 (.tmp 22) (.tmp 21) rfl g10 66 (pc n0 b) rfl rfl TH1.out HpK.out (pc_one _ _) ?_))
        have SH6 := hid (SH5.out.mid (cells := pc n0 b) HG10.out (pu_4 (q := { qZ with e := 2 }) ky_zero ky_zero ky_zero HB.out))
        clear SH5 NB5 TH1
        generalize w5.setCells g10 66 (pc n0 b).toList = w6 at SH6 ⊢
        have e0 : ¬ (c1 = 0) := by have := HLN.out; omega
        have e1 : l.list.length ≤ c1 := by have := HLN.out; omega
        have e2 : (l.list.length : Int) ≤ (c1 : Int) := by omega
        go_upto_region 9 with (first
          | (go_at_call 16; refine (CHL.out _ SH6.out.bl).mono ?_; clear CHL; rintro e w7 ⟨rfl, hb⟩; have SH7 := hid (SH6.out.below hb); have TH2 : Hid (w7.there g10 99 (kc hl).size) := (zpr_there SH7.out.pb HOK1.out (by rw [kc_size HKl.out]; decide)); clear hb)
          | (refine wpList_store_mid rfl 24 (.tmp 27) (.tmp 26) rfl g10 99 (kc hl) rfl rfl TH2.out HlK.out (kc_one _) ?_))
        have SH8 := hid (SH7.out.mid (cells := kc hl) HG10.out (pu_5 (q := { qZ with e := 2, n := (n0 : Int), b := b }) ky_zero ky_zero HB.out ky_zero HKl.out))
        clear SH6 SH7 TH2 e0 e1 e2
        generalize w7.setCells g10 99 (kc hl).toList = w8 at SH8 ⊢
        have e1 : ¬ (c1 = l.list.length) := by have := HLN.out; omega
        have e2 : m + 1 - l.list.length = r.list.length := by have := HLN.out; omega
        have e3 : l.list.length ≤ m + 1 := by have := HLN.out; omega
        have e4 : (l.list.length : Int) ≤ (m : Int) + 1 := by omega
        go_upto_region 10 with (first
          | (go_at_call 16; refine (CHR.out _ SH8.out.bl).mono ?_; clear CHR; rintro e w9 ⟨rfl, hb⟩; have SH9 := hid (SH8.out.below hb); have TH3 : Hid (w9.there g10 131 (kc hr).size) := (zpr_there SH9.out.pb HOK2.out (by rw [kc_size HKr.out]; decide)); clear hb)
          | (refine wpList_store_mid rfl 24 (.tmp 32) (.tmp 31) rfl g10 131 (kc hr) rfl rfl TH3.out HrK.out (kc_one _) ?_))
        have SHF := hid (SH9.out.mid (cells := kc hr) HG10.out (pu_6 (q := { qZ with e := 2, n := (n0 : Int), b := b, l := hl }) ky_zero ky_zero HB.out HKl.out ky_zero HKr.out))
        clear SH8 SH9 TH3 e1 e2 e3 e4
        generalize w9.setCells g10 131 (kc hr).toList = w10 at SHF ⊢
        have HIF := hid (zproof_info HOK3.out (.slice A2 m2 c2)); have HIF2 := hid (zproof_info2 HOK3.out (.slice A2 m2 c2))
        have HZS : Hid (Z.size = (prc (.slice A2 m2 c2) ({ qZ with e := 2, n := (n0 : Int), b := b, l := hl, r := hr })).toArray.size) := by show _ = _; rw [HZ.out, List.size_toArray, List.size_toArray, qZ_ok.len, HOK3.out.len]
        have PB := hid (SHF.out.pb.pr HOK3.out)
        go_wp2_with (first
          | (refine load_at rfl 72 (.tmp 5) rfl g10 0 rfl (prc (.slice A2 m2 c2) ({ qZ with e := 2, n := (n0 : Int), b := b, l := hl, r := hr })) _ PB.out.all Tryd.underlying72 rfl HIF.out (prc (.slice A2 m2 c2) ({ qZ with e := 2, n := (n0 : Int), b := b, l := hl, r := hr })).toArray rfl ?_)
          | (refine wpList_store_row rfl 72 (.tmp 4) (.tmp 33) rfl (w.heap.size + 1) (prc (.slice A2 m2 c2) ({ qZ with e := 2, n := (n0 : Int), b := b, l := hl, r := hr })).toArray rfl rfl 72 Z SHF.out.rs HIF2.out HZS.out pr_one ?_))
        try go_frame
        try rw [Exit.noGoto_ret]
        refine bodyPost_ret (results_cell_row Tryd.results30 _ _ (w.heap.size + 1) 72 (prc (.slice A2 m2 c2) ({ qZ with e := 2, n := (n0 : Int), b := b, l := hl, r := hr })).toArray (0, 0) _ rfl (SHF.out.rs.row _) Tryd.underlying72 rfl HIF2.out) rfl ?_
        exact HEND.out _ SHF.out
end Go.Proofs.YtbhgchbacadgaaaDoor
/-
  What is proved here: what the document shows, and what the code shows, of whatever tree, in the same words.
-/
namespace Go.Proofs.YtbhgchbacadgaaaDoor
open Go.ChangeShapes Go.WideShapes Go.ChangeAt Go.RowKit
set_option linter.unusedVariables false
set_option linter.unusedSimpArgs false
set_option maxRecDepth 20000

def showP (K : List Int) : Option Tr → QP
  | none => qZ
  | some t => shP K t
def TOk : Option Tr → Prop
  | none => True
  | some t => t.ok
theorem tat_ok {N : List Nd} {ti : Int} {T : Option Tr} (h : TAt N ti T) : TOk T := by
  cases T with
  | none => trivial
  | some t => obtain ⟨k, _, _, h⟩ := h; exact h
theorem showP_ok {K : List Int} {T : Option Tr} (h : TOk T) : (showP K T).Ok := by
  cases T with
  | none => exact qZ_ok
  | some t => exact shP_ok h
theorem showP_len {K : List Int} {T : Option Tr} : (showP K T).ss.length ≤ (lstO T).length := by
  cases T with
  | none => exact Nat.le_refl _
  | some t =>
    have hl := shS_len (K := K) (t := t)
    show (shP K t).ss.length ≤ t.list.length
    rw [show (shP K t).ss = shS K t from endP_ss _ _]; omega
theorem chk_showP {K : List Int} {T : Option Tr} (h : TOk T) : chkB K (rtL (lstO T)) (showP K T) = true ∧ shwO K (showP K T) = getL (lstO T) K := by
  cases T with
  | none =>
    refine ⟨?_, if_neg (fun h => by have h1 : (0 : Int) = 1 := h.1; exact absurd h1 (by decide))⟩
    have h1 := chkZ K
    unfold chkV at h1
    by_cases hc : chkB K emptyH qZ = true
    · exact hc
    · rw [if_neg hc] at h1
      injection h1 with h1
      have := congrArg (fun a => a[2]?) h1
      simp at this
  | some t =>
    have hok : t.ok := h
    refine ⟨?_, shw_shP hok⟩
    rw [show rtL (lstO (some t)) = t.hash hLf hIn from root_tree emptyH hLf hIn t hok _ (Nat.le_refl _)]
    have h9 : chkB K (t.hash hLf hIn) (shP K t) = true := by
      unfold chkB
      rw [lead_shP hok, top_shP hok, decide_eq_true rfl]; rfl
    exact h9
section
variable {wr : World} {f g b c : Nat} {N : List Nd} {A : Option Addr} {tv : Value} {ti : Int} {T : Option Tr} {K : List Int}
theorem tree_show (h : Fo wr f g b N A c tv) (ht : TAt N ti T) (hs : szO T ≤ 100) (hK : Ky K) (htb : Tab wr) : Calls Tryd.prog 27 #[.pointer (some ⟨f, 0, none⟩), .int .i64 ti, .agg (kc K)] wr (ShA wr (showP K T)) := by
  cases T with
  | none =>
    obtain rfl : ti = -1 := ht
    refine (qShow_none htb (tree_isT h)).mono (fun e w' h9 => ?_)
    exact ⟨none, 0, h9.1, InS.nil _ _, h9.2⟩
  | some t =>
    obtain ⟨k, rfl, hr, hok⟩ := ht
    have hsz : t.list.length ≤ 100 := hs
    exact qShow_tree h k t hr hok K hK (by omega) htb
end
set_option maxHeartbeats 4000000 in
theorem zShow_none {w : World} {A0 : Option Addr} {c0 : Nat} {K : List Int} (hK : Ky K) : Calls Tryd.prog 30 #[.slice A0 0 c0, .agg (kc K)] w (ZhA w qZ) := by
  obtain ⟨Z, HZ, hZ0, hZs⟩ := zero_zproof
  obtain ⟨hk1, hk2, hk3, hb0⟩ := three_blks w (kc K) Z Z 24 72 72
  have N10 : Hid (Blk (((w.alloc (.cells (kc K) 24)).alloc (.cells Z 72)).alloc (.cells Z 72)) (w.heap.size + 1 + 1) 72 (prc nilV qZ).toArray) := by
    have e : (prc nilV qZ).toArray = Z := HZ.out.symm
    rw [e]; exact hk3
  have RS := hid hk2
  have B0 := hid hb0
  clear hk1 hk2 hk3 hb0
  unfold ZhA
  go_enter Tryd.func30, Tryd.ntmps30
  go_wp2
  generalize ((w.alloc (.cells (kc K) 24)).alloc (.cells Z 72)).alloc (.cells Z 72) = wB at N10 RS B0 ⊢
  generalize w.heap.size + 1 + 1 = g10 at N10 ⊢
  go_loopw [0] (fun s0 wr => s0 = .slice A0 0 c0 ∧ wr = wB) (fun s0 _ => 0)
  case atStart => exact ⟨rfl, rfl⟩
  case round =>
    obtain ⟨rfl, rfl⟩ := hrel
    have HIF := hid (zproof_info qZ_ok nilV); have HIF2 := hid (zproof_info2 qZ_ok nilV)
    have HZS : Hid (Z.size = (prc nilV qZ).toArray.size) := by show _ = _; rw [HZ.out]
    have PB := hid (N10.out.pr qZ_ok)
    have HONE : Hid ((prc nilV qZ).toArray.all (·.oneCell') = true) := pr_one
    go_wp2_with (first
      | (refine load_at rfl 72 (.tmp 5) rfl g10 0 rfl (prc nilV qZ) _ PB.out.all Tryd.underlying72 rfl HIF.out (prc nilV qZ).toArray rfl ?_)
      | (refine wpList_store_row rfl 72 (.tmp 4) (.tmp 81) rfl (w.heap.size + 1) (prc nilV qZ).toArray rfl rfl 72 Z RS.out HIF2.out HZS.out HONE.out ?_))
    try go_frame
    try rw [Exit.noGoto_ret]
    refine bodyPost_ret (results_cell_row Tryd.results30 _ _ (w.heap.size + 1) 72 (prc nilV qZ).toArray (0, 0) _ rfl (RS.out.row _) Tryd.underlying72 rfl HIF2.out) rfl ?_
    exact ⟨none, 0, rfl, InS.nil _ _, below_setRow B0.out (by omega) _⟩
theorem zShow_any {w : World} {A0 : Option Addr} {n c0 : Nat} {T : Option Tr} {K : List Int} (hT : TOk T) (hin : InP w A0 n (lstO T)) (hc0 : n ≤ c0) (hK : Ky K) (hsm : n < 500) : Calls Tryd.prog 30 #[.slice A0 n c0, .agg (kc K)] w (ZhA w (showP K T)) := by
  cases T with
  | none =>
    obtain rfl : n = 0 := hin.1.symm
    exact zShow_none hK
  | some t => exact zShow_tree t hT hin hc0 K hK (by have h1 : t.list.length = n := hin.1; omega)
end Go.Proofs.YtbhgchbacadgaaaDoor
