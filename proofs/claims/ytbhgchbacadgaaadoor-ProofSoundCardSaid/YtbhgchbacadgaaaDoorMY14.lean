/-
  What is proved here: what is shown of a key in a tree that has something.
-/
import Derived.Test.YtbhgchbacadgaaaDoorMTk
import Derived.Test.YtbhgchbacadgaaaDoorMY13
import Derived.Deep.MidRow
import Derived.Deep.DeepCutAuto
import Derived.Test.YtbhgchbacadgaaaDoorMX19
import Derived.Test.YtbhgchbacadgaaaDoorMX21
set_option linter.unusedSimpArgs false
set_option linter.unusedVariables false
namespace Go.Proofs.YtbhgchbacadgaaaDoor
open Go.ChangeShapes Go.WideShapes Go.ChangeAt Go.RowKit
set_option linter.unusedVariables false
set_option linter.unusedSimpArgs false
set_option maxRecDepth 20000

/-! What a tree shows. -/
def shS (K : List Int) : Tr → List QS
  | .leaf _ _ => []
  | .inner n b l r => if cut K n = b then (if bit K n = 0 then ⟨n, b, r.hash hLf hIn⟩ :: shS K l else ⟨n, b, l.hash hLf hIn⟩ :: shS K r) else []
def shE (K : List Int) : Tr → Tr
  | .leaf k v => .leaf k v
  | .inner n b l r => if cut K n = b then (if bit K n = 0 then shE K l else shE K r) else .inner n b l r
def endP (S : List QS) : Tr → QP
  | .leaf k v => ⟨S, 1, k, v, 0, z32, z32, z32⟩
  | .inner n b l r => ⟨S, 2, z32, z32, n, b, l.hash hLf hIn, r.hash hLf hIn⟩
def shP (K : List Int) (t : Tr) : QP := endP (shS K t) (shE K t)
theorem hash_ky2 (t : Tr) : Ky (t.hash hLf hIn) := by cases t <;> exact sum_ky _
theorem tr_bits {n : Nat} {b : List Int} {l r : Tr} (h : (Tr.inner n b l r).ok) : Ky b := by
  obtain ⟨x, hx⟩ := l.one
  rw [← (h.2.2.2.1 x hx).1]; exact cut_ky _ _
theorem shS_ok {K : List Int} : ∀ {t : Tr}, t.ok → ∀ s ∈ shS K t, s.Ok
  | .leaf k v, _, s, hs => by simp [shS] at hs
  | .inner n b l r, h, s, hs => by
    unfold shS at hs
    by_cases hc : cut K n = b
    · rw [if_pos hc] at hs
      by_cases hb : bit K n = 0
      · rw [if_pos hb] at hs
        rcases List.mem_cons.1 hs with rfl | hs
        · exact ⟨tr_bits h, hash_ky2 r⟩
        · exact shS_ok h.1 s hs
      · rw [if_neg hb] at hs
        rcases List.mem_cons.1 hs with rfl | hs
        · exact ⟨tr_bits h, hash_ky2 l⟩
        · exact shS_ok h.2.1 s hs
    · rw [if_neg hc] at hs; simp at hs
theorem endP_ok {S : List QS} (hS : ∀ s ∈ S, s.Ok) : ∀ {t : Tr}, t.ok → (endP S t).Ok
  | .leaf k v, h => ⟨hS, h.1, h.2, ky_zero, ky_zero, ky_zero⟩
  | .inner n b l r, h => ⟨hS, ky_zero, ky_zero, tr_bits h, hash_ky2 l, hash_ky2 r⟩
theorem shE_ok {K : List Int} : ∀ {t : Tr}, t.ok → (shE K t).ok
  | .leaf k v, h => h
  | .inner n b l r, h => by
    unfold shE
    by_cases hc : cut K n = b
    · rw [if_pos hc]
      by_cases hb : bit K n = 0
      · rw [if_pos hb]; exact shE_ok h.1
      · rw [if_neg hb]; exact shE_ok h.2.1
    · rw [if_neg hc]; exact h
theorem shP_ok {K : List Int} {t : Tr} (h : t.ok) : (shP K t).Ok := endP_ok (shS_ok h) (shE_ok h)
theorem endP_ss (S : List QS) (t : Tr) : (endP S t).ss = S := by cases t <;> rfl
/-! A node's hash. -/
section
variable {w : World} {f g b0 : Nat} {N : List Nd} {A : Option Addr} {c : Nat} {tv : Value}
set_option maxHeartbeats 4000000 in
theorem qhash_at (h : Fo w f g b0 N A c tv) (i : Nat) (q : Nd) (hi : N[i]? = some q) : Calls Tryd.prog 62 #[.pointer (some ⟨f, 0, none⟩), .int .i64 i] w fun e w' => e = .returned (.agg (kc q.h)) ∧ Below w.heap.size w w' := by
  obtain ⟨Z, HZ, hZ0, hZs⟩ := zero_key
  obtain ⟨X, HX, hX0, hXs⟩ := zero_node
  have hq := h.ok q (List.mem_of_getElem? hi)
  have KZ : Hid (Blk (w.alloc (.cells Z 24)) w.heap.size 24 Z) := Blk.new w 24 Z
  have B0 : Hid (Below w.heap.size w (w.alloc (.cells Z 24))) := (Below.refl _ _).alloc (Nat.le_refl _) _
  have CN0 := xNode_at (h.below B0.out) i q hi
  unfold ndV at CN0
  have CN := hid CN0
  have HQ := hid hq
  have HNI := hid (node_info hq); have HN2 := hid (node_info2 hq)
  have HNZ : Hid (X.size = (nc q).toArray.size) := by show _ = _; rw [HX.out, List.size_toArray, List.size_toArray, ndZ_ok.nc, hq.nc]
  have HN3 : Hid ((nc q).toArray.all (·.oneCell') = true) := by
    show _ = _
    rw [Array.all_eq_true']
    intro v hv
    exact nc_one _ v (by simpa using hv)
  have HHI := hid (u8s_info hq.h); have HHK := hid (kc_info hq.h)
  have HHZ : Hid (Z.size = (kc q.h).size) := by show _ = _; rw [HZ.out, kc_size zk_ky, kc_size hq.h]
  clear CN0 h hi hq
  go_enter Tryd.func62, Tryd.ntmps62
  go_upto_region 2 with (first
    | (go_at_call 22; refine CN.out.mono ?_; rintro e w1 ⟨rfl, hb⟩; have KZ1 := hid (KZ.out.below hb); have B1 := hid (B0.out.trans (hb.mono B0.out.size)); clear hb)
    | (refine wpList_store_row rfl 57 (.tmp 5) (.tmp 11) rfl w1.heap.size (nc q).toArray rfl rfl 57 X (Blk.new w1 57 X) HN2.out HNZ.out HN3.out ?_))
  have BX : Hid (Below w1.heap.size w1 ((w1.alloc (.cells X 57)).setRow w1.heap.size (nc q).toArray)) := below_setRow ((Below.refl _ _).alloc (Nat.le_refl _) _) (Nat.le_refl _) _
  have NB : Hid (NodeAt ((w1.alloc (.cells X 57)).setRow w1.heap.size (nc q).toArray) w1.heap.size 0 q) := ((Blk.new w1 57 X).row _).node HQ.out
  have KZ2 := hid (KZ1.out.below BX.out); have B2 := hid (B1.out.trans (BX.out.mono B1.out.size))
  clear BX KZ1 B1 KZ B0 CN
  generalize (w1.alloc (.cells X 57)).setRow w1.heap.size (nc q).toArray = w2 at NB KZ2 B2 ⊢
  generalize w1.heap.size = g5 at NB ⊢
  have NH : Hid (w2.rangeAt g5 100 (u8s q.h)) := by have := NB.out.hash; rwa [Nat.zero_add] at this
  go_wp2_with (first
    | (refine load_at rfl 24 (.tmp 13) rfl g5 100 rfl (u8s q.h) _ NH.out Tryd.underlying24 rfl HHI.out (kc q.h) rfl ?_)
    | (refine wpList_store_row rfl 24 (.tmp 4) (.tmp 14) rfl w.heap.size (kc q.h) rfl rfl 24 Z KZ2.out HHK.out HHZ.out (kc_one _) ?_))
  try go_frame
  refine bodyPost_ret (results_cell_row Tryd.results62 _ _ w.heap.size 24 (kc q.h) (0, 0) _ rfl (KZ2.out.row _) Tryd.underlying24 rfl HHK.out) rfl ?_
  exact ⟨rfl, below_setRow B2.out (Nat.le_refl _) _⟩
end
theorem info_qstep : (Tryd.prog.info? 129).map (fun i => (i.zero, i.size, i.bytes)) = some (some (.agg (stc stZ).toArray), 65, 72) := by kernel_rfl
theorem st_places : ∃ fields, Tryd.prog.underlying 129 = some (.struct fields) ∧ fields.toList.mapM (fun f => (Tryd.prog.info? f.type).map fun i => (f.offset, i.size)) = some [(0, 33), (33, 32)] := ⟨_, Tryd.underlying129, by kernel_rfl⟩
theorem st_built {s : QS} (h : s.Ok) : Tryd.prog.built 129 [(0, .agg (pc s.n s.b)), (1, .agg (kc s.o))] = some (stc s).toArray := by
  obtain ⟨i0, hi, hz0, hz1, hz2⟩ := info_parts info_qstep
  obtain ⟨fields, hu, hpl⟩ := st_places
  unfold Program.built
  rw [hi, hu]
  simp only [hz0, hpl]
  have e3 : (Value.agg (stc stZ).toArray).cells = (stc stZ).toArray := rfl
  have sz : (stc stZ).toArray.size = 65 := rfl
  rw [e3, fill_step (v := .agg (pc s.n s.b)) (off := 0) (size := 33) rfl (pc_size s.n h.b) (by simp only [putRow_len, sz]; decide), fill_step (v := .agg (kc s.o)) (off := 33) (size := 32) rfl (kc_size h.o) (by simp only [putRow_len, sz]; decide), fill_end]
  have c1 : (Value.agg (pc s.n s.b)).cells.toList = .int .i64 s.n :: u8s s.b := rfl
  have c2 : (Value.agg (kc s.o)).cells.toList = u8s s.o := rfl
  rw [c1, c2]
  have p1 : putRow (stc stZ).toArray 0 (Value.int .i64 s.n :: u8s s.b) = ((Value.int .i64 s.n :: u8s s.b) ++ (u8s z32 ++ [])).toArray := by
    rw [List.append_nil]
    exact putRow_mid (A := []) (M := Value.int .i64 0 :: u8s z32) (M' := Value.int .i64 s.n :: u8s s.b) (C := u8s z32) rfl (by rw [List.length_cons, List.length_cons, u8s_length, u8s_length, h.b.len]; decide)
  have p2 : putRow ((Value.int .i64 s.n :: u8s s.b) ++ (u8s z32 ++ [])).toArray 33 (u8s s.o) = ((Value.int .i64 s.n :: u8s s.b) ++ (u8s s.o ++ [])).toArray := putRow_mid (A := Value.int .i64 s.n :: u8s s.b) (M := u8s z32) (by rw [List.length_cons, u8s_length, h.b.len]) (by rw [u8s_length, u8s_length, h.o.len, ky_zero.len])
  rw [p1, p2, List.append_nil]
  rfl
/-! What stands in Show. -/
structure ShF (w : World) (K : List Int) (Z : Array Value) (g10 : Nat) (V : Value) (q : QP) (S : List QS) (x : World) : Prop where
  kk : Blk x w.heap.size 24 (kc K)
  rs : Blk x (w.heap.size + 1) 66 Z
  pb : Blk x g10 66 (prc V q).toArray
  st : OwS w.heap.size 129 x V S
  bl : Below w.heap.size w x
section
variable {w x y : World} {K : List Int} {Z : Array Value} {g10 : Nat} {V : Value} {q q' : QP} {S : List QS}
theorem ShF.below (h : ShF w K Z g10 V q S x) (hb : Below x.heap.size x y) : ShF w K Z g10 V q S y := ⟨h.kk.below hb, h.rs.below hb, h.pb.below hb, h.st.below hb, h.bl.trans (hb.mono h.bl.size)⟩
theorem ShF.set (h : ShF w K Z g10 V q S x) (hg : w.heap.size + 1 < g10) (hB : Blk y g10 66 (prc V q').toArray) (hk : ∀ k t cs, k ≠ g10 → Blk x k t cs → Blk y k t cs) (hbl : Below w.heap.size w y) : ShF w K Z g10 V q' S y :=
  ⟨hk _ _ _ (by omega) h.kk, hk _ _ _ (by omega) h.rs, hB, h.st.keep (fun k e => by
    obtain ⟨_, C, h2⟩ := h.st.ty k e
    have h3 := hk k _ _ (fun e' => by subst e'; exact h.pb.ne h2 (by decide) rfl) h2
    exact (show y.heap[k]? = _ from h3).trans (show x.heap[k]? = _ from h2).symm), hbl⟩
theorem ShF.push {v' : Value} {s : QS} (h : ShF w K Z g10 V q S x) (hg : w.heap.size + 1 < g10) (ht : OwS w.heap.size 129 y v' (S ++ [s])) (hb : But V x y) : Blk y g10 66 (prc V q).toArray ∧ ShF w K Z g10 v' q (S ++ [s]) (y.setCell ⟨g10, 0, none⟩ v') := by
  have ne : ∀ {k t cs}, Blk x k t cs → t ≠ 129 → V.ownBlock ≠ some k := fun hk ht e => by
    obtain ⟨_, C, h2⟩ := h.st.ty _ e
    exact hk.ne h2 ht rfl
  have kb := hb.blk h.pb (ne h.pb (by decide))
  refine ⟨kb, (hb.blk h.kk (ne h.kk (by decide))).far (show w.heap.size ≠ g10 by omega) _, (hb.blk h.rs (ne h.rs (by decide))).far (show w.heap.size + 1 ≠ g10 by omega) _, kb.setd 0 v', ht.keep (fun k hk => Below.heap_setCell y _ _ k (fun e => ?_)), ?_⟩
  · have e' : k = g10 := e
    obtain ⟨_, C, h2⟩ := ht.ty k hk
    rw [e'] at h2
    exact kb.ne h2 (by decide) rfl
  · exact (h.bl.trans (hb.bel h.bl.size (fun k hk => (h.st.ty k hk).1))).setCell (p := ⟨g10, 0, none⟩) (by show _ ≤ g10; omega) _
theorem pr_there {g : Nat} (h : Blk x g 66 (prc V q).toArray) (hq : q.Ok) {o n : Nat} (ho : o + n ≤ 163) : x.there g o n := fun j hj => ⟨by rw [h.cell, List.getElem?_toArray, List.getElem?_eq_getElem (by rw [hq.len]; omega)]; rfl, h.frozen _⟩
/-- a field of the proof is stored -/
theorem ShF.mid {cells : Array Value} {o : Nat} (h : ShF w K Z g10 V q S x) (hg : w.heap.size + 1 < g10) (hp : putRow (prc V q).toArray o cells.toList = (prc V q').toArray) : ShF w K Z g10 V q' S (x.setCells g10 o cells.toList) :=
  h.set hg (by have := h.pb.putCells cells.toList o; rwa [hp] at this) (fun k t cs hk hb => hb.farCells hk _ _) (below_setCells (by omega) _ h.bl _)
theorem ShF.int (h : ShF w K Z g10 V q S x) (hg : w.heap.size + 1 < g10) (e : Int) : ShF w K Z g10 V { q with e := e } S (x.setCell ⟨g10, 1, none⟩ (.int .i64 e)) :=
  h.set hg (h.pb.setd 1 (.int .i64 e)) (fun k t cs hk hb => hb.far hk _) (h.bl.setCell (p := ⟨g10, 1, none⟩) (by show _ ≤ g10; omega) _)
end
/-- the node at hand stands -/
structure ShN (w : World) (g12 : Nat) (q : Nd) (x : World) : Prop where
  nb : Blk x g12 57 (nc q).toArray
  bl : Below w.heap.size w x
theorem ShN.below {w x y : World} {g12 : Nat} {q : Nd} (h : ShN w g12 q x) (hb : Below x.heap.size x y) : ShN w g12 q y := ⟨h.nb.below hb, h.bl.trans (hb.mono h.bl.size)⟩
/-- what Show answers -/
def ShA (w : World) (p : QP) (e : Ending) (w' : World) : Prop := ∃ A c, e = .returned (.tuple #[.agg (prc (.slice A p.ss.length c) p).toArray, .int .i64 0]) ∧ InS w' A p.ss.length p.ss ∧ Below w.heap.size w w'
theorem prc_end (V : Value) (S : List QS) (u : Tr) : prc V (endP [] u) = prc V (endP S u) := by cases u <;> rfl
theorem show_end {w w' : World} {K : List Int} {Z : Array Value} {g10 m2 c2 : Nat} {A2 : Option Addr} {q : QP} {t u : Tr} {S : List QS} (h : ShF w K Z g10 (.slice A2 m2 c2) q S w') (hq : q = endP [] u) (h1 : shS K t = S) (h2 : shE K t = u) (hm : m2 = S.length) (hl : S.length ≤ 1000) :
    ShA w (shP K t) (.returned (.tuple #[.agg (prc (.slice A2 m2 c2) q).toArray, .int .i64 0])) (w'.setRow (w.heap.size + 1) (prc (.slice A2 m2 c2) q).toArray) := by
  have e : shP K t = endP S u := by unfold shP; rw [h1, h2]
  have hin : InS w' A2 m2 S := by rw [hm] at h ⊢; exact h.st.in (by omega)
  rw [e]
  unfold ShA
  rw [endP_ss]
  refine ⟨A2, c2, by rw [hq, prc_end _ S, hm], ?_, below_setRow h.bl (by omega) _⟩
  rw [← hm]
  refine InS.keep hin (below_setRow (Below.refl 0 w') (Nat.zero_le (w.heap.size + 1)) _).size (fun _ a ha hl => ?_)
  refine setRow_other w' (w.heap.size + 1) a.block _ (fun e' => ?_)
  obtain ⟨_, C, h5⟩ := h.st.ty a.block (by rw [ha]; rfl)
  rw [e'] at h5
  exact h.rs.ne h5 (by decide) rfl
set_option maxHeartbeats 16000000 in
theorem qShow_tree {w : World} {f g b0 : Nat} {N : List Nd} {A : Option Addr} {c : Nat} {tv : Value} (h : Fo w f g b0 N A c tv) (i : Nat) (t : Tr) (hr : Rep hLf hIn N i t) (hok : t.ok) (K : List Int) (hK : Ky K) (hsm : t.list.length < 500) (ht : Tab w) :
    Calls Tryd.prog 27 #[.pointer (some ⟨f, 0, none⟩), .int .i64 i, .agg (kc K)] w (ShA w (shP K t)) := by
  obtain ⟨Z, HZ, hZ0, hZs⟩ := zero_qproof
  obtain ⟨Y, HY, hY0, hYs⟩ := zero_key
  obtain ⟨X, HX, hX0, hXs⟩ := zero_node
  obtain ⟨hk1, hk2, hb0⟩ := two_blks w (kc K) Z 24 66
  have FO := hid h; have HK := hid hK; have HT := hid ht
  have HKI := hid (u8s_info hK)
  obtain ⟨qr, hqr, hql, hqh⟩ := rep_node hr
  have CR0 := fun w1 (hb : Below w.heap.size w w1) => xRoot_at (h.below hb) i qr hqr
  unfold hV at CR0
  have CR := hid CR0
  have hqk := (h.ok qr (List.mem_of_getElem? hqr)).h
  have HHI := hid (kc_info hqk)
  have HHZ : Hid (Y.size = (kc qr.h).size) := by show _ = _; rw [HY.out, kc_size zk_ky, kc_size hqk]
  have SZ : Hid (((w.alloc (.cells (kc K) 24)).alloc (.cells Z 66)).heap.size = w.heap.size + 1 + 1) := by show _ = _; simp
  have K1 := hid hk1; have K2 := hid hk2; have B0 := hid hb0
  have HR := hid hr; have HOK := hid hok; have HSM := hid hsm
  clear CR0 hk1 hk2 hb0 h hK ht hqh hql hqk hr hok hsm hqr
  generalize qr.h = hR at CR HHI HHZ
  go_enter Tryd.func27, Tryd.ntmps27
  go_wp2
  go_step3
  go_wp2_with (first
    | (go_at_call 13; refine (CR.out _ B0.out).mono ?_; rintro e w1 ⟨rfl, hb⟩; have K11 := hid (K1.out.below hb); have K21 := hid (K2.out.below hb); have B1 := hid (B0.out.trans (hb.mono B0.out.size)); have S1 : Hid (w.heap.size + 1 < w1.heap.size) := (by have := hb.size; have := SZ.out; show _ < _; omega); clear hb)
    | (refine wpList_store_row rfl 24 (.tmp 8) (.tmp 20) rfl w1.heap.size (kc hR) rfl rfl 24 Y (Blk.new w1 24 Y) HHI.out HHZ.out (kc_one _) ?_))
  have BX : Hid (Below w1.heap.size w1 (((w1.alloc (.cells Y 24)).setRow w1.heap.size (kc hR)).alloc (.cells Z 66))) := (below_setRow ((Below.refl _ _).alloc (Nat.le_refl _) _) (Nat.le_refl _) _).alloc (by show w1.heap.size ≤ _; exact (below_setRow ((Below.refl w1.heap.size w1).alloc (Nat.le_refl _) (.cells Y 24)) (Nat.le_refl w1.heap.size) (kc hR)).size) _
  have hs10 : ((w1.alloc (.cells Y 24)).setRow w1.heap.size (kc hR)).heap.size = w1.heap.size + 1 := by simp [World.setRow, World.setCells]
  have N10 : Hid (Blk (((w1.alloc (.cells Y 24)).setRow w1.heap.size (kc hR)).alloc (.cells Z 66)) (w1.heap.size + 1) 66 (prc nilV qZ).toArray) := by
    have := Blk.new ((w1.alloc (.cells Y 24)).setRow w1.heap.size (kc hR)) 66 Z
    rw [hs10] at this
    have e : (prc nilV qZ).toArray = Z := HZ.out.symm
    rw [e]
    exact this
  have I0 : Hid (ShF w K Z (w1.heap.size + 1) nilV qZ [] (((w1.alloc (.cells Y 24)).setRow w1.heap.size (kc hR)).alloc (.cells Z 66))) := ⟨K11.out.below BX.out, K21.out.below BX.out, N10.out, OwS.nil _ _ _, B1.out.trans (BX.out.mono B1.out.size)⟩
  have HG10 : Hid (w.heap.size + 1 < w1.heap.size + 1) := by have := S1.out; show _ < _; omega
  clear BX hs10 N10 K11 K21 B1 S1 CR HHI HHZ SZ K1 K2 B0
  generalize ((w1.alloc (.cells Y 24)).setRow w1.heap.size (kc hR)).alloc (.cells Z 66) = wB at I0 ⊢
  generalize w1.heap.size + 1 = g10 at I0 HG10 ⊢
  go_step3
  go_wp2
  go_loopw [11] (fun e wr => ∃ (x : Nat) (s : Tr) (S : List QS) (A2 : Option Addr) (m2 c2 : Nat), e = .int .i64 (x : Nat) ∧ Hid (Rep hLf hIn N x s) ∧ Hid s.ok ∧ Hid (shS K t = S ++ shS K s ∧ shE K t = shE K s ∧ S.length + s.list.length ≤ t.list.length ∧ m2 = S.length) ∧ Hid (ShF w K Z g10 (.slice A2 m2 c2) qZ S wr)) (fun e _ => (intOf e).toNat)
  case atStart => exact ⟨i, t, [], none, 0, 0, rfl, HR, HOK, ⟨rfl, rfl, by simp, rfl⟩, I0⟩
  case round =>
    obtain ⟨x, s0, S, A2, m2, c2, rfl, HRS, HSO, HMT, SH0⟩ := hrel
    have HM2 : Hid (m2 = S.length) := HMT.out.2.2.2
    cases s0 with
    | leaf k v =>
      obtain ⟨q, hqd, HN⟩ : ∃ q, q = ndL k v (hLf k v) ∧ Hid (N[x]? = some q) := ⟨_, rfl, HRS.out⟩
      have HQD := hid hqd
      clear hqd
      have HKk : Hid (Ky k) := HSO.out.1
      have HKv : Hid (Ky v) := HSO.out.2
      have HkI := hid (u8s_info HKk.out); have HvI := hid (u8s_info HKv.out); have HkK := hid (kc_info HKk.out); have HvK := hid (kc_info HKv.out)
      have HOK1 : Hid (({ qZ with e := 1, k := k } : QP).Ok) := ⟨fun s hs => by simp [qZ] at hs, HKk.out, ky_zero, ky_zero, ky_zero, ky_zero⟩
      have HFOK : Hid (({ qZ with e := 1, k := k, v := v } : QP).Ok) := ⟨fun s hs => by simp [qZ] at hs, HKk.out, HKv.out, ky_zero, ky_zero, ky_zero⟩
      have hq := FO.out.ok q (List.mem_of_getElem? HN.out)
      have HQ := hid hq
      have CN0 := xNode_at (FO.out.below SH0.out.bl) x q HN.out
      unfold ndV at CN0
      have CN := hid CN0
      have HN2 := hid (node_info2 hq)
      have HNZ : Hid (X.size = (nc q).toArray.size) := by show _ = _; rw [HX.out, List.size_toArray, List.size_toArray, ndZ_ok.nc, hq.nc]
      have HN3 : Hid ((nc q).toArray.all (·.oneCell') = true) := by
        show _ = _
        rw [Array.all_eq_true']
        intro v hv
        exact nc_one _ v (by simpa using hv)
      have hne : ((x : Int) == -1) = false := by simp
      have hne2 : ((x : Int) != -1) = true := by simp
      clear CN0 hq
      go_upto_region 8 with (first
              | (go_at_call 22; refine CN.out.mono ?_; rintro e w1 ⟨rfl, hb⟩; have SH1 := hid (SH0.out.below hb); clear hb)
              | (refine wpList_store_row rfl 57 (.tmp 12) (.tmp 32) rfl w1.heap.size (nc q).toArray rfl rfl 57 X (Blk.new w1 57 X) HN2.out HNZ.out HN3.out ?_))
      have BX : Hid (Below w1.heap.size w1 ((w1.alloc (.cells X 57)).setRow w1.heap.size (nc q).toArray)) := below_setRow ((Below.refl _ _).alloc (Nat.le_refl _) _) (Nat.le_refl _) _
      have NB0 : Hid (Blk ((w1.alloc (.cells X 57)).setRow w1.heap.size (nc q).toArray) w1.heap.size 57 (nc q).toArray) := (Blk.new w1 57 X).row _
      have SH := hid (SH1.out.below BX.out)
      clear BX SH1 CN HN2 HNZ HN3 hne hne2
      generalize (w1.alloc (.cells X 57)).setRow w1.heap.size (nc q).toArray = w2 at NB0 SH ⊢
      generalize w1.heap.size = g12 at NB0 ⊢
      have GN0 : Hid (ShN w g12 q w2) := ⟨NB0.out, SH.out.bl⟩
      have cl : w2.cell? ⟨g12, 0, none⟩ = some (.bool q.leaf) := (NB0.out.node HQ.out).leaf
      have HL : q.leaf = true := by rw [HQD.out]; rfl
      have hkq : q.k = k := by rw [HQD.out]; rfl
      have hvq : q.v = v := by rw [HQD.out]; rfl
      rw [HL] at cl
      subst hkq
      subst hvq
      clear HQD HL
      have HEND : Hid (∀ (w' : World), ShF w K Z g10 (.slice A2 m2 c2) ({ qZ with e := 1, k := q.k, v := q.v }) S w' → ShA w (shP K t) (.returned (.tuple #[.agg (prc (.slice A2 m2 c2) ({ qZ with e := 1, k := q.k, v := q.v })).toArray, .int .i64 0])) (w'.setRow (w.heap.size + 1) (prc (.slice A2 m2 c2) ({ qZ with e := 1, k := q.k, v := q.v })).toArray)) := fun w' h' => show_end (u := .leaf q.k q.v) h' rfl (by rw [HMT.out.1]; exact List.append_nil S) HMT.out.2.1 HM2.out (by have h9 := HMT.out.2.2.1; have h8 := HSM.out; omega)
      go_upto_region 9 with (fail)
      clear cl
      refine wp_region_held (S := fun w' => Hid (ShN w g12 q w')) (by kernel_rfl) ?_
      change wpAnyH _ _ _ _ _ _ _ _ w2.drew
      have Gx0 : Hid (ShN w g12 q w2.drew) := ⟨GN0.out.nb.below (Below.refl _ _).drew, GN0.out.bl.trans ((Below.refl w2.heap.size w2).drew.mono GN0.out.bl.size)⟩
      have SH' : Hid (ShF w K Z g10 (.slice A2 m2 c2) (qZ) S w2.drew) := SH.out.below (Below.refl _ _).drew
      clear SH
      have SH := SH'
      clear SH'
      generalize w2.drew = x0 at Gx0 SH ⊢
      have SHx0 := SH
      clear SH
      refine tk 0 (some 37) ?_
      refine tkv 1 (some 38) (.agg (kc q.k)) rfl (yieldsIf_load_mid (cs := u8s q.k) (by rfl) _ _ rfl _ _ rfl _ (fun w' hSw => (hSw.out.nb.node HQ.out).key) Tryd.underlying24 rfl HkI.out) ?_
      refine tk 2 (some 39) ?_
      refine tkv 3 (some 40) (.agg (kc q.v)) rfl (yieldsIf_load_mid (cs := u8s q.v) (by rfl) _ _ rfl _ _ rfl _ (fun w' hSw => (hSw.out.nb.node HQ.out).val) Tryd.underlying24 rfl HvI.out) ?_
      refine tk 4 (some 41) ?_
      refine rd1 5 none (fun Qc hQc => ?_)
      have c1 : x0.cell? ⟨g10, 1, none⟩ = some (.int .i64 (qZ).e) := SHx0.out.pb.cell 1
      have f1 : x0.frozen? ⟨g10, 1, none⟩ = false := SHx0.out.pb.frozen 1
      go_simp
      clear c1 f1
      have SHx1 := hid (SHx0.out.int HG10.out 1)
      have Gx1 : Hid (ShN w g12 q (x0.setCell ⟨g10, 1, none⟩ (.int .i64 1))) := ⟨Gx0.out.nb.far (Gx0.out.nb.ne SHx0.out.pb (by decide)) _, SHx1.out.bl⟩
      refine hQc.out _ _ Gx1 (fun hHeld => ?_)
      clear hQc Qc hHeld
      generalize x0.setCell ⟨g10, 1, none⟩ (.int .i64 1) = x1 at SHx1 Gx1 ⊢
      try simp only [Act.put, List.setIfInBounds_toArray, List.set_cons_zero, List.set_cons_succ]
      refine tk 6 (some 42) ?_
      refine rd1 7 none (fun Qc hQc => ?_)
      rw [if_pos (by rfl)]
      refine wp_store_mid 24 (.tmp 42) (.tmp 38) rfl g10 2 (kc q.k) rfl rfl (pr_there SHx1.out.pb (qZe_ok 1) (by rw [kc_size HKk.out]; decide)) HkK.out (kc_one _) ?_
      have SHx2 := hid (SHx1.out.mid (cells := kc q.k) HG10.out (pu_2 ky_zero HKk.out))
      have Gx2 : Hid (ShN w g12 q (x1.setCells g10 2 (kc q.k).toList)) := ⟨Gx1.out.nb.farCells (Gx1.out.nb.ne SHx1.out.pb (by decide)) _ _, SHx2.out.bl⟩
      refine hQc.out _ _ Gx2 (fun hHeld => ?_)
      clear hQc Qc hHeld
      generalize x1.setCells g10 2 (kc q.k).toList = x2 at SHx2 Gx2 ⊢
      try simp only [Act.put, List.setIfInBounds_toArray, List.set_cons_zero, List.set_cons_succ]
      refine tk 8 (some 43) ?_
      refine rd1 9 none (fun Qc hQc => ?_)
      rw [if_pos (by rfl)]
      refine wp_store_mid 24 (.tmp 43) (.tmp 40) rfl g10 34 (kc q.v) rfl rfl (pr_there SHx2.out.pb HOK1.out (by rw [kc_size HKv.out]; decide)) HvK.out (kc_one _) ?_
      have SHx3 := hid (SHx2.out.mid (cells := kc q.v) HG10.out (pu_3 (q := { qZ with e := 1, k := q.k }) HKk.out ky_zero HKv.out))
      have Gx3 : Hid (ShN w g12 q (x2.setCells g10 34 (kc q.v).toList)) := ⟨Gx2.out.nb.farCells (Gx2.out.nb.ne SHx2.out.pb (by decide)) _ _, SHx3.out.bl⟩
      refine hQc.out _ _ Gx3 (fun hHeld => ?_)
      clear hQc Qc hHeld
      generalize x2.setCells g10 34 (kc q.v).toList = x3 at SHx3 Gx3 ⊢
      try simp only [Act.put, List.setIfInBounds_toArray, List.set_cons_zero, List.set_cons_succ]
      refine wpAnyH_done (by kernel_rfl) ?_ _
      try simp only [Act.put, List.setIfInBounds_toArray, List.set_cons_zero, List.set_cons_succ]
      have SHF := hid (SHx3.out)
      have HOKF : Hid (({ qZ with e := 1, k := q.k, v := q.v }).Ok) := HFOK.out
      have HIF := hid (proof_info HOKF.out (.slice A2 m2 c2)); have HIF2 := hid (proof_info2 HOKF.out (.slice A2 m2 c2))
      have HZS : Hid (Z.size = (prc (.slice A2 m2 c2) ({ qZ with e := 1, k := q.k, v := q.v })).toArray.size) := by show _ = _; rw [HZ.out, List.size_toArray, List.size_toArray, qZ_ok.len, HOKF.out.len]
      have PB := hid (SHF.out.pb.pr HOKF.out)
      go_wp2_with (first
        | (refine load_at rfl 66 (.tmp 10) rfl g10 0 rfl (prc (.slice A2 m2 c2) ({ qZ with e := 1, k := q.k, v := q.v })) _ PB.out.all Tryd.underlying66 rfl HIF.out (prc (.slice A2 m2 c2) ({ qZ with e := 1, k := q.k, v := q.v })).toArray rfl ?_)
        | (refine wpList_store_row rfl 66 (.tmp 6) (.tmp 87) rfl (w.heap.size + 1) (prc (.slice A2 m2 c2) ({ qZ with e := 1, k := q.k, v := q.v })).toArray rfl rfl 66 Z SHF.out.rs HIF2.out HZS.out pr_one ?_))
      try go_frame
      try rw [Exit.noGoto_ret]
      refine bodyPost_ret (results_cell_slot Tryd.results27 _ _ (w.heap.size + 1) 66 (prc (.slice A2 m2 c2) ({ qZ with e := 1, k := q.k, v := q.v })).toArray (0, 0) _ rfl (SHF.out.rs.row _) Tryd.underlying66 rfl HIF2.out) rfl ?_
      exact HEND.out _ SHF.out
    | inner n0 b l r =>
      obtain ⟨a, d, hq0, ha, hd, hra, hrd⟩ := HRS.out
      obtain ⟨q, hqd, HN⟩ : ∃ q, q = ndI n0 b a d ((Tr.inner n0 b l r).hash hLf hIn) ∧ Hid (N[x]? = some q) := ⟨_, rfl, hq0⟩
      have HQD := hid hqd
      clear hqd hq0
      have HKb : Hid (Ky b) := tr_bits HSO.out
      have hn0 : n0 < 256 := HSO.out.2.2.1
      have HpI := hid (pcl_info n0 HKb.out); have HpK := hid (pc_info n0 HKb.out)
      have HOK3 := hid HSO.out
      have hq := FO.out.ok q (List.mem_of_getElem? HN.out)
      have HQ := hid hq
      have CN0 := xNode_at (FO.out.below SH0.out.bl) x q HN.out
      unfold ndV at CN0
      have CN := hid CN0
      have HN2 := hid (node_info2 hq)
      have HNZ : Hid (X.size = (nc q).toArray.size) := by show _ = _; rw [HX.out, List.size_toArray, List.size_toArray, ndZ_ok.nc, hq.nc]
      have HN3 : Hid ((nc q).toArray.all (·.oneCell') = true) := by
        show _ = _
        rw [Array.all_eq_true']
        intro v hv
        exact nc_one _ v (by simpa using hv)
      have hne : ((x : Int) == -1) = false := by simp
      have hne2 : ((x : Int) != -1) = true := by simp
      clear CN0 hq
      go_upto_region 8 with (first
              | (go_at_call 22; refine CN.out.mono ?_; rintro e w1 ⟨rfl, hb⟩; have SH1 := hid (SH0.out.below hb); clear hb)
              | (refine wpList_store_row rfl 57 (.tmp 12) (.tmp 32) rfl w1.heap.size (nc q).toArray rfl rfl 57 X (Blk.new w1 57 X) HN2.out HNZ.out HN3.out ?_))
      have BX : Hid (Below w1.heap.size w1 ((w1.alloc (.cells X 57)).setRow w1.heap.size (nc q).toArray)) := below_setRow ((Below.refl _ _).alloc (Nat.le_refl _) _) (Nat.le_refl _) _
      have NB0 : Hid (Blk ((w1.alloc (.cells X 57)).setRow w1.heap.size (nc q).toArray) w1.heap.size 57 (nc q).toArray) := (Blk.new w1 57 X).row _
      have SH := hid (SH1.out.below BX.out)
      clear BX SH1 CN HN2 HNZ HN3 hne hne2
      generalize (w1.alloc (.cells X 57)).setRow w1.heap.size (nc q).toArray = w2 at NB0 SH ⊢
      generalize w1.heap.size = g12 at NB0 ⊢
      have GN0 : Hid (ShN w g12 q w2) := ⟨NB0.out, SH.out.bl⟩
      have cl : w2.cell? ⟨g12, 0, none⟩ = some (.bool q.leaf) := (NB0.out.node HQ.out).leaf
      have HL : q.leaf = false := by rw [HQD.out]; rfl
      rw [HL] at cl
      have PRE : Hid (∀ x, ShN w g12 q x → x.rangeAt g12 65 (.int .i64 n0 :: u8s b)) := fun x hn => by
        have h9 := (hn.nb.node HQ.out).pre
        rw [show q.n = (n0 : Int) by rw [HQD.out]; rfl, show q.b = b by rw [HQD.out]; rfl, Nat.zero_add] at h9
        exact h9
      have LFT : Hid (∀ x, ShN w g12 q x → x.cell? ⟨g12, 98, none⟩ = some (.int .i64 a)) := fun x hn => by
        have h9 := (hn.nb.node HQ.out).left
        rw [show q.l = (a : Int) by rw [HQD.out]; rfl, Nat.zero_add] at h9
        exact h9
      have RGT : Hid (∀ x, ShN w g12 q x → x.cell? ⟨g12, 99, none⟩ = some (.int .i64 d)) := fun x hn => by
        have h9 := (hn.nb.node HQ.out).right
        rw [show q.r = (d : Int) by rw [HQD.out]; rfl, Nat.zero_add] at h9
        exact h9
      have PR2 := hid (PRE.out w2 GN0.out)
      have CH := hid (fun w => pHolds_any n0 b K HKb.out HK.out w)
      rw [hld_nat hn0] at CH
      have HKH : Hid (w2.rangeAt w.heap.size 0 (u8s K)) := blk_key SH.out.kk
      obtain ⟨ql, hl9, hl8, hlh⟩ := rep_node hra
      obtain ⟨qr, hr9, hr8, hrh⟩ := rep_node hrd
      have CHL0 := hid (fun x (hb : Below w.heap.size w x) => qhash_at (FO.out.below hb) a ql hl9)
      rw [hlh] at CHL0
      have CHR0 := hid (fun x (hb : Below w.heap.size w x) => qhash_at (FO.out.below hb) d qr hr9)
      rw [hrh] at CHR0
      have HRA := hid hra; have HRD := hid hrd
      clear hl9 hr9 hl8 hr8 hlh hrh HL
      clear hra hrd
      by_cases hc : cut K n0 = b
      · rw [decide_eq_true hc] at CH
        obtain ⟨nx, ot, s', so, hsd, hrp, hok', hlt, hsS, hsE, hsl, hco⟩ : ∃ (nx ot : Nat) (s' so : Tr), sdV K n0 (a : Int) (d : Int) = ((nx : Int), (ot : Int)) ∧ Rep hLf hIn N nx s' ∧ s'.ok ∧ nx < x ∧ shS K (.inner n0 b l r) = ⟨n0, b, so.hash hLf hIn⟩ :: shS K s' ∧ shE K (.inner n0 b l r) = shE K s' ∧ s'.list.length < (Tr.inner n0 b l r).list.length ∧ Hid (∀ x, Below w.heap.size w x → Calls Tryd.prog 62 #[.pointer (some ⟨f, 0, none⟩), .int .i64 ot] x fun e w' => e = .returned (.agg (kc (so.hash hLf hIn))) ∧ Below x.heap.size x w') := by
          have hb2 : bitI K n0 = bit K n0 := bitI_in K n0 hn0
          have p1 := l.pos; have p2 := r.pos
          rcases bit01 K n0 with h0 | h0
          · refine ⟨a, d, l, r, ?_, HRA.out, HSO.out.1, ha, ?_, ?_, ?_, CHR0⟩
            · unfold sdV; rw [if_neg (by rw [hb2, h0]; decide)]
            · show (if cut K n0 = b then _ else _) = _; rw [if_pos hc, if_pos h0]
            · show (if cut K n0 = b then _ else _) = _; rw [if_pos hc, if_pos h0]
            · show _ < (l.list ++ r.list).length; rw [List.length_append]; omega
          · refine ⟨d, a, r, l, ?_, HRD.out, HSO.out.2.1, hd, ?_, ?_, ?_, CHL0⟩
            · unfold sdV; rw [if_pos (by rw [hb2, h0])]
            · show (if cut K n0 = b then _ else _) = _; rw [if_pos hc, if_neg (by rw [h0]; decide)]
            · show (if cut K n0 = b then _ else _) = _; rw [if_pos hc, if_neg (by rw [h0]; decide)]
            · show _ < (l.list ++ r.list).length; rw [List.length_append]; omega
        have CSD := hid (fun w => qsidesI_any n0 b K a d HKb.out HK.out w)
        rw [hsd] at CSD
        have CHO := hco
        obtain ⟨s, hsq⟩ : ∃ s : QS, s = ⟨n0, b, so.hash hLf hIn⟩ := ⟨_, rfl⟩
        have SOK : Hid s.Ok := by show s.Ok; rw [hsq]; exact ⟨HKb.out, hash_ky2 so⟩
        have HSB0 := st_built SOK.out
        rw [hsq] at HSB0
        have HSB : Hid (Tryd.prog.built 129 [(0, .agg (pc n0 b)), (1, .agg (kc (so.hash hLf hIn)))] = some (stc s).toArray) := by show _ = _; rw [hsq]; exact HSB0
        have HS1000 : Hid (S.length ≤ 1000) := by have h9 := HMT.out.2.2.1; have h8 := HSM.out; show _ ≤ _; omega
        have HREL : Hid (∀ A9 c9 w', ShF w K Z g10 (.slice A9 (m2 + 1) c9) qZ (S ++ [s]) w' → ∃ (x' : Nat) (s2 : Tr) (S2 : List QS) (A2 : Option Addr) (m2 c2 : Nat), Value.int .i64 (nx : Nat) = .int .i64 (x' : Nat) ∧ Hid (Rep hLf hIn N x' s2) ∧ Hid s2.ok ∧ Hid (shS K t = S2 ++ shS K s2 ∧ shE K t = shE K s2 ∧ S2.length + s2.list.length ≤ t.list.length ∧ m2 = S2.length) ∧ Hid (ShF w K Z g10 (.slice A2 m2 c2) qZ S2 w')) := fun A9 c9 w' h9 => ⟨nx, s', S ++ [s], A9, m2 + 1, c9, rfl, hrp, hok', ⟨by rw [HMT.out.1, hsS, hsq, List.append_assoc]; rfl, by rw [HMT.out.2.1, hsE], by have h8 := HMT.out.2.2.1; rw [List.length_append, List.length_singleton]; omega, by rw [List.length_append, HM2.out]; rfl⟩, h9⟩
        have HLT := hid hlt
        generalize so.hash hLf hIn = ho at CHO HSB
        clear hsd hrp hok' hsS hsE hsl hco hsq HSB0 hc CHL0 CHR0
        go_upto_region 13 with (first
          | (refine load_at rfl 55 (.tmp 45) rfl g12 65 rfl (.int .i64 n0 :: u8s b) _ PR2.out Tryd.underlying55 rfl HpI.out (pc n0 b) rfl ?_)
          | (refine load_at rfl 24 (.tmp 5) rfl w.heap.size 0 rfl (u8s K) _ HKH.out Tryd.underlying24 rfl HKI.out (kc K) rfl ?_)
          | (go_at_call 61; refine (CH.out _).mono ?_; rintro e w3 ⟨rfl, hb⟩; have SH3 := hid (SH.out.below hb); have GN3 := hid (GN0.out.below hb); clear hb))
        clear cl SH GN0 PR2 CH HKH
        have PR3 := hid (PRE.out w3 GN3.out)
        have c98 := LFT.out w3 GN3.out
        have c99 := RGT.out w3 GN3.out
        have HKH : Hid (w3.rangeAt w.heap.size 0 (u8s K)) := blk_key SH3.out.kk
        go_upto_region 14 with (first
          | (refine load_at rfl 55 (.tmp 65) rfl g12 65 rfl (.int .i64 n0 :: u8s b) _ PR3.out Tryd.underlying55 rfl HpI.out (pc n0 b) rfl ?_)
          | (refine load_at rfl 24 (.tmp 5) rfl w.heap.size 0 rfl (u8s K) _ HKH.out Tryd.underlying24 rfl HKI.out (kc K) rfl ?_)
          | (go_at_call 63; refine (CSD.out _).mono ?_; rintro e w4 ⟨rfl, hb⟩; have SH4 := hid (SH3.out.below hb); have GN4 := hid (GN3.out.below hb); clear hb))
        clear c98 c99 SH3 GN3 PR3 HKH CSD
        have SH := SH4; have GN0 := GN4
        clear SH4 GN4
        refine wp_region_held (S := fun w' => Hid (ShN w g12 q w')) (by kernel_rfl) ?_
        change wpAnyH _ _ _ _ _ _ _ _ w4.drew
        have Gx0 : Hid (ShN w g12 q w4.drew) := ⟨GN0.out.nb.below (Below.refl _ _).drew, GN0.out.bl.trans ((Below.refl w4.heap.size w4).drew.mono GN0.out.bl.size)⟩
        have SH' : Hid (ShF w K Z g10 (.slice A2 m2 c2) (qZ) S w4.drew) := SH.out.below (Below.refl _ _).drew
        clear SH
        have SH := SH'
        clear SH'
        generalize w4.drew = x0 at Gx0 SH ⊢
        have SHx0 := SH
        clear SH
        refine tk 0 (some 75) ?_
        refine tk 2 (some 77) ?_
        refine tkv 3 (some 78) (.agg (pc n0 b)) rfl (yieldsIf_load_mid (cs := (.int .i64 n0 :: u8s b)) (by rfl) _ _ rfl _ _ rfl _ (fun w' hSw => PRE.out _ hSw.out) Tryd.underlying55 rfl HpI.out) ?_
        refine tk 4 (some 79) ?_
        refine tk 5 (some 80) ?_
        refine wpAnyH_ready (rs := [1, 6]) (by kernel_rfl) (by simp) ?_
        refine (AllReadyH.cons (o := { dst := some 76, op := _, type := _, pos := _, after := _, guard := _ }) rfl (fun Qc hQc => ?_) (AllReadyH.cons (o := { dst := some 81, op := _, type := _, pos := _, after := _, guard := _ }) rfl (fun Qc hQc => ?_) AllReadyH.nil))
        ·
          have c0 : x0.cell? ⟨g10, 0, none⟩ = some (.slice A2 m2 c2) := SHx0.out.pb.cell 0
          go_simp
          refine hQc.out _ _ Gx0 (fun hHeld => ?_)
          clear hQc Qc c0
          try simp only [Act.put, List.setIfInBounds_toArray, List.set_cons_zero, List.set_cons_succ]
          refine rd1 6 (some 81) (fun Qc hQc => ?_)
          go_simp
          go_at_call 62
          refine (CHO.out x0 Gx0.out.bl).mono ?_
          rintro e x1 ⟨rfl, hb⟩
          have SHx1 := hid (SHx0.out.below hb)
          have Gx1 := hid (Gx0.out.below hb)
          clear hb
          go_wp2_with fail
          refine hQc.out _ _ Gx1 (fun hHeld => ?_)
          clear hQc Qc hHeld
          try simp only [Act.put, List.setIfInBounds_toArray, List.set_cons_zero, List.set_cons_succ]
          refine wpAnyH_take (i := 7) (oi := { dst := some 82, op := _, type := _, pos := _, after := _, guard := _ }) (v := .agg (stc s).toArray) rfl (by kernel_rfl) (by kernel_rfl) (by kernel_rfl) (fun _ _ _ h => h) (Or.inl ⟨by kernel_rfl, ?_⟩) Gx1 ?_
          · (intro w hSw; have hbw := HSB.out; exact exec_build 129 #[(0, .tmp 78), (1, .tmp 81)] rfl _ (by simp only [List.map_toArray, List.map_cons, List.map_nil, Act.eval]; exact hbw) w)
          try simp only [Act.put, List.setIfInBounds_toArray, List.set_cons_zero, List.set_cons_succ]
          refine rd1 8 (some 83) (fun Qc hQc => ?_)
          rw [if_pos (by rfl)]
          refine wp_step_one stTy_q (.tmp 82) rfl s SOK.out rfl ?_
          have NB : Hid (Blk (x1.alloc (.cells (stc s).toArray 129)) x1.heap.size 129 (stc s).toArray) := Blk.new x1 129 (stc s).toArray
          have hb : Below x1.heap.size x1 (x1.alloc (.cells (stc s).toArray 129)) := (Below.refl _ _).alloc (Nat.le_refl _) _
          have SHx2 := hid (SHx1.out.below hb)
          have Gx2 := hid (Gx1.out.below hb)
          clear hb
          refine hQc.out _ _ Gx2 (fun hHeld => ?_)
          clear hQc Qc hHeld
          generalize x1.heap.size = g5 at NB ⊢
          generalize x1.alloc (.cells (stc s).toArray 129) = x2 at NB SHx2 Gx2 ⊢
          try simp only [Act.put, List.setIfInBounds_toArray, List.set_cons_zero, List.set_cons_succ]
          refine rd1 9 (some 84) (fun Qc hQc => ?_)
          rw [if_pos (by rfl)]
          refine wp_append_st stTy_q (.tmp 76) (.tmp 83) rfl w.heap.size S (.slice A2 m2 c2) rfl SHx2.out.st g5 s rfl NB.out SOK.out HS1000.out SHx2.out.bl.size ?_
          intro v9 x3 ht9 hbt9
          have HT9 := hid ht9; have HB9 := hid hbt9
          have PSH := hid (fun v' => SHx2.out.push (v' := v') (y := x3) HG10.out (s := s))
          obtain ⟨A9, c9, hv9⟩ := HT9.out.len
          rw [List.length_append, List.length_singleton, ← HM2.out] at hv9
          subst hv9
          have PS9 := hid (PSH.out _ HT9.out HB9.out)
          have Gx3 : Hid (ShN w g12 q x3) := ⟨HB9.out.blk Gx2.out.nb (fun e => by obtain ⟨_, C, h2⟩ := SHx2.out.st.ty _ e; exact Gx2.out.nb.ne h2 (by decide) rfl), SHx2.out.bl.trans (HB9.out.bel SHx2.out.bl.size (fun k hk => (SHx2.out.st.ty k hk).1))⟩
          clear ht9 hbt9 PSH
          refine hQc.out _ _ Gx3 (fun hHeld => ?_)
          clear hQc Qc hHeld
          try simp only [Act.put, List.setIfInBounds_toArray, List.set_cons_zero, List.set_cons_succ]
          refine tk 10 (some 85) ?_
          refine rd1 11 none (fun Qc hQc => ?_)
          have c1 : x3.cell? ⟨g10, 0, none⟩ = some (.slice A2 m2 c2) := PS9.out.1.cell 0
          have f1 : x3.frozen? ⟨g10, 0, none⟩ = false := PS9.out.1.frozen 0
          go_simp
          clear c1 f1
          have TF := hid PS9.out.2
          have Gx4 : Hid (ShN w g12 q (x3.setCell ⟨g10, 0, none⟩ (Value.slice A9 (m2 + 1) c9))) := ⟨Gx3.out.nb.far (Gx3.out.nb.ne PS9.out.1 (by decide)) _, TF.out.bl⟩
          refine hQc.out _ _ Gx4 (fun hHeld => ?_)
          clear hQc Qc hHeld
          generalize x3.setCell ⟨g10, 0, none⟩ (Value.slice A9 (m2 + 1) c9) = x4 at TF Gx4 ⊢
          try simp only [Act.put, List.setIfInBounds_toArray, List.set_cons_zero, List.set_cons_succ]
          refine wpAnyH_done (by kernel_rfl) ?_ _
          try simp only [Act.put, List.setIfInBounds_toArray, List.set_cons_zero, List.set_cons_succ]
          go_wp2
          go_roundw
          case rel => exact HREL.out _ _ _ TF.out
          case measure => simp [intOf]; omega
        ·
          go_simp
          go_at_call 62
          refine (CHO.out x0 Gx0.out.bl).mono ?_
          rintro e x5 ⟨rfl, hb⟩
          have SHx5 := hid (SHx0.out.below hb)
          have Gx5 := hid (Gx0.out.below hb)
          clear hb
          go_wp2_with fail
          refine hQc.out _ _ Gx5 (fun hHeld => ?_)
          clear hQc Qc hHeld
          try simp only [Act.put, List.setIfInBounds_toArray, List.set_cons_zero, List.set_cons_succ]
          refine wpAnyH_take (i := 7) (oi := { dst := some 82, op := _, type := _, pos := _, after := _, guard := _ }) (v := .agg (stc s).toArray) rfl (by kernel_rfl) (by kernel_rfl) (by kernel_rfl) (fun _ _ _ h => h) (Or.inl ⟨by kernel_rfl, ?_⟩) Gx5 ?_
          · (intro w hSw; have hbw := HSB.out; exact exec_build 129 #[(0, .tmp 78), (1, .tmp 81)] rfl _ (by simp only [List.map_toArray, List.map_cons, List.map_nil, Act.eval]; exact hbw) w)
          try simp only [Act.put, List.setIfInBounds_toArray, List.set_cons_zero, List.set_cons_succ]
          refine wpAnyH_ready (rs := [1, 8]) (by kernel_rfl) (by simp) ?_
          refine (AllReadyH.cons (o := { dst := some 76, op := _, type := _, pos := _, after := _, guard := _ }) rfl (fun Qc hQc => ?_) (AllReadyH.cons (o := { dst := some 83, op := _, type := _, pos := _, after := _, guard := _ }) rfl (fun Qc hQc => ?_) AllReadyH.nil))
          ·
            have c0 : x5.cell? ⟨g10, 0, none⟩ = some (.slice A2 m2 c2) := SHx5.out.pb.cell 0
            go_simp
            refine hQc.out _ _ Gx5 (fun hHeld => ?_)
            clear hQc Qc c0
            try simp only [Act.put, List.setIfInBounds_toArray, List.set_cons_zero, List.set_cons_succ]
            refine rd1 8 (some 83) (fun Qc hQc => ?_)
            rw [if_pos (by rfl)]
            refine wp_step_one stTy_q (.tmp 82) rfl s SOK.out rfl ?_
            have NB : Hid (Blk (x5.alloc (.cells (stc s).toArray 129)) x5.heap.size 129 (stc s).toArray) := Blk.new x5 129 (stc s).toArray
            have hb : Below x5.heap.size x5 (x5.alloc (.cells (stc s).toArray 129)) := (Below.refl _ _).alloc (Nat.le_refl _) _
            have SHx6 := hid (SHx5.out.below hb)
            have Gx6 := hid (Gx5.out.below hb)
            clear hb
            refine hQc.out _ _ Gx6 (fun hHeld => ?_)
            clear hQc Qc hHeld
            generalize x5.heap.size = g5 at NB ⊢
            generalize x5.alloc (.cells (stc s).toArray 129) = x6 at NB SHx6 Gx6 ⊢
            try simp only [Act.put, List.setIfInBounds_toArray, List.set_cons_zero, List.set_cons_succ]
            refine rd1 9 (some 84) (fun Qc hQc => ?_)
            rw [if_pos (by rfl)]
            refine wp_append_st stTy_q (.tmp 76) (.tmp 83) rfl w.heap.size S (.slice A2 m2 c2) rfl SHx6.out.st g5 s rfl NB.out SOK.out HS1000.out SHx6.out.bl.size ?_
            intro v9 x7 ht9 hbt9
            have HT9 := hid ht9; have HB9 := hid hbt9
            have PSH := hid (fun v' => SHx6.out.push (v' := v') (y := x7) HG10.out (s := s))
            obtain ⟨A9, c9, hv9⟩ := HT9.out.len
            rw [List.length_append, List.length_singleton, ← HM2.out] at hv9
            subst hv9
            have PS9 := hid (PSH.out _ HT9.out HB9.out)
            have Gx7 : Hid (ShN w g12 q x7) := ⟨HB9.out.blk Gx6.out.nb (fun e => by obtain ⟨_, C, h2⟩ := SHx6.out.st.ty _ e; exact Gx6.out.nb.ne h2 (by decide) rfl), SHx6.out.bl.trans (HB9.out.bel SHx6.out.bl.size (fun k hk => (SHx6.out.st.ty k hk).1))⟩
            clear ht9 hbt9 PSH
            refine hQc.out _ _ Gx7 (fun hHeld => ?_)
            clear hQc Qc hHeld
            try simp only [Act.put, List.setIfInBounds_toArray, List.set_cons_zero, List.set_cons_succ]
            refine tk 10 (some 85) ?_
            refine rd1 11 none (fun Qc hQc => ?_)
            have c1 : x7.cell? ⟨g10, 0, none⟩ = some (.slice A2 m2 c2) := PS9.out.1.cell 0
            have f1 : x7.frozen? ⟨g10, 0, none⟩ = false := PS9.out.1.frozen 0
            go_simp
            clear c1 f1
            have TF := hid PS9.out.2
            have Gx8 : Hid (ShN w g12 q (x7.setCell ⟨g10, 0, none⟩ (Value.slice A9 (m2 + 1) c9))) := ⟨Gx7.out.nb.far (Gx7.out.nb.ne PS9.out.1 (by decide)) _, TF.out.bl⟩
            refine hQc.out _ _ Gx8 (fun hHeld => ?_)
            clear hQc Qc hHeld
            generalize x7.setCell ⟨g10, 0, none⟩ (Value.slice A9 (m2 + 1) c9) = x8 at TF Gx8 ⊢
            try simp only [Act.put, List.setIfInBounds_toArray, List.set_cons_zero, List.set_cons_succ]
            refine wpAnyH_done (by kernel_rfl) ?_ _
            try simp only [Act.put, List.setIfInBounds_toArray, List.set_cons_zero, List.set_cons_succ]
            go_wp2
            go_roundw
            case rel => exact HREL.out _ _ _ TF.out
            case measure => simp [intOf]; omega
          ·
            rw [if_pos (by rfl)]
            refine wp_step_one stTy_q (.tmp 82) rfl s SOK.out rfl ?_
            have NB : Hid (Blk (x5.alloc (.cells (stc s).toArray 129)) x5.heap.size 129 (stc s).toArray) := Blk.new x5 129 (stc s).toArray
            have hb : Below x5.heap.size x5 (x5.alloc (.cells (stc s).toArray 129)) := (Below.refl _ _).alloc (Nat.le_refl _) _
            have SHx9 := hid (SHx5.out.below hb)
            have Gx9 := hid (Gx5.out.below hb)
            clear hb
            refine hQc.out _ _ Gx9 (fun hHeld => ?_)
            clear hQc Qc hHeld
            generalize x5.heap.size = g5 at NB ⊢
            generalize x5.alloc (.cells (stc s).toArray 129) = x9 at NB SHx9 Gx9 ⊢
            try simp only [Act.put, List.setIfInBounds_toArray, List.set_cons_zero, List.set_cons_succ]
            refine rd1 1 (some 76) (fun Qc hQc => ?_)
            have c0 : x9.cell? ⟨g10, 0, none⟩ = some (.slice A2 m2 c2) := SHx9.out.pb.cell 0
            go_simp
            refine hQc.out _ _ Gx9 (fun hHeld => ?_)
            clear hQc Qc c0
            try simp only [Act.put, List.setIfInBounds_toArray, List.set_cons_zero, List.set_cons_succ]
            refine rd1 9 (some 84) (fun Qc hQc => ?_)
            rw [if_pos (by rfl)]
            refine wp_append_st stTy_q (.tmp 76) (.tmp 83) rfl w.heap.size S (.slice A2 m2 c2) rfl SHx9.out.st g5 s rfl NB.out SOK.out HS1000.out SHx9.out.bl.size ?_
            intro v9 x10 ht9 hbt9
            have HT9 := hid ht9; have HB9 := hid hbt9
            have PSH := hid (fun v' => SHx9.out.push (v' := v') (y := x10) HG10.out (s := s))
            obtain ⟨A9, c9, hv9⟩ := HT9.out.len
            rw [List.length_append, List.length_singleton, ← HM2.out] at hv9
            subst hv9
            have PS9 := hid (PSH.out _ HT9.out HB9.out)
            have Gx10 : Hid (ShN w g12 q x10) := ⟨HB9.out.blk Gx9.out.nb (fun e => by obtain ⟨_, C, h2⟩ := SHx9.out.st.ty _ e; exact Gx9.out.nb.ne h2 (by decide) rfl), SHx9.out.bl.trans (HB9.out.bel SHx9.out.bl.size (fun k hk => (SHx9.out.st.ty k hk).1))⟩
            clear ht9 hbt9 PSH
            refine hQc.out _ _ Gx10 (fun hHeld => ?_)
            clear hQc Qc hHeld
            try simp only [Act.put, List.setIfInBounds_toArray, List.set_cons_zero, List.set_cons_succ]
            refine tk 10 (some 85) ?_
            refine rd1 11 none (fun Qc hQc => ?_)
            have c1 : x10.cell? ⟨g10, 0, none⟩ = some (.slice A2 m2 c2) := PS9.out.1.cell 0
            have f1 : x10.frozen? ⟨g10, 0, none⟩ = false := PS9.out.1.frozen 0
            go_simp
            clear c1 f1
            have TF := hid PS9.out.2
            have Gx11 : Hid (ShN w g12 q (x10.setCell ⟨g10, 0, none⟩ (Value.slice A9 (m2 + 1) c9))) := ⟨Gx10.out.nb.far (Gx10.out.nb.ne PS9.out.1 (by decide)) _, TF.out.bl⟩
            refine hQc.out _ _ Gx11 (fun hHeld => ?_)
            clear hQc Qc hHeld
            generalize x10.setCell ⟨g10, 0, none⟩ (Value.slice A9 (m2 + 1) c9) = x11 at TF Gx11 ⊢
            try simp only [Act.put, List.setIfInBounds_toArray, List.set_cons_zero, List.set_cons_succ]
            refine wpAnyH_done (by kernel_rfl) ?_ _
            try simp only [Act.put, List.setIfInBounds_toArray, List.set_cons_zero, List.set_cons_succ]
            go_wp2
            go_roundw
            case rel => exact HREL.out _ _ _ TF.out
            case measure => simp [intOf]; omega
      · rw [decide_eq_false hc] at CH
        obtain ⟨hl, hhl⟩ : ∃ hl, hl = l.hash hLf hIn := ⟨_, rfl⟩
        obtain ⟨hr, hhr⟩ : ∃ hr, hr = r.hash hLf hIn := ⟨_, rfl⟩
        have HKl : Hid (Ky hl) := by show Ky hl; rw [hhl]; exact hash_ky2 l
        have HKr : Hid (Ky hr) := by show Ky hr; rw [hhr]; exact hash_ky2 r
        have CHL := CHL0; have CHR := CHR0
        rw [← hhl] at CHL; rw [← hhr] at CHR
        have HlK := hid (kc_info HKl.out); have HrK := hid (kc_info HKr.out)
        have HOK1 : Hid (({ qZ with e := 2, n := (n0 : Int), b := b } : QP).Ok) := ⟨fun s hs => by simp [qZ] at hs, ky_zero, ky_zero, HKb.out, ky_zero, ky_zero⟩
        have HOK2 : Hid (({ qZ with e := 2, n := (n0 : Int), b := b, l := hl } : QP).Ok) := ⟨fun s hs => by simp [qZ] at hs, ky_zero, ky_zero, HKb.out, HKl.out, ky_zero⟩
        have HFOK : Hid (({ qZ with e := 2, n := (n0 : Int), b := b, l := hl, r := hr } : QP).Ok) := ⟨fun s hs => by simp [qZ] at hs, ky_zero, ky_zero, HKb.out, HKl.out, HKr.out⟩
        have HEND : Hid (∀ (w' : World), ShF w K Z g10 (.slice A2 m2 c2) ({ qZ with e := 2, n := (n0 : Int), b := b, l := hl, r := hr }) S w' → ShA w (shP K t) (.returned (.tuple #[.agg (prc (.slice A2 m2 c2) ({ qZ with e := 2, n := (n0 : Int), b := b, l := hl, r := hr })).toArray, .int .i64 0])) (w'.setRow (w.heap.size + 1) (prc (.slice A2 m2 c2) ({ qZ with e := 2, n := (n0 : Int), b := b, l := hl, r := hr })).toArray)) := fun w' h' => show_end (u := .inner n0 b l r) h' (by rw [hhl, hhr]; rfl) (by rw [HMT.out.1, show shS K (.inner n0 b l r) = [] from if_neg hc]; exact List.append_nil S) (by rw [HMT.out.2.1]; exact if_neg hc) HM2.out (by have h9 := HMT.out.2.2.1; have h8 := HSM.out; omega)
        clear CHL0 CHR0 hhl hhr hc
        go_upto_region 11 with (first
          | (refine load_at rfl 55 (.tmp 45) rfl g12 65 rfl (.int .i64 n0 :: u8s b) _ PR2.out Tryd.underlying55 rfl HpI.out (pc n0 b) rfl ?_)
          | (refine load_at rfl 24 (.tmp 5) rfl w.heap.size 0 rfl (u8s K) _ HKH.out Tryd.underlying24 rfl HKI.out (kc K) rfl ?_)
          | (go_at_call 61; refine (CH.out _).mono ?_; rintro e w3 ⟨rfl, hb⟩; have SH3 := hid (SH.out.below hb); have GN3 := hid (GN0.out.below hb); clear hb))
        clear cl SH GN0 PR2 CH HKH
        have SH := SH3; have GN0 := GN3
        clear SH3 GN3
        go_cut [12] (fun s12 wx => s12 = .pointer (some ⟨g12, 0, none⟩) ∧ Hid (ShF w K Z g10 (.slice A2 m2 c2) ({ qZ with e := 2, n := (n0 : Int), b := b }) S wx) ∧ Hid (ShN w g12 q wx))
        case first =>
          refine wp_region_held (S := fun w' => Hid (ShN w g12 q w')) (by kernel_rfl) ?_
          change wpAnyH _ _ _ _ _ _ _ _ w3.drew
          have Gx0 : Hid (ShN w g12 q w3.drew) := ⟨GN0.out.nb.below (Below.refl _ _).drew, GN0.out.bl.trans ((Below.refl w3.heap.size w3).drew.mono GN0.out.bl.size)⟩
          have SH' : Hid (ShF w K Z g10 (.slice A2 m2 c2) (qZ) S w3.drew) := SH.out.below (Below.refl _ _).drew
          clear SH
          have SH := SH'
          clear SH'
          generalize w3.drew = x0 at Gx0 SH ⊢
          have SHx0 := SH
          clear SH
          refine tk 0 (some 50) ?_
          refine tkv 1 (some 51) (.agg (pc n0 b)) rfl (yieldsIf_load_mid (cs := (.int .i64 n0 :: u8s b)) (by rfl) _ _ rfl _ _ rfl _ (fun w' hSw => PRE.out _ hSw.out) Tryd.underlying55 rfl HpI.out) ?_
          refine tk 2 (some 52) ?_
          refine rd1 3 none (fun Qc hQc => ?_)
          have c1 : x0.cell? ⟨g10, 1, none⟩ = some (.int .i64 (qZ).e) := SHx0.out.pb.cell 1
          have f1 : x0.frozen? ⟨g10, 1, none⟩ = false := SHx0.out.pb.frozen 1
          go_simp
          clear c1 f1
          have SHx1 := hid (SHx0.out.int HG10.out 2)
          have Gx1 : Hid (ShN w g12 q (x0.setCell ⟨g10, 1, none⟩ (.int .i64 2))) := ⟨Gx0.out.nb.far (Gx0.out.nb.ne SHx0.out.pb (by decide)) _, SHx1.out.bl⟩
          refine hQc.out _ _ Gx1 (fun hHeld => ?_)
          clear hQc Qc hHeld
          generalize x0.setCell ⟨g10, 1, none⟩ (.int .i64 2) = x1 at SHx1 Gx1 ⊢
          try simp only [Act.put, List.setIfInBounds_toArray, List.set_cons_zero, List.set_cons_succ]
          refine tk 4 (some 53) ?_
          refine rd1 5 none (fun Qc hQc => ?_)
          rw [if_pos (by rfl)]
          refine wp_store_mid 55 (.tmp 53) (.tmp 51) rfl g10 66 (pc n0 b) rfl rfl (pr_there SHx1.out.pb (qZe_ok 2) (by rw [pc_size _ HKb.out]; decide)) HpK.out (pc_one _ _) ?_
          have SHx2 := hid (SHx1.out.mid (cells := pc n0 b) HG10.out (pu_4 (q := { qZ with e := 2 }) ky_zero ky_zero ky_zero HKb.out))
          have Gx2 : Hid (ShN w g12 q (x1.setCells g10 66 (pc n0 b).toList)) := ⟨Gx1.out.nb.farCells (Gx1.out.nb.ne SHx1.out.pb (by decide)) _ _, SHx2.out.bl⟩
          refine hQc.out _ _ Gx2 (fun hHeld => ?_)
          clear hQc Qc hHeld
          generalize x1.setCells g10 66 (pc n0 b).toList = x2 at SHx2 Gx2 ⊢
          try simp only [Act.put, List.setIfInBounds_toArray, List.set_cons_zero, List.set_cons_succ]
          refine wpAnyH_done (by kernel_rfl) ?_ _
          try simp only [Act.put, List.setIfInBounds_toArray, List.set_cons_zero, List.set_cons_succ]
          go_wp2
          go_meet
          exact ⟨rfl, SHx2, Gx2⟩
        case rest =>
        obtain ⟨rfl, SH4, GN4⟩ := hcut
        clear SH GN0
        have SH := SH4; have GN0 := GN4
        clear SH4 GN4
        generalize wc = w4 at SH GN0 ⊢
        go_upto_region 12 with (fail)
        refine wp_region_held (S := fun w' => Hid (ShN w g12 q w')) (by kernel_rfl) ?_
        change wpAnyH _ _ _ _ _ _ _ _ w4.drew
        have Gx0 : Hid (ShN w g12 q w4.drew) := ⟨GN0.out.nb.below (Below.refl _ _).drew, GN0.out.bl.trans ((Below.refl w4.heap.size w4).drew.mono GN0.out.bl.size)⟩
        have SH' : Hid (ShF w K Z g10 (.slice A2 m2 c2) ({ qZ with e := 2, n := (n0 : Int), b := b }) S w4.drew) := SH.out.below (Below.refl _ _).drew
        clear SH
        have SH := SH'
        clear SH'
        generalize w4.drew = x0 at Gx0 SH ⊢
        have SHx0 := SH
        clear SH
        refine tk 0 (some 54) ?_
        refine tk 1 (some 55) ?_
        refine tk 2 (some 56) ?_ (hy := by intro w hSw; have cL := LFT.out _ hSw.out; go_simp; try with_reducible rfl)
        refine tk 4 (some 58) ?_
        refine tk 5 (some 59) ?_
        refine tk 6 (some 60) ?_ (hy := by intro w hSw; have cR := RGT.out _ hSw.out; go_simp; try with_reducible rfl)
        refine rd1 3 (some 57) (fun Qc hQc => ?_)
        go_simp
        go_at_call 62
        refine (CHL.out x0 Gx0.out.bl).mono ?_
        rintro e x1 ⟨rfl, hb⟩
        have SHx1 := hid (SHx0.out.below hb)
        have Gx1 := hid (Gx0.out.below hb)
        clear hb
        go_wp2_with fail
        refine hQc.out _ _ Gx1 (fun hHeld => ?_)
        clear hQc Qc hHeld
        try simp only [Act.put, List.setIfInBounds_toArray, List.set_cons_zero, List.set_cons_succ]
        refine tk 8 (some 62) ?_
        refine rd1 7 (some 61) (fun Qc hQc => ?_)
        go_simp
        go_at_call 62
        refine (CHR.out x1 Gx1.out.bl).mono ?_
        rintro e x2 ⟨rfl, hb⟩
        have SHx2 := hid (SHx1.out.below hb)
        have Gx2 := hid (Gx1.out.below hb)
        clear hb
        go_wp2_with fail
        refine hQc.out _ _ Gx2 (fun hHeld => ?_)
        clear hQc Qc hHeld
        try simp only [Act.put, List.setIfInBounds_toArray, List.set_cons_zero, List.set_cons_succ]
        refine rd1 9 none (fun Qc hQc => ?_)
        rw [if_pos (by rfl)]
        refine wp_store_mid 24 (.tmp 62) (.tmp 57) rfl g10 99 (kc hl) rfl rfl (pr_there SHx2.out.pb HOK1.out (by rw [kc_size HKl.out]; decide)) HlK.out (kc_one _) ?_
        have SHx3 := hid (SHx2.out.mid (cells := kc hl) HG10.out (pu_5 (q := { qZ with e := 2, n := (n0 : Int), b := b }) ky_zero ky_zero HKb.out ky_zero HKl.out))
        have Gx3 : Hid (ShN w g12 q (x2.setCells g10 99 (kc hl).toList)) := ⟨Gx2.out.nb.farCells (Gx2.out.nb.ne SHx2.out.pb (by decide)) _ _, SHx3.out.bl⟩
        refine hQc.out _ _ Gx3 (fun hHeld => ?_)
        clear hQc Qc hHeld
        generalize x2.setCells g10 99 (kc hl).toList = x3 at SHx3 Gx3 ⊢
        try simp only [Act.put, List.setIfInBounds_toArray, List.set_cons_zero, List.set_cons_succ]
        refine tk 10 (some 63) ?_
        refine rd1 11 none (fun Qc hQc => ?_)
        rw [if_pos (by rfl)]
        refine wp_store_mid 24 (.tmp 63) (.tmp 61) rfl g10 131 (kc hr) rfl rfl (pr_there SHx3.out.pb HOK2.out (by rw [kc_size HKr.out]; decide)) HrK.out (kc_one _) ?_
        have SHx4 := hid (SHx3.out.mid (cells := kc hr) HG10.out (pu_6 (q := { qZ with e := 2, n := (n0 : Int), b := b, l := hl }) ky_zero ky_zero HKb.out HKl.out ky_zero HKr.out))
        have Gx4 : Hid (ShN w g12 q (x3.setCells g10 131 (kc hr).toList)) := ⟨Gx3.out.nb.farCells (Gx3.out.nb.ne SHx3.out.pb (by decide)) _ _, SHx4.out.bl⟩
        refine hQc.out _ _ Gx4 (fun hHeld => ?_)
        clear hQc Qc hHeld
        generalize x3.setCells g10 131 (kc hr).toList = x4 at SHx4 Gx4 ⊢
        try simp only [Act.put, List.setIfInBounds_toArray, List.set_cons_zero, List.set_cons_succ]
        refine wpAnyH_done (by kernel_rfl) ?_ _
        try simp only [Act.put, List.setIfInBounds_toArray, List.set_cons_zero, List.set_cons_succ]
        have SHF := hid (SHx4.out)
        have HOKF : Hid (({ qZ with e := 2, n := (n0 : Int), b := b, l := hl, r := hr }).Ok) := HFOK.out
        have HIF := hid (proof_info HOKF.out (.slice A2 m2 c2)); have HIF2 := hid (proof_info2 HOKF.out (.slice A2 m2 c2))
        have HZS : Hid (Z.size = (prc (.slice A2 m2 c2) ({ qZ with e := 2, n := (n0 : Int), b := b, l := hl, r := hr })).toArray.size) := by show _ = _; rw [HZ.out, List.size_toArray, List.size_toArray, qZ_ok.len, HOKF.out.len]
        have PB := hid (SHF.out.pb.pr HOKF.out)
        go_wp2_with (first
          | (refine load_at rfl 66 (.tmp 10) rfl g10 0 rfl (prc (.slice A2 m2 c2) ({ qZ with e := 2, n := (n0 : Int), b := b, l := hl, r := hr })) _ PB.out.all Tryd.underlying66 rfl HIF.out (prc (.slice A2 m2 c2) ({ qZ with e := 2, n := (n0 : Int), b := b, l := hl, r := hr })).toArray rfl ?_)
          | (refine wpList_store_row rfl 66 (.tmp 6) (.tmp 87) rfl (w.heap.size + 1) (prc (.slice A2 m2 c2) ({ qZ with e := 2, n := (n0 : Int), b := b, l := hl, r := hr })).toArray rfl rfl 66 Z SHF.out.rs HIF2.out HZS.out pr_one ?_))
        try go_frame
        try rw [Exit.noGoto_ret]
        refine bodyPost_ret (results_cell_slot Tryd.results27 _ _ (w.heap.size + 1) 66 (prc (.slice A2 m2 c2) ({ qZ with e := 2, n := (n0 : Int), b := b, l := hl, r := hr })).toArray (0, 0) _ rfl (SHF.out.rs.row _) Tryd.underlying66 rfl HIF2.out) rfl ?_
        exact HEND.out _ SHF.out
end Go.Proofs.YtbhgchbacadgaaaDoor
/-
  What is proved here: what a tree shows is right, and shows what the tree has; Get of the tree without keys.
-/
namespace Go.Proofs.YtbhgchbacadgaaaDoor
open Go.ChangeShapes Go.WideShapes Go.ChangeAt Go.RowKit
set_option linter.unusedVariables false
set_option linter.unusedSimpArgs false
set_option maxRecDepth 20000

theorem inner_pre {n : Nat} {b : List Int} {l r : Tr} (h : (Tr.inner n b l r).ok) : Ky b ∧ cut b n = b ∧ n < 256 := by
  obtain ⟨x, hx⟩ := l.one
  have h1 := (h.2.2.2.1 x hx).1
  exact ⟨by rw [← h1]; exact cut_ky _ _, by rw [← h1, cut_cut, Nat.min_self], h.2.2.1⟩
theorem frm_nat {n : Nat} {b : List Int} (hn : n ≤ 256) (h : cut b n = b) : frm (n : Int) b = true := by
  unfold frm; rw [decide_eq_true_eq, Int.toNat_natCast]; exact ⟨by omega, by omega, h⟩
theorem hld_of {n : Nat} {b K : List Int} (hn : n ≤ 256) (h : cut K n = b) : hld (n : Int) b K = true := by
  unfold hld; rw [decide_eq_true_eq, Int.toNat_natCast]; exact ⟨by omega, by omega, h⟩
theorem wth_of {n m : Nat} {b c : List Int} {l r : Tr} (h : (Tr.inner n b l r).ok) (hm : m ≤ 256) (hk : ∀ q ∈ (Tr.inner n b l r).list, cut q.1 m = c) : wth (m : Int) c (n : Int) b = true := by
  obtain ⟨h1, h2, h3⟩ := inner_pre h
  obtain ⟨h4, h5⟩ := (held_iff h hm).1 hk
  unfold wth
  rw [frm_nat (by omega) h2, hld_of hm (show cut b m = c from h5), decide_eq_true (show (m : Int) ≤ (n : Int) from by have h6 : m ≤ n := h4; omega)]
  rfl
theorem lead_sh {K : List Int} : ∀ {t : Tr}, t.ok → ∀ {m : Nat} {c : List Int}, m ≤ 256 → (∀ q ∈ t.list, cut q.1 m = c) → ∃ (m' : Nat) (c' : List Int), leadS K (m : Int) c (shS K t) = some ((m' : Int), c') ∧ m' ≤ 256 ∧ (∀ q ∈ (shE K t).list, cut q.1 m' = c')
  | .leaf k v, h, m, c, hm, hk => ⟨m, c, rfl, hm, hk⟩
  | .inner n b l r, h, m, c, hm, hk => by
    obtain ⟨h1, h2, h3⟩ := inner_pre h
    unfold shS shE
    by_cases hc : cut K n = b
    · rw [if_pos hc, if_pos hc]
      have hb2 : bitI K n = bit K n := bitI_in K n h3
      have hst : ∀ o, stepB K (m : Int) c ⟨n, b, o⟩ = true := fun o => by
        unfold stepB
        rw [wth_of h hm hk, hld_of (by omega) hc, decide_eq_true (show ((n : Int)) ≠ 256 by omega)]
        rfl
      have hch : chK (n : Int) b (bitI K n) = (if bit K n = 1 then setb b n else b) := by unfold chK; rw [hb2, Int.toNat_natCast]
      by_cases hb : bit K n = 0
      · rw [if_pos hb, if_pos hb]
        obtain ⟨m', c', g1, g2, g3⟩ := lead_sh (K := K) h.1 (m := n + 1) (c := b) (by omega) (fun q hq => by
          have := (cut_succ h3 h2 h1 0 (.inl rfl)).1 (h.2.2.2.1 q hq)
          rwa [if_neg (by decide)] at this)
        refine ⟨m', c', ?_, g2, g3⟩
        show (if stepB K (m : Int) c ⟨n, b, _⟩ = true then leadS K ((n : Int) + 1) (chK (n : Int) b (bitI K n)) (shS K l) else none) = _
        rw [if_pos (hst _), hch, if_neg (by rw [hb]; decide)]
        exact g1
      · rw [if_neg hb, if_neg hb]
        have hb1 : bit K n = 1 := by rcases bit01 K n with h0 | h0; exact absurd h0 hb; exact h0
        obtain ⟨m', c', g1, g2, g3⟩ := lead_sh (K := K) h.2.1 (m := n + 1) (c := setb b n) (by omega) (fun q hq => by
          have := (cut_succ h3 h2 h1 1 (.inr rfl)).1 (h.2.2.2.2 q hq)
          rwa [if_pos rfl] at this)
        refine ⟨m', c', ?_, g2, g3⟩
        show (if stepB K (m : Int) c ⟨n, b, _⟩ = true then leadS K ((n : Int) + 1) (chK (n : Int) b (bitI K n)) (shS K r) else none) = _
        rw [if_pos (hst _), hch, if_pos hb1]
        exact g1
    · rw [if_neg hc, if_neg hc]
      exact ⟨m, c, rfl, hm, hk⟩
theorem shE_ends {K : List Int} : ∀ {t : Tr}, Ends K (shE K t)
  | .leaf k v => trivial
  | .inner n b l r => by
    unfold shE
    by_cases hc : cut K n = b
    · rw [if_pos hc]
      by_cases hb : bit K n = 0
      · rw [if_pos hb]; exact shE_ends
      · rw [if_neg hb]; exact shE_ends
    · rw [if_neg hc]; exact hc
theorem lead_shP {K : List Int} {t : Tr} (h : t.ok) : leadB K (shP K t) = true := by
  obtain ⟨m, c, g1, g2, g3⟩ := lead_sh (K := K) h (m := 0) (c := zk) (by omega) (fun q _ => cut_0 q.1)
  have g4 : leadS K 0 zk (shP K t).ss = some ((m : Int), c) := by unfold shP; rw [endP_ss]; exact g1
  rw [lead_some g4]
  have hok := shE_ok (K := K) h
  have hen := shE_ends (K := K) (t := t)
  unfold shP
  cases hu : shE K t with
  | leaf k v =>
    rw [hu] at g3
    show endB K ⟨shS K t, 1, k, v, 0, z32, z32, z32⟩ ((m : Int), c) = true
    unfold endB
    rw [if_neg (show ¬ (1 : Int) = 0 by decide), if_pos rfl]
    exact hld_of g2 (g3 (k, v) (by simp [Tr.list]))
  | inner n b l r =>
    rw [hu] at g3 hok hen
    show endB K ⟨shS K t, 2, z32, z32, n, b, l.hash hLf hIn, r.hash hLf hIn⟩ ((m : Int), c) = true
    have hn := hok.2.2.1
    unfold endB
    rw [if_neg (show ¬ (2 : Int) = 0 by decide), if_neg (show ¬ (2 : Int) = 1 by decide), if_pos rfl]
    show (wth (m : Int) c (n : Int) b && decide ((n : Int) < 256) && !(hld (n : Int) b K)) = true
    rw [wth_of hok g2 g3, decide_eq_true (show (n : Int) < 256 by omega), hld_nat hn, decide_eq_false hen]
    rfl
theorem innX_nat {n : Nat} (h : n < 256) (b l r : List Int) : innX (n : Int) b l r = innerT (n : Int) b l r := by unfold innX; rw [if_pos (by omega)]
theorem top_sh {K X : List Int} : ∀ {t : Tr}, t.ok → sum X = (shE K t).hash hLf hIn → sum (topX K X (shS K t)) = t.hash hLf hIn
  | .leaf k v, _, h => h
  | .inner n b l r, hok, h => by
    have hn := hok.2.2.1
    unfold shE at h
    unfold shS
    by_cases hc : cut K n = b
    · rw [if_pos hc] at h ⊢
      have hb2 : bitI K n = bit K n := bitI_in K n hn
      by_cases hb : bit K n = 0
      · rw [if_pos hb] at h ⊢
        have ih := top_sh hok.1 h
        show sum (stepX K ⟨n, b, r.hash hLf hIn⟩ (topX K X (shS K l))) = hIn n b (l.hash hLf hIn) (r.hash hLf hIn)
        unfold stepX
        rw [ih, if_neg (by rw [hb2, hb]; decide), innX_nat hn]
        rfl
      · rw [if_neg hb] at h ⊢
        have hb1 : bit K n = 1 := by rcases bit01 K n with h0 | h0; exact absurd h0 hb; exact h0
        have ih := top_sh hok.2.1 h
        show sum (stepX K ⟨n, b, l.hash hLf hIn⟩ (topX K X (shS K r))) = hIn n b (l.hash hLf hIn) (r.hash hLf hIn)
        unfold stepX
        rw [ih, if_pos (by rw [hb2, hb1]), innX_nat hn]
        rfl
    · rw [if_neg hc] at h ⊢
      exact h
theorem top_shP {K : List Int} {t : Tr} (h : t.ok) : sum (topQ K (shP K t)) = t.hash hLf hIn := by
  have hok := shE_ok (K := K) h
  unfold topQ
  have e : sum (endX (shP K t)) = (shE K t).hash hLf hIn := by
    unfold shP
    cases hu : shE K t with
    | leaf k v => rfl
    | inner n b l r =>
      rw [hu] at hok
      show sum (innX (n : Int) b (l.hash hLf hIn) (r.hash hLf hIn)) = _
      rw [innX_nat hok.2.2.1]
      rfl
  have := top_sh h e
  rwa [show (shP K t).ss = shS K t from endP_ss _ _]
theorem get_shE {K : List Int} : ∀ {t : Tr}, t.get K = (shE K t).get K
  | .leaf k v => rfl
  | .inner n b l r => by
    unfold shE
    by_cases hc : cut K n = b
    · rw [if_pos hc]
      show (if bit K n = 0 then l.get K else r.get K) = _
      by_cases hb : bit K n = 0
      · rw [if_pos hb, if_pos hb]; exact get_shE
      · rw [if_neg hb, if_neg hb]; exact get_shE
    · rw [if_neg hc]
theorem shw_shP {K : List Int} {t : Tr} (h : t.ok) : shwO K (shP K t) = getL t.list K := by
  rw [← Tr.get_list h, get_shE, get_end (shE_ok h) shE_ends]
  unfold shP
  cases hu : shE K t with
  | leaf k v =>
    show (if (1 : Int) = 1 ∧ k = K then some v else none) = if k = K then some v else none
    by_cases hk : k = K
    · rw [if_pos ⟨rfl, hk⟩, if_pos hk]
    · rw [if_neg (fun h => hk h.2), if_neg hk]
  | inner n b l r => exact if_neg (fun h => absurd (show (2 : Int) = 1 from h.1) (by decide))
theorem chk_shP {K : List Int} {t : Tr} (h : t.ok) : chkV K (t.hash hLf hIn) (shP K t) = .tuple #[.agg (kc ((getL t.list K).getD zk)), .bool (getL t.list K).isSome, .bool true] := by
  unfold chkV chkB
  rw [lead_shP h, top_shP h, decide_eq_true rfl, shw_shP h]
  rfl
end Go.Proofs.YtbhgchbacadgaaaDoor
