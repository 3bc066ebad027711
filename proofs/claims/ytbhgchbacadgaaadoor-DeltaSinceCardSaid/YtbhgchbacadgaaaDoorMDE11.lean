/-
  What is proved here: what Since's numbers are, and a row's text.
-/
import Derived.Test.YtbhgchbacadgaaaDoorMDE1
import Derived.Test.YtbhgchbacadgaaaDoorMYN0
import Derived.Test.YtbhgchbacadgaaaDoorMA2
import Derived.Deep.DeepCutAuto
set_option linter.unusedSimpArgs false
set_option linter.unusedVariables false
namespace Go.Proofs.YtbhgchbacadgaaaDoor
open Go.ChangeShapes Go.WideShapes Go.ChangeAt Go.RowKit
set_option linter.unusedVariables false
set_option linter.unusedSimpArgs false
set_option maxRecDepth 20000

theorem numTle {N : List Nd} {sz : Int} : ∀ {t : Tr} {i : Nat}, Rep hLf hIn N i t → ∀ k ∈ numT N sz t i, k ≤ i
  | .leaf K V, i, hr, k, hk => by
    unfold numT at hk
    by_cases h : (i : Int) < sz
    · rw [if_pos h] at hk; simp at hk
    · rw [if_neg h] at hk
      rw [List.mem_singleton.1 hk]
      exact Nat.le_refl _
  | .inner n0 b0 l r, i, hr, k, hk => by
    obtain ⟨a, d, hq, ha, hd, hl, hr2⟩ := hr
    by_cases h : (i : Int) < sz
    · unfold numT at hk; rw [if_pos h] at hk; simp at hk
    · rw [numTin h, hq] at hk
      rcases List.mem_cons.1 hk with rfl | hk
      · exact Nat.le_refl _
      · rcases List.mem_append.1 hk with hk | hk
        · have e : ((some (ndI n0 b0 a d ((Tr.inner n0 b0 l r).hash hLf hIn))).getD ndZ).r.toNat = d := rfl
          rw [e] at hk
          have := numTle hr2 k hk
          omega
        · have e : ((some (ndI n0 b0 a d ((Tr.inner n0 b0 l r).hash hLf hIn))).getD ndZ).l.toNat = a := rfl
          rw [e] at hk
          have := numTle hl k hk
          omega
theorem numTtop {N : List Nd} {sz : Int} (t : Tr) {i : Nat} (h : ¬ (i : Int) < sz) : i ∈ numT N sz t i := by
  cases t with
  | leaf K V => unfold numT; rw [if_neg h]; simp
  | inner n b l r => rw [numTin h]; simp
/-- there is nothing just if the tree's own number is too small -/
theorem numO_nil {N : List Nd} {sz ti : Int} {T : Option Tr} (hsz : 0 ≤ sz) (hT : TAt N ti T) : numO N sz (ti, T) = [] ↔ ti < sz := by
  cases T with
  | none =>
    have h : ti = -1 := hT
    exact ⟨fun _ => by omega, fun _ => rfl⟩
  | some t =>
    obtain ⟨i, hi, hr, _⟩ := hT
    have hi' : ti = (i : Int) := hi
    subst hi'
    show numT N sz t ((i : Int)).toNat = [] ↔ _
    rw [Int.toNat_natCast]
    refine ⟨fun h => ?_, fun h => ?_⟩
    · by_cases hlt : (i : Int) < sz
      · exact hlt
      · have := numTtop (N := N) t hlt
        rw [h] at this
        simp at this
    · cases t <;> (unfold numT; rw [if_pos h])
theorem sortI_srt (L : List Nat) : (sortI L).Pairwise (fun x y => x ≤ y) := by
  have h := List.pairwise_mergeSort (le := fun x y : Int => decide (x ≤ y)) (fun a b c h1 h2 => by simp at *; omega) (fun a b => by simp; omega) (ints L)
  exact h.imp (fun h => by simpa using h)
/-- the last one is the tree's own -/
theorem sortI_last {N : List Nd} {sz ti : Int} {T : Option Tr} (hT : TAt N ti T) {j : Nat} (hj : j + 1 = (sortI (numO N sz (ti, T))).length) : (sortI (numO N sz (ti, T)))[j]? = some ti := by
  cases T with
  | none =>
    have e : numO N sz (ti, none) = [] := rfl
    rw [sortI_len, e] at hj
    simp at hj
  | some t =>
    obtain ⟨i, hi, hr, _⟩ := hT
    have hi' : ti = (i : Int) := hi
    subst hi'
    have e : numO N sz ((i : Int), some t) = numT N sz t i := by show numT N sz t ((i : Int)).toNat = _; rw [Int.toNat_natCast]
    rw [e] at hj ⊢
    have hlt : ¬ (i : Int) < sz := fun h => by
      have : numT N sz t i = [] := by cases t <;> (unfold numT; rw [if_pos h])
      rw [sortI_len, this] at hj
      simp at hj
    have hmem : (i : Int) ∈ sortI (numT N sz t i) := by
      unfold sortI ints
      rw [List.mem_mergeSort]
      exact List.mem_map.2 ⟨i, numTtop t hlt, rfl⟩
    obtain ⟨m, hm, he⟩ := List.getElem_of_mem hmem
    have hjl : j < (sortI (numT N sz t i)).length := by omega
    have hle : (sortI (numT N sz t i))[j] ≤ (i : Int) := by
      obtain ⟨k, hk, ek⟩ := sortI_mem (List.getElem_mem hjl)
      rw [ek]
      have := numTle hr k hk
      omega
    have hge : (i : Int) ≤ (sortI (numT N sz t i))[j] := by
      rw [← he]
      by_cases h : m = j
      · subst h; exact Int.le_refl _
      · exact (List.pairwise_iff_getElem.1 (sortI_srt _)) m j hm hjl (by omega)
    rw [List.getElem?_eq_getElem hjl]
    congr 1
    omega
/-- a node of a row: without its children -/
def ndR (q : Rw) : Nd := ⟨q.leaf, q.k, q.v, q.n, q.b, 0, 0, z32⟩
theorem ndR_ok {q : Rw} (h : RwOk q) : NdOk (ndR q) := ⟨h.k, h.v, h.b, ky_zero⟩
theorem ndR_built {q : Rw} (h : RwOk q) : Tryd.prog.built 57 [(0, .bool q.leaf), (1, .agg (kc q.k)), (2, .agg (kc q.v)), (3, .agg (pc q.n q.b))] = some (nc (ndR q)).toArray := by
  obtain ⟨i0, hi, hz0, hz1, hz2⟩ := info_parts info_node
  obtain ⟨fields, hu, hpl⟩ := node_places
  unfold Program.built
  rw [hi, hu]
  simp only [hz0, hpl]
  have e3 : (Value.agg (nc ndZ).toArray).cells = (nc ndZ).toArray := rfl
  have sz : (nc ndZ).toArray.size = 132 := rfl
  rw [e3, fill_step (v := .bool q.leaf) (off := 0) (size := 1) rfl rfl (by simp only [putRow_len, sz]; decide), fill_step (v := .agg (kc q.k)) (off := 1) (size := 32) rfl (kc_size h.k) (by simp only [putRow_len, sz]; decide), fill_step (v := .agg (kc q.v)) (off := 33) (size := 32) rfl (kc_size h.v) (by simp only [putRow_len, sz]; decide), fill_step (v := .agg (pc q.n q.b)) (off := 65) (size := 33) rfl (pc_size q.n h.b) (by simp only [putRow_len, sz]; decide), fill_end]
  have c1 : (Value.agg (kc q.k)).cells.toList = u8s q.k := rfl
  have c2 : (Value.agg (kc q.v)).cells.toList = u8s q.v := rfl
  have c3 : (Value.agg (pc q.n q.b)).cells.toList = .int .i64 q.n :: u8s q.b := rfl
  have c0 : (Value.bool q.leaf).cells.toList = [.bool q.leaf] := rfl
  rw [c0, c1, c2, c3, nc_0, nc_1 ky_zero h.k, nc_2 h.k ky_zero h.v, nc_3 h.k h.v ky_zero h.b]
  rfl
/-- a row's text is its node's -/
theorem row_text {N : List Nd} (hall : ∀ q ∈ N, NdOk q) (hf : FrOk hLf hIn N) {k : Nat} (hk : k < N.length) :
    ∃ X, (∀ w, Calls Tryd.prog 25 #[.agg (nc (ndR (rowN N k))).toArray, .agg (kc (rowN N k).l), .agg (kc (rowN N k).r)] w (TxA w X)) ∧ sum X = (N[k]?.getD ndZ).h ∧ Bs X ∧ X.length < 1000000000 := by
  obtain ⟨t, hok, hr⟩ := hf k hk
  cases t with
  | leaf K V =>
    have hq : N[k]? = some (ndL K V (hLf K V)) := hr
    have e : rowN N k = rwL K V := by unfold rowN; rw [hq]; rfl
    rw [e, hq]
    have hro := rwL_ok hok.1 hok.2
    exact ⟨leafT K V, fun w => xText_leaf _ _ _ w (ndR_ok hro) rfl ky_zero ky_zero, rfl, leaf_tbs hok.1 hok.2, Nat.lt_of_le_of_lt (textL_all 108 [K, V] 2 rfl (by decide) (len_2k hok.1 hok.2)) (by decide)⟩
  | inner n0 b0 tl tr =>
    obtain ⟨a, d, hq, ha, hd, hl, hr2⟩ := hr
    have ea := rep_hash hl
    have ed := rep_hash hr2
    have e : rowN N k = rwI n0 b0 (hashN N (a : Int)) (hashN N (d : Int)) := by unfold rowN; rw [hq]; rfl
    have hb : Ky b0 := (hall _ (List.mem_of_getElem? hq)).b
    have hka := hashN_ky hall (a : Int); have hkd := hashN_ky hall (d : Int)
    rw [e, hq]
    have hn : n0 < 256 := hok.2.2.1
    refine ⟨innerT n0 b0 (hashN N (a : Int)) (hashN N (d : Int)), fun w => xText_inner _ _ _ w (ndR_ok (rwI_ok hb hka hkd)) rfl ⟨by show (0 : Int) ≤ n0; omega, by show (n0 : Int) ≤ 65535; omega⟩ hka hkd, ?_, inner_tbs hb hka hkd, Nat.lt_of_le_of_lt (textL_all 110 [be n0 2, b0, _, _] 4 rfl (by decide) (len_4k (be_length n0 2) hb hka hkd)) (by decide)⟩
    rw [ea, ed]
    rfl
end Go.Proofs.YtbhgchbacadgaaaDoor
/-
  What is proved here: where a row's parts lie in a list of rows.
-/
namespace Go.Proofs.YtbhgchbacadgaaaDoor
open Go.ChangeShapes Go.WideShapes Go.ChangeAt Go.RowKit
set_option linter.unusedVariables false
set_option linter.unusedSimpArgs false
set_option maxRecDepth 20000

structure RwAt (w : World) (g o : Nat) (q : Rw) : Prop where
  all : w.rangeAt g o (rwc q)
  leaf : w.cell? ⟨g, o, none⟩ = some (.bool q.leaf)
  key : w.rangeAt g (o + 1) (u8s q.k)
  val : w.rangeAt g (o + 33) (u8s q.v)
  pre : w.rangeAt g (o + 65) (.int .i64 q.n :: u8s q.b)
  left : w.rangeAt g (o + 98) (u8s q.l)
  right : w.rangeAt g (o + 130) (u8s q.r)
theorem range_at {w : World} {g o n : Nat} {xs Y : List Value} (h : w.rangeAt g o xs) (hn : ∀ j v, Y[j]? = some v → xs[n + j]? = some v) : w.rangeAt g (o + n) Y := fun j v hv => by
  have := h (n + j) v (hn j v hv)
  rwa [← Nat.add_assoc] at this
theorem rw_at {w : World} {g o : Nat} {q : Rw} (h : w.rangeAt g o (rwc q)) (hq : RwOk q) : RwAt w g o q := by
  have lk := (u8s_length q.k).trans hq.k.len
  have lv := (u8s_length q.v).trans hq.v.len
  have lb := (u8s_length q.b).trans hq.b.len
  have ll := (u8s_length q.l).trans hq.l.len
  have lr := (u8s_length q.r).trans hq.r.len
  have e : rwc q = [.bool q.leaf] ++ (u8s q.k ++ (u8s q.v ++ ((.int .i64 q.n :: u8s q.b) ++ (u8s q.l ++ u8s q.r)))) := rfl
  refine ⟨h, h 0 _ rfl, range_at h fun j v hv => ?_, range_at h fun j v hv => ?_, range_at h fun j v hv => ?_, range_at h fun j v hv => ?_, range_at h fun j v hv => ?_⟩
  all_goals
    have hj := (List.getElem?_eq_some_iff.1 hv).1
    simp only [List.length_cons, lk, lv, lb, ll, lr] at hj
    rw [e, List.getElem?_append_right (by simp; try omega)]
  · rw [List.getElem?_append_left (by simp [lk] <;> omega), ← hv]; congr 1; simp
  · rw [List.getElem?_append_right (by simp [lk] <;> omega), List.getElem?_append_left (by simp [lk, lv] <;> omega), ← hv]; congr 1; simp [lk] <;> omega
  · rw [List.getElem?_append_right (by simp [lk] <;> omega), List.getElem?_append_right (by simp [lk, lv] <;> omega), List.getElem?_append_left (by simp [lk, lv, lb] <;> omega), ← hv]; congr 1; simp [lk, lv] <;> omega
  · rw [List.getElem?_append_right (by simp [lk] <;> omega), List.getElem?_append_right (by simp [lk, lv] <;> omega), List.getElem?_append_right (by simp [lk, lv, lb] <;> omega), List.getElem?_append_left (by simp [lk, lv, lb, ll] <;> omega), ← hv]; congr 1; simp [lk, lv, lb] <;> omega
  · rw [List.getElem?_append_right (by simp [lk] <;> omega), List.getElem?_append_right (by simp [lk, lv] <;> omega), List.getElem?_append_right (by simp [lk, lv, lb] <;> omega), List.getElem?_append_right (by simp [lk, lv, lb, ll] <;> omega), ← hv]; congr 1; simp [lk, lv, lb, ll] <;> omega
theorem rwcs_at : ∀ {L : List Rw} {i : Nat} {q : Rw}, RwsOk L → L[i]? = some q → ∀ j v, (rwc q)[j]? = some v → (rwcs L)[i * 162 + j]? = some v
  | [], i, q, _, h, _, _, _ => by simp at h
  | p :: L, 0, q, ho, h, j, v, hv => by
    injection h with h; subst h
    show (rwc p ++ rwcs L)[0 * 162 + j]? = _
    rw [Nat.zero_mul, Nat.zero_add, List.getElem?_append_left (List.getElem?_eq_some_iff.1 hv).1]
    exact hv
  | p :: L, i + 1, q, ho, h, j, v, hv => by
    show (rwc p ++ rwcs L)[(i + 1) * 162 + j]? = _
    have hl := (ho p (by simp)).len
    rw [List.getElem?_append_right (by rw [hl]; omega), hl, show (i + 1) * 162 + j - 162 = i * 162 + j by omega]
    exact rwcs_at (fun r hr => ho r (List.mem_cons_of_mem _ hr)) h j v hv
theorem OwR.at {n0 : Nat} {w : World} {g n c : Nat} {L : List Rw} (h : OwR n0 w (.slice (some ⟨g, 0, none⟩) n c) L) {i : Nat} {q : Rw} (hi : L[i]? = some q) : RwAt w g (i * 162) q := by
  refine rw_at (fun j v hv => ?_) (h.ok q (List.mem_of_getElem? hi))
  have h1 := rwcs_at h.ok hi j v hv
  have h2 := h.row.cells (g := g) rfl _ v h1
  rw [Addr.add_lit, Nat.zero_add] at h2
  exact h2
end Go.Proofs.YtbhgchbacadgaaaDoor
/-
  What is proved here: what a tree has since is its nodes with numbers from there on: the walk of the statement.
-/
namespace Go.Proofs.YtbhgchbacadgaaaDoor
open Go.ChangeShapes Go.WideShapes Go.ChangeAt Go.RowKit
set_option linter.unusedVariables false
set_option linter.unusedSimpArgs false
set_option maxRecDepth 20000

theorem numTlen {N : List Nd} {sz : Int} : ∀ (t : Tr) (i : Nat), (numT N sz t i).length ≤ wtT t
  | .leaf K V, i => by unfold numT; split <;> simp [wtT]
  | .inner n0 b0 l r, i => by
    by_cases h : (i : Int) < sz
    · unfold numT; rw [if_pos h]; simp
    · rw [numTin h, List.length_cons, List.length_append]
      have h1 := numTlen (N := N) (sz := sz) r ((N[i]?.getD ndZ).r.toNat)
      have h2 := numTlen (N := N) (sz := sz) l ((N[i]?.getD ndZ).l.toNat)
      show _ ≤ 1 + wtT l + wtT r
      omega
theorem wtOle (T : Option Tr) : wtO T ≤ 2 * szO T + 1 := by
  cases T with
  | none => exact Nat.le_refl _
  | some t => have := wtTlen t; show wtT t ≤ 2 * t.list.length + 1; omega
theorem numOlen {N : List Nd} {sz ti : Int} (T : Option Tr) : (numO N sz (ti, T)).length ≤ wtO T := by
  cases T with
  | none => exact Nat.zero_le _
  | some t => exact numTlen t _
theorem numOlt {N : List Nd} {sz ti : Int} {T : Option Tr} (hT : TAt N ti T) : ∀ k ∈ numO N sz (ti, T), k < N.length ∧ sz ≤ (k : Int) := fun k hk => by
  cases T with
  | none => exact absurd hk (by show ¬ k ∈ ([] : List Nat); simp)
  | some t =>
    obtain ⟨i, hi, hr, _⟩ := hT
    have hi' : ti = (i : Int) := hi
    subst hi'
    have hk' : k ∈ numT N sz t ((i : Int)).toNat := hk
    rw [Int.toNat_natCast] at hk'
    exact numTlt hr k hk'
set_option maxHeartbeats 8000000 in
theorem dsince_main {w : World} {A0 A2 : Option Addr} {n c0 n2 c2 : Nat} {P Q : List KV} {bk : Int} (h : InP w A0 n P) (h2 : InP w A2 n2 Q) (hbk : 0 ≤ bk ∧ bk < 256) (hn : n ≤ 15) (hn2 : n2 ≤ 10) (ht : Tab w) : Calls Tryd.prog 8 #[.slice A0 n c0, .slice A2 n2 c2, .int .u8 bk] w fun e w' => e = .returned (.bool true) ∧ Below w.heap.size w w' := by
  have CA := hid (fun w1 (hb : Below w.heap.size w w1) => dawake_any w1 (ht.below hb))
  have CL := hid (fun w1 (hb : Below w.heap.size w w1) => later_any (c0 := c0) (c2 := c2) (h.below hb) (h2.below hb) (by have := h.1; have := h2.1; omega) (ht.below hb))
  have HPL : Hid (P.length + Q.length ≤ 25) := by have := h.1; have := h2.1; show _ ≤ _; omega
  have HT := hid ht
  have hm1 : ¬ (15 : Int) < (n : Int) := by omega
  have hm2 : ¬ (10 : Int) < (n2 : Int) := by omega
  clear h h2 ht hn hn2
  unfold LtA at CL
  go_enter Tryd.func8, Tryd.ntmps8
  go_upto_region 4 with (first
    | (go_at_call 36; refine (CA.out _ (Below.refl _ _)).mono ?_; rintro e w1 ⟨rfl, hb⟩; have B1 := hid hb; clear hb)
    | (go_at_call 37; refine (CL.out _ B1.out).mono ?_; rintro e w2 ⟨f, ta, tb, size, g, b, N, A, c, tv, T, rfl, hsz, bt⟩; have BT := hid bt; have HSZ := hid hsz; clear bt hsz))
  clear hm1 hm2 CA CL
  go_upto_region 5 with (fail)
  obtain ⟨sz, hsz⟩ : ∃ sz, sz = max (wrap64 ((size : Int) - bk % 4)) 0 := ⟨_, rfl⟩
  rw [← hsz]
  have hnl : N.length ≤ 1750 := by have h1 := BT.out.nl; have h2 := HPL.out; omega
  have HZ0 : Hid (0 ≤ sz ∧ sz ≤ (N.length : Int)) := by
    have h1 := HSZ.out
    have e : wrap64 ((size : Int) - bk % 4) = (size : Int) - bk % 4 := IntWalk.wrap64_in _ (by omega)
    rw [e] at hsz
    show _ ∧ _
    omega
  have hst : szO T ≤ 25 := by have h1 := BT.out.sz; have h2 := HPL.out; omega
  have hw1 := wtOle T
  have cs := since_any (sz := sz) BT.out.fo BT.out.fr BT.out.t HZ0.out.1 (by omega) (by have := numOlen (N := N) (sz := sz) (ti := tb) T; omega) (HT.out.below (B1.out.trans (BT.out.bl.mono B1.out.size)))
  have CS := hid cs
  have B2 := hid (B1.out.trans (BT.out.bl.mono B1.out.size))
  obtain ⟨hky, _⟩ := droot_any BT.out.fo BT.out.t (HT.out.below B2.out)
  have CR := hid (fun w' (hb : Below w2.heap.size w2 w') => (droot_any (BT.out.fo.below hb) BT.out.t (HT.out.below (B2.out.trans (hb.mono B2.out.size)))).2)
  have HKY := hid hky
  obtain ⟨ZH, HZH, hZH0, hZHs⟩ := zero_key
  obtain ⟨ZN, HZN, hZN0, hZNs⟩ := zero_node
  have HRI9 := hid (kc_info hky)
  have HRZ9 : Hid (ZH.size = (kc (hsO T)).size) := by show _ = _; rw [HZH.out, kc_size zk_ky, kc_size hky]
  have HFO := hid BT.out.fo; have HFR := hid BT.out.fr; have HTA := hid BT.out.t
  have HNL := hid hnl; have HWB : Hid (wtO T ≤ 51) := by show _ ≤ _; omega
  clear cs hky hsz hst hw1 hnl BT HSZ HPL
  unfold SnA at CS
  unfold hV at CR
  go_upto_region 6 with (go_at_call 38; refine CS.out.mono ?_; rintro e w3 ⟨v11, rfl, ho, hb⟩; have HO := hid ho; have B3 := hid hb; clear ho hb)
  obtain ⟨A11, c11, hv⟩ := HO.out.len
  obtain ⟨m, hm⟩ : ∃ m, m = (rowsS N (sortI (numO N sz (tb, T)))).length := ⟨_, rfl⟩
  rw [← hm] at hv
  subst hv
  have HM := hid hm
  have HML : Hid (m = (sortI (numO N sz (tb, T))).length) := by show _ = _; rw [hm]; unfold rowsS; rw [List.length_map]
  have HME : Hid (tb < sz ↔ m = 0) := by
    show _ ↔ _
    rw [HML.out, sortI_len, ← numO_nil (N := N) HZ0.out.1 HTA.out]
    exact ⟨fun h => by rw [h]; rfl, fun h => List.eq_nil_of_length_eq_zero h⟩
  clear hm CS
  go_upto_region 7 with (first
    | (go_at_call 13; refine (CR.out _ B3.out).mono ?_; rintro e w4 ⟨rfl, hb⟩; have B4 := hid (B3.out.trans (hb.mono B3.out.size)); have O4 := hid (HO.out.below hb); clear hb)
    | (refine wpList_store_row rfl 24 (.tmp 13) (.tmp 60) rfl w4.heap.size (kc (hsO T)) rfl rfl 24 ZH (Blk.new w4 24 ZH) HRI9.out HRZ9.out (kc_one _) ?_))
  have BX : Hid (Below w4.heap.size w4 ((w4.alloc (.cells ZH 24)).setRow w4.heap.size (kc (hsO T)))) := below_setRow ((Below.refl _ _).alloc (Nat.le_refl _) _) (Nat.le_refl _) _
  have K13 : Hid (Blk ((w4.alloc (.cells ZH 24)).setRow w4.heap.size (kc (hsO T))) w4.heap.size 24 (kc (hsO T))) := (Blk.new w4 24 ZH).row _
  have B9 := hid (B4.out.trans (BX.out.mono B4.out.size))
  have O9 := hid (O4.out.below BX.out)
  clear BX B4 O4 HO B3 CR HRI9 HRZ9
  generalize (w4.alloc (.cells ZH 24)).setRow w4.heap.size (kc (hsO T)) = w9 at K13 B9 O9 ⊢
  generalize w4.heap.size = g13 at K13 ⊢
  have hmb : m ≤ 9223372036854775807 := by
    have h1 := HML.out
    rw [sortI_len] at h1
    have h2 := numOlen (N := N) (sz := sz) (ti := tb) T
    have h3 := HWB.out
    omega
  go_cut [72] (fun s72 wx => s72 = .bool false ∧ w9 = wx)
  case first =>
    by_cases hlt0 : tb < sz
    · have hm0 : m = 0 := HME.out.1 hlt0
      have hm3 : ((m : Nat) : Int) = 0 := by omega
      go_wp2
      go_meet
      exact ⟨rfl, rfl⟩
    · have hm0 : ¬ m = 0 := fun h => hlt0 (HME.out.2 h)
      have hm3 : ¬ ((m : Nat) : Int) = 0 := by omega
      go_wp2
      go_meet
      exact ⟨by rw [show (((m : Nat) : Int) == 0) = false from beq_eq_false_iff_ne.2 hm3], rfl⟩
  case rest =>
  obtain ⟨rfl, hwx⟩ := hcut
  subst hwx
  have BB := hid (B2.out.trans (B9.out.mono B2.out.size))
  go_wp2
  go_loopw [15] (fun s15 wr => ∃ i : Nat, i ≤ m ∧ s15 = .int .i64 (i : Nat) ∧ Hid (Below w9.heap.size w9 wr)) (fun s15 _ => m - (intOf s15).toNat)
  case atStart => exact ⟨0, Nat.zero_le _, rfl, Below.refl _ _⟩
  case round =>
    obtain ⟨i, hi, rfl, BL⟩ := hrel
    by_cases hlt : i < m
    · have hlt2 : (i : Int) < m := by omega
      have hil : i < (sortI (numO N sz (tb, T))).length := by rw [← HML.out]; exact hlt
      obtain ⟨z, hz⟩ : ∃ z, (sortI (numO N sz (tb, T)))[i]? = some z := ⟨_, List.getElem?_eq_getElem hil⟩
      obtain ⟨k, hkL, hzk⟩ := sortI_mem (List.mem_of_getElem? hz)
      subst hzk
      obtain ⟨hkn, hks⟩ := numOlt HTA.out k hkL
      have hR : (rowsS N (sortI (numO N sz (tb, T))))[i]? = some (rowN N k) := by unfold rowsS; rw [List.getElem?_map, hz, Option.map_some, Int.toNat_natCast]
      have HLASTZ : Hid (i + 1 = m → (k : Int) = tb) := fun he => by
        have := sortI_last HTA.out (j := i) (by rw [← HML.out]; exact he)
        rw [hz] at this
        injection this
      obtain ⟨R, hRR⟩ : ∃ R, R = rowN N k := ⟨_, rfl⟩
      obtain ⟨hh, hhh⟩ : ∃ hh, hh = (N[k]?.getD ndZ).h := ⟨_, rfl⟩
      obtain ⟨X, ctx, hsx, hbx, hxl⟩ := row_text HFO.out.ok HFR.out hkn
      have hro := (drow_any HFO.out HFR.out hkn).1
      rw [← hRR] at hR ctx hro
      rw [← hhh] at hsx
      have O1 := hid (O9.out.below BL.out)
      have row := O1.out.row
      rcases row.2 with ⟨_, h0⟩ | ⟨gr, cap, cur, hv, _⟩
      · exfalso
        have h5 := List.length_eq_zero_iff.1 h0
        rw [h5] at hR; simp at hR
      injection hv with hA hn3 hc3
      subst hA
      clear hn3 hc3
      have RWA := hid (OwR.at O1.out hR)
      have CX := hid ctx
      have CU : Hid (∀ (w : World) (B : Option Addr) (d : Nat), Rp w none B X → Calls Tryd.prog 24 #[.slice B X.length d] w fun e w' => e = .returned (.agg (kc hh)) ∧ Below w.heap.size w w') := fun w B d hr => by
        rw [← hsx]; exact RSum_any B d X w hr hbx hxl
      have hhk : Ky hh := by rw [← hsx]; exact ⟨sum_length _, sum_bs _⟩
      have HHK := hid hhk
      have hnr := ndR_ok hro
      have HNR := hid hnr; have HRO := hid hro
      have HBU := hid (ndR_built hro)
      have HNI := hid (node_info hnr); have HNI2 := hid (node_info2 hnr)
      have HNZ : Hid (ZN.size = (nc (ndR R)).toArray.size) := by show _ = _; rw [HZN.out, List.size_toArray, List.size_toArray, ndZ_ok.nc, hnr.nc]
      have HKI := hid (u8s_info hro.k); have HVI := hid (u8s_info hro.v); have HLI := hid (u8s_info hro.l); have HRI := hid (u8s_info hro.r); have HPI := hid (pcl_info R.n hro.b)
      have HHI2 := hid (kc_info hhk)
      have HHZ : Hid (ZH.size = (kc hh).size) := by show _ = _; rw [HZH.out, kc_size zk_ky, kc_size hhk]
      have HKN := hid hkn; have HKS := hid hks; have HHH := hid hhh
      clear hil hz hkL hkn hks hR hRR hhh ctx hsx hbx hxl hro row hhk hnr
      go_upto_region 12 with (fail)
      go_cut [16] (fun s16 wx => ∃ e16, s16 = .pointer (some ⟨e16, 0, none⟩) ∧ Hid (Blk wx e16 57 (nc (ndR R)).toArray) ∧ Hid (Below wr.heap.size wr wx))
      case first =>
        refine wp_region_held (S := fun w' => Hid (Below wr.heap.size wr w')) (by kernel_rfl) ?_
        change wpAnyH _ _ _ _ _ _ _ _ wr.drew
        have Gx0 : Hid (Below wr.heap.size wr wr.drew) := (Below.refl _ _).drew
        generalize wr.drew = x0 at Gx0  ⊢
        refine wpAnyH_take (i := 0) (oi := { dst := some 79, op := _, type := _, pos := _, after := _, guard := _ }) (v := ?_) rfl (by kernel_rfl) (by kernel_rfl) (by kernel_rfl) (fun _ _ _ h => h) (Or.inl ⟨by kernel_rfl, ?_⟩) Gx0 ?_
        rotate_left
        · (intro w hSw; go_simp; try with_reducible rfl)
        try simp only [Act.put, List.setIfInBounds_toArray, List.set_cons_zero, List.set_cons_succ]
        refine wpAnyH_take (i := 1) (oi := { dst := some 80, op := _, type := _, pos := _, after := _, guard := _ }) (v := ?_) rfl (by kernel_rfl) (by kernel_rfl) (by kernel_rfl) (fun _ _ _ h => h) (Or.inl ⟨by kernel_rfl, ?_⟩) Gx0 ?_
        rotate_left
        · (intro w hSw; go_simp; try with_reducible rfl)
        try simp only [Act.put, List.setIfInBounds_toArray, List.set_cons_zero, List.set_cons_succ]
        refine wpAnyH_take (i := 2) (oi := { dst := some 81, op := _, type := _, pos := _, after := _, guard := _ }) (v := ?_) rfl (by kernel_rfl) (by kernel_rfl) (by kernel_rfl) (fun _ _ _ h => h) (Or.inl ⟨by kernel_rfl, ?_⟩) Gx0 ?_
        rotate_left
        · (intro w hSw; go_simp; try with_reducible rfl)
        try simp only [Act.put, List.setIfInBounds_toArray, List.set_cons_zero, List.set_cons_succ]
        refine wpAnyH_take (i := 3) (oi := { dst := some 82, op := _, type := _, pos := _, after := _, guard := _ }) (v := ?_) rfl (by kernel_rfl) (by kernel_rfl) (by kernel_rfl) (fun _ _ _ h => h) (Or.inl ⟨by kernel_rfl, ?_⟩) Gx0 ?_
        rotate_left
        · (intro w hSw; go_simp; try with_reducible rfl)
        try simp only [Act.put, List.setIfInBounds_toArray, List.set_cons_zero, List.set_cons_succ]
        refine wpAnyH_take (i := 4) (oi := { dst := some 83, op := _, type := _, pos := _, after := _, guard := _ }) (v := .bool R.leaf) rfl (by kernel_rfl) (by kernel_rfl) (by kernel_rfl) (fun _ _ _ h => h) (Or.inl ⟨by kernel_rfl, ?_⟩) Gx0 ?_
        · (intro w hSw; have c9 := cell_bel hSw.out RWA.out.leaf; go_simp; try with_reducible rfl)
        try simp only [Act.put, List.setIfInBounds_toArray, List.set_cons_zero, List.set_cons_succ]
        refine wpAnyH_take (i := 5) (oi := { dst := some 84, op := _, type := _, pos := _, after := _, guard := _ }) (v := ?_) rfl (by kernel_rfl) (by kernel_rfl) (by kernel_rfl) (fun _ _ _ h => h) (Or.inl ⟨by kernel_rfl, ?_⟩) Gx0 ?_
        rotate_left
        · (intro w hSw; go_simp; try with_reducible rfl)
        try simp only [Act.put, List.setIfInBounds_toArray, List.set_cons_zero, List.set_cons_succ]
        refine wpAnyH_take (i := 6) (oi := { dst := some 85, op := _, type := _, pos := _, after := _, guard := _ }) (v := ?_) rfl (by kernel_rfl) (by kernel_rfl) (by kernel_rfl) (fun _ _ _ h => h) (Or.inl ⟨by kernel_rfl, ?_⟩) Gx0 ?_
        rotate_left
        · (intro w hSw; go_simp; try with_reducible rfl)
        try simp only [Act.put, List.setIfInBounds_toArray, List.set_cons_zero, List.set_cons_succ]
        refine wpAnyH_take (i := 7) (oi := { dst := some 86, op := _, type := _, pos := _, after := _, guard := _ }) (v := ?_) rfl (by kernel_rfl) (by kernel_rfl) (by kernel_rfl) (fun _ _ _ h => h) (Or.inl ⟨by kernel_rfl, ?_⟩) Gx0 ?_
        rotate_left
        · (intro w hSw; go_simp; try with_reducible rfl)
        try simp only [Act.put, List.setIfInBounds_toArray, List.set_cons_zero, List.set_cons_succ]
        refine wpAnyH_take (i := 8) (oi := { dst := some 87, op := _, type := _, pos := _, after := _, guard := _ }) (v := ?_) rfl (by kernel_rfl) (by kernel_rfl) (by kernel_rfl) (fun _ _ _ h => h) (Or.inl ⟨by kernel_rfl, ?_⟩) Gx0 ?_
        rotate_left
        · (intro w hSw; go_simp; try with_reducible rfl)
        try simp only [Act.put, List.setIfInBounds_toArray, List.set_cons_zero, List.set_cons_succ]
        refine wpAnyH_take (i := 9) (oi := { dst := some 88, op := _, type := _, pos := _, after := _, guard := _ }) (v := .agg ((kc R.k))) rfl (by kernel_rfl) (by kernel_rfl) (by kernel_rfl) (fun _ _ _ h => h) (yieldsIf_load_mid (cs := u8s R.k) (by rfl) _ _ rfl _ _ rfl _ (fun w' hSw => (rng_bel hSw.out RWA.out.key)) Tryd.underlying24 rfl HKI.out) Gx0 ?_
        try simp only [Act.put, List.setIfInBounds_toArray, List.set_cons_zero, List.set_cons_succ]
        refine wpAnyH_take (i := 10) (oi := { dst := some 89, op := _, type := _, pos := _, after := _, guard := _ }) (v := ?_) rfl (by kernel_rfl) (by kernel_rfl) (by kernel_rfl) (fun _ _ _ h => h) (Or.inl ⟨by kernel_rfl, ?_⟩) Gx0 ?_
        rotate_left
        · (intro w hSw; go_simp; try with_reducible rfl)
        try simp only [Act.put, List.setIfInBounds_toArray, List.set_cons_zero, List.set_cons_succ]
        refine wpAnyH_take (i := 11) (oi := { dst := some 90, op := _, type := _, pos := _, after := _, guard := _ }) (v := ?_) rfl (by kernel_rfl) (by kernel_rfl) (by kernel_rfl) (fun _ _ _ h => h) (Or.inl ⟨by kernel_rfl, ?_⟩) Gx0 ?_
        rotate_left
        · (intro w hSw; go_simp; try with_reducible rfl)
        try simp only [Act.put, List.setIfInBounds_toArray, List.set_cons_zero, List.set_cons_succ]
        refine wpAnyH_take (i := 12) (oi := { dst := some 91, op := _, type := _, pos := _, after := _, guard := _ }) (v := ?_) rfl (by kernel_rfl) (by kernel_rfl) (by kernel_rfl) (fun _ _ _ h => h) (Or.inl ⟨by kernel_rfl, ?_⟩) Gx0 ?_
        rotate_left
        · (intro w hSw; go_simp; try with_reducible rfl)
        try simp only [Act.put, List.setIfInBounds_toArray, List.set_cons_zero, List.set_cons_succ]
        refine wpAnyH_take (i := 13) (oi := { dst := some 92, op := _, type := _, pos := _, after := _, guard := _ }) (v := ?_) rfl (by kernel_rfl) (by kernel_rfl) (by kernel_rfl) (fun _ _ _ h => h) (Or.inl ⟨by kernel_rfl, ?_⟩) Gx0 ?_
        rotate_left
        · (intro w hSw; go_simp; try with_reducible rfl)
        try simp only [Act.put, List.setIfInBounds_toArray, List.set_cons_zero, List.set_cons_succ]
        refine wpAnyH_take (i := 14) (oi := { dst := some 93, op := _, type := _, pos := _, after := _, guard := _ }) (v := .agg ((kc R.v))) rfl (by kernel_rfl) (by kernel_rfl) (by kernel_rfl) (fun _ _ _ h => h) (yieldsIf_load_mid (cs := u8s R.v) (by rfl) _ _ rfl _ _ rfl _ (fun w' hSw => (rng_bel hSw.out RWA.out.val)) Tryd.underlying24 rfl HVI.out) Gx0 ?_
        try simp only [Act.put, List.setIfInBounds_toArray, List.set_cons_zero, List.set_cons_succ]
        refine wpAnyH_take (i := 15) (oi := { dst := some 94, op := _, type := _, pos := _, after := _, guard := _ }) (v := ?_) rfl (by kernel_rfl) (by kernel_rfl) (by kernel_rfl) (fun _ _ _ h => h) (Or.inl ⟨by kernel_rfl, ?_⟩) Gx0 ?_
        rotate_left
        · (intro w hSw; go_simp; try with_reducible rfl)
        try simp only [Act.put, List.setIfInBounds_toArray, List.set_cons_zero, List.set_cons_succ]
        refine wpAnyH_take (i := 16) (oi := { dst := some 95, op := _, type := _, pos := _, after := _, guard := _ }) (v := ?_) rfl (by kernel_rfl) (by kernel_rfl) (by kernel_rfl) (fun _ _ _ h => h) (Or.inl ⟨by kernel_rfl, ?_⟩) Gx0 ?_
        rotate_left
        · (intro w hSw; go_simp; try with_reducible rfl)
        try simp only [Act.put, List.setIfInBounds_toArray, List.set_cons_zero, List.set_cons_succ]
        refine wpAnyH_take (i := 17) (oi := { dst := some 96, op := _, type := _, pos := _, after := _, guard := _ }) (v := ?_) rfl (by kernel_rfl) (by kernel_rfl) (by kernel_rfl) (fun _ _ _ h => h) (Or.inl ⟨by kernel_rfl, ?_⟩) Gx0 ?_
        rotate_left
        · (intro w hSw; go_simp; try with_reducible rfl)
        try simp only [Act.put, List.setIfInBounds_toArray, List.set_cons_zero, List.set_cons_succ]
        refine wpAnyH_take (i := 18) (oi := { dst := some 97, op := _, type := _, pos := _, after := _, guard := _ }) (v := ?_) rfl (by kernel_rfl) (by kernel_rfl) (by kernel_rfl) (fun _ _ _ h => h) (Or.inl ⟨by kernel_rfl, ?_⟩) Gx0 ?_
        rotate_left
        · (intro w hSw; go_simp; try with_reducible rfl)
        try simp only [Act.put, List.setIfInBounds_toArray, List.set_cons_zero, List.set_cons_succ]
        refine wpAnyH_take (i := 19) (oi := { dst := some 98, op := _, type := _, pos := _, after := _, guard := _ }) (v := .agg ((pc R.n R.b))) rfl (by kernel_rfl) (by kernel_rfl) (by kernel_rfl) (fun _ _ _ h => h) (yieldsIf_load_mid (cs := .int .i64 R.n :: u8s R.b) (by rfl) _ _ rfl _ _ rfl _ (fun w' hSw => (rng_bel hSw.out RWA.out.pre)) Tryd.underlying55 rfl HPI.out) Gx0 ?_
        try simp only [Act.put, List.setIfInBounds_toArray, List.set_cons_zero, List.set_cons_succ]
        refine wpAnyH_take (i := 20) (oi := { dst := some 99, op := _, type := _, pos := _, after := _, guard := _ }) (v := .agg (nc (ndR R)).toArray) rfl (by kernel_rfl) (by kernel_rfl) (by kernel_rfl) (fun _ _ _ h => h) (Or.inl ⟨by kernel_rfl, ?_⟩) Gx0 ?_
        · (intro w hSw; have hbw := HBU.out; exact exec_build1 57 #[(0, .tmp 83), (1, .tmp 88), (2, .tmp 93), (3, .tmp 98)] rfl _ (by simp only [List.map_toArray, List.map_cons, List.map_nil, Act.eval]; exact hbw) w)
        try simp only [Act.put, List.setIfInBounds_toArray, List.set_cons_zero, List.set_cons_succ]
        refine wpAnyH_ready (rs := [21]) (by kernel_rfl) (by simp) ?_
        refine (AllReadyH.cons (o := { dst := some 16, op := _, type := _, pos := _, after := _, guard := _ }) rfl (fun Qc hQc => ?_) AllReadyH.nil)
        go_simp
        have NBc : Hid (Blk (x0.alloc (.cells ZN 57)) x0.heap.size 57 ZN) := Blk.new x0 57 ZN
        have GE : Hid (wr.heap.size ≤ x0.heap.size) := Gx0.out.size
        have Gx1 := hid (Gx0.out.alloc Gx0.out.size (.cells ZN 57))
        refine hQc.out _ _ Gx1 (fun hHeld => ?_)
        clear hQc Qc hHeld
        generalize x0.heap.size = e16 at NBc GE ⊢
        generalize x0.alloc (.cells ZN 57) = x1 at NBc Gx1 ⊢
        try simp only [Act.put, List.setIfInBounds_toArray, List.set_cons_zero, List.set_cons_succ]
        refine wpAnyH_ready (rs := [22]) (by kernel_rfl) (by simp) ?_
        refine (AllReadyH.cons (o := { dst := none, op := _, type := _, pos := _, after := _, guard := _ }) rfl (fun Qc hQc => ?_) AllReadyH.nil)
        rw [if_pos (by rfl)]
        refine wp_store_row 57 (.tmp 16) (.tmp 99) rfl e16 (nc (ndR R)).toArray rfl rfl 57 ZN NBc.out HNI2.out HNZ.out (nc_one2 _) ?_
        have Gx2 : Hid (Below wr.heap.size wr (x1.setRow e16 (nc (ndR R)).toArray)) := below_setRow Gx1.out GE.out _
        have NBf := hid (NBc.out.row (nc (ndR R)).toArray)
        refine hQc.out _ _ Gx2 (fun hHeld => ?_)
        clear hQc Qc hHeld
        generalize x1.setRow e16 (nc (ndR R)).toArray = x2 at Gx2 NBf ⊢
        try simp only [Act.put, List.setIfInBounds_toArray, List.set_cons_zero, List.set_cons_succ]
        refine wpAnyH_done (by kernel_rfl) ?_ _
        try simp only [Act.put, List.setIfInBounds_toArray, List.set_cons_zero, List.set_cons_succ]
        go_wp2
        go_meet
        exact ⟨e16, rfl, NBf, Gx2⟩
      case rest =>
      obtain ⟨e16, rfl, N16, BX⟩ := hcut
      generalize wc = w5 at N16 BX ⊢
      have RWA5 : Hid (RwAt w5 gr (i * 162) R) := rw_at (rng_bel BX.out RWA.out.all) HRO.out
      go_upto_region 13 with (fail)
      go_cut [17] (fun s17 wx => ∃ e17, s17 = .pointer (some ⟨e17, 0, none⟩) ∧ Hid (Blk wx e17 24 (kc hh)) ∧ Hid (Below w5.heap.size w5 wx))
      case first =>
        refine wp_region_held (S := fun w' => Hid (Below w5.heap.size w5 w')) (by kernel_rfl) ?_
        change wpAnyH _ _ _ _ _ _ _ _ w5.drew
        have Gx0 : Hid (Below w5.heap.size w5 w5.drew) := (Below.refl _ _).drew
        generalize w5.drew = x0 at Gx0  ⊢
        refine wpAnyH_take (i := 0) (oi := { dst := some 100, op := _, type := _, pos := _, after := _, guard := _ }) (v := .agg ((nc (ndR R)).toArray)) rfl (by kernel_rfl) (by kernel_rfl) (by kernel_rfl) (fun _ _ _ h => h) (yieldsIf_load_mid (cs := nc (ndR R)) (by rfl) _ _ rfl _ _ rfl _ (fun w' hSw => (((N16.out.below hSw.out).node HNR.out).all)) Tryd.underlying57 rfl HNI.out) Gx0 ?_
        try simp only [Act.put, List.setIfInBounds_toArray, List.set_cons_zero, List.set_cons_succ]
        refine wpAnyH_take (i := 1) (oi := { dst := some 101, op := _, type := _, pos := _, after := _, guard := _ }) (v := ?_) rfl (by kernel_rfl) (by kernel_rfl) (by kernel_rfl) (fun _ _ _ h => h) (Or.inl ⟨by kernel_rfl, ?_⟩) Gx0 ?_
        rotate_left
        · (intro w hSw; go_simp; try with_reducible rfl)
        try simp only [Act.put, List.setIfInBounds_toArray, List.set_cons_zero, List.set_cons_succ]
        refine wpAnyH_take (i := 2) (oi := { dst := some 102, op := _, type := _, pos := _, after := _, guard := _ }) (v := ?_) rfl (by kernel_rfl) (by kernel_rfl) (by kernel_rfl) (fun _ _ _ h => h) (Or.inl ⟨by kernel_rfl, ?_⟩) Gx0 ?_
        rotate_left
        · (intro w hSw; go_simp; try with_reducible rfl)
        try simp only [Act.put, List.setIfInBounds_toArray, List.set_cons_zero, List.set_cons_succ]
        refine wpAnyH_take (i := 3) (oi := { dst := some 103, op := _, type := _, pos := _, after := _, guard := _ }) (v := ?_) rfl (by kernel_rfl) (by kernel_rfl) (by kernel_rfl) (fun _ _ _ h => h) (Or.inl ⟨by kernel_rfl, ?_⟩) Gx0 ?_
        rotate_left
        · (intro w hSw; go_simp; try with_reducible rfl)
        try simp only [Act.put, List.setIfInBounds_toArray, List.set_cons_zero, List.set_cons_succ]
        refine wpAnyH_take (i := 4) (oi := { dst := some 104, op := _, type := _, pos := _, after := _, guard := _ }) (v := ?_) rfl (by kernel_rfl) (by kernel_rfl) (by kernel_rfl) (fun _ _ _ h => h) (Or.inl ⟨by kernel_rfl, ?_⟩) Gx0 ?_
        rotate_left
        · (intro w hSw; go_simp; try with_reducible rfl)
        try simp only [Act.put, List.setIfInBounds_toArray, List.set_cons_zero, List.set_cons_succ]
        refine wpAnyH_take (i := 5) (oi := { dst := some 105, op := _, type := _, pos := _, after := _, guard := _ }) (v := .agg ((kc R.l))) rfl (by kernel_rfl) (by kernel_rfl) (by kernel_rfl) (fun _ _ _ h => h) (yieldsIf_load_mid (cs := u8s R.l) (by rfl) _ _ rfl _ _ rfl _ (fun w' hSw => (rng_bel hSw.out RWA5.out.left)) Tryd.underlying24 rfl HLI.out) Gx0 ?_
        try simp only [Act.put, List.setIfInBounds_toArray, List.set_cons_zero, List.set_cons_succ]
        refine wpAnyH_take (i := 6) (oi := { dst := some 106, op := _, type := _, pos := _, after := _, guard := _ }) (v := ?_) rfl (by kernel_rfl) (by kernel_rfl) (by kernel_rfl) (fun _ _ _ h => h) (Or.inl ⟨by kernel_rfl, ?_⟩) Gx0 ?_
        rotate_left
        · (intro w hSw; go_simp; try with_reducible rfl)
        try simp only [Act.put, List.setIfInBounds_toArray, List.set_cons_zero, List.set_cons_succ]
        refine wpAnyH_take (i := 7) (oi := { dst := some 107, op := _, type := _, pos := _, after := _, guard := _ }) (v := ?_) rfl (by kernel_rfl) (by kernel_rfl) (by kernel_rfl) (fun _ _ _ h => h) (Or.inl ⟨by kernel_rfl, ?_⟩) Gx0 ?_
        rotate_left
        · (intro w hSw; go_simp; try with_reducible rfl)
        try simp only [Act.put, List.setIfInBounds_toArray, List.set_cons_zero, List.set_cons_succ]
        refine wpAnyH_take (i := 8) (oi := { dst := some 108, op := _, type := _, pos := _, after := _, guard := _ }) (v := ?_) rfl (by kernel_rfl) (by kernel_rfl) (by kernel_rfl) (fun _ _ _ h => h) (Or.inl ⟨by kernel_rfl, ?_⟩) Gx0 ?_
        rotate_left
        · (intro w hSw; go_simp; try with_reducible rfl)
        try simp only [Act.put, List.setIfInBounds_toArray, List.set_cons_zero, List.set_cons_succ]
        refine wpAnyH_take (i := 9) (oi := { dst := some 109, op := _, type := _, pos := _, after := _, guard := _ }) (v := ?_) rfl (by kernel_rfl) (by kernel_rfl) (by kernel_rfl) (fun _ _ _ h => h) (Or.inl ⟨by kernel_rfl, ?_⟩) Gx0 ?_
        rotate_left
        · (intro w hSw; go_simp; try with_reducible rfl)
        try simp only [Act.put, List.setIfInBounds_toArray, List.set_cons_zero, List.set_cons_succ]
        refine wpAnyH_take (i := 10) (oi := { dst := some 110, op := _, type := _, pos := _, after := _, guard := _ }) (v := .agg ((kc R.r))) rfl (by kernel_rfl) (by kernel_rfl) (by kernel_rfl) (fun _ _ _ h => h) (yieldsIf_load_mid (cs := u8s R.r) (by rfl) _ _ rfl _ _ rfl _ (fun w' hSw => (rng_bel hSw.out RWA5.out.right)) Tryd.underlying24 rfl HRI.out) Gx0 ?_
        try simp only [Act.put, List.setIfInBounds_toArray, List.set_cons_zero, List.set_cons_succ]
        refine wpAnyH_ready (rs := [11, 13]) (by kernel_rfl) (by simp) ?_
        refine (AllReadyH.cons (o := { dst := some 111, op := _, type := _, pos := _, after := _, guard := _ }) rfl (fun Qc hQc => ?_) (AllReadyH.cons (o := { dst := some 17, op := _, type := _, pos := _, after := _, guard := _ }) rfl (fun Qc hQc => ?_) AllReadyH.nil))
        ·
          go_simp
          go_at_call 25
          refine (CX.out x0).mono ?_
          rintro e x1 ⟨A5, c5, rfl, h5, hf5, hb⟩
          have Gx1 := hid (Gx0.out.trans (hb.mono Gx0.out.size))
          have R5 := hid hf5.rp0
          try (have NBd := hid (NBh.out.below hb); clear NBh; have NBh := NBd; clear NBd)
          clear hb h5 hf5
          go_wp2_with fail
          refine hQc.out _ _ Gx1 (fun hHeld => ?_)
          clear hQc Qc hHeld
          try simp only [Act.put, List.setIfInBounds_toArray, List.set_cons_zero, List.set_cons_succ]
          refine wpAnyH_ready (rs := [12, 13]) (by kernel_rfl) (by simp) ?_
          refine (AllReadyH.cons (o := { dst := some 112, op := _, type := _, pos := _, after := _, guard := _ }) rfl (fun Qc hQc => ?_) (AllReadyH.cons (o := { dst := some 17, op := _, type := _, pos := _, after := _, guard := _ }) rfl (fun Qc hQc => ?_) AllReadyH.nil))
          ·
            go_simp
            go_at_call 24
            refine (CU.out x1 A5 c5 R5.out).mono ?_
            rintro e x2 ⟨rfl, hb⟩
            have Gx2 := hid (Gx1.out.trans (hb.mono Gx1.out.size))
            try (have NBd := hid (NBh.out.below hb); clear NBh; have NBh := NBd; clear NBd)
            clear hb
            go_wp2_with fail
            refine hQc.out _ _ Gx2 (fun hHeld => ?_)
            clear hQc Qc hHeld
            try simp only [Act.put, List.setIfInBounds_toArray, List.set_cons_zero, List.set_cons_succ]
            refine wpAnyH_ready (rs := [13]) (by kernel_rfl) (by simp) ?_
            refine (AllReadyH.cons (o := { dst := some 17, op := _, type := _, pos := _, after := _, guard := _ }) rfl (fun Qc hQc => ?_) AllReadyH.nil)
            go_simp
            have NBh : Hid (Blk (x2.alloc (.cells ZH 24)) x2.heap.size 24 ZH) := Blk.new x2 24 ZH
            have GE : Hid (w5.heap.size ≤ x2.heap.size) := Gx2.out.size
            have HBX : Hid (Below x2.heap.size x2 (x2.alloc (.cells ZH 24))) := (Below.refl _ _).alloc (Nat.le_refl _) _
            try (have R6 := hid (R5.out.belowN HBX.out); clear R5; have R5 := R6; clear R6)
            clear HBX
            have Gx3 := hid (Gx2.out.alloc Gx2.out.size (.cells ZH 24))
            refine hQc.out _ _ Gx3 (fun hHeld => ?_)
            clear hQc Qc hHeld
            generalize x2.heap.size = e17 at NBh GE ⊢
            generalize x2.alloc (.cells ZH 24) = x3 at *
            try simp only [Act.put, List.setIfInBounds_toArray, List.set_cons_zero, List.set_cons_succ]
            refine wpAnyH_ready (rs := [14]) (by kernel_rfl) (by simp) ?_
            refine (AllReadyH.cons (o := { dst := none, op := _, type := _, pos := _, after := _, guard := _ }) rfl (fun Qc hQc => ?_) AllReadyH.nil)
            rw [if_pos (by rfl)]
            refine wp_store_row 24 (.tmp 17) (.tmp 112) rfl e17 (kc hh) rfl rfl 24 ZH NBh.out HHI2.out HHZ.out (kc_one _) ?_
            have Gx4 : Hid (Below w5.heap.size w5 (x3.setRow e17 (kc hh))) := below_setRow Gx3.out GE.out _
            have NBf := hid (NBh.out.row (kc hh))
            refine hQc.out _ _ Gx4 (fun hHeld => ?_)
            clear hQc Qc hHeld
            generalize x3.setRow e17 (kc hh) = x4 at Gx4 NBf ⊢
            try simp only [Act.put, List.setIfInBounds_toArray, List.set_cons_zero, List.set_cons_succ]
            refine wpAnyH_done (by kernel_rfl) ?_ _
            try simp only [Act.put, List.setIfInBounds_toArray, List.set_cons_zero, List.set_cons_succ]
            go_wp2
            go_meet
            exact ⟨e17, rfl, NBf, Gx4⟩
          ·
            go_simp
            have NBh : Hid (Blk (x1.alloc (.cells ZH 24)) x1.heap.size 24 ZH) := Blk.new x1 24 ZH
            have GE : Hid (w5.heap.size ≤ x1.heap.size) := Gx1.out.size
            have HBX : Hid (Below x1.heap.size x1 (x1.alloc (.cells ZH 24))) := (Below.refl _ _).alloc (Nat.le_refl _) _
            try (have R6 := hid (R5.out.belowN HBX.out); clear R5; have R5 := R6; clear R6)
            clear HBX
            have Gx5 := hid (Gx1.out.alloc Gx1.out.size (.cells ZH 24))
            refine hQc.out _ _ Gx5 (fun hHeld => ?_)
            clear hQc Qc hHeld
            generalize x1.heap.size = e17 at NBh GE ⊢
            generalize x1.alloc (.cells ZH 24) = x5 at *
            try simp only [Act.put, List.setIfInBounds_toArray, List.set_cons_zero, List.set_cons_succ]
            refine wpAnyH_ready (rs := [12]) (by kernel_rfl) (by simp) ?_
            refine (AllReadyH.cons (o := { dst := some 112, op := _, type := _, pos := _, after := _, guard := _ }) rfl (fun Qc hQc => ?_) AllReadyH.nil)
            go_simp
            go_at_call 24
            refine (CU.out x5 A5 c5 R5.out).mono ?_
            rintro e x6 ⟨rfl, hb⟩
            have Gx6 := hid (Gx5.out.trans (hb.mono Gx5.out.size))
            try (have NBd := hid (NBh.out.below hb); clear NBh; have NBh := NBd; clear NBd)
            clear hb
            go_wp2_with fail
            refine hQc.out _ _ Gx6 (fun hHeld => ?_)
            clear hQc Qc hHeld
            try simp only [Act.put, List.setIfInBounds_toArray, List.set_cons_zero, List.set_cons_succ]
            refine wpAnyH_ready (rs := [14]) (by kernel_rfl) (by simp) ?_
            refine (AllReadyH.cons (o := { dst := none, op := _, type := _, pos := _, after := _, guard := _ }) rfl (fun Qc hQc => ?_) AllReadyH.nil)
            rw [if_pos (by rfl)]
            refine wp_store_row 24 (.tmp 17) (.tmp 112) rfl e17 (kc hh) rfl rfl 24 ZH NBh.out HHI2.out HHZ.out (kc_one _) ?_
            have Gx7 : Hid (Below w5.heap.size w5 (x6.setRow e17 (kc hh))) := below_setRow Gx6.out GE.out _
            have NBf := hid (NBh.out.row (kc hh))
            refine hQc.out _ _ Gx7 (fun hHeld => ?_)
            clear hQc Qc hHeld
            generalize x6.setRow e17 (kc hh) = x7 at Gx7 NBf ⊢
            try simp only [Act.put, List.setIfInBounds_toArray, List.set_cons_zero, List.set_cons_succ]
            refine wpAnyH_done (by kernel_rfl) ?_ _
            try simp only [Act.put, List.setIfInBounds_toArray, List.set_cons_zero, List.set_cons_succ]
            go_wp2
            go_meet
            exact ⟨e17, rfl, NBf, Gx7⟩
        ·
          go_simp
          have NBh : Hid (Blk (x0.alloc (.cells ZH 24)) x0.heap.size 24 ZH) := Blk.new x0 24 ZH
          have GE : Hid (w5.heap.size ≤ x0.heap.size) := Gx0.out.size
          have HBX : Hid (Below x0.heap.size x0 (x0.alloc (.cells ZH 24))) := (Below.refl _ _).alloc (Nat.le_refl _) _
          try (have R6 := hid (R5.out.belowN HBX.out); clear R5; have R5 := R6; clear R6)
          clear HBX
          have Gx8 := hid (Gx0.out.alloc Gx0.out.size (.cells ZH 24))
          refine hQc.out _ _ Gx8 (fun hHeld => ?_)
          clear hQc Qc hHeld
          generalize x0.heap.size = e17 at NBh GE ⊢
          generalize x0.alloc (.cells ZH 24) = x8 at *
          try simp only [Act.put, List.setIfInBounds_toArray, List.set_cons_zero, List.set_cons_succ]
          refine wpAnyH_ready (rs := [11]) (by kernel_rfl) (by simp) ?_
          refine (AllReadyH.cons (o := { dst := some 111, op := _, type := _, pos := _, after := _, guard := _ }) rfl (fun Qc hQc => ?_) AllReadyH.nil)
          go_simp
          go_at_call 25
          refine (CX.out x8).mono ?_
          rintro e x9 ⟨A5, c5, rfl, h5, hf5, hb⟩
          have Gx9 := hid (Gx8.out.trans (hb.mono Gx8.out.size))
          have R5 := hid hf5.rp0
          try (have NBd := hid (NBh.out.below hb); clear NBh; have NBh := NBd; clear NBd)
          clear hb h5 hf5
          go_wp2_with fail
          refine hQc.out _ _ Gx9 (fun hHeld => ?_)
          clear hQc Qc hHeld
          try simp only [Act.put, List.setIfInBounds_toArray, List.set_cons_zero, List.set_cons_succ]
          refine wpAnyH_ready (rs := [12]) (by kernel_rfl) (by simp) ?_
          refine (AllReadyH.cons (o := { dst := some 112, op := _, type := _, pos := _, after := _, guard := _ }) rfl (fun Qc hQc => ?_) AllReadyH.nil)
          go_simp
          go_at_call 24
          refine (CU.out x9 A5 c5 R5.out).mono ?_
          rintro e x10 ⟨rfl, hb⟩
          have Gx10 := hid (Gx9.out.trans (hb.mono Gx9.out.size))
          try (have NBd := hid (NBh.out.below hb); clear NBh; have NBh := NBd; clear NBd)
          clear hb
          go_wp2_with fail
          refine hQc.out _ _ Gx10 (fun hHeld => ?_)
          clear hQc Qc hHeld
          try simp only [Act.put, List.setIfInBounds_toArray, List.set_cons_zero, List.set_cons_succ]
          refine wpAnyH_ready (rs := [14]) (by kernel_rfl) (by simp) ?_
          refine (AllReadyH.cons (o := { dst := none, op := _, type := _, pos := _, after := _, guard := _ }) rfl (fun Qc hQc => ?_) AllReadyH.nil)
          rw [if_pos (by rfl)]
          refine wp_store_row 24 (.tmp 17) (.tmp 112) rfl e17 (kc hh) rfl rfl 24 ZH NBh.out HHI2.out HHZ.out (kc_one _) ?_
          have Gx11 : Hid (Below w5.heap.size w5 (x10.setRow e17 (kc hh))) := below_setRow Gx10.out GE.out _
          have NBf := hid (NBh.out.row (kc hh))
          refine hQc.out _ _ Gx11 (fun hHeld => ?_)
          clear hQc Qc hHeld
          generalize x10.setRow e17 (kc hh) = x11 at Gx11 NBf ⊢
          try simp only [Act.put, List.setIfInBounds_toArray, List.set_cons_zero, List.set_cons_succ]
          refine wpAnyH_done (by kernel_rfl) ?_ _
          try simp only [Act.put, List.setIfInBounds_toArray, List.set_cons_zero, List.set_cons_succ]
          go_wp2
          go_meet
          exact ⟨e17, rfl, NBf, Gx11⟩
      case rest =>
      obtain ⟨e17, rfl, N17, BY⟩ := hcut
      generalize wc = w6 at N17 BY ⊢
      have B6 := hid (BL.out.trans ((BX.out.trans (BY.out.mono BX.out.size)).mono BL.out.size))
      clear N16 RWA5 RWA BX BY CX CU HBU HNI HNI2 HNZ HKI HVI HLI HRI HPI HHI2 HHZ O1 BL
      have B26 := hid (B9.out.trans (B6.out.mono B9.out.size))
      have K136 := hid (K13.out.below B6.out)
      obtain ⟨nn, hnn⟩ : ∃ nn, nn = N.length := ⟨_, rfl⟩
      have HNN := hid hnn
      have HK2 : Hid (k < nn) := by show _ < _; rw [hnn]; exact HKN.out
      have HNB : Hid (nn ≤ 1750) := by show _ ≤ _; rw [hnn]; exact HNL.out
      have HSN : Hid (sz ≤ (nn : Int)) := by show _ ≤ _; rw [hnn]; exact HZ0.out.2
      have hnb := HNB.out
      clear hnn
      obtain ⟨s0, rfl⟩ : ∃ s0 : Nat, sz = (s0 : Int) := ⟨sz.toNat, by have := HZ0.out.1; omega⟩
      have HKS0 : Hid (s0 ≤ k ∧ s0 ≤ nn) := by have h1 := HKS.out; have h2 := HSN.out; show _ ∧ _; omega
      have CSZ := hid (fun w' (hb : Below w2.heap.size w2 w') => xSize_at (HFO.out.below hb))
      rw [← HNN.out] at CSZ
      have HHE : Hid (i + 1 = m → hh = hsO T) := fun he => by
        have e1 := HLASTZ.out he
        rw [HHH.out]
        have ht := HTA.out
        rw [← e1] at ht
        cases T with
        | none => exact absurd (show (k : Int) = -1 from ht) (by omega)
        | some t =>
          obtain ⟨k', hk', hr', _⟩ := ht
          have e2 : (k : Int) = (k' : Int) := hk'
          obtain rfl : k = k' := by omega
          have e3 := rep_hash hr'
          unfold hashN at e3
          rw [Int.toNat_natCast] at e3
          exact e3
      clear HLASTZ
      go_wp2
      go_loopw [18, 19] (fun s18 s19 wr2 => ∃ (j : Nat) (fd : Bool), j ≤ nn ∧ s18 = .bool fd ∧ s19 = .int .i64 (j : Nat) ∧ Hid (k < j → fd = true) ∧ Hid (Below w6.heap.size w6 wr2)) (fun _ s19 _ => nn - (intOf s19).toNat)
      case atStart => exact ⟨s0, false, HKS0.out.2, rfl, rfl, fun h => by have := HKS0.out.1; omega, Below.refl _ _⟩
      case round =>
        obtain ⟨j, fd, hj, rfl, rfl, HFD, BR⟩ := hrel
        have B2R := hid (B26.out.trans (BR.out.mono B26.out.size))
        have CSR := hid (CSZ.out _ B2R.out)
        by_cases hlt3 : j < nn
        · have hlt4 : (j : Int) < nn := by omega
          have hjn : j < N.length := by rw [← HNN.out]; exact hlt3
          obtain ⟨q, hq⟩ : ∃ q, N[j]? = some q := ⟨_, List.getElem?_eq_getElem hjn⟩
          have hqo := HFO.out.ok q (List.mem_of_getElem? hq)
          have CN := hid (xNode_at (HFO.out.below B2R.out) j q hq)
          unfold ndV at CN
          have HQO := hid hqo
          have HN2 := hid (node_info2 hqo)
          have HNZ : Hid (ZN.size = (nc q).toArray.size) := by show _ = _; rw [HZN.out, List.size_toArray, List.size_toArray, ndZ_ok.nc, hqo.nc]
          have HQH := hid (u8s_info hqo.h); have HHI := hid (u8s_info HHK.out)
          have HEQ : Hid (j = k → q.h = hh) := fun e => by
            rw [HHH.out, ← e, hq]; rfl
          clear hjn hq hqo
          go_upto_region 19 with (first
            | (go_at_call 21; refine CSR.out.mono ?_; rintro e w7 ⟨rfl, rfl⟩)
            | (go_at_call 22; refine CN.out.mono ?_; rintro e w7 ⟨rfl, hb⟩; have B7 := hid hb; clear hb)
            | (refine wpList_store_row rfl 57 (.tmp 20) (.tmp 124) rfl w7.heap.size (nc q).toArray rfl rfl 57 ZN (Blk.new w7 57 ZN) HN2.out HNZ.out (nc_one2 _) ?_))
          have BX : Hid (Below wr.heap.size wr ((w7.alloc (.cells ZN 57)).setRow w7.heap.size (nc q).toArray)) := below_setRow (B7.out.alloc B7.out.size _) B7.out.size _
          have N20 : Hid (Blk ((w7.alloc (.cells ZN 57)).setRow w7.heap.size (nc q).toArray) w7.heap.size 57 (nc q).toArray) := (Blk.new w7 57 ZN).row _
          generalize (w7.alloc (.cells ZN 57)).setRow w7.heap.size (nc q).toArray = w8 at BX N20 ⊢
          generalize w7.heap.size = e20 at N20 ⊢
          have B8 := hid (BR.out.trans (BX.out.mono BR.out.size))
          have K17 := hid (blk_key (N17.out.below B8.out))
          have NH := hid ((N20.out.node HQO.out).hash)
          rw [Nat.zero_add] at NH
          clear CSR CN B7 N20 BX B2R
          cases fd with
          | true =>
            go_wp2
            go_roundw
            case rel => exact ⟨j + 1, true, by omega, rfl, by go_num, fun _ => rfl, B8⟩
            case measure => simp [intOf]; omega
          | false =>
            have heq := fun w => eql_key q.h hh HQO.out.h HHK.out w
            go_wp2_with (first
              | (refine load_at rfl 24 (.tmp 128) rfl e20 100 rfl (u8s q.h) _ NH.out Tryd.underlying24 rfl HQH.out (kc q.h) rfl ?_)
              | (refine load_at rfl 24 (.tmp 17) rfl e17 0 rfl (u8s hh) _ K17.out Tryd.underlying24 rfl HHI.out (kc hh) rfl ?_))
            go_roundw
            case rel => exact ⟨j + 1, decide (q.h = hh), by omega, rfl, by go_num, fun h => by
              by_cases e : j = k
              · exact decide_eq_true (HEQ.out e)
              · exact absurd (HFD.out (by omega)) (by decide), B8⟩
            case measure => simp [intOf]; omega
        · obtain rfl : j = nn := by omega
          have hfd := HFD.out HK2.out
          subst hfd
          have hnl3 : ¬ ((j : Int) < (j : Int)) := by omega
          have K17 := hid (blk_key (N17.out.below BR.out))
          have K13R := hid (blk_key (K136.out.below BR.out))
          have HHI := hid (u8s_info HHK.out); have HTI := hid (u8s_info HKY.out)
          have hwm : wrap64 ((m : Int) - 1) = (m : Int) - 1 := IntWalk.wrap64_in _ (by omega)
          have BFIN := hid (B6.out.trans (BR.out.mono B6.out.size))
          by_cases hl : i + 1 = m
          · have hil0 : (i : Int) = (m : Int) - 1 := by omega
            have hil1 : decide ((i : Int) = (m : Int) - 1) = true := decide_eq_true hil0
            have hil2 : ((i : Int) == (m : Int) - 1) = true := beq_iff_eq.2 hil0
            clear hil0
            have he := HHE.out hl
            rw [← he] at K13R
            have heq := fun w => neq_key hh hh HHK.out HHK.out w
            rw [decide_eq_true rfl] at heq
            clear hl he HHE HHH
            go_wp2_with (first
              | (go_at_call 21; refine CSR.out.mono ?_; rintro e w7 ⟨rfl, rfl⟩)
              | (refine load_at (by first | rfl | simp [Region.wanted, yielded, *]) 24 (.tmp 17) rfl e17 0 rfl (u8s hh) _ K17.out Tryd.underlying24 rfl HHI.out (kc hh) rfl ?_)
              | (refine load_at (by first | rfl | simp [Region.wanted, yielded, *]) 24 (.tmp 13) rfl g13 0 rfl (u8s hh) _ K13R.out Tryd.underlying24 rfl HHI.out (kc hh) rfl ?_))
            go_roundw
            case rel => exact ⟨i + 1, by omega, by go_num, BFIN⟩
            case measure => simp [intOf]; omega
          · have hil : ¬ ((i : Int) = (m : Int) - 1) := by omega
            have hil2 : ((i : Int) == (m : Int) - 1) = false := beq_eq_false_iff_ne.2 hil
            go_wp2_with (go_at_call 21; refine CSR.out.mono ?_; rintro e w7 ⟨rfl, rfl⟩)
            go_roundw
            case rel => exact ⟨i + 1, by omega, by go_num, BFIN⟩
            case measure => simp [intOf]; omega
    · obtain rfl : i = m := by omega
      have hnl : ¬ ((i : Int) < (i : Int)) := by omega
      go_wp2
      go_ret
      exact ⟨rfl, BB.out.trans (BL.out.mono BB.out.size)⟩
theorem dsince_walk {w : World} {A0 A2 : Option Addr} {n c0 n2 c2 : Nat} {P Q : List KV} {bk : Int} (h : InP w A0 n P) (h2 : InP w A2 n2 Q) (hbk : 0 ≤ bk ∧ bk < 256) (ht : Tab w) : Calls Tryd.prog 8 #[.slice A0 n c0, .slice A2 n2 c2, .int .u8 bk] w fun e w' => e = .returned (.bool true) ∧ Below w.heap.size w w' := by
  by_cases hn : 15 < n ∨ 10 < n2
  · have CA := hid (fun w1 (hb : Below w.heap.size w w1) => dawake_any w1 (ht.below hb))
    have hml : n ≤ 9223372036854775807 := h.2.1
    have hml2 : n2 ≤ 9223372036854775807 := h2.2.1
    clear h h2 ht hbk
    by_cases h15 : (15 : Int) < (n : Int)
    · clear hn
      go_enter Tryd.func8, Tryd.ntmps8
      go_wp2_with (first
        | (go_at_call 36; refine (CA.out _ (Below.refl _ _)).mono ?_; rintro e w1 ⟨rfl, hb⟩; have B1 := hid hb; clear hb)
        | (go_at_call 36; refine (CA.out _ B1.out).mono ?_; rintro e w2 ⟨rfl, hb⟩; have B2 := hid (B1.out.trans (hb.mono B1.out.size)); clear hb))
      go_ret
      exact ⟨rfl, B2.out⟩
    · have h10 : (10 : Int) < (n2 : Int) := by omega
      clear hn
      go_enter Tryd.func8, Tryd.ntmps8
      go_wp2_with (first
        | (go_at_call 36; refine (CA.out _ (Below.refl _ _)).mono ?_; rintro e w1 ⟨rfl, hb⟩; have B1 := hid hb; clear hb)
        | (go_at_call 36; refine (CA.out _ B1.out).mono ?_; rintro e w2 ⟨rfl, hb⟩; have B2 := hid (B1.out.trans (hb.mono B1.out.size)); clear hb))
      go_ret
      exact ⟨rfl, B2.out⟩
  · exact dsince_main h h2 hbk (by omega) (by omega) ht
end Go.Proofs.YtbhgchbacadgaaaDoor
