/-
  What is proved here: what Since's numbers are, and a row's text.
-/
import Derived.Test.YtjhaamffgkialaaGreatDoorMDE10
import Derived.Test.YtjhaamffgkialaaGreatDoorMYN0
set_option linter.unusedSimpArgs false
set_option linter.unusedVariables false
namespace Go.Proofs.YtjhaamffgkialaaGreatDoor
open Go.ChangeShapes Go.WideShapes Go.ChangeAt Go.RowKit
set_option linter.unusedVariables false
set_option linter.unusedSimpArgs false
set_option maxRecDepth 20000

theorem numTle {N : List Nd} {sz : Int} : ∀ {t : Tr} {i : Nat}, Rep hLf hIn N i t → ∀ k ∈ numT N sz t i, k ≤ i
  | .leaf K V, i, hr, k, hk => by
    unfold numT at hk
    by_cases h : (i : Int) < sz
    · rw [if_pos h] at hk; simp at hk
    · rw [if_neg h] at hk
      rw [List.mem_singleton.1 hk]
      exact Nat.le_refl _
  | .inner n0 b0 l r, i, hr, k, hk => by
    obtain ⟨a, d, hq, ha, hd, hl, hr2⟩ := hr
    by_cases h : (i : Int) < sz
    · unfold numT at hk; rw [if_pos h] at hk; simp at hk
    · rw [numTin h, hq] at hk
      rcases List.mem_cons.1 hk with rfl | hk
      · exact Nat.le_refl _
      · rcases List.mem_append.1 hk with hk | hk
        · have e : ((some (ndI n0 b0 a d ((Tr.inner n0 b0 l r).hash hLf hIn))).getD ndZ).r.toNat = d := rfl
          rw [e] at hk
          have := numTle hr2 k hk
          omega
        · have e : ((some (ndI n0 b0 a d ((Tr.inner n0 b0 l r).hash hLf hIn))).getD ndZ).l.toNat = a := rfl
          rw [e] at hk
          have := numTle hl k hk
          omega
theorem numTtop {N : List Nd} {sz : Int} (t : Tr) {i : Nat} (h : ¬ (i : Int) < sz) : i ∈ numT N sz t i := by
  cases t with
  | leaf K V => unfold numT; rw [if_neg h]; simp
  | inner n b l r => rw [numTin h]; simp
/-- there is nothing just if the tree's own number is too small -/
theorem numO_nil {N : List Nd} {sz ti : Int} {T : Option Tr} (hsz : 0 ≤ sz) (hT : TAt N ti T) : numO N sz (ti, T) = [] ↔ ti < sz := by
  cases T with
  | none =>
    have h : ti = -1 := hT
    exact ⟨fun _ => by omega, fun _ => rfl⟩
  | some t =>
    obtain ⟨i, hi, hr, _⟩ := hT
    have hi' : ti = (i : Int) := hi
    subst hi'
    show numT N sz t ((i : Int)).toNat = [] ↔ _
    rw [Int.toNat_natCast]
    refine ⟨fun h => ?_, fun h => ?_⟩
    · by_cases hlt : (i : Int) < sz
      · exact hlt
      · have := numTtop (N := N) t hlt
        rw [h] at this
        simp at this
    · cases t <;> (unfold numT; rw [if_pos h])
theorem sortI_srt (L : List Nat) : (sortI L).Pairwise (fun x y => x ≤ y) := by
  have h := List.pairwise_mergeSort (le := fun x y : Int => decide (x ≤ y)) (fun a b c h1 h2 => by simp at *; omega) (fun a b => by simp; omega) (ints L)
  exact h.imp (fun h => by simpa using h)
/-- the last one is the tree's own -/
theorem sortI_last {N : List Nd} {sz ti : Int} {T : Option Tr} (hT : TAt N ti T) {j : Nat} (hj : j + 1 = (sortI (numO N sz (ti, T))).length) : (sortI (numO N sz (ti, T)))[j]? = some ti := by
  cases T with
  | none =>
    have e : numO N sz (ti, none) = [] := rfl
    rw [sortI_len, e] at hj
    simp at hj
  | some t =>
    obtain ⟨i, hi, hr, _⟩ := hT
    have hi' : ti = (i : Int) := hi
    subst hi'
    have e : numO N sz ((i : Int), some t) = numT N sz t i := by show numT N sz t ((i : Int)).toNat = _; rw [Int.toNat_natCast]
    rw [e] at hj ⊢
    have hlt : ¬ (i : Int) < sz := fun h => by
      have : numT N sz t i = [] := by cases t <;> (unfold numT; rw [if_pos h])
      rw [sortI_len, this] at hj
      simp at hj
    have hmem : (i : Int) ∈ sortI (numT N sz t i) := by
      unfold sortI ints
      rw [List.mem_mergeSort]
      exact List.mem_map.2 ⟨i, numTtop t hlt, rfl⟩
    obtain ⟨m, hm, he⟩ := List.getElem_of_mem hmem
    have hjl : j < (sortI (numT N sz t i)).length := by omega
    have hle : (sortI (numT N sz t i))[j] ≤ (i : Int) := by
      obtain ⟨k, hk, ek⟩ := sortI_mem (List.getElem_mem hjl)
      rw [ek]
      have := numTle hr k hk
      omega
    have hge : (i : Int) ≤ (sortI (numT N sz t i))[j] := by
      rw [← he]
      by_cases h : m = j
      · subst h; exact Int.le_refl _
      · exact (List.pairwise_iff_getElem.1 (sortI_srt _)) m j hm hjl (by omega)
    rw [List.getElem?_eq_getElem hjl]
    congr 1
    omega
/-- a node of a row: without its children -/
def ndR (q : Rw) : Nd := ⟨q.leaf, q.k, q.v, q.n, q.b, 0, 0, z32⟩
theorem ndR_ok {q : Rw} (h : RwOk q) : NdOk (ndR q) := ⟨h.k, h.v, h.b, ky_zero⟩
theorem ndR_built {q : Rw} (h : RwOk q) : Tryz.prog.built 63 [(0, .bool q.leaf), (1, .agg (kc q.k)), (2, .agg (kc q.v)), (3, .agg (pc q.n q.b))] = some (nc (ndR q)).toArray := by
  obtain ⟨i0, hi, hz0, hz1, hz2⟩ := info_parts info_node
  obtain ⟨fields, hu, hpl⟩ := node_places
  unfold Program.built
  rw [hi, hu]
  simp only [hz0, hpl]
  have e3 : (Value.agg (nc ndZ).toArray).cells = (nc ndZ).toArray := rfl
  have sz : (nc ndZ).toArray.size = 132 := rfl
  rw [e3, fill_step (v := .bool q.leaf) (off := 0) (size := 1) rfl rfl (by simp only [putRow_len, sz]; decide), fill_step (v := .agg (kc q.k)) (off := 1) (size := 32) rfl (kc_size h.k) (by simp only [putRow_len, sz]; decide), fill_step (v := .agg (kc q.v)) (off := 33) (size := 32) rfl (kc_size h.v) (by simp only [putRow_len, sz]; decide), fill_step (v := .agg (pc q.n q.b)) (off := 65) (size := 33) rfl (pc_size q.n h.b) (by simp only [putRow_len, sz]; decide), fill_end]
  have c1 : (Value.agg (kc q.k)).cells.toList = u8s q.k := rfl
  have c2 : (Value.agg (kc q.v)).cells.toList = u8s q.v := rfl
  have c3 : (Value.agg (pc q.n q.b)).cells.toList = .int .i64 q.n :: u8s q.b := rfl
  have c0 : (Value.bool q.leaf).cells.toList = [.bool q.leaf] := rfl
  rw [c0, c1, c2, c3, nc_0, nc_1 ky_zero h.k, nc_2 h.k ky_zero h.v, nc_3 h.k h.v ky_zero h.b]
  rfl
/-- a row's text is its node's -/
theorem row_text {N : List Nd} (hall : ∀ q ∈ N, NdOk q) (hf : FrOk hLf hIn N) {k : Nat} (hk : k < N.length) :
    ∃ X, (∀ w, Calls Tryz.prog 73 #[.agg (nc (ndR (rowN N k))).toArray, .agg (kc (rowN N k).l), .agg (kc (rowN N k).r)] w (TxA w X)) ∧ sum X = (N[k]?.getD ndZ).h ∧ Bs X ∧ X.length < 1000000000 := by
  obtain ⟨t, hok, hr⟩ := hf k hk
  cases t with
  | leaf K V =>
    have hq : N[k]? = some (ndL K V (hLf K V)) := hr
    have e : rowN N k = rwL K V := by unfold rowN; rw [hq]; rfl
    rw [e, hq]
    have hro := rwL_ok hok.1 hok.2
    exact ⟨leafT K V, fun w => xText_leaf _ _ _ w (ndR_ok hro) rfl ky_zero ky_zero, rfl, leaf_tbs hok.1 hok.2, Nat.lt_of_le_of_lt (textL_all 108 [K, V] 2 rfl (by decide) (len_2k hok.1 hok.2)) (by decide)⟩
  | inner n0 b0 tl tr =>
    obtain ⟨a, d, hq, ha, hd, hl, hr2⟩ := hr
    have ea := rep_hash hl
    have ed := rep_hash hr2
    have e : rowN N k = rwI n0 b0 (hashN N (a : Int)) (hashN N (d : Int)) := by unfold rowN; rw [hq]; rfl
    have hb : Ky b0 := (hall _ (List.mem_of_getElem? hq)).b
    have hka := hashN_ky hall (a : Int); have hkd := hashN_ky hall (d : Int)
    rw [e, hq]
    have hn : n0 < 256 := hok.2.2.1
    refine ⟨innerT n0 b0 (hashN N (a : Int)) (hashN N (d : Int)), fun w => xText_inner _ _ _ w (ndR_ok (rwI_ok hb hka hkd)) rfl ⟨by show (0 : Int) ≤ n0; omega, by show (n0 : Int) ≤ 65535; omega⟩ hka hkd, ?_, inner_tbs hb hka hkd, Nat.lt_of_le_of_lt (textL_all 110 [be n0 2, b0, _, _] 4 rfl (by decide) (len_4k (be_length n0 2) hb hka hkd)) (by decide)⟩
    rw [ea, ed]
    rfl
end Go.Proofs.YtjhaamffgkialaaGreatDoor
/-
  What is proved here: where a row's parts lie in a list of rows.
-/
namespace Go.Proofs.YtjhaamffgkialaaGreatDoor
open Go.ChangeShapes Go.WideShapes Go.ChangeAt Go.RowKit
set_option linter.unusedVariables false
set_option linter.unusedSimpArgs false
set_option maxRecDepth 20000

structure RwAt (w : World) (g o : Nat) (q : Rw) : Prop where
  all : w.rangeAt g o (rwc q)
  leaf : w.cell? ⟨g, o, none⟩ = some (.bool q.leaf)
  key : w.rangeAt g (o + 1) (u8s q.k)
  val : w.rangeAt g (o + 33) (u8s q.v)
  pre : w.rangeAt g (o + 65) (.int .i64 q.n :: u8s q.b)
  left : w.rangeAt g (o + 98) (u8s q.l)
  right : w.rangeAt g (o + 130) (u8s q.r)
theorem range_at {w : World} {g o n : Nat} {xs Y : List Value} (h : w.rangeAt g o xs) (hn : ∀ j v, Y[j]? = some v → xs[n + j]? = some v) : w.rangeAt g (o + n) Y := fun j v hv => by
  have := h (n + j) v (hn j v hv)
  rwa [← Nat.add_assoc] at this
theorem rw_at {w : World} {g o : Nat} {q : Rw} (h : w.rangeAt g o (rwc q)) (hq : RwOk q) : RwAt w g o q := by
  have lk := (u8s_length q.k).trans hq.k.len
  have lv := (u8s_length q.v).trans hq.v.len
  have lb := (u8s_length q.b).trans hq.b.len
  have ll := (u8s_length q.l).trans hq.l.len
  have lr := (u8s_length q.r).trans hq.r.len
  have e : rwc q = [.bool q.leaf] ++ (u8s q.k ++ (u8s q.v ++ ((.int .i64 q.n :: u8s q.b) ++ (u8s q.l ++ u8s q.r)))) := rfl
  refine ⟨h, h 0 _ rfl, range_at h fun j v hv => ?_, range_at h fun j v hv => ?_, range_at h fun j v hv => ?_, range_at h fun j v hv => ?_, range_at h fun j v hv => ?_⟩
  all_goals
    have hj := (List.getElem?_eq_some_iff.1 hv).1
    simp only [List.length_cons, lk, lv, lb, ll, lr] at hj
    rw [e, List.getElem?_append_right (by simp; try omega)]
  · rw [List.getElem?_append_left (by simp [lk] <;> omega), ← hv]; congr 1; simp
  · rw [List.getElem?_append_right (by simp [lk] <;> omega), List.getElem?_append_left (by simp [lk, lv] <;> omega), ← hv]; congr 1; simp [lk] <;> omega
  · rw [List.getElem?_append_right (by simp [lk] <;> omega), List.getElem?_append_right (by simp [lk, lv] <;> omega), List.getElem?_append_left (by simp [lk, lv, lb] <;> omega), ← hv]; congr 1; simp [lk, lv] <;> omega
  · rw [List.getElem?_append_right (by simp [lk] <;> omega), List.getElem?_append_right (by simp [lk, lv] <;> omega), List.getElem?_append_right (by simp [lk, lv, lb] <;> omega), List.getElem?_append_left (by simp [lk, lv, lb, ll] <;> omega), ← hv]; congr 1; simp [lk, lv, lb] <;> omega
  · rw [List.getElem?_append_right (by simp [lk] <;> omega), List.getElem?_append_right (by simp [lk, lv] <;> omega), List.getElem?_append_right (by simp [lk, lv, lb] <;> omega), List.getElem?_append_right (by simp [lk, lv, lb, ll] <;> omega), ← hv]; congr 1; simp [lk, lv, lb, ll] <;> omega
theorem rwcs_at : ∀ {L : List Rw} {i : Nat} {q : Rw}, RwsOk L → L[i]? = some q → ∀ j v, (rwc q)[j]? = some v → (rwcs L)[i * 162 + j]? = some v
  | [], i, q, _, h, _, _, _ => by simp at h
  | p :: L, 0, q, ho, h, j, v, hv => by
    injection h with h; subst h
    show (rwc p ++ rwcs L)[0 * 162 + j]? = _
    rw [Nat.zero_mul, Nat.zero_add, List.getElem?_append_left (List.getElem?_eq_some_iff.1 hv).1]
    exact hv
  | p :: L, i + 1, q, ho, h, j, v, hv => by
    show (rwc p ++ rwcs L)[(i + 1) * 162 + j]? = _
    have hl := (ho p (by simp)).len
    rw [List.getElem?_append_right (by rw [hl]; omega), hl, show (i + 1) * 162 + j - 162 = i * 162 + j by omega]
    exact rwcs_at (fun r hr => ho r (List.mem_cons_of_mem _ hr)) h j v hv
theorem OwR.at {n0 : Nat} {w : World} {g n c : Nat} {L : List Rw} (h : OwR n0 w (.slice (some ⟨g, 0, none⟩) n c) L) {i : Nat} {q : Rw} (hi : L[i]? = some q) : RwAt w g (i * 162) q := by
  refine rw_at (fun j v hv => ?_) (h.ok q (List.mem_of_getElem? hi))
  have h1 := rwcs_at h.ok hi j v hv
  have h2 := h.row.cells (g := g) rfl _ v h1
  rw [Addr.add_lit, Nat.zero_add] at h2
  exact h2
end Go.Proofs.YtjhaamffgkialaaGreatDoor
