/-
  What this file is for: pages, what waits, and what stands for what it took the place of, as lists; their cells in memory. Nothing of the program is walked here.
-/
import Derived.Test.YtjdojnbpchommaaDRows
namespace Go.Proofs.Ytjdojnbpchommaa
open Go.ChangeShapes Go.WideShapes Go.ChangeAt Go.RowKit
set_option linter.unusedVariables false
set_option maxRecDepth 20000

/-- a write: the page's number, and the bytes -/
abbrev Wr := Nat × List Int
/-- the pages L behind the writes Q -/
def pg (L : List (List Int)) : List Wr → List (List Int)
  | [] => L
  | q :: Q => pg (L.set q.1 q.2) Q
/-- what the writes Q took the place of, in pages L -/
def un (L : List (List Int)) : List Wr → List Wr
  | [] => []
  | q :: Q => (q.1, L[q.1]?.getD []) :: un (L.set q.1 q.2) Q
theorem pg_snoc (q : Wr) : ∀ (Q : List Wr) (L : List (List Int)), pg L (Q ++ [q]) = (pg L Q).set q.1 q.2
  | [], L => rfl
  | r :: Q, L => pg_snoc q Q _
theorem un_snoc (q : Wr) : ∀ (Q : List Wr) (L : List (List Int)), un L (Q ++ [q]) = un L Q ++ [(q.1, (pg L Q)[q.1]?.getD [])]
  | [], L => rfl
  | r :: Q, L => by
    show _ :: un _ (Q ++ [q]) = _ :: _ ++ _
    rw [un_snoc q Q]; rfl
theorem pg_length : ∀ (Q : List Wr) (L : List (List Int)), (pg L Q).length = L.length
  | [], L => rfl
  | r :: Q, L => by show (pg _ Q).length = _; rw [pg_length Q, List.length_set]
theorem un_length : ∀ (Q : List Wr) (L : List (List Int)), (un L Q).length = Q.length
  | [], L => rfl
  | r :: Q, L => by show (un _ Q).length + 1 = Q.length + 1; rw [un_length Q]
/-- all pages have 128 bytes -/
def PgOk (L : List (List Int)) : Prop := ∀ p ∈ L, p.length = 128
/-- all writes are of pages that are there, and have 128 bytes -/
def QOk (n : Nat) (Q : List Wr) : Prop := ∀ q ∈ Q, q.1 < n ∧ q.2.length = 128
theorem PgOk.set {L : List (List Int)} (h : PgOk L) (i : Nat) {p : List Int} (hp : p.length = 128) : PgOk (L.set i p) := fun x hx => by
  rcases List.mem_or_eq_of_mem_set hx with h1 | h1
  · exact h x h1
  · rw [h1]; exact hp
theorem PgOk.at {L : List (List Int)} (h : PgOk L) {i : Nat} (hi : i < L.length) : (L[i]?.getD []).length = 128 := by
  rw [List.getElem?_eq_getElem hi]; exact h _ (List.getElem_mem hi)
theorem QOk.tail {n : Nat} {q : Wr} {Q : List Wr} (h : QOk n (q :: Q)) : QOk n Q := fun x hx => h x (List.mem_cons_of_mem _ hx)
theorem QOk.snoc {n : Nat} {q : Wr} {Q : List Wr} (h : QOk n Q) (h1 : q.1 < n) (h2 : q.2.length = 128) : QOk n (Q ++ [q]) := fun x hx => by
  rcases List.mem_append.1 hx with h3 | h3
  · exact h x h3
  · rw [List.mem_singleton.1 h3]; exact ⟨h1, h2⟩
theorem QOk.take {n : Nat} {Q : List Wr} (h : QOk n Q) (k : Nat) : QOk n (Q.take k) := fun x hx => h x (List.mem_of_mem_take hx)
theorem QOk.nil (n : Nat) : QOk n [] := fun x hx => by simp at hx
theorem pg_ok : ∀ (Q : List Wr) (L : List (List Int)), PgOk L → QOk L.length Q → PgOk (pg L Q)
  | [], L, h, _ => h
  | q :: Q, L, h, hq => pg_ok Q _ (h.set _ (hq q (by simp)).2) (by rw [List.length_set]; exact hq.tail)
theorem un_ok : ∀ (Q : List Wr) (L : List (List Int)), PgOk L → QOk L.length Q → QOk L.length (un L Q)
  | [], L, h, _ => QOk.nil _
  | q :: Q, L, h, hq => fun x hx => by
    rcases List.mem_cons.1 hx with h1 | h1
    · rw [h1]; exact ⟨(hq q (by simp)).1, h.at (hq q (by simp)).1⟩
    · have := un_ok Q (L.set q.1 q.2) (h.set _ (hq q (by simp)).2) (by rw [List.length_set]; exact hq.tail)
      rw [List.length_set] at this
      exact this x h1

/-! Half turned back: the first k writes stand for what they took the place of, the others for their own bytes. -/
def hp (L : List (List Int)) (Q : List Wr) (k : Nat) : List (List Int) := pg L (Q.take k)
def hu (L : List (List Int)) (Q : List Wr) (k : Nat) : List Wr := un L (Q.take k) ++ Q.drop k
theorem hp_all (L : List (List Int)) (Q : List Wr) : hp L Q Q.length = pg L Q := by unfold hp; rw [List.take_length]
theorem hu_all (L : List (List Int)) (Q : List Wr) : hu L Q Q.length = un L Q := by unfold hu; rw [List.take_length, List.drop_length, List.append_nil]
theorem hp_0 (L : List (List Int)) (Q : List Wr) : hp L Q 0 = L := rfl
theorem hu_0 (L : List (List Int)) (Q : List Wr) : hu L Q 0 = Q := rfl
theorem hp_length (L : List (List Int)) (Q : List Wr) (k : Nat) : (hp L Q k).length = L.length := pg_length _ _
theorem hu_length (L : List (List Int)) (Q : List Wr) (k : Nat) : (hu L Q k).length = Q.length := by
  unfold hu; rw [List.length_append, un_length, List.length_take, List.length_drop]; omega
theorem hp_ok {L : List (List Int)} {Q : List Wr} (h : PgOk L) (hq : QOk L.length Q) (k : Nat) : PgOk (hp L Q k) := pg_ok _ _ h (hq.take k)
theorem hu_ok {L : List (List Int)} {Q : List Wr} (h : PgOk L) (hq : QOk L.length Q) (k : Nat) : QOk L.length (hu L Q k) := fun x hx => by
  rcases List.mem_append.1 hx with h1 | h1
  · exact un_ok _ _ h (hq.take k) x h1
  · exact hq x (List.mem_of_mem_drop h1)
section
variable {L : List (List Int)} {Q : List Wr} {k : Nat} {q : Wr} (hk : Q[k]? = some q)
include hk
theorem hp_succ : hp L Q (k + 1) = (hp L Q k).set q.1 q.2 := by
  unfold hp
  rw [List.take_add_one, hk]
  exact pg_snoc q _ _
theorem hu_split : hu L Q (k + 1) = un L (Q.take k) ++ ((q.1, (hp L Q k)[q.1]?.getD []) :: Q.drop (k + 1)) := by
  unfold hu
  rw [List.take_add_one, hk]
  show un L (Q.take k ++ [q]) ++ _ = _
  rw [un_snoc, List.append_assoc]; rfl
theorem hu_split0 : hu L Q k = un L (Q.take k) ++ (q :: Q.drop (k + 1)) := by
  obtain ⟨hlt, e⟩ := List.getElem?_eq_some_iff.1 hk
  unfold hu
  rw [List.drop_eq_getElem_cons hlt, e]
theorem hu_len : (un L (Q.take k)).length = k := by
  obtain ⟨hlt, e⟩ := List.getElem?_eq_some_iff.1 hk
  rw [un_length, List.length_take]; omega
theorem hu_at : (hu L Q (k + 1))[k]? = some (q.1, (hp L Q k)[q.1]?.getD []) := by
  rw [hu_split hk, List.getElem?_append_right (by rw [hu_len hk]; omega), hu_len hk, Nat.sub_self]; rfl
theorem hu_back : (hu L Q (k + 1)).set k q = hu L Q k := by
  rw [hu_split hk, hu_split0 hk, List.set_append_right (h := by rw [hu_len hk]; omega), hu_len hk, Nat.sub_self]; rfl
theorem hp_own (hq : q.1 < L.length) : (hp L Q (k + 1))[q.1]? = some q.2 := by
  rw [hp_succ hk, List.getElem?_set_self (by rw [hp_length]; exact hq)]
theorem hp_back (hq : q.1 < L.length) : (hp L Q (k + 1)).set q.1 ((hp L Q k)[q.1]?.getD []) = hp L Q k := by
  rw [hp_succ hk, List.set_set, List.getElem?_eq_getElem (by rw [hp_length]; exact hq), Option.getD_some, List.set_getElem_self]
end

/-! A restart: of each write so many first bytes. -/
def mx (p b : List Int) (t : Nat) : List Int := b.take t ++ p.drop t
def mixs (T : Nat → Nat) (L : List (List Int)) (Q : List Wr) : Nat → List (List Int)
  | 0 => L
  | k + 1 => match Q[k]? with
    | none => mixs T L Q k
    | some q => (mixs T L Q k).set q.1 (mx ((mixs T L Q k)[q.1]?.getD []) q.2 (T k))
theorem mixs_length (T : Nat → Nat) (L : List (List Int)) (Q : List Wr) : ∀ k, (mixs T L Q k).length = L.length
  | 0 => rfl
  | k + 1 => by
    unfold mixs
    cases Q[k]? with
    | none => exact mixs_length T L Q k
    | some q => simp only [List.length_set]; exact mixs_length T L Q k
theorem mx_length {p b : List Int} {t : Nat} (h1 : p.length = 128) (h2 : b.length = 128) (ht : t ≤ 128) : (mx p b t).length = 128 := by
  unfold mx; rw [List.length_append, List.length_take, List.length_drop, h1, h2]; omega
theorem mixs_ok {T : Nat → Nat} (hT : ∀ k, T k ≤ 128) {L : List (List Int)} {Q : List Wr} (h : PgOk L) (hq : QOk L.length Q) : ∀ k, PgOk (mixs T L Q k)
  | 0 => h
  | k + 1 => by
    unfold mixs
    cases hk : Q[k]? with
    | none => exact mixs_ok hT h hq k
    | some q =>
      have hm := hq q (List.mem_of_getElem? hk)
      exact (mixs_ok hT h hq k).set _ (mx_length ((mixs_ok hT h hq k).at (by rw [mixs_length]; exact hm.1)) hm.2 (hT k))
theorem mixs_succ {T : Nat → Nat} {L : List (List Int)} {Q : List Wr} {k : Nat} {q : Wr} (hk : Q[k]? = some q) :
    mixs T L Q (k + 1) = (mixs T L Q k).set q.1 (mx ((mixs T L Q k)[q.1]?.getD []) q.2 (T k)) := by
  conv => lhs; unfold mixs
  rw [hk]
/-- so many bytes of the write with this number, by a list of numbers -/
def keep (l : List Int) (i : Nat) : Nat := (min (max (l[i]?.getD 0) 0) 128).toNat
theorem keep_le (l : List Int) (i : Nat) : keep l i ≤ 128 := by unfold keep; omega

/-! Rows of things of one size. -/
section
variable {α : Type} {f : α → List Value} {sz : Nat}
theorem flat_len : ∀ (l : List α), (∀ a ∈ l, (f a).length = sz) → (l.flatMap f).length = sz * l.length
  | [], _ => by simp
  | a :: l, h => by
    rw [List.flatMap_cons, List.length_append, h a (by simp), flat_len l (fun b hb => h b (List.mem_cons_of_mem _ hb)), List.length_cons, Nat.mul_add, Nat.mul_one, Nat.add_comm]
theorem flat_at : ∀ (l : List α), (∀ a ∈ l, (f a).length = sz) → ∀ (i j : Nat) (a : α), l[i]? = some a → j < sz → (l.flatMap f)[sz * i + j]? = (f a)[j]?
  | [], _, i, j, a, hi, _ => by simp at hi
  | b :: l, h, 0, j, a, hi, hj => by
    injection hi with hi; subst hi
    rw [List.flatMap_cons, Nat.mul_zero, Nat.zero_add, List.getElem?_append_left (by rw [h b (by simp)]; exact hj)]
  | b :: l, h, i + 1, j, a, hi, hj => by
    rw [List.flatMap_cons, List.getElem?_append_right (by rw [h b (by simp), Nat.mul_add]; omega), h b (by simp)]
    have e : sz * (i + 1) + j - sz = sz * i + j := by rw [Nat.mul_add]; omega
    rw [e]
    exact flat_at l (fun c hc => h c (List.mem_cons_of_mem _ hc)) i j a hi hj
theorem flat_put : ∀ (l : List α), (∀ a ∈ l, (f a).length = sz) → ∀ (i : Nat) (b : α), i < l.length → (f b).length = sz → splice (l.flatMap f) (sz * i) (f b) = (l.set i b).flatMap f
  | [], _, i, b, hi, _ => by simp at hi
  | a :: l, h, 0, b, hi, hb => by
    unfold splice
    rw [Nat.mul_zero, List.take_zero, List.nil_append, Nat.zero_add, List.flatMap_cons, List.set_cons_zero, List.flatMap_cons, hb, ← h a (by simp), List.drop_left]
  | a :: l, h, i + 1, b, hi, hb => by
    have ih := flat_put l (fun c hc => h c (List.mem_cons_of_mem _ hc)) i b (by simpa using hi) hb
    have ha := h a (by simp)
    rw [List.flatMap_cons, List.set_cons_succ, List.flatMap_cons, ← ih]
    unfold splice
    have e1 : sz * (i + 1) = (f a).length + sz * i := by rw [ha, Nat.mul_add]; omega
    rw [e1, List.take_length_add_append, Nat.add_assoc, List.drop_length_add_append, List.append_assoc]
end
theorem flat_snoc {α : Type} {f : α → List Value} (l : List α) (a : α) : (l ++ [a]).flatMap f = l.flatMap f ++ f a := by simp

/-- the cells of pages -/
def pcs (L : List (List Int)) : List Value := L.flatMap u8s
/-- the cells of a write -/
def wc1 (q : Wr) : List Value := Value.int .i64 (q.1 : Nat) :: u8s q.2
/-- the cells of writes -/
def wcs (U : List Wr) : List Value := U.flatMap wc1
theorem PgOk.lens {L : List (List Int)} (h : PgOk L) : ∀ a ∈ L, (u8s a).length = 128 := fun a ha => by rw [u8s_length]; exact h a ha
theorem QOk.lens {n : Nat} {U : List Wr} (h : QOk n U) : ∀ a ∈ U, (wc1 a).length = 129 := fun a ha => by unfold wc1; rw [List.length_cons, u8s_length, (h a ha).2]
theorem pcs_len {L : List (List Int)} (h : PgOk L) : (pcs L).length = 128 * L.length := flat_len L h.lens
theorem wcs_len {n : Nat} {U : List Wr} (h : QOk n U) : (wcs U).length = 129 * U.length := flat_len U h.lens
theorem pcs_at {L : List (List Int)} (h : PgOk L) {i : Nat} (hi : i < L.length) (j : Nat) (hj : j < 128) : (pcs L)[128 * i + j]? = (u8s (L[i]?.getD []))[j]? := by
  rw [List.getElem?_eq_getElem hi]; exact flat_at L h.lens i j _ (List.getElem?_eq_getElem hi) hj
theorem pcs_put {L : List (List Int)} (h : PgOk L) {i : Nat} (hi : i < L.length) {p : List Int} (hp : p.length = 128) : splice (pcs L) (128 * i) (u8s p) = pcs (L.set i p) :=
  flat_put L h.lens i p hi (by rw [u8s_length]; exact hp)
theorem wcs_0 {n : Nat} {U : List Wr} (h : QOk n U) {i : Nat} {q : Wr} (hi : U[i]? = some q) : (wcs U)[129 * i]? = some (.int .i64 (q.1 : Nat)) := flat_at U h.lens i 0 q hi (by omega)
theorem wcs_at {n : Nat} {U : List Wr} (h : QOk n U) {i : Nat} {q : Wr} (hi : U[i]? = some q) (j : Nat) (hj : j < 128) : (wcs U)[129 * i + 1 + j]? = (u8s q.2)[j]? := by
  have := flat_at U h.lens i (1 + j) q hi (by omega)
  rw [← Nat.add_assoc] at this
  rw [show wcs U = U.flatMap wc1 from rfl, this, Nat.add_comm 1 j]; rfl
/-- within a write its bytes are put -/
theorem wcs_put {n : Nat} {U : List Wr} (h : QOk n U) {i : Nat} {q : Wr} (hi : U[i]? = some q) {p : List Int} (hp : p.length = 128) : splice (wcs U) (129 * i + 1) (u8s p) = wcs (U.set i (q.1, p)) := by
  obtain ⟨hlt, _⟩ := List.getElem?_eq_some_iff.1 hi
  have hl := wcs_len h
  have e := flat_put U h.lens i (q.1, p) hlt (by unfold wc1; rw [List.length_cons, u8s_length, hp])
  rw [show wcs (U.set i (q.1, p)) = (U.set i (q.1, p)).flatMap wc1 from rfl, ← e]
  have hwl : (wc1 (q.1, p)).length = 129 := by unfold wc1; rw [List.length_cons, u8s_length, hp]
  apply List.ext_getElem?
  intro j
  rw [get_splice _ _ _ (by rw [u8s_length, hp, hl]; omega), get_splice _ _ _ (by rw [hwl, show U.flatMap wc1 = wcs U from rfl, hl]; omega), u8s_length, hp, hwl]
  by_cases h1 : j < 129 * i
  · rw [if_pos (by omega), if_pos h1]; rfl
  · rw [if_neg h1]
    by_cases h2 : j = 129 * i
    · subst h2
      rw [if_pos (by omega), if_pos (by omega), Nat.sub_self, wcs_0 h hi]; rfl
    · rw [if_neg (by omega)]
      by_cases h3 : j < 129 * i + 129
      · rw [if_pos (by omega), if_pos h3]
        have : j - 129 * i = (j - (129 * i + 1)) + 1 := by omega
        rw [this]; rfl
      · rw [if_neg (by omega), if_neg h3]; rfl
theorem u8s_mx (p b : List Int) (t : Nat) (h1 : p.length = 128) (h2 : b.length = 128) (ht : t ≤ 128) : splice (u8s p) 0 (u8s (b.take t)) = u8s (mx p b t) := by
  unfold splice mx u8s
  rw [List.take_zero, List.nil_append, Nat.zero_add, List.map_append, List.length_map, List.length_take, h2, List.map_drop, Nat.min_eq_left ht]
/-- of a page the first bytes are put -/
theorem pcs_mx {L : List (List Int)} (h : PgOk L) {i : Nat} (hi : i < L.length) {b : List Int} (hb : b.length = 128) {t : Nat} (ht : t ≤ 128) : splice (pcs L) (128 * i) (u8s (b.take t)) = pcs (L.set i (mx (L[i]?.getD []) b t)) := by
  have hp := h.at hi
  rw [← pcs_put h hi (mx_length hp hb ht)]
  have hl := pcs_len h
  have hbl : (u8s (b.take t)).length = t := by rw [u8s_length, List.length_take, hb]; omega
  apply List.ext_getElem?
  intro j
  rw [get_splice _ _ _ (by rw [hbl, hl]; omega), get_splice _ _ _ (by rw [u8s_length, mx_length hp hb ht, hl]; omega), hbl, u8s_length, mx_length hp hb ht]
  by_cases h1 : j < 128 * i
  · rw [if_pos h1, if_pos h1]
  · rw [if_neg h1, if_neg h1, ← u8s_mx _ _ _ hp hb ht]
    have := get_splice (u8s (L[i]?.getD [])) 0 (u8s (b.take t)) (by rw [hbl, u8s_length, hp]; omega) (j - 128 * i)
    rw [hbl] at this
    by_cases h2 : j < 128 * i + t
    · rw [if_pos h2, if_pos (by omega), this, if_neg (by omega), if_pos (by omega), Nat.sub_zero]
    · rw [if_neg h2]
      by_cases h3 : j < 128 * i + 128
      · rw [if_pos h3, this, if_neg (by omega), if_neg (by omega), ← pcs_at h hi _ (by omega)]
        congr 1; omega
      · rw [if_neg h3]

/-! Cells put into a row. -/
def putRow (cs : Array Value) : Nat → List Value → Array Value
  | _, [] => cs
  | o, v :: r => putRow (cs.setIfInBounds o v) (o + 1) r
theorem putRow_at : ∀ (vs : List Value) (cs : Array Value) (o i : Nat), o + vs.length ≤ cs.size → (putRow cs o vs)[i]? = if o ≤ i ∧ i < o + vs.length then vs[i - o]? else cs[i]?
  | [], cs, o, i, h => by
    unfold putRow
    rw [if_neg]
    simp only [List.length_nil]
    omega
  | v :: r, cs, o, i, h => by
    simp only [List.length_cons] at h ⊢
    unfold putRow
    rw [putRow_at r _ (o + 1) i (by rw [Array.size_setIfInBounds]; omega), Array.getElem?_setIfInBounds]
    by_cases h1 : o = i
    · subst h1
      rw [if_neg (by omega), if_pos rfl, if_pos (by omega), if_pos (by omega)]
      simp
    · rw [if_neg h1]
      by_cases h2 : o + 1 ≤ i ∧ i < o + 1 + r.length
      · rw [if_pos h2, if_pos (by omega), show i - o = (i - (o + 1)) + 1 by omega, List.getElem?_cons_succ]
      · rw [if_neg h2, if_neg (by omega)]
theorem putRow_size : ∀ (vs : List Value) (cs : Array Value) (o : Nat), (putRow cs o vs).size = cs.size
  | [], _, _ => rfl
  | v :: r, cs, o => by unfold putRow; rw [putRow_size r, Array.size_setIfInBounds]
theorem Blk.putCells {g : Nat} {t : TypeId} : ∀ (vs : List Value) {w : World} {cs : Array Value} (h : Blk w g t cs) (o : Nat), Blk (w.setCells g o vs) g t (putRow cs o vs)
  | [], _, _, h, _ => h
  | v :: r, _, _, h, o => (h.setd o v).putCells r (o + 1)
theorem Blk.farCells {g k : Nat} (hk : k ≠ g) {t : TypeId} {cs : Array Value} : ∀ (vs : List Value) {w : World} (h : Blk w k t cs) (o : Nat), Blk (w.setCells g o vs) k t cs
  | [], _, h, _ => h
  | v :: r, _, h, o => (h.far hk v : Blk (World.setCell _ ⟨g, o, none⟩ v) k t cs).farCells hk r (o + 1)
theorem OnlyS.setCells {S : Nat → Prop} {g : Nat} : ∀ (vs : List Value) {a w : World} (h : OnlyS S a w) (hg : S g ∨ a.heap.size ≤ g) (o : Nat), OnlyS S a (w.setCells g o vs)
  | [], _, _, h, _, _ => h
  | v :: r, a, w, h, hg, o => OnlyS.setCells r (h.setCell (p := ⟨g, o, none⟩) hg v) hg (o + 1)
theorem putRow_splice {cs : Array Value} {o : Nat} {vs : List Value} {N : Nat} (h : o + vs.length ≤ N) (hN : N ≤ cs.size) : (putRow cs o vs).toList.take N = splice (cs.toList.take N) o vs := by
  have hlen : (cs.toList.take N).length = N := by simp; omega
  apply List.ext_getElem?
  intro j
  rw [get_splice _ _ _ (by rw [hlen]; exact h), List.getElem?_take, List.getElem?_take]
  by_cases hj : j < N
  · rw [if_pos hj, if_pos hj, Array.getElem?_toList (xs := putRow cs o vs), putRow_at vs cs o j (by omega), Array.getElem?_toList (xs := cs)]
    by_cases h1 : j < o
    · rw [if_neg (by omega), if_pos h1]
    · rw [if_neg h1]
      by_cases h2 : j < o + vs.length
      · rw [if_pos (by omega), if_pos h2]
      · rw [if_neg (by omega), if_neg h2]
  · rw [if_neg hj, if_neg (by omega), if_neg (by omega), if_neg hj]
theorem putRow_whole {cs : List Value} {o : Nat} {vs : List Value} (h : o + vs.length ≤ cs.length) : putRow cs.toArray o vs = (splice cs o vs).toArray := by
  have := putRow_splice (cs := cs.toArray) (o := o) (vs := vs) (N := cs.length) h (by simp)
  have h1 : (putRow cs.toArray o vs).toList.take cs.length = (putRow cs.toArray o vs).toList := List.take_of_length_le (by rw [Array.length_toList, putRow_size]; simp)
  rw [h1] at this
  simp only [List.take_length] at this
  rw [← this]
end Go.Proofs.Ytjdojnbpchommaa
