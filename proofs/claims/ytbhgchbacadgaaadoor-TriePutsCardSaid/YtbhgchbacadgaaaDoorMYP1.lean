/-
  What is proved here: lists of pairs joined, and with one set anew; root and keys of a tree, in one word.
-/
import Derived.Test.YtbhgchbacadgaaaDoorMYL
import Derived.Test.YtbhgchbacadgaaaDoorMX21
import Derived.Test.YtbhgchbacadgaaaDoorMX19
import Derived.Test.YtbhgchbacadgaaaDoorMX20
set_option linter.unusedSimpArgs false
set_option linter.unusedVariables false
namespace Go.Proofs.YtbhgchbacadgaaaDoor
open Go.ChangeShapes Go.WideShapes Go.ChangeAt Go.RowKit
set_option linter.unusedVariables false
set_option linter.unusedSimpArgs false
set_option maxRecDepth 20000

theorem kvcs_append (X Y : List KV) : kvcs (X ++ Y) = kvcs X ++ kvcs Y := List.flatMap_append ..
theorem Kys.left {X Y : List KV} (h : Kys (X ++ Y)) : Kys X := fun q hq => h q (List.mem_append_left _ hq)
theorem kvcs_back {P : List KV} (hP : Kys P) {j : Nat} {u : Value} (h : (kvcs P)[j]? = some u) : ∃ i r q, j = i * 64 + r ∧ P[i]? = some q ∧ (kvc q)[r]? = some u := by
  have hj : j < P.length * 64 := by
    rcases Nat.lt_or_ge j (P.length * 64) with h1 | h1
    · exact h1
    · rw [List.getElem?_eq_none (by rw [kvcs_length hP]; exact h1)] at h; cases h
  have hi : j / 64 < P.length := by omega
  have hq : P[j / 64]? = some P[j / 64] := List.getElem?_eq_getElem hi
  have hk := hP _ (List.getElem_mem hi)
  have hr : j % 64 < (kvc P[j / 64]).length := by rw [kvc_len hk.1 hk.2]; omega
  have h1 := kvcs_at hP hq (j % 64) _ (List.getElem?_eq_getElem hr)
  rw [show j / 64 * 64 + j % 64 = j by omega, h] at h1
  refine ⟨j / 64, j % 64, _, by omega, hq, ?_⟩
  rw [List.getElem?_eq_getElem hr]; exact h1.symm
theorem inp_cells {w : World} {b o m : Nat} {P : List KV} (h : InP w (some ⟨b, o, none⟩) m P) {j : Nat} {u : Value} (hu : (kvcs P)[j]? = some u) : w.cell? ((⟨b, o, none⟩ : Addr).add j) = some u := by
  obtain ⟨i, r, q, rfl, hq, hr⟩ := kvcs_back h.2.2.1 hu
  have := inp_at h hq r u hr
  rw [Addr.add_lit, ← Nat.add_assoc]
  exact this
/-- a list behind a list -/
theorem wpList_append_pairs {w : World} {ops : Array Oper} {rest : List Oper} {o : Oper} {a : Act} {Q : Exit → Act → World → Prop} (hgd : o.guard = none) (s x : Operand)
    (ho : o.op = .call { callee := .builtin .append, args := #[s, x], argTypes := #[22, 22] }) (n0 : Nat) (L : List KV) (v : Value) (hs : a.eval s = v) (hO : OwP n0 w v L) (A : Option Addr) (m c : Nat) (P : List KV) (hx : a.eval x = .slice A m c) (hP : InP w A m P) (hm : 0 < m) (hlen : L.length + m ≤ 100000) (hn : n0 ≤ w.heap.size)
    (h : ∀ v' w', OwP n0 w' v' (L ++ P) → But v w w' → wpList Tryd.prog ops Q rest (a.put o.dst v') w') : wpList Tryd.prog ops Q (o :: rest) a w := by
  obtain ⟨i0, hi, hz0, hz1, hz2⟩ := info_parts info_pair
  obtain ⟨b, oo, q, rfl, _⟩ := hP.at hm
  have hPl := hP.1
  refine wpList_append_own _ hgd s x 22 ho n0 36 i0 _ 64 64 Tryd.underlying22 hi hz0 hz1 hz2 (by rfl) (by decide) v L.length (kvcs L) hs hO.row ⟨b, oo, none⟩ m c (kvcs P) hx (by rw [kvcs_length hP.2.2.1, hPl]) (fun j u hu => inp_cells hP hu) (fun u hu => ?_) (by unfold maxLen; omega) (by omega) hn ?_
  · unfold kvcs at hu
    obtain ⟨p, _, h2⟩ := List.mem_flatMap.1 hu
    exact kvc_one p u h2
  · intro v' w' h1 h2 _
    refine h v' w' ⟨by rw [List.length_append, kvcs_append, hPl]; exact h1, fun p hp => ?_⟩ h2
    rcases List.mem_append.1 hp with hp | hp
    · exact hO.ok p hp
    · exact hP.2.2.1 p hp
theorem OwP.lit0 (w : World) : OwP w.heap.size (w.alloc (.cells #[] 36)) (.slice (some ⟨w.heap.size, 0, none⟩) 0 0) [] :=
  ⟨⟨rfl, .inr ⟨w.heap.size, 0, #[], rfl, Nat.le_refl _, World.alloc_heap_new w _, by simp, by unfold maxLen; omega, by simp, by simp [kvcs]⟩⟩, fun q hq => by simp at hq⟩
theorem OwP.pos {n0 : Nat} {w : World} {v : Value} {L : List KV} (h : OwP n0 w v L) (hl : 0 < L.length) : ∃ g c, v = .slice (some ⟨g, 0, none⟩) L.length c ∧ n0 ≤ g ∧ g < w.heap.size ∧ L.length ≤ c := by
  rcases h.row.2 with ⟨h1, h0⟩ | ⟨g, cap, cur, hv, hb, hh, hnc, hrest⟩
  · omega
  · exact ⟨g, cap, hv, hb, (Array.getElem?_eq_some_iff.1 hh).1, hnc⟩
theorem OwP.there {n0 : Nat} {w : World} {g n c : Nat} {L : List KV} (h : OwP n0 w (.slice (some ⟨g, 0, none⟩) n c) L) {i : Nat} (hi : i < L.length) : w.there g (i * 64) 64 := by
  rcases h.row.2 with ⟨h1, h0⟩ | ⟨g', cap, cur, hv, hb, hh, hnc, hcm, hcs, htk⟩
  · cases h1
  · injection hv with h1 h2 h3
    injection h1 with h1
    injection h1 with h1
    subst h1
    have hB : Blk w g 36 cur := hh
    refine fun j hj => ⟨?_, hB.frozen _⟩
    rw [hB.cell, Array.getElem?_eq_getElem (by rw [hcs]; omega)]
    rfl
/-- one set anew -/
theorem OwP.set {n0 : Nat} {w : World} {g n c : Nat} {L : List KV} (h : OwP n0 w (.slice (some ⟨g, 0, none⟩) n c) L) {i : Nat} {p q : KV} (hp : L[i]? = some p) (hq : Ky q.1 ∧ Ky q.2) : OwP n0 (w.setCells g (i * 64) (kvc q)) (.slice (some ⟨g, 0, none⟩) n c) (L.set i q) := by
  obtain ⟨hi, hpi⟩ := List.getElem?_eq_some_iff.1 hp
  have hok : Kys (L.set i q) := fun r hr => by
    rcases List.mem_or_eq_of_mem_set hr with h1 | h1
    · exact h.ok r h1
    · rw [h1]; exact hq
  have hpk := h.ok p (List.mem_of_getElem? hp)
  have e1 : kvcs L = kvcs (L.take i) ++ (kvc p ++ kvcs (L.drop (i + 1))) := by
    have : L = L.take i ++ (p :: L.drop (i + 1)) := by rw [← hpi, List.getElem_cons_drop, List.take_append_drop]
    have e : kvcs L = kvcs (L.take i ++ (p :: L.drop (i + 1))) := congrArg kvcs this
    rw [e, kvcs_append]
    rfl
  have e2 : kvcs (L.set i q) = kvcs (L.take i) ++ (kvc q ++ kvcs (L.drop (i + 1))) := by
    rw [List.set_eq_take_append_cons_drop, if_pos hi, kvcs_append]; rfl
  have lt : (kvcs (L.take i)).length = i * 64 := by
    rw [kvcs_length (fun r hr => h.ok r (List.mem_of_mem_take hr)), List.length_take]; omega
  refine ⟨⟨by rw [kvcs_length hok], ?_⟩, hok⟩
  rcases h.row.2 with ⟨h1, h0⟩ | ⟨g', cap, cur, hv, hb, hh, hnc, hcm, hcs, htk⟩
  · cases h1
  · injection hv with h1 h2 h3
    injection h1 with h1
    injection h1 with h1
    subst h1
    have hB : Blk w g 36 cur := hh
    have hB2 := hB.putCells (kvc q) (i * 64)
    have hcur : cur = (kvcs (L.take i) ++ (kvc p ++ (kvcs (L.drop (i + 1)) ++ cur.toList.drop (L.length * 64)))).toArray := by
      apply Array.toList_inj.1
      rw [← List.append_assoc (kvc p), ← List.append_assoc, ← e1, ← htk, List.take_append_drop]
    have hput : putRow cur (i * 64) (kvc q) = (kvcs (L.take i) ++ (kvc q ++ (kvcs (L.drop (i + 1)) ++ cur.toList.drop (L.length * 64)))).toArray := by
      have := putRow_mid (A := kvcs (L.take i)) (M := kvc p) (M' := kvc q) (C := kvcs (L.drop (i + 1)) ++ cur.toList.drop (L.length * 64)) (o := i * 64) lt.symm (by rw [kvc_len hq.1 hq.2, kvc_len hpk.1 hpk.2])
      rw [← hcur] at this
      exact this
    refine .inr ⟨g, c, putRow cur (i * 64) (kvc q), by rw [List.length_set, h2], hb, hB2, by rw [List.length_set]; rw [h3]; exact hnc, by rw [h3]; exact hcm, by rw [putRow_len, hcs, h3], ?_⟩
    rw [hput, e2, List.length_set]
    show List.take (L.length * 64) (kvcs (L.take i) ++ (kvc q ++ (kvcs (L.drop (i + 1)) ++ _))) = _
    rw [← List.append_assoc (kvc q), ← List.append_assoc]
    rw [List.take_left']
    rw [← e2, kvcs_length hok, List.length_set]
/-! Root, and a key's value, of whatever tree. -/
section
variable {wr : World} {f g b c : Nat} {N : List Nd} {A : Option Addr} {tv : Value} {ti : Int} {T : Option Tr}
theorem tree_isT (h : Fo wr f g b N A c tv) : ∀ w1, Below wr.heap.size wr w1 → Calls Tryd.prog 40 #[.pointer (some ⟨f, 0, none⟩), .int .i64 (-1)] w1 fun e w' => e = .returned (.bool true) ∧ w1 = w' := fun w1 hb => by
  have := xisTree_at (h.below hb) (-1)
  rw [show isTr N.length (-1) = true by unfold isTr; simp] at this
  exact this
theorem tree_root (h : Fo wr f g b N A c tv) (ht : TAt N ti T) (htb : Tab wr) : Calls Tryd.prog 13 #[.pointer (some ⟨f, 0, none⟩), .int .i64 ti] wr fun e w' => e = .returned (hV (rtL (lstO T)) (.int .i64 0)) ∧ Below wr.heap.size wr w' := by
  cases T with
  | none =>
    obtain rfl : ti = -1 := ht
    exact xRoot_none htb (tree_isT h)
  | some t =>
    obtain ⟨k, rfl, hr, hok⟩ := ht
    obtain ⟨q, hq, _, hqh⟩ := rep_node hr
    have := xRoot_at h k q hq
    rw [hqh] at this
    have e : rtL (lstO (some t)) = t.hash hLf hIn := root_tree emptyH hLf hIn t hok _ (Nat.le_refl _)
    rw [e]
    exact this
theorem tree_get (h : Fo wr f g b N A c tv) (ht : TAt N ti T) (hs : szO T < 100000) {K : List Int} (hK : Ky K) : Calls Tryd.prog 14 #[.pointer (some ⟨f, 0, none⟩), .int .i64 ti, .agg (kc K)] wr fun e w' => e = .returned (gV (getL (lstO T) K)) ∧ Below wr.heap.size wr w' := by
  cases T with
  | none =>
    obtain rfl : ti = -1 := ht
    exact xGet_empty hK (tree_isT h)
  | some t =>
    obtain ⟨k, rfl, hr, hok⟩ := ht
    exact xGet_tree h k t hr hok K hK hs
theorem lst_ok (ht : TAt N ti T) : Srt (lstO T) ∧ Kys (lstO T) := by
  cases T with
  | none => exact ⟨List.Pairwise.nil, fun q hq => by simp [lstO] at hq⟩
  | some t => obtain ⟨k, _, _, hok⟩ := ht; exact Tr.srt hok
end
end Go.Proofs.YtbhgchbacadgaaaDoor
