/-
  What is proved here: what is shown is right, and shows what the tree has of the key: the walk of the statement.
-/
import Derived.Test.YtbhgchbacadgaaaDoorMY14
import Derived.Test.YtbhgchbacadgaaaDoorMY12
set_option linter.unusedSimpArgs false
set_option linter.unusedVariables false
namespace Go.Proofs.YtbhgchbacadgaaaDoor
open Go.ChangeShapes Go.WideShapes Go.ChangeAt Go.RowKit
set_option linter.unusedVariables false
set_option linter.unusedSimpArgs false
set_option maxRecDepth 20000

theorem shS_len {K : List Int} : ∀ {t : Tr}, (shS K t).length + 1 ≤ t.list.length
  | .leaf k v => by simp [shS, Tr.list]
  | .inner n b l r => by
    have h1 := shS_len (K := K) (t := l); have h2 := shS_len (K := K) (t := r)
    have p1 := l.pos; have p2 := r.pos
    show (shS K (.inner n b l r)).length + 1 ≤ (l.list ++ r.list).length
    unfold shS
    rw [List.length_append]
    split
    · split <;> simp only [List.length_cons] <;> omega
    · simp; omega
/-- what Root, Show, Check and Get answer of one tree -/
theorem tree_all {wr : World} {f g b c : Nat} {N : List Nd} {A : Option Addr} {tv : Value} {ti : Int} {T : Option Tr} {K : List Int} (h : Fo wr f g b N A c tv) (ht : TAt N ti T) (hs : szO T ≤ 20) (hK : Ky K) (htb : Tab wr) :
    ∃ (H0 : List Int) (p : QP) (o : Option (List Int)), Ky H0 ∧ p.Ok ∧ p.ss.length ≤ 100 ∧ Ky (o.getD zk) ∧
      Hid (∀ x, Below wr.heap.size wr x → Calls Tryd.prog 13 #[.pointer (some ⟨f, 0, none⟩), .int .i64 ti] x fun e w' => e = .returned (.tuple #[.agg (kc H0), .int .i64 0]) ∧ Below x.heap.size x w') ∧
      Hid (∀ x, Below wr.heap.size wr x → Calls Tryd.prog 27 #[.pointer (some ⟨f, 0, none⟩), .int .i64 ti, .agg (kc K)] x (ShA x p)) ∧
      chkV K H0 p = .tuple #[.agg (kc (o.getD zk)), .bool o.isSome, .bool true] ∧
      Hid (∀ x, Below wr.heap.size wr x → Calls Tryd.prog 14 #[.pointer (some ⟨f, 0, none⟩), .int .i64 ti, .agg (kc K)] x fun e w' => e = .returned (.tuple #[.agg (kc (o.getD zk)), .bool o.isSome]) ∧ Below x.heap.size x w') := by
  cases T with
  | none =>
    obtain rfl : ti = -1 := ht
    have CI : ∀ x, Below wr.heap.size wr x → ∀ w1, Below x.heap.size x w1 → Calls Tryd.prog 40 #[.pointer (some ⟨f, 0, none⟩), .int .i64 (-1)] w1 fun e w' => e = .returned (.bool true) ∧ w1 = w' := fun x hx w1 hb => by
      have := xisTree_at ((h.below hx).below hb) (-1)
      rw [show isTr N.length (-1) = true by unfold isTr; simp] at this
      exact this
    refine ⟨emptyH, qZ, none, emptyH_ky, qZ_ok, by decide, zk_ky, fun x hx => ?_, fun x hx => ?_, ?_, fun x hx => ?_⟩
    · exact xRoot_none (htb.below hx) (CI x hx)
    · refine (qShow_none (htb.below hx) (CI x hx)).mono (fun e w' h9 => ?_)
      exact ⟨none, 0, h9.1, InS.nil _ _, h9.2⟩
    · exact chkZ K
    · exact xGet_empty hK (CI x hx)
  | some t =>
    obtain ⟨k, rfl, hr, hok⟩ := ht
    have hsz : t.list.length ≤ 20 := hs
    obtain ⟨q, hq, _, hqh⟩ := rep_node hr
    have hl := shS_len (K := K) (t := t)
    refine ⟨t.hash hLf hIn, shP K t, getL t.list K, hash_ky2 t, shP_ok hok, ?_, ?_, fun x hx => ?_, fun x hx => ?_, chk_shP hok, fun x hx => ?_⟩
    · rw [show (shP K t).ss = shS K t from endP_ss _ _]; omega
    · rw [← shw_shP hok]
      have hpk := shP_ok (K := K) hok
      unfold shwO
      split
      · exact hpk.v
      · exact zk_ky
    · have := xRoot_at (h.below hx) k q hq
      rw [hqh] at this
      exact this
    · exact qShow_tree (h.below hx) k t hr hok K hK (by omega) (htb.below hx)
    · exact xGet_tree (h.below hx) k t hr hok K hK (by omega)
end Go.Proofs.YtbhgchbacadgaaaDoor
