/-
  What is proved here: what lists of pairs hold when they are read; sizes of trees. Nothing of the program is walked here.
-/
import Derived.Test.YtdeohkgdmbfocaaDoorMX17
import Derived.Test.YtdeohkgdmbfocaaDoorMXO
import Derived.Test.YtdeohkgdmbfocaaDoorMX20
set_option linter.unusedSimpArgs false
set_option linter.unusedVariables false
namespace Go.Proofs.YtdeohkgdmbfocaaDoor
open Go.ChangeShapes Go.WideShapes Go.ChangeAt Go.RowKit
set_option linter.unusedVariables false
set_option maxRecDepth 20000

/-- a list of pairs that came in -/
def InP (w : World) (A : Option Addr) (n : Nat) (P : List KV) : Prop :=
  P.length = n ∧ n ≤ 9223372036854775807 ∧ Kys P ∧ (0 < n → ∃ b o, A = some ⟨b, o, none⟩ ∧ b < w.heap.size ∧ ∀ (i : Nat) (q : KV), P[i]? = some q → w.rangeAt b (o + i * 64) (kvc q))
theorem InP.below {w w' : World} {A : Option Addr} {n : Nat} {P : List KV} (h : InP w A n P) (hb : Below w.heap.size w w') : InP w' A n P := by
  refine ⟨h.1, h.2.1, h.2.2.1, fun hn => ?_⟩
  obtain ⟨b, o, e, hlt, hat⟩ := h.2.2.2 hn
  exact ⟨b, o, e, Nat.lt_of_lt_of_le hlt hb.size, fun i q hq => rng_bel hb (hat i q hq)⟩
section
variable {H : Type} {enc : TypeId × Value → H} {w : World} {base : Nat} {spare : Nat → Bool} {held : Bool}
theorem open_pair {fuel : Nat} {cs : List Value} {x : DataW H × List MemPlace} (h : DataW.trod enc Tryd.prog w base spare held fuel 36 cs = some x) : ∃ q : KV, (Ky q.1 ∧ Ky q.2) ∧ cs = kvc q := by
  obtain ⟨xs, n, _, _, hl, hn, he⟩ := DataW.trod_struct Tryd.underlying36 h
  rw [show Tryd.prog.cellsOf 36 = 64 by kernel_rfl] at hl
  have ch : Tryd.prog.cellsOf 24 = 32 := by kernel_rfl
  match xs, hn with
  | [y0, y1], _ =>
    have e0 : DataW.trod enc Tryd.prog w base spare held n 24 ((cs.drop 0).take (Tryd.prog.cellsOf 24)) = some y0 := he 0 _ rfl
    have e1 : DataW.trod enc Tryd.prog w base spare held n 24 ((cs.drop 32).take (Tryd.prog.cellsOf 24)) = some y1 := he 1 _ rfl
    rw [ch] at e0 e1
    obtain ⟨k, hk, h1⟩ := open_key e0
    obtain ⟨v, hv, h2⟩ := open_key e1
    refine ⟨(k, v), ⟨hk, hv⟩, ?_⟩
    have d1 := drop_app h1 (by rw [u8s_length, hk.len])
    have d2 := drop_app h2 (by rw [u8s_length, hv.len])
    have d3 : cs.drop (32 + 32) = [] := List.drop_of_length_le (by omega)
    rw [List.drop_zero, Nat.zero_add] at d1
    rw [d1, d2, d3, List.append_nil]
    rfl
theorem open_pairs {fuel : Nat} {cs : List Value} {x : DataW H × List MemPlace} (h : DataW.trod enc Tryd.prog w base spare held fuel 22 cs = some x) :
    ∃ A n c P, cs = [.slice A n c] ∧ InP w A n P := by
  have hc4 : Tryd.prog.cellsOf 36 = 64 := by kernel_rfl
  rcases Deep.open_slice Tryd.underlying22 h with ⟨hcs, _⟩ | ⟨a, len, cap, m, n, D, Pl, hcs, hb, hl, hm, hmm, _, hx⟩
  · exact ⟨none, 0, 0, [], hcs, rfl, by omega, fun q hq => by simp at hq, fun h => by omega⟩
  · have each : ∀ i : Nat, ∃ q : KV, i < len → (Ky q.1 ∧ Ky q.2) ∧ ∀ j v, (kvc q)[j]? = some v → w.cell? (a.add (i * 64 + j)) = some v := by
      intro i
      by_cases hi : i < len
      · obtain ⟨cs', h1, h2⟩ := hx i (by rw [hmm]; split <;> omega)
        obtain ⟨q, hq, rfl⟩ := open_pair h2
        refine ⟨q, fun _ => ⟨hq, fun j v hv => ?_⟩⟩
        rw [hc4] at h1
        obtain ⟨hlen, _, hcell⟩ := World.cells?_some h1
        have hj : j < 64 := by
          rcases Nat.lt_or_ge j 64 with h3 | h3
          · exact h3
          · rw [List.getElem?_eq_none (by rw [kvc_len hq.1 hq.2]; exact h3)] at hv; cases hv
        have z := hcell j hj
        rw [add_add] at z
        rw [z]
        exact hv
      · exact ⟨([], []), fun h => absurd h hi⟩
    obtain ⟨F, hF⟩ := Classical.axiomOfChoice each
    refine ⟨some a, len, cap, (List.range len).map F, hcs, by simp, by unfold maxLen at hm; omega, fun q hq => ?_, fun hpos => ?_⟩
    · simp only [List.mem_map, List.mem_range] at hq
      obtain ⟨i, hi, rfl⟩ := hq
      exact (hF i hi).1
    · obtain ⟨hq0, hc0⟩ := hF 0 hpos
      obtain ⟨b, o, s⟩ := a
      have hl0 := kvc_len hq0.1 hq0.2
      have h00 := hc0 0 _ (List.getElem?_eq_getElem (by omega))
      have hs : s = none := by simpa [Addr.add] using World.cell?_spot h00
      subst hs
      refine ⟨b, o, rfl, by have := block_lt_of_cell h00; rwa [add_block] at this, fun i q hq j v hv => ?_⟩
      have hi : i < len := by
        rcases Nat.lt_or_ge i len with h3 | h3
        · exact h3
        · rw [List.getElem?_eq_none (by simp; exact h3)] at hq; cases hq
      have e : F i = q := by
        rw [List.getElem?_map, List.getElem?_range hi] at hq
        injection hq
      have := (hF i hi).2 j v (by rw [e]; exact hv)
      rw [Addr.add_lit, ← Nat.add_assoc] at this
      exact this
end
/-! Sizes. -/
theorem lohi_len (k : List Int) : ∀ l : List KV, (lo l k).length + (hi l k).length ≤ l.length
  | [] => by simp [lo, hi]
  | q :: l => by
    have ih := lohi_len k l
    unfold lo hi at ih ⊢
    rw [List.length_cons]
    by_cases h1 : lss q.1 k = true
    · rw [List.filter_cons_of_pos (by simpa using h1), List.filter_cons_of_neg (by rw [lss_asym h1]; simp), List.length_cons]
      omega
    · rw [List.filter_cons_of_neg (by simpa using h1)]
      by_cases h2 : lss k q.1 = true
      · rw [List.filter_cons_of_pos (by simpa using h2), List.length_cons]; omega
      · rw [List.filter_cons_of_neg (by simpa using h2)]; omega
theorem put_len {t : Tr} {K V : List Int} (h : t.ok) (hK : Ky K) (hV : Ky V) : (t.put K V).list.length ≤ t.list.length + 1 := by
  rw [(Tr.put_ok h hK hV).2]
  have := lohi_len K t.list
  simp only [List.length_append, List.length_singleton]
  omega
def lstO (T : Option Tr) : List KV := match T with | none => [] | some t => t.list
def okO (T : Option Tr) : Prop := match T with | none => True | some t => t.ok
theorem putO_list {T : Option Tr} {K V : List Int} (h : okO T) (hK : Ky K) (hV : Ky V) : (putO T K V).list = putL (lstO T) K V ∧ (putO T K V).ok ∧ (putO T K V).list.length ≤ szO T + 1 := by
  cases T with
  | none => exact ⟨by simp [putO, Tr.list, lstO, putL], ⟨hK, hV⟩, by simp [putO, Tr.list, szO]⟩
  | some t => exact ⟨Tr.put_list h hK hV, (Tr.put_ok h hK hV).1, put_len h hK hV⟩
theorem TAt.ok {N : List Nd} {i : Int} {T : Option Tr} (h : TAt N i T) : okO T := by
  cases T with
  | none => exact trivial
  | some t => obtain ⟨k, _, _, h3⟩ := h; exact h3
theorem TAt.more {N M : List Nd} {i : Int} {T : Option Tr} (h : TAt N i T) : TAt (N ++ M) i T := by
  cases T with
  | none => exact h
  | some t => obtain ⟨k, h1, h2, h3⟩ := h; exact ⟨k, h1, h2.more hLf hIn M, h3⟩
end Go.Proofs.YtdeohkgdmbfocaaDoor
