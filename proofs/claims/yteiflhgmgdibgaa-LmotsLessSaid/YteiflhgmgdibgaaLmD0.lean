/-
  What is proved here: the document's own digits of a hash and its check sum.
-/
import Derived.Test.YteiflhgmgdibgaaLmW
import Derived.Test.YteiflhgmgdibgaaLmS
namespace Go.Proofs.Yteiflhgmgdibgaa
open Go.ChangeShapes Go.WideShapes Go.ChangeAt Go.RowKit
set_option linter.unusedVariables false

/-- the cells of numbers -/
def i64s (xs : List Int) : List Value := xs.map (Value.int .i64)
theorem i64s_length (xs : List Int) : (i64s xs).length = xs.length := by simp [i64s]
theorem i64s_get (xs : List Int) (i : Nat) (h : i < xs.length) : (i64s xs)[i]? = some (.int .i64 (xs[i]?.getD 0)) := by simp [i64s, h]
theorem i64s_one (xs : List Int) : ∀ v ∈ i64s xs, v.oneCell' = true := by
  intro v hv
  simp only [i64s, List.mem_map] at hv
  obtain ⟨x, _, rfl⟩ := hv
  rfl
/-- the slice at A holds these numbers, from its block's first cell on -/
def RpI (w : World) (A : Option Addr) (xs : List Int) : Prop := 0 < xs.length → ∃ g cs, A = some ⟨g, 0, none⟩ ∧ w.heap[g]? = some (.cells cs 3 (0, 0)) ∧ ∀ j, j < xs.length → cs[j]? = some (.int .i64 (xs[j]?.getD 0))
theorem RpI.get {w : World} {A : Option Addr} {xs : List Int} (h : RpI w A xs) (hx : 0 < xs.length) : ∃ ad, A = some ad ∧ ∀ j, j < xs.length → w.cell? (ad.add j) = some (.int .i64 (xs[j]?.getD 0)) := by
  obtain ⟨g, cs, rfl, hh, hc⟩ := h hx
  refine ⟨_, rfl, fun j hj => ?_⟩
  have e1 : (⟨g, 0, none⟩ : Addr).add j = ⟨g, j, none⟩ := by unfold Addr.add; split <;> simp_all
  rw [e1, cell_of_row w g j cs 3 (0, 0) hh, hc j hj]
theorem RpI.same {w w' : World} {A : Option Addr} {xs : List Int} (h : RpI w A xs) (hb : ∀ (g : Nat) (cs : Array Value), w.heap[g]? = some (Obj.cells cs 3 (0, 0)) → w'.heap[g]? = w.heap[g]?) : RpI w' A xs := fun hx => by
  obtain ⟨g, cs, rfl, hh, hc⟩ := h hx
  exact ⟨g, cs, rfl, (hb g cs hh).trans hh, hc⟩
theorem RpI.below {w w' : World} {A : Option Addr} {xs : List Int} (h : RpI w A xs) (hb : Below w.heap.size w w') : RpI w' A xs := h.same fun g cs hh => hb.block g (by
  rcases Nat.lt_or_ge g w.heap.size with h2 | h2
  · exact h2
  · rw [Array.getElem?_eq_none h2] at hh; cases hh)
theorem info_int : (Try.prog.info? 3).map (fun i => (i.zero, i.size, i.bytes)) = some (some (.int .i64 0), 1, 8) := by kernel_rfl
theorem append_int {w : World} {ops : Array Oper} {rest : List Oper} {o : Oper} {a : Act} {Q : Exit → Act → World → Prop} (hgd : o.guard = none) (s x : Operand)
    (ho : o.op = .call { callee := .builtin .append, args := #[s, x], argTypes := #[27, 27] })
    (base B : Nat) (v : Value) (xs : List Int) (n : Nat) (hn : n = xs.length) (hs : a.eval s = v) (hown : w.ownsRow base 3 1 v n (i64s xs))
    (ad : Addr) (y : Int) (hx : a.eval x = .slice (some ad) 1 1) (hr : w.cell? ad = some (.int .i64 y)) (h63 : n < 1000000) (hbase : base ≤ w.heap.size) (hB : B ≤ base)
    (h : ∀ v' w', Hid (w'.ownsRow base 3 1 v' (n + 1) (i64s (xs ++ [y]))) → Hid (Below B w w') → wpList Try.prog ops Q rest (a.put o.dst v') w') : wpList Try.prog ops Q (o :: rest) a w := by
  obtain ⟨i0, hi, hz0, hz1, hz2⟩ := info_parts info_int
  refine wpList_append_own _ hgd s x 27 ho base 3 i0 (.int .i64 0) 1 8 Try.underlying27 hi hz0 hz1 hz2 rfl (by decide) v n (i64s xs) hs hown ad 1 1 (i64s [y]) hx (by rw [i64s_length]; simp) (fun j u hu => ?_) (i64s_one _) (by unfold maxLen; omega) (by omega) hbase ?_
  · cases j with
    | zero =>
      simp [i64s] at hu
      subst hu
      have e : ad.add 0 = ad := by unfold Addr.add; simp
      rw [e]; exact hr
    | succ j => simp [i64s] at hu
  · intro v' w' h1 h2 _
    refine h v' w' (show World.ownsRow _ _ _ _ _ _ _ from ?_) ((Below.refl _ _).grown h2 (by omega) (fun b hb => Nat.le_trans hB (hown.lt b hb).1))
    rw [show i64s (xs ++ [y]) = i64s xs ++ i64s [y] by simp [i64s]]
    exact h1
theorem ints_of_own {w1 : World} {base n : Nat} {v : Value} {xs : List Int} (h : w1.ownsRow base 3 1 v n (i64s xs)) :
    ∃ A c, v = .slice A n c ∧ xs.length = n ∧ RpI w1 A xs := by
  have hl := h.1
  rw [i64s_length, Nat.mul_one] at hl
  rcases h.2 with ⟨hv, h0⟩ | ⟨g, cap, cur, hv, hg, hh, hnc, hcm, hcs, htk⟩
  · exact ⟨none, 0, by rw [hv, h0], hl, fun hx => by omega⟩
  · refine ⟨some ⟨g, 0, none⟩, cap, hv, hl, fun _ => ⟨g, cur, rfl, hh, fun j hj => ?_⟩⟩
    have e : cur[j]? = (cur.toList.take (n * 1))[j]? := by rw [List.getElem?_take, if_pos (by omega), Array.getElem?_toList]
    rw [e, htk, i64s_get _ _ hj]
theorem own_none_int (w : World) (B : Nat) : w.ownsRow B 3 1 (.slice none 0 0) 0 (i64s []) := ⟨by simp [i64s], .inl ⟨rfl, rfl⟩⟩
theorem digits_take (k : Int) (h : List Int) (n : Nat) (hn : n < kchains k) : (digits k h).take (n + 1) = (digits k h).take n ++ [dig (kall k h) n (kbits k) (8 / kbits k)] := by
  rw [List.take_succ_eq_append_getElem (by rw [digits_length]; exact hn)]
  simp [digits]
theorem kDigits_no (k : Int) (h : List Int) (w : World) (hk : kbits k = 0) :
    Calls Try.prog 12 #[.int .i64 k, .agg (u8s h).toArray] w fun e w' => e = .returned (.slice none 0 0) ∧ Below w.heap.size w w' := by
  have CB := hid (kBits_any k)
  rw [hk] at CB
  clear hk
  go_enter Try.func12, Try.ntmps12
  go_wp2_with (go_at_call 14; refine (CB.out _).mono ?_; rintro e w1 ⟨rfl, rfl⟩)
  go_ret
  exact ⟨rfl, (Below.refl _ _).alloc (Nat.le_refl _) _⟩
end Go.Proofs.Yteiflhgmgdibgaa
