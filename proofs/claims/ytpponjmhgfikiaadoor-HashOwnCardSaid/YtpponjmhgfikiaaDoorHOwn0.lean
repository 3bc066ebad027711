/-
  A list of byte slices that the call itself has made: how it grows, and that it reads as what it is.
-/
import Derived.Test.YtpponjmhgfikiaaDoorHTexts
import Derived.Maps.AppendAt
namespace Go.Proofs.YtpponjmhgfikiaaDoor
open Go.ChangeShapes Go.WideShapes Go.ChangeAt Go.RowKit
set_option linter.unusedVariables false

theorem info_rows : (Tryd.prog.info? 22).map (fun i => (i.zero, i.size, i.bytes)) = some (some (.slice none 0 0), 1, 24) := by kernel_rfl

/-- v holds the k first of L, each in a block apart from v's own -/
def OwnR (base : Nat) (w : World) (v : Value) (k : Nat) (L : List (List Int)) : Prop :=
  ∃ vs, w.ownsRow base 22 1 v k vs ∧ ∀ j, j < k → ∃ B c xs, L[j]? = some xs ∧ vs[j]? = some (.slice B xs.length c) ∧ xs.length ≤ c ∧ Rp w none B xs ∧ (0 < xs.length → ∀ a, B = some a → v.ownBlock ≠ some a.block)

theorem rp_grown {w w' : World} {row : Option Nat} {B : Option Addr} {xs : List Int} (h : Rp w none B xs) (hg : w.grownBy w' row) (hne : 0 < xs.length → ∀ a, B = some a → row ≠ some a.block) : Rp w' none B xs := fun hx => by
  obtain ⟨ad, rfl, hn, hc⟩ := h hx
  have hlt := block_lt_of_cell (hc 0 hx)
  rw [add_block] at hlt
  exact ⟨ad, rfl, hn, fun j hj => (World.cell?_of_block (w := w) (by rw [add_block]; exact hg.block _ hlt (fun e => hne hx ad rfl e.symm))).trans (hc j hj)⟩
theorem rp_lt {w : World} {a : Addr} {xs : List Int} (h : Rp w none (some a) xs) (hx : 0 < xs.length) : a.block < w.heap.size := by
  obtain ⟨ad, e, hn, hc⟩ := h hx
  injection e with e
  subst e
  have hlt := block_lt_of_cell (hc 0 hx)
  rwa [add_block] at hlt

theorem OwnR.start (base : Nat) (w : World) (L : List (List Int)) : OwnR base w (.slice none 0 0) 0 L :=
  ⟨[], ⟨rfl, .inl ⟨rfl, rfl⟩⟩, fun j hj => absurd hj (Nat.not_lt_zero _)⟩
theorem OwnR.below {base : Nat} {w w' : World} {v : Value} {k : Nat} {L : List (List Int)} (h : OwnR base w v k L) (hb : Below w.heap.size w w') : OwnR base w' v k L := by
  obtain ⟨vs, h1, h2⟩ := h
  refine ⟨vs, own_below h1 hb, fun j hj => ?_⟩
  obtain ⟨B, c, xs, e1, e2, e3, e4, e5⟩ := h2 j hj
  exact ⟨B, c, xs, e1, e2, e3, e4.belowN hb, e5⟩
/-- one slice more, that has just been made -/
theorem OwnR.push {base : Nat} {w0 wa w' : World} {v v' : Value} {k : Nat} {L : List (List Int)} {B : Option Addr} {c : Nat} {xs : List Int} {vs : List Value}
    (hv : wa.ownsRow base 22 1 v k vs)
    (hall : ∀ j, j < k → ∃ B c xs, L[j]? = some xs ∧ vs[j]? = some (.slice B xs.length c) ∧ xs.length ≤ c ∧ Rp wa none B xs ∧ (0 < xs.length → ∀ a, B = some a → v.ownBlock ≠ some a.block))
    (hB : Rp wa none B xs) (hBv : 0 < xs.length → ∀ a, B = some a → v.ownBlock ≠ some a.block) (hxc : xs.length ≤ c) (hL : L[k]? = some xs)
    (hown : w'.ownsRow base 22 1 v' (k + 1) (vs ++ [.slice B xs.length c])) (hg : wa.grownBy w' v.ownBlock) (hat : v'.ownBlock = v.ownBlock ∨ v'.ownBlock = some wa.heap.size) : OwnR base w' v' (k + 1) L := by
  have hvl : vs.length = k := by have := hv.1; omega
  have key : ∀ (B : Option Addr) (xs : List Int), Rp wa none B xs → (0 < xs.length → ∀ a, B = some a → v.ownBlock ≠ some a.block) → Rp w' none B xs ∧ (0 < xs.length → ∀ a, B = some a → v'.ownBlock ≠ some a.block) := by
    intro B xs hr hn
    refine ⟨rp_grown hr hg hn, fun hx a ha e => ?_⟩
    subst ha
    have hlt := rp_lt hr hx
    rcases hat with h | h
    · exact hn hx a rfl (h.symm.trans e)
    · rw [h] at e
      injection e with e
      omega
  refine ⟨_, hown, fun j hj => ?_⟩
  rcases Nat.lt_or_ge j k with hlt | hge
  · obtain ⟨B', c', xs', e1, e2, e3, e4, e5⟩ := hall j hlt
    obtain ⟨r1, r2⟩ := key B' xs' e4 e5
    exact ⟨B', c', xs', e1, by rw [List.getElem?_append_left (by omega)]; exact e2, e3, r1, r2⟩
  · obtain rfl : j = k := by omega
    obtain ⟨r1, r2⟩ := key B xs hB hBv
    exact ⟨B, c, xs, hL, by rw [List.getElem?_append_right (by omega), hvl, Nat.sub_self]; rfl, hxc, r1, r2⟩
theorem OwnR.inR {base : Nat} {w : World} {v : Value} {n : Nat} {L : List (List Int)} (h : OwnR base w v n L) (hn : L.length = n) (h20 : n ≤ 20) (hb : ∀ f ∈ L, Bs f) (h3 : ∀ f ∈ L, f.length ≤ 300) :
    ∃ A c, v = .slice A n c ∧ InR w A n L := by
  obtain ⟨vs, hown, hall⟩ := h
  rcases hown.2 with ⟨hv, h0⟩ | ⟨g, cap, cur, hv, hg, hh, hnc, hcm, hcs, htk⟩
  · exact ⟨none, 0, by rw [hv, h0], hn, by omega, fun h => by omega⟩
  · have hk : Blk w g 22 cur := hh
    refine ⟨some ⟨g, 0, none⟩, cap, hv, hn, by omega, fun _ => ⟨g, 0, rfl, hk.lt, fun i hi => ?_⟩⟩
    obtain ⟨B, c, xs, e1, e2, e3, e4, e5⟩ := hall i hi
    have hm := List.mem_of_getElem? e1
    refine ⟨B, c, xs, e1, ?_, hb xs hm, e4, e3, by have := h3 xs hm; omega⟩
    rw [Nat.zero_add, hk.cell, ← e2, ← htk, List.getElem?_take, if_pos (by omega), Array.getElem?_toList]

/-- the step: a slice that has just been made is added to a list of the call's own -/
theorem append_row {w : World} {ops : Array Oper} {rest : List Oper} {o : Oper} {a : Act} {Q : Exit → Act → World → Prop} (hgd : o.guard = none) (s x : Operand)
    (ho : o.op = .call { callee := .builtin .append, args := #[s, x], argTypes := #[28, 28] })
    (base top : Nat) (v : Value) (k : Nat) (L : List (List Int)) (B : Option Addr) (c m : Nat) (xs : List Int) (wb : World) (hm : m = xs.length) (hw : w = wb.alloc (.cells #[.slice B m c] 22))
    (hs : a.eval s = v) (hx : a.eval x = .slice (some ⟨wb.heap.size, 0, none⟩) 1 1)
    (hO : OwnR base wb v k L) (hB : Rp wb none B xs) (hBv : 0 < xs.length → ∀ a, B = some a → v.ownBlock ≠ some a.block) (hxc : xs.length ≤ c) (hL : L[k]? = some xs) (hk : k ≤ 20) (hbase : base ≤ wb.heap.size) (htop : top ≤ base)
    (h : ∀ v' w', Hid (OwnR base w' v' (k + 1) L) → Hid (Below top w w') → wpList Tryd.prog ops Q rest (a.put o.dst v') w') : wpList Tryd.prog ops Q (o :: rest) a w := by
  subst hm
  have hb1 : Below wb.heap.size wb w := by rw [hw]; exact (Below.refl _ _).alloc (Nat.le_refl _) _
  obtain ⟨vs, h1, h2⟩ := hO.below hb1
  obtain ⟨i0, hi, hz0, hz1, hz2⟩ := info_parts info_rows
  have hsz : w.heap.size = wb.heap.size + 1 := by rw [hw]; simp
  refine wpList_append_own_at _ hgd s x 28 ho base 22 i0 (.slice none 0 0) 1 24 Tryd.underlying28 hi hz0 hz1 hz2 rfl (by decide) v k vs hs h1 ⟨wb.heap.size, 0, none⟩ 1 1 [.slice B xs.length c] hx rfl (fun j u hu => ?_) (fun u hu => ?_) (by unfold maxLen; omega) (by omega) (by omega) ?_
  · match j, hu with
    | 0, hu => rw [hw, Addr.add_lit, (Blk.new wb 22 #[.slice B xs.length c]).cell]; exact hu
    | j + 1, hu => simp at hu
  · simp at hu; subst hu; rfl
  · intro v' w' ho' hg _ hat
    refine h v' w' (show OwnR _ _ _ _ _ from OwnR.push (w0 := w) h1 h2 (hB.belowN hb1) hBv hxc hL ho' hg hat) ((Below.refl _ _).grown hg (by omega) (fun b hb => Nat.le_trans htop (h1.lt b hb).1))
end Go.Proofs.YtpponjmhgfikiaaDoor
