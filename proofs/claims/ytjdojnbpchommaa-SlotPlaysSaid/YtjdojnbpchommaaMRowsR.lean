/-
  What is proved here: bytes, and lists of bytes, as arguments; which lists are few; appending bytes.
-/
import Derived.Test.YtjdojnbpchommaaMA1
import Derived.Lib.SlBytesConst
import Derived.Lib.SmallJoins
import Derived.Deep.Slices
import Derived.ChangeOld
set_option linter.unusedSimpArgs false
set_option linter.unusedVariables false
namespace Go.Proofs.Ytjdojnbpchommaa
open Go.ChangeShapes Go.WideShapes Go.ChangeAt Go.RowKit
set_option linter.unusedVariables false
set_option maxRecDepth 20000

section
variable {H : Type} {enc : TypeId × Value → H} {w : World} {base : Nat} {spare : Nat → Bool} {held : Bool}
/-- a list of parts that came in: at each place a slice of bytes -/
def RAt (w : World) (b o : Nat) (L : List (List Int)) (i : Nat) : Prop :=
  ∃ B c xs, L[i]? = some xs ∧ w.cell? ⟨b, o + i, none⟩ = some (.slice B xs.length c) ∧ Bs xs ∧ Rp w none B xs ∧ xs.length ≤ c ∧ xs.length ≤ 9223372036854775807
def InR (w : World) (A : Option Addr) (n : Nat) (L : List (List Int)) : Prop :=
  L.length = n ∧ n ≤ 9223372036854775807 ∧ (0 < n → ∃ b o, A = some ⟨b, o, none⟩ ∧ b < w.heap.size ∧ ∀ i, i < n → RAt w b o L i)
theorem open_rows {fuel : Nat} {cs : List Value} {x : DataW H × List MemPlace} (h : DataW.trod enc Try.prog w base spare held fuel 41 cs = some x) :
    ∃ A n c L, cs = [.slice A n c] ∧ InR w A n L := by
  have hc1 : Try.prog.cellsOf 31 = 1 := by kernel_rfl
  rcases Deep.open_slice Try.underlying41 h with ⟨hcs, _⟩ | ⟨a, len, cap, m, n, D, Pl, hcs, hb, hl, hm, hmm, _, hx⟩
  · exact ⟨none, 0, 0, [], hcs, rfl, by omega, fun h => by omega⟩
  · have each : ∀ i : Nat, ∃ xs : List Int, i < len → ∃ B c, w.cell? (a.add i) = some (.slice B xs.length c) ∧ Bs xs ∧ Rp w none B xs ∧ xs.length ≤ c ∧ xs.length ≤ 9223372036854775807 := by
      intro i
      by_cases hi : i < len
      · obtain ⟨cs', h1, h2⟩ := hx i (by rw [hmm]; split <;> omega)
        obtain ⟨B, k, c, xs, rfl, hin, hkc⟩ := open_bytes h2
        rw [hc1] at h1
        obtain ⟨_, _, hcell⟩ := World.cells?_some h1
        have z0 := hcell 0 (by omega)
        rw [add_add] at z0
        obtain ⟨e1, e2, e3, e4⟩ := hin
        subst e1
        refine ⟨xs, fun _ => ⟨B, c, ?_, e3, e4, hkc, e2⟩⟩
        rw [show i * 1 + 0 = i by omega] at z0
        exact z0
      · exact ⟨[], fun h => absurd h hi⟩
    obtain ⟨F, hF⟩ := Classical.axiomOfChoice each
    refine ⟨some a, len, cap, (List.range len).map F, hcs, by simp, by unfold maxLen at hm; omega, fun hpos => ?_⟩
    obtain ⟨B0, c0, hc0, _⟩ := hF 0 hpos
    obtain ⟨b, o, s⟩ := a
    have hs : s = none := by simpa [Addr.add] using World.cell?_spot hc0
    subst hs
    refine ⟨b, o, rfl, by have := block_lt_of_cell hc0; rwa [add_block] at this, fun i hi => ?_⟩
    obtain ⟨B, c, h1, h2, h3, h4, h5⟩ := hF i hi
    rw [Addr.add_lit] at h1
    exact ⟨B, c, F i, by simp [hi], h1, h2, h3, h4, h5⟩
end
theorem RAt.below {w w' : World} {b o i : Nat} {L : List (List Int)} (h : RAt w b o L i) (hb : Below w.heap.size w w') : RAt w' b o L i := by
  obtain ⟨B, c, xs, h1, h2, h3, h4, h5, h6⟩ := h
  have hlt := block_lt_of_cell h2
  exact ⟨B, c, xs, h1, (hb.cell hlt).trans h2, h3, h4.belowN hb, h5, h6⟩
theorem InR.below {w w' : World} {A : Option Addr} {n : Nat} {L : List (List Int)} (h : InR w A n L) (hb : Below w.heap.size w w') : InR w' A n L := by
  refine ⟨h.1, h.2.1, fun hn => ?_⟩
  obtain ⟨b, o, e, hlt, hat⟩ := h.2.2 hn
  exact ⟨b, o, e, Nat.lt_of_lt_of_le hlt hb.size, fun i hi => (hat i hi).below hb⟩

/-- few parts, of few bytes -/
def fewR (L : List (List Int)) (N M : Nat) : Bool := (L.take 200).all (fun f => decide (f.length ≤ M)) && decide (L.length ≤ N)
theorem fewR_all {L : List (List Int)} {N M : Nat} (h : fewR L N M = true) (hN : N ≤ 200) : L.length ≤ N ∧ ∀ f ∈ L, f.length ≤ M := by
  unfold fewR at h
  rw [Bool.and_eq_true] at h
  have h2 : L.length ≤ N := by simpa using h.2
  have h1 := h.1
  rw [List.take_of_length_le (by omega), List.all_eq_true] at h1
  exact ⟨h2, fun f hf => by simpa using h1 f hf⟩

theorem ret_bool {a b : Bool} (h : a = b) : Ending.returned (.bool a) = .returned (.bool b) := by rw [h]
end Go.Proofs.Ytjdojnbpchommaa
