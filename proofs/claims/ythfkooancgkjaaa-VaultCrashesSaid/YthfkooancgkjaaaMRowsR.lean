/-
  What is proved here: bytes, and lists of bytes, as arguments; which lists are few; appending bytes.
-/
import Derived.Test.YthfkooancgkjaaaMA1
import Derived.Lib.SlBytesConst
import Derived.Lib.SmallJoins
import Derived.Deep.Slices
import Derived.ChangeOld
set_option linter.unusedSimpArgs false
set_option linter.unusedVariables false
namespace Go.Proofs.Ythfkooancgkjaaa
open Go.ChangeShapes Go.WideShapes Go.ChangeAt Go.RowKit
set_option linter.unusedVariables false
set_option maxRecDepth 20000

section
variable {H : Type} {enc : TypeId × Value → H} {w : World} {base : Nat} {spare : Nat → Bool} {held : Bool}
/-- a list of parts that came in: at each place a slice of bytes -/
def RAt (w : World) (b o : Nat) (L : List (List Int)) (i : Nat) : Prop :=
  ∃ B c xs, L[i]? = some xs ∧ w.cell? ⟨b, o + i, none⟩ = some (.slice B xs.length c) ∧ Bs xs ∧ Rp w none B xs ∧ xs.length ≤ c ∧ xs.length ≤ 9223372036854775807
def InR (w : World) (A : Option Addr) (n : Nat) (L : List (List Int)) : Prop :=
  L.length = n ∧ n ≤ 9223372036854775807 ∧ (0 < n → ∃ b o, A = some ⟨b, o, none⟩ ∧ b < w.heap.size ∧ ∀ i, i < n → RAt w b o L i)
theorem open_rows {fuel : Nat} {cs : List Value} {x : DataW H × List MemPlace} (h : DataW.trod enc Try.prog w base spare held fuel 31 cs = some x) :
    ∃ A n c L, cs = [.slice A n c] ∧ InR w A n L := by
  have hc1 : Try.prog.cellsOf 23 = 1 := by kernel_rfl
  rcases Deep.open_slice Try.underlying31 h with ⟨hcs, _⟩ | ⟨a, len, cap, m, n, D, Pl, hcs, hb, hl, hm, hmm, _, hx⟩
  · exact ⟨none, 0, 0, [], hcs, rfl, by omega, fun h => by omega⟩
  · have each : ∀ i : Nat, ∃ xs : List Int, i < len → ∃ B c, w.cell? (a.add i) = some (.slice B xs.length c) ∧ Bs xs ∧ Rp w none B xs ∧ xs.length ≤ c ∧ xs.length ≤ 9223372036854775807 := by
      intro i
      by_cases hi : i < len
      · obtain ⟨cs', h1, h2⟩ := hx i (by rw [hmm]; split <;> omega)
        obtain ⟨B, k, c, xs, rfl, hin, hkc⟩ := open_bytes h2
        rw [hc1] at h1
        obtain ⟨_, _, hcell⟩ := World.cells?_some h1
        have z0 := hcell 0 (by omega)
        rw [add_add] at z0
        obtain ⟨e1, e2, e3, e4⟩ := hin
        subst e1
        refine ⟨xs, fun _ => ⟨B, c, ?_, e3, e4, hkc, e2⟩⟩
        rw [show i * 1 + 0 = i by omega] at z0
        exact z0
      · exact ⟨[], fun h => absurd h hi⟩
    obtain ⟨F, hF⟩ := Classical.axiomOfChoice each
    refine ⟨some a, len, cap, (List.range len).map F, hcs, by simp, by unfold maxLen at hm; omega, fun hpos => ?_⟩
    obtain ⟨B0, c0, hc0, _⟩ := hF 0 hpos
    obtain ⟨b, o, s⟩ := a
    have hs : s = none := by simpa [Addr.add] using World.cell?_spot hc0
    subst hs
    refine ⟨b, o, rfl, by have := block_lt_of_cell hc0; rwa [add_block] at this, fun i hi => ?_⟩
    obtain ⟨B, c, h1, h2, h3, h4, h5⟩ := hF i hi
    rw [Addr.add_lit] at h1
    exact ⟨B, c, F i, by simp [hi], h1, h2, h3, h4, h5⟩
end
theorem RAt.below {w w' : World} {b o i : Nat} {L : List (List Int)} (h : RAt w b o L i) (hb : Below w.heap.size w w') : RAt w' b o L i := by
  obtain ⟨B, c, xs, h1, h2, h3, h4, h5, h6⟩ := h
  have hlt := block_lt_of_cell h2
  exact ⟨B, c, xs, h1, (hb.cell hlt).trans h2, h3, h4.belowN hb, h5, h6⟩
theorem InR.below {w w' : World} {A : Option Addr} {n : Nat} {L : List (List Int)} (h : InR w A n L) (hb : Below w.heap.size w w') : InR w' A n L := by
  refine ⟨h.1, h.2.1, fun hn => ?_⟩
  obtain ⟨b, o, e, hlt, hat⟩ := h.2.2 hn
  exact ⟨b, o, e, Nat.lt_of_lt_of_le hlt hb.size, fun i hi => (hat i hi).below hb⟩

/-- few parts, of few bytes -/
def fewR (L : List (List Int)) (N M : Nat) : Bool := (L.take 200).all (fun f => decide (f.length ≤ M)) && decide (L.length ≤ N)
theorem fewR_all {L : List (List Int)} {N M : Nat} (h : fewR L N M = true) (hN : N ≤ 200) : L.length ≤ N ∧ ∀ f ∈ L, f.length ≤ M := by
  unfold fewR at h
  rw [Bool.and_eq_true] at h
  have h2 : L.length ≤ N := by simpa using h.2
  have h1 := h.1
  rw [List.take_of_length_le (by omega), List.all_eq_true] at h1
  exact ⟨h2, fun f hf => by simpa using h1 f hf⟩

theorem ret_bool {a b : Bool} (h : a = b) : Ending.returned (.bool a) = .returned (.bool b) := by rw [h]
set_option maxRecDepth 5000 in
set_option maxHeartbeats 1000000 in
theorem RFew_any (A : Option Addr) (n c : Nat) (L : List (List Int)) (w : World) (h : InR w A n L) :
    Calls Try.prog 21 #[.slice A n c, .int .i64 20, .int .i64 300] w fun e w' => e = .returned (.bool (fewR L 20 300)) ∧ w = w' := by
  have hl := h.1
  have hmax := h.2.1
  obtain ⟨r, hr⟩ : ∃ r, r = fewR L 20 300 := ⟨_, rfl⟩
  rw [← hr]
  have HR := hid hr; have H := hid h; have HL := hid hl
  clear hr h hl
  go_enter Try.func21, Try.ntmps21
  go_wp2
  go_loop [7] (fun i => ∃ k : Nat, k ≤ n ∧ k ≤ 200 ∧ i = .int .i64 k ∧ ((L.take k).all (fun f => decide (f.length ≤ 300)) = true)) (fun i => n - (intOf i).toNat)
  case atStart => exact ⟨0, by omega, by omega, rfl, by simp⟩
  case round =>
    obtain ⟨k, hk, hk2, rfl, hall⟩ := hrel
    have HA := hid hall
    clear hall
    by_cases hlt : k < n
    · by_cases hlt2 : k < 200
      · obtain ⟨b, o, rfl, _, hat⟩ := H.out.2.2 (by omega)
        obtain ⟨B, cc, bb, h1, h9, h2, h3, h4, h6⟩ := hat k hlt
        obtain ⟨m, hm⟩ : ∃ m, m = bb.length := ⟨_, rfl⟩
        rw [← hm] at h9 h6
        have H1 := hid h1; have HM := hid hm
        clear hat h1 h2 h3 h4 hm hk
        have HK2 := hid hk2
        clear hk2
        by_cases hbig : 300 < m
        · have hf : r = false := by
            rw [HR.out]
            unfold fewR
            have hm := HM.out
            have hin : bb ∈ L.take 200 := by
              rw [List.mem_iff_getElem?]
              exact ⟨k, by rw [List.getElem?_take, if_pos hlt2]; exact H1.out⟩
            have : ((L.take 200).all fun f => decide (f.length ≤ 300)) = false := by
              rw [List.all_eq_false]
              exact ⟨_, hin, by simp; omega⟩
            rw [this]; rfl
          have HF := hid hf
          clear hf
          go_wp2
          go_ret
          rw [HF.out]
          exact ⟨rfl, rfl⟩
        · go_wp2
          go_round
          case rel =>
            refine ⟨k + 1, by omega, by omega, by go_num, ?_⟩
            have hm := HM.out
            have hl := HL.out
            have h1 := H1.out
            have hkl : k < L.length := by omega
            rw [List.take_succ_eq_append_getElem hkl, List.all_append, HA.out]
            have e : L[k] = bb := by rw [List.getElem?_eq_getElem hkl] at h1; injection h1
            rw [e]; simp; omega
          case measure => simp [intOf]; omega
      · have hk3 : k = 200 := by omega
        subst hk3
        have hf : r = decide (n ≤ 20) := by
          rw [HR.out]; unfold fewR; rw [HA.out, HL.out]
          simp
        have HF := hid hf
        clear hf
        go_wp2
        go_ret
        rw [HF.out]
        exact ⟨ret_bool (by rw [decide_eq_decide]; omega), rfl⟩
    · have hk3 : k = n := by omega
      subst hk3
      have hf : r = decide (k ≤ 20) := by
        have hl := HL.out
        have ha := HA.out
        rw [List.take_of_length_le (by omega)] at ha
        rw [HR.out]; unfold fewR; rw [hl, List.take_of_length_le (by omega), ha]
        simp
      have HF := hid hf
      clear hf
      go_wp2
      go_ret
      rw [HF.out]
      exact ⟨ret_bool (by rw [decide_eq_decide]; omega), rfl⟩
end Go.Proofs.Ythfkooancgkjaaa
