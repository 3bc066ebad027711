/-
  What is proved here: lists of fields that came in: they stay where only new memory turns; whether they are few, and small.
-/
import Derived.Test.YtmdclicomneomaaNil
namespace Go.Proofs.Ytmdclicomneomaa
open Go.ChangeShapes Go.WideShapes Go.ChangeAt Go.RowKit
set_option linter.unusedVariables false

theorem InB.below {w w' : World} {A : Option Addr} {n c : Nat} {xs : List Int} (h : InB w A n c xs) (hb : Below w.heap.size w w') : InB w' A n c xs := ⟨h.1, h.2.1, h.2.2.1, Rp.below h.2.2.2 hb⟩
theorem InF.below {w w' : World} {cs : List Value} {k x : Int} {bb : List Int} (h : InF w cs k x bb) (hb : Below w.heap.size w w') : InF w' cs k x bb := by
  obtain ⟨A, c, h1, h2, h3, h4, h5, h6⟩ := h
  exact ⟨A, c, h1, h2, h3, h4, h5, h6.below hb⟩
theorem InL.below {w w' : World} {A : Option Addr} {n : Nat} {l : List (Int × Int × List Int)} (h : InL w A n l) (hb : Below w.heap.size w w') : InL w' A n l := by
  refine ⟨h.1, h.2.1, fun hn => ?_⟩
  obtain ⟨ad, e, hc⟩ := h.2.2 hn
  refine ⟨ad, e, fun i hi => ?_⟩
  obtain ⟨k, x, bb, B, c, h1, h2, h3, h4, h5⟩ := hc i hi
  have hlt := block_lt_of_cell h3
  rw [add_block] at hlt
  have key : ∀ j, w'.cell? (ad.add j) = w.cell? (ad.add j) := fun j => hb.cell (by rw [add_block]; exact hlt)
  exact ⟨k, x, bb, B, c, h1, h2.below hb, (key _).trans h3, (key _).trans h4, (key _).trans h5⟩

/-- a field at a place of the list, with its cells' addresses written out -/
def FAt (w : World) (b o : Nat) (l : List (Int × Int × List Int)) (i : Nat) : Prop :=
  ∃ k x bb B c, l[i]? = some (k, x, bb) ∧ 0 ≤ x ∧ x < 18446744073709551616 ∧ Bs bb ∧ Rp w none B bb ∧ bb.length ≤ 9223372036854775807 ∧
    w.cell? ⟨b, o + i * 3, none⟩ = some (.int .i64 k) ∧ w.cell? ⟨b, o + i * 3 + 1, none⟩ = some (.int .u64 x) ∧ w.cell? ⟨b, o + i * 3 + 2, none⟩ = some (.slice B bb.length c)
theorem InL.at_ {w : World} {A : Option Addr} {n : Nat} {l : List (Int × Int × List Int)} (h : InL w A n l) (hn : 0 < n) :
    ∃ b o, A = some ⟨b, o, none⟩ ∧ b < w.heap.size ∧ ∀ i, i < n → FAt w b o l i := by
  obtain ⟨ad, e, hc⟩ := h.2.2 hn
  obtain ⟨b, o, s⟩ := ad
  obtain ⟨k, x, bb, B, c, _, _, h3, _, _⟩ := hc 0 hn
  have hs : s = none := by simpa [Addr.add] using World.cell?_spot h3
  subst hs
  refine ⟨b, o, e, by have := block_lt_of_cell h3; rwa [add_block] at this, fun i hi => ?_⟩
  obtain ⟨k, x, bb, B, c, h1, h2, h3, h4, h5⟩ := hc i hi
  obtain ⟨B', c', hcs, hx0, hx1, _, _, hb⟩ := h2
  injection hcs with _ hcs; injection hcs with _ hcs; injection hcs with hcs; injection hcs with e1 _ e2
  subst e1; subst e2
  have key : ∀ j, (⟨b, o, none⟩ : Addr).add j = ⟨b, o + j, none⟩ := fun j => by unfold Addr.add; split <;> simp_all
  rw [key] at h3 h4 h5
  rw [Nat.mul_comm] at h3 h4 h5
  refine ⟨k, x, bb, B, c, h1, hx0, hx1, hb.2.2.1, hb.2.2.2, hb.2.1, h3, ?_, ?_⟩
  · rw [← h4, Nat.add_assoc]
  · rw [← h5, Nat.add_assoc]
theorem FAt.below {w w' : World} {b o i : Nat} {l : List (Int × Int × List Int)} (h : FAt w b o l i) (hb : Below w.heap.size w w') : FAt w' b o l i := by
  obtain ⟨k, x, bb, B, c, h1, h2, h3, h4, h5, h6, h7, h8, h9⟩ := h
  have hlt := block_lt_of_cell h7
  have key : ∀ j, w'.cell? ⟨b, j, none⟩ = w.cell? ⟨b, j, none⟩ := fun j => hb.cell hlt
  exact ⟨k, x, bb, B, c, h1, h2, h3, h4, Rp.below h5 hb, h6, (key _).trans h7, (key _).trans h8, (key _).trans h9⟩

/-- few fields, of few bytes -/
def few (l : List (Int × Int × List Int)) (N : Nat) : Bool := (l.take 200).all (fun f => decide (f.2.2.length ≤ 9000)) && decide (l.length ≤ N)
theorem few_all {l : List (Int × Int × List Int)} {N : Nat} (h : few l N = true) (hN : N ≤ 200) : l.length ≤ N ∧ ∀ f ∈ l, f.2.2.length ≤ 9000 := by
  unfold few at h
  rw [Bool.and_eq_true] at h
  have h2 : l.length ≤ N := by simpa using h.2
  have h1 := h.1
  rw [List.take_of_length_le (by omega), List.all_eq_true] at h1
  exact ⟨h2, fun f hf => by simpa using h1 f hf⟩

set_option maxRecDepth 5000 in
set_option maxHeartbeats 1000000 in
theorem Few_any (A : Option Addr) (n c : Nat) (l : List (Int × Int × List Int)) (N : Nat) (w : World) (h : InL w A n l) (hN : N ≤ 1000) :
    Calls Try.prog 10 #[.slice A n c, .int .i64 N] w fun e w' => e = .returned (.bool (few l N)) ∧ w = w' := by
  have hl := h.1
  have hmax := h.2.1
  obtain ⟨r, hr⟩ : ∃ r, r = few l N := ⟨_, rfl⟩
  rw [← hr]
  have HR := hid hr; have H := hid h; have HL := hid hl
  clear hr h hl
  go_enter Try.func10, Try.ntmps10
  go_wp2
  go_loop [5] (fun i => ∃ k : Nat, k ≤ n ∧ k ≤ 200 ∧ i = .int .i64 k ∧ ((l.take k).all (fun f => decide (f.2.2.length ≤ 9000)) = true)) (fun i => n - (intOf i).toNat)
  case atStart => exact ⟨0, by omega, by omega, rfl, by simp⟩
  case round =>
    obtain ⟨k, hk, hk2, rfl, hall⟩ := hrel
    have HA := hid hall
    clear hall
    by_cases hlt : k < n
    · by_cases hlt2 : k < 200
      · obtain ⟨b, o, rfl, _, hat⟩ := H.out.at_ (by omega)
        obtain ⟨kk, x, bb, B, cc, h1, h2, h3, h4, h5, h6, h7, h8, h9⟩ := hat k hlt
        obtain ⟨m, hm⟩ : ∃ m, m = bb.length := ⟨_, rfl⟩
        rw [← hm] at h9 h6
        have H1 := hid h1; have HM := hid hm
        clear hat h1 h2 h3 h4 h5 h7 h8 hm hk
        have HK2 := hid hk2
        clear hk2
        by_cases hbig : 9000 < m
        · have hf : r = false := by
            rw [HR.out]
            unfold few
            have hm := HM.out
            have hin : (kk, x, bb) ∈ l.take 200 := by
              rw [List.mem_iff_getElem?]
              exact ⟨k, by rw [List.getElem?_take, if_pos hlt2]; exact H1.out⟩
            have : ((l.take 200).all fun f => decide (f.2.2.length ≤ 9000)) = false := by
              rw [List.all_eq_false]
              exact ⟨_, hin, by simp; omega⟩
            rw [this]; rfl
          have HF := hid hf
          clear hf
          go_wp2
          go_ret
          rw [HF.out]
          exact ⟨rfl, rfl⟩
        · go_wp2
          go_round
          case rel =>
            refine ⟨k + 1, by omega, by omega, by go_num, ?_⟩
            have hm := HM.out
            have hl := HL.out
            have h1 := H1.out
            have hkl : k < l.length := by omega
            rw [List.take_succ_eq_append_getElem hkl, List.all_append, HA.out]
            have e : l[k] = (kk, x, bb) := by rw [List.getElem?_eq_getElem hkl] at h1; injection h1
            rw [e]; simp; omega
          case measure => simp [intOf]; omega
      · have hk3 : k = 200 := by omega
        subst hk3
        have hf : r = decide (n ≤ N) := by
          rw [HR.out]; unfold few; rw [HA.out, HL.out]
          simp
        have HF := hid hf
        clear hf
        go_wp2
        go_ret
        rw [HF.out]
        exact ⟨rfl, rfl⟩
    · have hk3 : k = n := by omega
      subst hk3
      have hf : r = decide (k ≤ N) := by
        have hl := HL.out
        have ha := HA.out
        rw [List.take_of_length_le (by omega)] at ha
        rw [HR.out]; unfold few; rw [hl, List.take_of_length_le (by omega), ha]
        simp
      have HF := hid hf
      clear hf
      go_wp2
      go_ret
      rw [HF.out]
      exact ⟨rfl, rfl⟩
end Go.Proofs.Ytmdclicomneomaa
