/-
  What is proved here: a page of the document's device is read.
-/
import Derived.Test.YtjdojnbpchommaaMVeL
set_option linter.unusedSimpArgs false
set_option linter.unusedVariables false
namespace Go.Proofs.Ytjdojnbpchommaa
open Go.ChangeShapes Go.WideShapes Go.ChangeAt Go.RowKit
set_option linter.unusedVariables false
set_option maxRecDepth 20000

theorem pg_append : ∀ (Q R : List Wr) (L : List (List Int)), pg L (Q ++ R) = pg (pg L Q) R
  | [], R, L => rfl
  | q :: Q, R, L => pg_append Q R _
/-- the last write of a page -/
theorem pg_last_of {L : List (List Int)} {Q : List Wr} {k : Nat} {q : Wr} (hk : Q[k]? = some q) (hq : q.1 < L.length) (hn : ∀ j r, k < j → Q[j]? = some r → r.1 ≠ q.1) : (pg L Q)[q.1]? = some q.2 := by
  obtain ⟨hlt, e⟩ := List.getElem?_eq_some_iff.1 hk
  have hs : Q = Q.take (k + 1) ++ Q.drop (k + 1) := (List.take_append_drop _ _).symm
  rw [hs, pg_append, pg_far _ _ _ (fun r hr e' => by
    obtain ⟨j, hj⟩ := List.mem_iff_getElem?.1 hr
    rw [List.getElem?_drop] at hj
    exact hn _ r (by omega) hj e')]
  rw [List.take_add_one, hk]
  show (pg L (Q.take k ++ [q]))[q.1]? = _
  rw [pg_snoc, List.getElem?_set_self (by rw [pg_length]; exact hq)]
theorem own_cell {w : World} {base e size n c : Nat} {A : Option Addr} {xs : List Value} (h : w.ownsRow base e size (.slice A n c) n xs) (hn : 0 < n) : ∃ g, A = some ⟨g, 0, none⟩ ∧ base ≤ g ∧ (∃ cur, Blk w g e cur) ∧ ∀ j v, xs[j]? = some v → w.cell? ⟨g, j, none⟩ = some v := by
  rcases h.2 with ⟨_, h0⟩ | ⟨g, cap, cur, hv, hb, hh, hnc, _, hcs, htk⟩
  · omega
  · injection hv with hA
    refine ⟨g, hA, hb, ⟨cur, hh⟩, fun j v hv => ?_⟩
    rw [← htk, List.getElem?_take] at hv
    split at hv
    · rw [(show Blk w g e cur from hh).cell, ← Array.getElem?_toList]; exact hv
    · cases hv
theorem q_cells {n0 : Nat} {w : World} {A' : Option Addr} {m c' : Nat} {qr : List Value} {Q : List Wr} (h3 : w.ownsRow n0 71 2 (.slice A' m c') m qr) (h6 : QrP w qr Q) {k : Nat} {q : Wr} (hk : Q[k]? = some q) (hm : 0 < m) :
    ∃ h B d, A' = some ⟨h, 0, none⟩ ∧ w.cell? ⟨h, k * 2, none⟩ = some (.int .i64 (q.1 : Nat)) ∧ w.cell? ⟨h, k * 2 + 1, none⟩ = some (.slice B 128 (128 + d)) ∧ Pb w B q.2 := by
  obtain ⟨h, e, _, _, hc⟩ := own_cell h3 hm
  obtain ⟨B, d, g1, g2, g3⟩ := h6 k q hk
  rw [Nat.mul_comm] at g1 g2
  exact ⟨h, B, d, e, hc _ _ g1, hc _ _ g2, g3⟩
theorem l_cells {n0 : Nat} {w : World} {A : Option Addr} {n c : Nat} {rows : List Value} {L : List (List Int)} (h2 : w.ownsRow n0 31 1 (.slice A n c) n rows) (h5 : RowsP w rows L) {i : Nat} (hi : i < L.length) (hn : 0 < n) :
    ∃ g B d, A = some ⟨g, 0, none⟩ ∧ w.cell? ⟨g, i, none⟩ = some (.slice B 128 (128 + d)) ∧ Pb w B (L[i]?.getD []) := by
  obtain ⟨g, e, _, _, hc⟩ := own_cell h2 hn
  obtain ⟨B, d, g1, g2⟩ := h5 i hi
  exact ⟨g, B, d, e, hc _ _ g1, g2⟩
/-- what a read answers -/
def VrAns (xs : List Int) (r : Int) (w : World) (e : Ending) (w' : World) : Prop := ∃ X q c, e = .returned (.tuple #[.slice X q c, .int .i64 r]) ∧ (q = xs.length ∧ Rp w none X xs ∧ w = w')
/-- .. with room for what it tells -/
def VrCap (xs : List Int) (r : Int) (w : World) (e : Ending) (w' : World) : Prop := ∃ X q c, e = .returned (.tuple #[.slice X q c, .int .i64 r]) ∧ (q = xs.length ∧ Rp w none X xs ∧ w = w' ∧ q ≤ c)
set_option maxHeartbeats 4000000 in
theorem vr_cap {n0 : Nat} {w : World} {b : Nat} {s : SS} (h : VAt n0 w b s) (hQ : s.Q.length < 1000) (i : Int) : Calls Try.prog 36 #[.pointer (some ⟨b, 0, none⟩), .int .i64 i] w (VrCap (s.rd i).2 (s.rd i).1 w) := by
  obtain ⟨A, c, A', c', rows, qr, h1, h2, h3, h4, h5, h6, h7, h8, h9, h10⟩ := h
  obtain ⟨L, Q, F, D⟩ := s
  simp only at h1 h2 h3 h5 h6 h8 h9 h10 hQ
  unfold SS.rd
  simp only
  obtain ⟨n, hn⟩ : ∃ n, n = L.length := ⟨_, rfl⟩
  obtain ⟨m, hm⟩ : ∃ m, m = Q.length := ⟨_, rfl⟩
  rw [← hn, ← hm] at h1
  have c0 : w.cell? ⟨b, 0, none⟩ = some (.slice A n c) := h1.cell 0
  have c1 : w.cell? ⟨b, 1, none⟩ = some (.slice A' m c') := h1.cell 1
  have c3 : w.cell? ⟨b, 3, none⟩ = some (.bool D) := h1.cell 3
  cases D with
  | true =>
    rw [if_pos rfl]
    clear h1 h2 h3 h4 h5 h6 h7 h8 h9 h10 c0 c1 hQ hn hm
    go_enter Try.func36, Try.ntmps36
    go_wp2
    go_ret2
    exact ⟨none, 0, 0, rfl, rfl, Rp.nil _ _ _, rfl, Nat.le_refl _⟩
  | false =>
    rw [if_neg (by simp)]
    by_cases hi : i < 0 ∨ (L.length : Int) ≤ i
    · rw [if_pos hi]
      rw [← hn] at hi
      by_cases h0 : i < 0
      · have g1 : decide (i < 0) = true := decide_eq_true h0
        clear h1 h2 h3 h4 h5 h6 h7 h8 h9 h10 c1 hQ hn hm hi
        go_enter Try.func36, Try.ntmps36
        go_wp2
        go_ret2
        exact ⟨none, 0, 0, rfl, rfl, Rp.nil _ _ _, rfl, Nat.le_refl _⟩
      · have hni : (n : Int) ≤ i := by omega
        have g1 : decide (i < 0) = false := decide_eq_false h0
        have g2 : decide ((n : Int) ≤ i) = true := decide_eq_true hni
        clear h1 h2 h3 h4 h5 h6 h7 h8 h9 h10 c1 hQ hn hm hi h0
        go_enter Try.func36, Try.ntmps36
        go_wp2
        go_ret2
        exact ⟨none, 0, 0, rfl, rfl, Rp.nil _ _ _, rfl, Nat.le_refl _⟩
    · rw [if_neg hi]
      obtain ⟨j, rfl⟩ : ∃ j : Nat, i = j := ⟨i.toNat, by omega⟩
      have hj : j < L.length := by omega
      have hjn : (j : Int) < n := by omega
      have hjn2 : j < n := by omega
      have hm2 : (m : Int) < 1000 := by omega
      have hPL : ((pg L Q)[j]?.getD []).length = 128 := (pg_ok _ _ h8 h9).at (by rw [pg_length]; exact hj)
      rw [Int.toNat_natCast]
      obtain ⟨X, hX⟩ : ∃ X, X = (pg L Q)[j]?.getD [] := ⟨_, rfl⟩
      rw [← hX] at hPL ⊢
      have H2 := hid h2; have H3 := hid h3; have H5 := hid h5; have H6 := hid h6; have HX := hid hX; have HPL := hid hPL; have HQ9 := hid h9
      have HM := hid hm; have HN := hid hn; have HJ := hid hj
      obtain ⟨g, B, d, rfl, l0, hpb⟩ := l_cells (by rw [← hn] at h2; exact h2) h5 hj (by omega)
      have HPB := hid hpb
      clear h1 h2 h3 h4 h5 h6 h7 h8 h9 h10 hX hPL hm hn hpb hi hj hQ
      have HM2 : Hid (Unit → (m : Int) < 1000) := fun _ => hm2
      have HJN := hid hjn
      have HJN2 := hid hjn2
      have g1 : decide ((j : Int) < 0) = false := by simp
      have g2 : decide (n ≤ j) = false := decide_eq_false (by omega)
      clear hm2 hjn hjn2
      go_enter Try.func36, Try.ntmps36
      have hm2 := HM2.out ()
      go_wp2
      go_loop [6] (fun v => ∃ r : Nat, r ≤ m ∧ v = .int .i64 ((r : Int) - 1) ∧ Hid (∀ (k : Nat) q, r ≤ k → Q[k]? = some q → q.1 ≠ j)) (fun v => (intOf v + 1).toNat)
      case atStart => exact ⟨m, Nat.le_refl _, rfl, fun k q hk hq => by have := (List.getElem?_eq_some_iff.1 hq).1; have := HM.out; omega⟩
      case round =>
        obtain ⟨r, hr, rfl, HN2⟩ := hrel
        cases r with
        | zero =>
          have e0 : ((0 : Nat) : Int) - 1 = -1 := by simp
          rw [e0]
          have HXL : Hid (X = L[j]?.getD []) := by
            show _ = _
            rw [HX.out, pg_far _ _ _ (fun q hq => by
              obtain ⟨k, hk⟩ := List.mem_iff_getElem?.1 hq
              exact HN2.out k q (Nat.zero_le _) hk)]
          go_wp2
          go_ret2
          refine ⟨B, 128, 128 + d, rfl, HPL.out.symm, ?_, rfl, Nat.le_add_right _ _⟩
          have := HPB.out
          rw [← HXL.out] at this
          exact this.rp HPL.out
        | succ k =>
          have e0 : ((k + 1 : Nat) : Int) - 1 = (k : Int) := by omega
          rw [e0]
          have hkQ : k < Q.length := by have := HM.out; omega
          have hk : Q[k]? = some Q[k] := List.getElem?_eq_getElem hkQ
          obtain ⟨q, hq⟩ : ∃ q, q = Q[k] := ⟨_, rfl⟩
          rw [← hq] at hk
          obtain ⟨h', B2, d2, hA', z0, z1, hpb2⟩ := q_cells H3.out H6.out hk (by omega)
          subst hA'
          have HPB2 := hid hpb2; have HK := hid hk
          obtain ⟨a, ha⟩ : ∃ a : Nat, a = q.1 := ⟨_, rfl⟩
          rw [← ha] at z0
          have HA := hid ha
          have hkm : k < m := by omega
          have hkm2 : (k : Int) < m := by omega
          clear hq hk hpb2 ha hkQ hr
          by_cases haj : a = j
          · subst haj
            have HXL : Hid (X = q.2) := by
              show _ = _
              have := pg_last_of (L := L) HK.out (by rw [← HA.out]; exact HJ.out) (fun j' r' hj' hr' => by rw [← HA.out]; exact HN2.out j' r' (by omega) hr')
              rw [HX.out, HA.out, this]; rfl
            go_wp2
            go_ret2
            refine ⟨B2, 128, 128 + d2, rfl, HPL.out.symm, ?_, rfl, Nat.le_add_right _ _⟩
            have := HPB2.out
            rw [← HXL.out] at this
            exact this.rp HPL.out
          · have g1 : ((a : Int) == (j : Int)) = false := by simp; omega
            have g3 : (a == j) = false := by simp; omega
            have g4 : decide (a = j) = false := by simp; omega
            have g2 : ¬ (a : Int) = (j : Int) := by omega
            have HAJ := hid haj
            clear haj
            go_wp2
            go_round
            case rel =>
              refine ⟨k, by omega, rfl, fun k' q' hk' hq' => ?_⟩
              by_cases he : k' = k
              · subst he
                rw [HK.out] at hq'
                injection hq' with hq'
                rw [← hq', ← HA.out]; exact HAJ.out
              · exact HN2.out k' q' (by omega) hq'
            case measure => simp [intOf]
theorem vr_any {n0 : Nat} {w : World} {b : Nat} {s : SS} (h : VAt n0 w b s) (hQ : s.Q.length < 1000) (i : Int) : Calls Try.prog 36 #[.pointer (some ⟨b, 0, none⟩), .int .i64 i] w (VrAns (s.rd i).2 (s.rd i).1 w) :=
  (vr_cap h hQ i).mono fun e w' ⟨X, q, c, h1, h2, h3, h4, _⟩ => ⟨X, q, c, h1, h2, h3, h4⟩
end Go.Proofs.Ytjdojnbpchommaa
