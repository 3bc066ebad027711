/-
  What is proved here: what the document's own Right tells of a page.
-/
import Derived.Test.YtjdojnbpchommaaMSlM
import Derived.Test.YtjdojnbpchommaaMDyM
set_option linter.unusedSimpArgs false
set_option linter.unusedVariables false
namespace Go.Proofs.Ytjdojnbpchommaa
open Go.ChangeShapes Go.WideShapes Go.ChangeAt Go.RowKit
set_option linter.unusedVariables false
set_option linter.unusedSimpArgs false
set_option maxRecDepth 20000

/-- the serial and the value of the page X on the side i, as the document's Right tells them -/
def rg (X : List Int) (i : Int) : Int × List Int :=
  if val (X.take 8) = val (X.drop 120) ∧ val ((X.drop 8).take 2) ≤ 110 ∧ val (X.take 8) % 2 = i then (val (X.take 8), (X.drop 10).take (val ((X.drop 8).take 2)).toNat) else (0, [])
theorem tk_rg (X : List Int) (i : Int) : tk X i = if (rg X i).1 = 0 then (0, []) else rg X i := by
  unfold tk rg
  by_cases h : val (X.take 8) = val (X.drop 120) ∧ val ((X.drop 8).take 2) ≤ 110 ∧ val (X.take 8) % 2 = i
  · rw [if_pos h]
    simp only
    by_cases h0 : val (X.take 8) = 0
    · rw [if_neg (fun h1 => h1.2.1 h0), if_pos h0]
    · rw [if_pos ⟨h.1, h0, h.2⟩, if_neg h0]
  · rw [if_neg h, if_neg (fun h1 => h ⟨h1.1, h1.2.2⟩), if_pos rfl]
theorem rg_1 (X : List Int) (i : Int) : (tk X i).1 = (rg X i).1 := by
  rw [tk_rg]
  split
  · rename_i h; exact h.symm
  · rfl
theorem rg_len (X : List Int) (i : Int) : (rg X i).2.length ≤ 110 := by
  unfold rg
  split
  · rename_i h1
    have := h1.2.1
    simp only [List.length_take]
    omega
  · simp
theorem rp_off {w : World} {g off : Nat} {xs : List Int} (h : Rp w none (some ⟨g, off, none⟩) xs) (k : Nat) : Rp w none (some ⟨g, off + k, none⟩) (xs.drop k) := fun hx => by
  rw [List.length_drop] at hx
  obtain ⟨ad, e, hc⟩ := h.get (by omega)
  injection e with e
  subst e
  refine ⟨_, rfl, (fun ⟨a, e, _⟩ => by cases e), fun j hj => ?_⟩
  rw [List.length_drop] at hj
  have := hc (k + j) (by omega)
  rw [Addr.add_mid] at this ⊢
  rw [List.getElem?_drop, ← this]
  congr 2
  omega
theorem rp_place {w : World} {A : Option Addr} {xs : List Int} (h : Rp w none A xs) (hx : 0 < xs.length) : ∃ g off, A = some ⟨g, off, none⟩ := by
  obtain ⟨⟨g, off, s⟩, rfl, hc⟩ := h.get hx
  have h0 := hc 0 hx
  have hs : s = none := by simpa [Addr.add] using World.cell?_spot h0
  subst hs
  exact ⟨g, off, rfl⟩
theorem value_q {w : World} {A : Option Addr} {xs : List Int} {k : Nat} (hr : Rp w none A xs) (hb : Bs xs) (hn : xs.length ≤ 8) (hk : k = xs.length) (n c : Nat) :
    Calls Try.prog 38 #[.slice A k c] (w.drewN n) fun e w' => e = .returned (.int .u64 (val xs)) ∧ ∃ m, w' = w.drewN m := by
  subst hk
  exact (Value_any A c xs (w.drewN n) hr hb hn).mono fun e w' ⟨h1, h2⟩ => ⟨h1, n, h2.symm⟩
/-- what Right tells -/
def RgAns (w : World) (y : Int × List Int) (e : Ending) (w' : World) : Prop := ∃ V c, e = .returned (.tuple #[.int .u64 y.1, .slice V y.2.length c]) ∧ Rp w' none V y.2 ∧ Below w.heap.size w w'
set_option maxHeartbeats 2000000 in
theorem qRight_any (A : Option Addr) (c : Nat) (X : List Int) (i : Int) (w : World) (hr : Rp w none A X) (hX : X.length = 128) (hb : Bs X) (hi : i = 0 ∨ i = 1) (hc : 128 ≤ c) :
    Calls Try.prog 26 #[.slice A 128 c, .int .i64 i] w (RgAns w (rg X i)) := by
  obtain ⟨g, off, rfl⟩ := rp_place hr (by omega)
  have e8 : (256 : Int) ^ 8 = 18446744073709551616 := by decide
  have v1 := val_bound (X.take 8) (hb.take 8)
  rw [List.length_take, hX, show min 8 128 = 8 by decide, e8] at v1
  have v2 := val_bound ((X.drop 8).take 2) ((hb.drop 8).take 2)
  rw [List.length_take, List.length_drop, hX, show (256 : Int) ^ (min 2 (128 - 8)) = 65536 by decide] at v2
  have CV1 := hid (fun n c => value_q (k := 8) (hr.take 8) (hb.take 8) (by simp; omega) (by simp; omega) n c)
  have CV2 := hid (fun n c => value_q (k := 8) (rp_off hr 120) (hb.drop 120) (by simp; omega) (by simp; omega) n c)
  have CV3 := hid (fun n c => value_q (k := 2) ((rp_off hr 8).take 2) ((hb.drop 8).take 2) (by simp; omega) (by simp; omega) n c)
  obtain ⟨n, hn⟩ : ∃ n : Nat, val ((X.drop 8).take 2) = n := ⟨(val ((X.drop 8).take 2)).toNat, by omega⟩
  have RV := hid (rp_off hr 10)
  have HX := hid hX
  unfold RgAns rg
  rw [hn, Int.toNat_natCast]
  rw [hn] at CV3
  obtain ⟨a, ha⟩ : ∃ a, a = val (X.take 8) := ⟨_, rfl⟩
  obtain ⟨z, hz⟩ : ∃ z, z = val (X.drop 120) := ⟨_, rfl⟩
  rw [← ha] at CV1 v1 ⊢
  rw [← hz] at CV2 ⊢
  obtain ⟨a0, a1⟩ := v1
  have et : a.tmod 2 = a % 2 := Int.tmod_eq_emod_of_nonneg a0
  have hn16 : n < 65536 := by omega
  have hc9 : (128 : Int) ≤ (c : Int) := by omega
  clear hr hX hb ha hz hn v2
  by_cases c1 : a = z
  · subst c1
    have g1 : (a != a) = false := by simp
    have hp : a % 2 = 0 ∨ a % 2 = 1 := by omega
    by_cases c2 : n ≤ 110
    · have g2 : decide (110 < (n : Int)) = false := decide_eq_false (by omega)
      have g2' : ¬ 110 < (n : Int) := by omega
      by_cases c3 : a % 2 = i
      · rw [if_pos ⟨rfl, by omega, c3⟩]
        simp only
        have hl : ((X.drop 10).take n).length = n := by rw [List.length_take, List.length_drop, HX.out]; omega
        rw [hl]
        rw [c3] at et hp
        clear c3 hl
        rcases hi with rfl | rfl
        · go_enter Try.func26, Try.ntmps26
          go_wp2
          go_quiet ((first | (with_reducible exact CV1.out _ _) | (with_reducible exact CV2.out _ _)))
          have C3 := CV3.out nq
          generalize hWW : w.drewN nq = W at C3 ⊢
          have BW : Hid (Below w.heap.size w W) := by show Below _ _ _; rw [← hWW]; exact ⟨rfl, rfl, rfl, Nat.le_refl _, fun _ _ => rfl⟩
          have RW : Hid (Rp W none (some ⟨g, off + 10, none⟩) (X.drop 10)) := by show Rp _ _ _ _; rw [← hWW]; exact RV.out
          have C4 : Hid (∀ c, Calls Try.prog 38 #[.slice (some ⟨g, off + 8, none⟩) 2 c] W fun e w' => e = .returned (.int .u64 (n : Nat)) ∧ Below W.heap.size W w') := fun c => (C3 c).mono fun e w' ⟨h1, m, h2⟩ => ⟨h1, by rw [h2, ← hWW]; exact ⟨rfl, rfl, rfl, Nat.le_refl _, fun _ _ => rfl⟩⟩
          clear hWW C3 CV1 CV2 CV3 RV
          go_wp2_with (go_at_call 38; (with_reducible refine (C4.out _).mono ?_); rintro e w2 ⟨rfl, hb⟩; have B2 := hid (BW.out.trans (hb.mono BW.out.size)); have R2 := hid (RW.out.belowN hb); clear hb)
          have hcn : 10 + n ≤ c := by omega
          have hcn2 : (10 : Int) + (n : Int) ≤ (c : Int) := by omega
          have hn110 : (n : Int) ≤ 110 := by omega
          go_quiet (fail)
          go_wp2
          have e10 : 10 + n - 10 = n := by omega
          have RF := hid (R2.out.take n)
          go_ret2
          refine ⟨some ⟨g, off + 10, none⟩, c - 10, ?_, RF.out, ?_⟩
          · rw [e10]; rfl
          · exact ⟨B2.out.os, B2.out.tape, B2.out.output, B2.out.size, B2.out.block⟩
        · go_enter Try.func26, Try.ntmps26
          go_wp2
          go_quiet ((first | (with_reducible exact CV1.out _ _) | (with_reducible exact CV2.out _ _)))
          have C3 := CV3.out nq
          generalize hWW : w.drewN nq = W at C3 ⊢
          have BW : Hid (Below w.heap.size w W) := by show Below _ _ _; rw [← hWW]; exact ⟨rfl, rfl, rfl, Nat.le_refl _, fun _ _ => rfl⟩
          have RW : Hid (Rp W none (some ⟨g, off + 10, none⟩) (X.drop 10)) := by show Rp _ _ _ _; rw [← hWW]; exact RV.out
          have C4 : Hid (∀ c, Calls Try.prog 38 #[.slice (some ⟨g, off + 8, none⟩) 2 c] W fun e w' => e = .returned (.int .u64 (n : Nat)) ∧ Below W.heap.size W w') := fun c => (C3 c).mono fun e w' ⟨h1, m, h2⟩ => ⟨h1, by rw [h2, ← hWW]; exact ⟨rfl, rfl, rfl, Nat.le_refl _, fun _ _ => rfl⟩⟩
          clear hWW C3 CV1 CV2 CV3 RV
          go_wp2_with (go_at_call 38; (with_reducible refine (C4.out _).mono ?_); rintro e w2 ⟨rfl, hb⟩; have B2 := hid (BW.out.trans (hb.mono BW.out.size)); have R2 := hid (RW.out.belowN hb); clear hb)
          have hcn : 10 + n ≤ c := by omega
          have hcn2 : (10 : Int) + (n : Int) ≤ (c : Int) := by omega
          have hn110 : (n : Int) ≤ 110 := by omega
          go_quiet (fail)
          go_wp2
          have e10 : 10 + n - 10 = n := by omega
          have RF := hid (R2.out.take n)
          go_ret2
          refine ⟨some ⟨g, off + 10, none⟩, c - 10, ?_, RF.out, ?_⟩
          · rw [e10]; rfl
          · exact ⟨B2.out.os, B2.out.tape, B2.out.output, B2.out.size, B2.out.block⟩
      · rw [if_neg (fun h => c3 h.2.2)]
        rcases hi with rfl | rfl
        · have c4 : a % 2 = 1 := by omega
          rw [c4] at et
          go_enter Try.func26, Try.ntmps26
          go_wp2
          go_quiet ((first | (with_reducible exact CV1.out _ _) | (with_reducible exact CV2.out _ _)))
          have C3 := CV3.out nq
          generalize hWW : w.drewN nq = W at C3 ⊢
          have BW : Hid (Below w.heap.size w W) := by show Below _ _ _; rw [← hWW]; exact ⟨rfl, rfl, rfl, Nat.le_refl _, fun _ _ => rfl⟩
          have RW : Hid (Rp W none (some ⟨g, off + 10, none⟩) (X.drop 10)) := by show Rp _ _ _ _; rw [← hWW]; exact RV.out
          have C4 : Hid (∀ c, Calls Try.prog 38 #[.slice (some ⟨g, off + 8, none⟩) 2 c] W fun e w' => e = .returned (.int .u64 (n : Nat)) ∧ Below W.heap.size W w') := fun c => (C3 c).mono fun e w' ⟨h1, m, h2⟩ => ⟨h1, by rw [h2, ← hWW]; exact ⟨rfl, rfl, rfl, Nat.le_refl _, fun _ _ => rfl⟩⟩
          clear hWW C3 CV1 CV2 CV3 RV
          go_wp2_with (go_at_call 38; (with_reducible refine (C4.out _).mono ?_); rintro e w2 ⟨rfl, hb⟩; have B2 := hid (BW.out.trans (hb.mono BW.out.size)); have R2 := hid (RW.out.belowN hb); clear hb)
          go_ret2
          exact ⟨none, 0, rfl, Rp.nil _ _ _, B2.out⟩
        · have c4 : a % 2 = 0 := by omega
          rw [c4] at et
          go_enter Try.func26, Try.ntmps26
          go_wp2
          go_quiet ((first | (with_reducible exact CV1.out _ _) | (with_reducible exact CV2.out _ _)))
          have C3 := CV3.out nq
          generalize hWW : w.drewN nq = W at C3 ⊢
          have BW : Hid (Below w.heap.size w W) := by show Below _ _ _; rw [← hWW]; exact ⟨rfl, rfl, rfl, Nat.le_refl _, fun _ _ => rfl⟩
          have RW : Hid (Rp W none (some ⟨g, off + 10, none⟩) (X.drop 10)) := by show Rp _ _ _ _; rw [← hWW]; exact RV.out
          have C4 : Hid (∀ c, Calls Try.prog 38 #[.slice (some ⟨g, off + 8, none⟩) 2 c] W fun e w' => e = .returned (.int .u64 (n : Nat)) ∧ Below W.heap.size W w') := fun c => (C3 c).mono fun e w' ⟨h1, m, h2⟩ => ⟨h1, by rw [h2, ← hWW]; exact ⟨rfl, rfl, rfl, Nat.le_refl _, fun _ _ => rfl⟩⟩
          clear hWW C3 CV1 CV2 CV3 RV
          go_wp2_with (go_at_call 38; (with_reducible refine (C4.out _).mono ?_); rintro e w2 ⟨rfl, hb⟩; have B2 := hid (BW.out.trans (hb.mono BW.out.size)); have R2 := hid (RW.out.belowN hb); clear hb)
          go_ret2
          exact ⟨none, 0, rfl, Rp.nil _ _ _, B2.out⟩
    · have g2 : decide (110 < (n : Int)) = true := decide_eq_true (by omega)
      have g2' : 110 < (n : Int) := by omega
      rw [if_neg (fun h => by omega)]
      go_enter Try.func26, Try.ntmps26
      go_wp2
      go_quiet ((first | (with_reducible exact CV1.out _ _) | (with_reducible exact CV2.out _ _)))
      have C3 := CV3.out nq
      generalize hWW : w.drewN nq = W at C3 ⊢
      have BW : Hid (Below w.heap.size w W) := by show Below _ _ _; rw [← hWW]; exact ⟨rfl, rfl, rfl, Nat.le_refl _, fun _ _ => rfl⟩
      have RW : Hid (Rp W none (some ⟨g, off + 10, none⟩) (X.drop 10)) := by show Rp _ _ _ _; rw [← hWW]; exact RV.out
      have C4 : Hid (∀ c, Calls Try.prog 38 #[.slice (some ⟨g, off + 8, none⟩) 2 c] W fun e w' => e = .returned (.int .u64 (n : Nat)) ∧ Below W.heap.size W w') := fun c => (C3 c).mono fun e w' ⟨h1, m, h2⟩ => ⟨h1, by rw [h2, ← hWW]; exact ⟨rfl, rfl, rfl, Nat.le_refl _, fun _ _ => rfl⟩⟩
      clear hWW C3 CV1 CV2 CV3 RV
      go_wp2_with (go_at_call 38; (with_reducible refine (C4.out _).mono ?_); rintro e w2 ⟨rfl, hb⟩; have B2 := hid (BW.out.trans (hb.mono BW.out.size)); have R2 := hid (RW.out.belowN hb); clear hb)
      go_ret2
      exact ⟨none, 0, rfl, Rp.nil _ _ _, B2.out⟩
  · rw [if_neg (fun h => c1 h.1)]
    have g1 : (a != z) = true := by simpa using c1
    go_enter Try.func26, Try.ntmps26
    go_wp2
    go_quiet ((first | (with_reducible exact CV1.out _ _) | (with_reducible exact CV2.out _ _)))
    have C3 := CV3.out nq
    generalize hWW : w.drewN nq = W at C3 ⊢
    have BW : Hid (Below w.heap.size w W) := by show Below _ _ _; rw [← hWW]; exact ⟨rfl, rfl, rfl, Nat.le_refl _, fun _ _ => rfl⟩
    have RW : Hid (Rp W none (some ⟨g, off + 10, none⟩) (X.drop 10)) := by show Rp _ _ _ _; rw [← hWW]; exact RV.out
    have C4 : Hid (∀ c, Calls Try.prog 38 #[.slice (some ⟨g, off + 8, none⟩) 2 c] W fun e w' => e = .returned (.int .u64 (n : Nat)) ∧ Below W.heap.size W w') := fun c => (C3 c).mono fun e w' ⟨h1, m, h2⟩ => ⟨h1, by rw [h2, ← hWW]; exact ⟨rfl, rfl, rfl, Nat.le_refl _, fun _ _ => rfl⟩⟩
    clear hWW C3 CV1 CV2 CV3 RV
    go_wp2_with (go_at_call 38; (with_reducible refine (C4.out _).mono ?_); rintro e w2 ⟨rfl, hb⟩; have B2 := hid (BW.out.trans (hb.mono BW.out.size)); have R2 := hid (RW.out.belowN hb); clear hb)
    go_ret2
    exact ⟨none, 0, rfl, Rp.nil _ _ _, B2.out⟩
end Go.Proofs.Ytjdojnbpchommaa
