/-
  What this file is for: what each call answers, and what it makes of pages, writes, fuse and power; few calls. Nothing but Few is walked here.
-/
import Derived.Test.YthdnpakppjipfaaDvOpen
import Derived.Test.YthdnpakppjipfaaDvL
namespace Go.Proofs.Ythdnpakppjipfaa
open Go.ChangeShapes Go.WideShapes Go.ChangeAt Go.RowKit
set_option linter.unusedVariables false
set_option maxRecDepth 20000

/-- what lasts, what waits, the fuse, is it down -/
structure SS where
  L : List (List Int)
  Q : List Wr
  F : Int
  D : Bool
def SS.wr (s : SS) (i : Int) (b : List Int) : Int × SS :=
  if s.D = true then (6, s) else if i < 0 ∨ (s.L.length : Int) ≤ i then (4, s) else if b.length ≠ 128 then (1, s) else if s.F = 0 then (6, ⟨s.L, s.Q, 0, true⟩) else (0, ⟨s.L, s.Q ++ [(i.toNat, b)], bn s.F, false⟩)
def SS.fl (s : SS) : Int × SS := if s.D = true then (6, s) else if s.F = 0 then (6, ⟨s.L, s.Q, 0, true⟩) else (0, ⟨pg s.L s.Q, [], bn s.F, false⟩)
def SS.rd (s : SS) (i : Int) : Int × List Int := if s.D = true then (6, []) else if i < 0 ∨ (s.L.length : Int) ≤ i then (4, []) else (0, (pg s.L s.Q)[i.toNat]?.getD [])
def SS.rs (s : SS) (l : List Int) : SS := ⟨mixs (keep l) s.L s.Q s.Q.length, [], -1, false⟩
def SS.sf (s : SS) (n : Int) : SS := ⟨s.L, s.Q, max n (-1), s.D⟩
/-- a call: the error, the bytes, what is then -/
def SS.step (s : SS) (o : Oq) : Int × List Int × SS :=
  if o.k = 1 then ((s.wr o.i o.b).1, [], (s.wr o.i o.b).2) else if o.k = 2 then (s.fl.1, [], s.fl.2) else if o.k = 3 then (0, [], s.sf o.i) else if o.k = 4 then (0, [], s.rs o.l) else if o.k = 5 then ((s.rd o.i).1, (s.rd o.i).2, s) else (0, [], s)
/-- of the calls, one by one -/
def SS.ok (n : Nat) (s : SS) : Prop := s.L.length = n ∧ PgOk s.L ∧ QOk n s.Q
theorem SS.wr_len (s : SS) (i : Int) (b : List Int) : (s.wr i b).2.L.length = s.L.length ∧ (s.wr i b).2.Q.length ≤ s.Q.length + 1 := by
  unfold SS.wr
  split
  · exact ⟨rfl, by simp⟩
  · split
    · exact ⟨rfl, by simp⟩
    · split
      · exact ⟨rfl, by simp⟩
      · split <;> exact ⟨rfl, by simp⟩
theorem SS.fl_len (s : SS) : s.fl.2.L.length = s.L.length ∧ s.fl.2.Q.length ≤ s.Q.length + 1 := by
  unfold SS.fl
  split
  · exact ⟨rfl, by simp⟩
  · split
    · exact ⟨rfl, by simp⟩
    · exact ⟨pg_length _ _, by simp⟩
theorem SS.step_len (s : SS) (o : Oq) : (s.step o).2.2.L.length = s.L.length ∧ (s.step o).2.2.Q.length ≤ s.Q.length + 1 := by
  unfold SS.step
  split
  · exact s.wr_len _ _
  · split
    · exact s.fl_len
    · split
      · exact ⟨rfl, Nat.le_succ _⟩
      · split
        · exact ⟨mixs_length _ _ _ _, Nat.zero_le _⟩
        · split <;> exact ⟨rfl, Nat.le_succ _⟩

theorem opC_at {w : World} {A : Option Addr} {n : Nat} {l : List Oq} (h : InOps w A n l) (hn : 0 < n) : ∃ g off, A = some ⟨g, off, none⟩ ∧ g < w.heap.size ∧ ∀ i, i < n → ∃ o B c E d, l[i]? = some o ∧ OpIn w o B c E d ∧ w.rangeAt g (off + i * 4) (opC o B c E d) := by
  obtain ⟨⟨g, off, s⟩, rfl, hat⟩ := h.2.2 hn
  obtain ⟨o, B, c, E, d, h1, h2, h3⟩ := hat 0 hn
  have h0 := h3 0 _ rfl
  have hs : s = none := by simpa [Addr.add] using World.cell?_spot h0
  subst hs
  refine ⟨g, off, rfl, ?_, fun i hi => ?_⟩
  · have := block_lt_of_cell h0; rwa [add_block] at this
  · obtain ⟨o, B, c, E, d, h1, h2, h3⟩ := hat i hi
    refine ⟨o, B, c, E, d, h1, h2, fun j v hv => ?_⟩
    have := h3 j v hv
    rw [Addr.add_mid] at this
    rw [← this]
    congr 2; omega
def Small (l : List Oq) (k : Nat) : Prop := ∀ j, j < k → ∀ o, l[j]? = some o → o.b.length ≤ 300 ∧ o.l.length ≤ 200
def FewAns (l : List Oq) (w : World) (e : Ending) (w' : World) : Prop := ∃ f, e = .returned (.bool f) ∧ w = w' ∧ (f = true ↔ l.length ≤ 80 ∧ Small l l.length)
set_option maxHeartbeats 1000000 in
theorem dFew_any (A : Option Addr) (n c : Nat) (l : List Oq) (w : World) (h : InOps w A n l) : Calls Try.prog 9 #[.slice A n c, .int .i64 80] w (FewAns l w) := by
  have hl := h.1
  have hmax := h.2.1
  have H := hid h; have HL := hid hl
  clear h hl
  go_enter Try.func9, Try.ntmps9
  go_wp2
  go_loop [5] (fun i => ∃ k : Nat, k ≤ n ∧ k ≤ 300 ∧ i = .int .i64 k ∧ Hid (Small l k)) (fun i => n - (intOf i).toNat)
  case atStart => exact ⟨0, by omega, by omega, rfl, fun j hj => by omega⟩
  case round =>
    obtain ⟨k, hk, hk2, rfl, HA⟩ := hrel
    by_cases hlt : k < n
    · by_cases hlt2 : k < 300
      · obtain ⟨g, off, rfl, _, hat⟩ := opC_at H.out (by omega)
        obtain ⟨o, B, c1, E, d, h1, h2, h3⟩ := hat k hlt
        have z2 : w.cell? ⟨g, off + k * 4 + 2, none⟩ = some (.slice B o.b.length c1) := h3 2 _ rfl
        have z3 : w.cell? ⟨g, off + k * 4 + 3, none⟩ = some (.slice E o.l.length d) := h3 3 _ rfl
        have H1 := hid h1
        obtain ⟨m1, hm1⟩ : ∃ m, m = o.b.length := ⟨_, rfl⟩
        obtain ⟨m2, hm2⟩ : ∃ m, m = o.l.length := ⟨_, rfl⟩
        rw [← hm1] at z2
        rw [← hm2] at z3
        have HM := hid hm1; have HM2 := hid hm2
        clear hat h1 h2 h3 hm1 hm2
        have HK := hid hk; have HK2 := hid hk2
        clear hk hk2
        by_cases hb1 : 300 < m1
        · have b1 : 300 < (m1 : Int) := by omega
          have HF : Hid (¬ Small l l.length) := fun h => by
            have := (h k (by rw [HL.out]; exact hlt) o H1.out).1
            have := HM.out
            omega
          go_wp2
          go_ret
          exact ⟨false, rfl, rfl, fun h => (by cases h), fun h => (HF.out h.2).elim⟩
        · have b1 : ¬ 300 < (m1 : Int) := by omega
          by_cases hb2 : 200 < m2
          · have b2 : 200 < (m2 : Int) := by omega
            have HF : Hid (¬ Small l l.length) := fun h => by
              have := (h k (by rw [HL.out]; exact hlt) o H1.out).2
              have := HM2.out
              omega
            go_wp2
            go_ret
            exact ⟨false, rfl, rfl, fun h => (by cases h), fun h => (HF.out h.2).elim⟩
          · have b2 : ¬ 200 < (m2 : Int) := by omega
            go_wp2
            go_round
            case rel =>
              refine ⟨k + 1, by omega, by omega, by go_num, fun j hj o' ho' => ?_⟩
              by_cases hjk : j = k
              · subst hjk
                rw [H1.out] at ho'
                injection ho' with ho'
                subst ho'
                have := HM.out; have := HM2.out
                omega
              · exact HA.out j (by omega) o' ho'
            case measure => simp [intOf]; omega
      · obtain rfl : k = 300 := by omega
        have hn80 : ¬ (n : Int) ≤ 80 := by omega
        have hf : decide ((n : Int) ≤ 80) = false := decide_eq_false hn80
        go_wp2
        go_ret
        exact ⟨false, by simp_all, rfl, fun h => (by cases h), fun h => by have := h.1; rw [HL.out] at this; omega⟩
    · obtain rfl : k = n := by omega
      by_cases hn80 : k ≤ 80
      · have hf : decide ((k : Int) ≤ 80) = true := decide_eq_true (by omega)
        go_wp2
        go_ret
        exact ⟨true, by simp_all, rfl, fun _ => ⟨by rw [HL.out]; exact hn80, by rw [HL.out]; exact HA.out⟩, fun _ => rfl⟩
      · have hf : decide ((k : Int) ≤ 80) = false := decide_eq_false (by omega)
        go_wp2
        go_ret
        exact ⟨false, by simp_all, rfl, fun h => (by cases h), fun h => by have := h.1; rw [HL.out] at this; omega⟩
theorem dFew_yes {A : Option Addr} {n c : Nat} {l : List Oq} {w : World} (h : InOps w A n l) (hf : l.length ≤ 80 ∧ Small l l.length) : Calls Try.prog 9 #[.slice A n c, .int .i64 80] w fun e w2 => e = .returned (.bool true) ∧ w = w2 :=
  (dFew_any A n c l w h).mono fun e w' ⟨f, h1, h2, h3⟩ => ⟨by rw [h1, h3.2 hf], h2⟩
theorem dFew_no {A : Option Addr} {n c : Nat} {l : List Oq} {w : World} (h : InOps w A n l) (hf : ¬ (l.length ≤ 80 ∧ Small l l.length)) : Calls Try.prog 9 #[.slice A n c, .int .i64 80] w fun e w2 => e = .returned (.bool false) ∧ w = w2 :=
  (dFew_any A n c l w h).mono fun e w' ⟨f, h1, h2, h3⟩ => ⟨by
    have : f = false := by
      cases f with
      | true => exact (hf (h3.1 rfl)).elim
      | false => rfl
    rw [h1, this], h2⟩
theorem InOps.below {w w' : World} {A : Option Addr} {n : Nat} {l : List Oq} (h : InOps w A n l) (hb : Below w.heap.size w w') : InOps w' A n l := by
  refine ⟨h.1, h.2.1, fun hn => ?_⟩
  obtain ⟨ad, e, hat⟩ := h.2.2 hn
  refine ⟨ad, e, fun i hi => ?_⟩
  obtain ⟨o, B, c, E, d, h1, h2, h3⟩ := hat i hi
  exact ⟨o, B, c, E, d, h1, ⟨h2.k, h2.i, ⟨h2.b.1, h2.b.2.1, h2.b.2.2.1, h2.b.2.2.2.belowN hb⟩, ⟨h2.l.1, h2.l.2.1, h2.l.2.2.below hb⟩, h2.lb⟩, fun j v hv => (hb.cell (block_lt_of_cell (h3 j v hv))).trans (h3 j v hv)⟩
end Go.Proofs.Ythdnpakppjipfaa
