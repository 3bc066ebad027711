/-
  What is proved here: what a reader's String takes.
-/
import Derived.Test.YtjdojnbpchommaaRd3
namespace Go.Proofs.Ytjdojnbpchommaa
open Go.ChangeShapes Go.WideShapes Go.ChangeAt Go.RowKit
set_option linter.unusedVariables false
set_option maxRecDepth 20000

def RS.str (st : RS) (most : Int) : List Int × RS :=
  match st with
  | .none => ([], .none)
  | .got true l => ([], .got true l)
  | .got false l =>
    if (((RS.got false l).num 2 65535).2.plain ((RS.got false l).num 2 65535).1).2.fails = true ∨ min most 8192 < ((RS.got false l).num 2 65535).1 then ([], .got true l)
    else ((RS.got false l).num 2 65535).2.plain ((RS.got false l).num 2 65535).1

/-- bytes don't lie in a block that holds none -/
theorem Rp.off {w : World} {p A : Option Addr} {xs : List Int} (h : Rp w p A xs) {b : Nat} {t : TypeId} {cs : Array Value} (hb : Blk w b t cs) (hcs : ∀ (i : Nat) (x : Int), cs[i]? ≠ some (Value.int .u8 x)) : Rp w (some ⟨b, 0, none⟩) A xs := fun hx => by
  obtain ⟨ad, e, hne, hc⟩ := h hx
  refine ⟨ad, e, fun ⟨a, e2, e3⟩ => ?_, hc⟩
  injection e2 with e2
  subst e2
  simp only at e3
  have h0 := hc 0 hx
  unfold Blk at hb
  unfold World.cell? at h0
  rw [add_block, e3, hb] at h0
  simp only at h0
  split at h0
  · cases h0
  · exact hcs _ _ h0
theorem reader_cells (A : Option Addr) (n c : Nat) (f : Bool) : ∀ (i : Nat) (x : Int), (#[Value.slice A n c, Value.bool f] : Array Value)[i]? ≠ some (Value.int .u8 x) := by
  intro i x h
  match i, h with
  | 0, h => simp at h
  | 1, h => simp at h
  | i + 2, h => simp at h

set_option maxHeartbeats 1000000 in
theorem RString_any (p : Option Addr) (st : RS) (most : Int) (w : World) (h : RRep w p st) :
    Calls Try.prog 47 #[.pointer p, .int .i64 most] w fun e w' => ∃ A' c', e = .returned (.slice A' (st.str most).1.length c') ∧ (st.str most).1.length ≤ c' ∧ Fresh w w' A' (st.str most).1 ∧ RRep w' p (st.str most).2 ∧ OnlyS (Of p) w w' := by
  have HF := hid (Fails_any p st w h)
  cases st with
  | none =>
    obtain rfl : p = none := h
    go_enter Try.func47, Try.ntmps47
    go_wp2_with (go_at_call 55; refine HF.out.mono ?_; rintro e w1 ⟨rfl, rfl⟩; simp only [RS.fails])
    go_ret
    exact ⟨none, 0, rfl, by simp [RS.str], Fresh.nil _ _ _, rfl, OnlyS.refl _ _⟩
  | got f l =>
    cases f with
    | true =>
      have H := hid h
      clear h
      go_enter Try.func47, Try.ntmps47
      go_wp2_with (go_at_call 55; refine HF.out.mono ?_; rintro e w1 ⟨rfl, rfl⟩; simp only [RS.fails])
      go_ret
      exact ⟨none, 0, rfl, by simp [RS.str], Fresh.nil _ _ _, H.out, OnlyS.refl _ _⟩
    | false =>
      have H := hid h
      obtain ⟨b, A, c, rfl, h1, h2, h3, h4, h5⟩ := h
      obtain ⟨m, hml⟩ : ∃ m, m = l.length := ⟨_, rfl⟩
      rw [← hml] at h1 h2 h3
      have c0 : w.cell? ⟨b, 0, none⟩ = some (.slice A m c) := h1.cell 0
      have c1 : w.cell? ⟨b, 1, none⟩ = some (.bool false) := h1.cell 1
      have hblt := h1.lt
      have HML := hid hml; have H1 := hid h1; have H4 := hid h4; have H5 := hid h5
      clear h1 hml h4 h5
      have hrep0 : RRep (w.alloc (.cells #[.slice A m c, .bool false] 98)) (some ⟨w.heap.size, 0, none⟩) (.got false l) := by
        have ho : OnlyS (fun _ => False) w (w.alloc (.cells #[.slice A m c, .bool false] 98)) := (OnlyS.refl _ _).alloc _
        have hml := HML.out
        subst hml
        refine ⟨w.heap.size, A, c, rfl, Blk.new w 98 _, h2, h3, H4.out, ?_⟩
        exact Rp.off (H5.out.same fun k hk _ => ho.block k hk (fun h => h)) (Blk.new w 98 _) (reader_cells _ _ _ _)
      have hnum := RU16_any (some ⟨w.heap.size, 0, none⟩) (.got false l) _ hrep0
      obtain ⟨R, hR⟩ : ∃ R, R = (RS.got false l).str most := ⟨_, rfl⟩
      rw [← hR]
      simp only [RS.str] at hR
      obtain ⟨N, hN⟩ : ∃ N, N = (RS.got false l).num 2 65535 := ⟨_, rfl⟩
      rw [← hN] at hnum hR
      obtain ⟨X, s1⟩ := N
      simp only at hnum hR
      obtain ⟨D, hD⟩ : ∃ D, D = s1.plain X := ⟨_, rfl⟩
      rw [← hD] at hR
      obtain ⟨ys, s2⟩ := D
      have HNUM := hid hnum
      have HD : Hid (s1.plain X = (ys, s2)) := hD.symm
      have B0 : Below w.heap.size w (w.alloc (.cells #[.slice A m c, .bool false] 98)) := (Below.refl _ _).alloc (Nat.le_refl _) _
      have HOF : Hid (∀ k, Of (some ⟨w.heap.size, 0, none⟩) k → w.heap.size ≤ k) := by rintro k ⟨a, ha, rfl⟩; injection ha with ha; subst ha; exact Nat.le_refl _
      clear hD hnum hrep0
      cases s2 with
      | none =>
        clear hR
        go_enter Try.func47, Try.ntmps47
        go_wp2_with (first
          | (go_at_call 55; refine HF.out.mono ?_; rintro e w1 ⟨rfl, rfl⟩; simp only [RS.fails])
          | (go_at_call 56; refine HNUM.out.mono ?_; rintro e w1 ⟨rfl, hw1, ho1⟩; have HPL := hid (RPlain_any _ _ X w1 hw1); have B1 := hid (B0.trans (ho1.below (by simp) HOF.out)); clear hw1 ho1)
          | (go_at_call 48; refine HPL.out.mono ?_; rintro e w2 ⟨A2, c2, rfl, hc2, hf2, hw2, ho2⟩; rw [HD.out] at hw2; cases hw2))
      | got f2 l2 =>
        cases f2 with
        | true =>
          have hRR : R = ([], .got true l) := by rw [hR]; simp [RS.fails]
          have HRR := hid hRR
          clear hR hRR
          go_enter Try.func47, Try.ntmps47
          go_wp2_with (first
            | (go_at_call 55; refine HF.out.mono ?_; rintro e w1 ⟨rfl, rfl⟩; simp only [RS.fails])
            | (go_at_call 56; refine HNUM.out.mono ?_; rintro e w1 ⟨rfl, hw1, ho1⟩; have HPL := hid (RPlain_any _ _ X w1 hw1); have B1 := hid (B0.trans (ho1.below (by simp) HOF.out)); clear hw1 ho1)
            | (go_at_call 48; refine HPL.out.mono ?_; rintro e w2 ⟨A2, c2, rfl, hc2, hf2, hw2, ho2⟩; rw [HD.out] at hc2 hf2 hw2 ⊢; obtain ⟨b2, A3, c3, hp2, q1, q2, q3, q4, q5⟩ := hw2; injection hp2 with hp2; injection hp2 with hp2; subst hp2; have d1 : w2.cell? ⟨w.heap.size, 1, none⟩ = some (.bool true) := q1.cell 1; have d0 : w2.cell? ⟨w.heap.size, 0, none⟩ = some (.slice A3 l2.length c3) := q1.cell 0; have B2 := hid (B1.out.trans (ho2.below B1.out.size HOF.out)); have HX := hid (fail_any _ _ w2 (H.out.below B2.out)); have Q1 := hid q1; have Q2 := hid q2; have Q3 := hid q3; have Q4 := hid q4; have Q5 := hid q5; have HF2 := hid hf2; have HC2 := hid hc2; have g0 : w2.cell? ⟨b, 0, none⟩ = some (.slice A m c) := (B2.out.cell (p := ⟨b, 0, none⟩) hblt).trans c0; have g1 : w2.cell? ⟨b, 1, none⟩ = some (.bool false) := (B2.out.cell (p := ⟨b, 1, none⟩) hblt).trans c1; have fz0 : w2.frozen? ⟨b, 0, none⟩ = false := (B2.out.frozen (p := ⟨b, 0, none⟩) hblt).trans (H1.out.frozen 0); have fz1 : w2.frozen? ⟨b, 1, none⟩ = false := (B2.out.frozen (p := ⟨b, 1, none⟩) hblt).trans (H1.out.frozen 1); have BS := hid B1.out.size; clear q1 q2 q3 q4 q5 hf2 hc2 ho2)
            | (go_at_call 57; refine HX.out.mono ?_; rintro e w3 ⟨rfl, hw3, ho3⟩; have HW3 := hid hw3; have HO3 := hid ho3; clear hw3 ho3))
          go_ret
          rw [HRR.out]
          exact ⟨none, 0, rfl, by simp, Fresh.nil _ _ _, HW3.out, (OnlyS.of_below B2.out (Nat.le_refl _)).trans HO3.out⟩
        | false =>
          have key : (most ≤ 8192 ∧ most < X) ∨ (8192 < most ∧ 8192 < X) ∨ (most ≤ 8192 ∧ X ≤ most) ∨ (8192 < most ∧ X ≤ 8192) := by omega
          rcases key with ⟨k1, k2⟩ | ⟨k1, k2⟩ | ⟨k1, k2⟩ | ⟨k1, k2⟩
          · have hRR : R = ([], .got true l) := by rw [hR, if_pos (Or.inr (by omega))]
            have HRR := hid hRR
            clear hR hRR
            go_enter Try.func47, Try.ntmps47
            go_wp2_with (first
              | (go_at_call 55; refine HF.out.mono ?_; rintro e w1 ⟨rfl, rfl⟩; simp only [RS.fails])
              | (go_at_call 56; refine HNUM.out.mono ?_; rintro e w1 ⟨rfl, hw1, ho1⟩; have HPL := hid (RPlain_any _ _ X w1 hw1); have B1 := hid (B0.trans (ho1.below (by simp) HOF.out)); clear hw1 ho1)
              | (go_at_call 48; refine HPL.out.mono ?_; rintro e w2 ⟨A2, c2, rfl, hc2, hf2, hw2, ho2⟩; rw [HD.out] at hc2 hf2 hw2 ⊢; obtain ⟨b2, A3, c3, hp2, q1, q2, q3, q4, q5⟩ := hw2; injection hp2 with hp2; injection hp2 with hp2; subst hp2; have d1 : w2.cell? ⟨w.heap.size, 1, none⟩ = some (.bool false) := q1.cell 1; have d0 : w2.cell? ⟨w.heap.size, 0, none⟩ = some (.slice A3 l2.length c3) := q1.cell 0; have B2 := hid (B1.out.trans (ho2.below B1.out.size HOF.out)); have HX := hid (fail_any _ _ w2 (H.out.below B2.out)); have Q1 := hid q1; have Q2 := hid q2; have Q3 := hid q3; have Q4 := hid q4; have Q5 := hid q5; have HF2 := hid hf2; have HC2 := hid hc2; have g0 : w2.cell? ⟨b, 0, none⟩ = some (.slice A m c) := (B2.out.cell (p := ⟨b, 0, none⟩) hblt).trans c0; have g1 : w2.cell? ⟨b, 1, none⟩ = some (.bool false) := (B2.out.cell (p := ⟨b, 1, none⟩) hblt).trans c1; have fz0 : w2.frozen? ⟨b, 0, none⟩ = false := (B2.out.frozen (p := ⟨b, 0, none⟩) hblt).trans (H1.out.frozen 0); have fz1 : w2.frozen? ⟨b, 1, none⟩ = false := (B2.out.frozen (p := ⟨b, 1, none⟩) hblt).trans (H1.out.frozen 1); have BS := hid B1.out.size; clear q1 q2 q3 q4 q5 hf2 hc2 ho2)
              | (go_at_call 57; refine HX.out.mono ?_; rintro e w3 ⟨rfl, hw3, ho3⟩; have HW3 := hid hw3; have HO3 := hid ho3; clear hw3 ho3))
            go_ret
            rw [HRR.out]
            exact ⟨none, 0, rfl, by simp, Fresh.nil _ _ _, HW3.out, (OnlyS.of_below B2.out (Nat.le_refl _)).trans HO3.out⟩
          · have hRR : R = ([], .got true l) := by rw [hR, if_pos (Or.inr (by omega))]
            have HRR := hid hRR
            clear hR hRR
            go_enter Try.func47, Try.ntmps47
            go_wp2_with (first
              | (go_at_call 55; refine HF.out.mono ?_; rintro e w1 ⟨rfl, rfl⟩; simp only [RS.fails])
              | (go_at_call 56; refine HNUM.out.mono ?_; rintro e w1 ⟨rfl, hw1, ho1⟩; have HPL := hid (RPlain_any _ _ X w1 hw1); have B1 := hid (B0.trans (ho1.below (by simp) HOF.out)); clear hw1 ho1)
              | (go_at_call 48; refine HPL.out.mono ?_; rintro e w2 ⟨A2, c2, rfl, hc2, hf2, hw2, ho2⟩; rw [HD.out] at hc2 hf2 hw2 ⊢; obtain ⟨b2, A3, c3, hp2, q1, q2, q3, q4, q5⟩ := hw2; injection hp2 with hp2; injection hp2 with hp2; subst hp2; have d1 : w2.cell? ⟨w.heap.size, 1, none⟩ = some (.bool false) := q1.cell 1; have d0 : w2.cell? ⟨w.heap.size, 0, none⟩ = some (.slice A3 l2.length c3) := q1.cell 0; have B2 := hid (B1.out.trans (ho2.below B1.out.size HOF.out)); have HX := hid (fail_any _ _ w2 (H.out.below B2.out)); have Q1 := hid q1; have Q2 := hid q2; have Q3 := hid q3; have Q4 := hid q4; have Q5 := hid q5; have HF2 := hid hf2; have HC2 := hid hc2; have g0 : w2.cell? ⟨b, 0, none⟩ = some (.slice A m c) := (B2.out.cell (p := ⟨b, 0, none⟩) hblt).trans c0; have g1 : w2.cell? ⟨b, 1, none⟩ = some (.bool false) := (B2.out.cell (p := ⟨b, 1, none⟩) hblt).trans c1; have fz0 : w2.frozen? ⟨b, 0, none⟩ = false := (B2.out.frozen (p := ⟨b, 0, none⟩) hblt).trans (H1.out.frozen 0); have fz1 : w2.frozen? ⟨b, 1, none⟩ = false := (B2.out.frozen (p := ⟨b, 1, none⟩) hblt).trans (H1.out.frozen 1); have BS := hid B1.out.size; clear q1 q2 q3 q4 q5 hf2 hc2 ho2)
              | (go_at_call 57; refine HX.out.mono ?_; rintro e w3 ⟨rfl, hw3, ho3⟩; have HW3 := hid hw3; have HO3 := hid ho3; clear hw3 ho3))
            go_ret
            rw [HRR.out]
            exact ⟨none, 0, rfl, by simp, Fresh.nil _ _ _, HW3.out, (OnlyS.of_below B2.out (Nat.le_refl _)).trans HO3.out⟩
          · have hRR : R = (ys, .got false l2) := by rw [hR, if_neg (by simp [RS.fails]; omega)]
            have HRR := hid hRR
            clear hR hRR
            go_enter Try.func47, Try.ntmps47
            go_wp2_with (first
              | (go_at_call 55; refine HF.out.mono ?_; rintro e w1 ⟨rfl, rfl⟩; simp only [RS.fails])
              | (go_at_call 56; refine HNUM.out.mono ?_; rintro e w1 ⟨rfl, hw1, ho1⟩; have HPL := hid (RPlain_any _ _ X w1 hw1); have B1 := hid (B0.trans (ho1.below (by simp) HOF.out)); clear hw1 ho1)
              | (go_at_call 48; refine HPL.out.mono ?_; rintro e w2 ⟨A2, c2, rfl, hc2, hf2, hw2, ho2⟩; rw [HD.out] at hc2 hf2 hw2 ⊢; obtain ⟨b2, A3, c3, hp2, q1, q2, q3, q4, q5⟩ := hw2; injection hp2 with hp2; injection hp2 with hp2; subst hp2; have d1 : w2.cell? ⟨w.heap.size, 1, none⟩ = some (.bool false) := q1.cell 1; have d0 : w2.cell? ⟨w.heap.size, 0, none⟩ = some (.slice A3 l2.length c3) := q1.cell 0; have B2 := hid (B1.out.trans (ho2.below B1.out.size HOF.out)); have HX := hid (fail_any _ _ w2 (H.out.below B2.out)); have Q1 := hid q1; have Q2 := hid q2; have Q3 := hid q3; have Q4 := hid q4; have Q5 := hid q5; have HF2 := hid hf2; have HC2 := hid hc2; have g0 : w2.cell? ⟨b, 0, none⟩ = some (.slice A m c) := (B2.out.cell (p := ⟨b, 0, none⟩) hblt).trans c0; have g1 : w2.cell? ⟨b, 1, none⟩ = some (.bool false) := (B2.out.cell (p := ⟨b, 1, none⟩) hblt).trans c1; have fz0 : w2.frozen? ⟨b, 0, none⟩ = false := (B2.out.frozen (p := ⟨b, 0, none⟩) hblt).trans (H1.out.frozen 0); have fz1 : w2.frozen? ⟨b, 1, none⟩ = false := (B2.out.frozen (p := ⟨b, 1, none⟩) hblt).trans (H1.out.frozen 1); have BS := hid B1.out.size; clear q1 q2 q3 q4 q5 hf2 hc2 ho2)
              | (go_at_call 57; refine HX.out.mono ?_; rintro e w3 ⟨rfl, hw3, ho3⟩; have HW3 := hid hw3; have HO3 := hid ho3; clear hw3 ho3))
            go_ret
            rw [HRR.out]
            have hbl := B2.out
            have h1b := H1.out.same (hbl.block b hblt)
            have ho : OnlyS (Of (some ⟨b, 0, none⟩)) w2 ((w2.setCell ⟨b, 0, none⟩ (.slice A3 l2.length c3)).setCell ⟨b, 1, none⟩ (.bool false)) := ((OnlyS.refl _ _).setCell (.inl ⟨_, rfl, rfl⟩) _).setCell (.inl ⟨_, rfl, rfl⟩) _
            refine ⟨A2, c2, rfl, HC2.out, (HF2.out.more BS.out).keep ho (fun k hk1 hk2 ⟨a, e, he⟩ => by injection e with e; subst e; simp at he; omega), ?_, (OnlyS.of_below hbl (Nat.le_refl _)).trans ho⟩
            exact ⟨b, A3, c3, rfl, (h1b.setd 0 (.slice A3 l2.length c3)).setd 1 (.bool false), Q2.out, Q3.out, Q4.out, (Q5.out.off h1b (reader_cells _ _ _ _)).keep ho⟩
          · have hRR : R = (ys, .got false l2) := by rw [hR, if_neg (by simp [RS.fails]; omega)]
            have HRR := hid hRR
            clear hR hRR
            go_enter Try.func47, Try.ntmps47
            go_wp2_with (first
              | (go_at_call 55; refine HF.out.mono ?_; rintro e w1 ⟨rfl, rfl⟩; simp only [RS.fails])
              | (go_at_call 56; refine HNUM.out.mono ?_; rintro e w1 ⟨rfl, hw1, ho1⟩; have HPL := hid (RPlain_any _ _ X w1 hw1); have B1 := hid (B0.trans (ho1.below (by simp) HOF.out)); clear hw1 ho1)
              | (go_at_call 48; refine HPL.out.mono ?_; rintro e w2 ⟨A2, c2, rfl, hc2, hf2, hw2, ho2⟩; rw [HD.out] at hc2 hf2 hw2 ⊢; obtain ⟨b2, A3, c3, hp2, q1, q2, q3, q4, q5⟩ := hw2; injection hp2 with hp2; injection hp2 with hp2; subst hp2; have d1 : w2.cell? ⟨w.heap.size, 1, none⟩ = some (.bool false) := q1.cell 1; have d0 : w2.cell? ⟨w.heap.size, 0, none⟩ = some (.slice A3 l2.length c3) := q1.cell 0; have B2 := hid (B1.out.trans (ho2.below B1.out.size HOF.out)); have HX := hid (fail_any _ _ w2 (H.out.below B2.out)); have Q1 := hid q1; have Q2 := hid q2; have Q3 := hid q3; have Q4 := hid q4; have Q5 := hid q5; have HF2 := hid hf2; have HC2 := hid hc2; have g0 : w2.cell? ⟨b, 0, none⟩ = some (.slice A m c) := (B2.out.cell (p := ⟨b, 0, none⟩) hblt).trans c0; have g1 : w2.cell? ⟨b, 1, none⟩ = some (.bool false) := (B2.out.cell (p := ⟨b, 1, none⟩) hblt).trans c1; have fz0 : w2.frozen? ⟨b, 0, none⟩ = false := (B2.out.frozen (p := ⟨b, 0, none⟩) hblt).trans (H1.out.frozen 0); have fz1 : w2.frozen? ⟨b, 1, none⟩ = false := (B2.out.frozen (p := ⟨b, 1, none⟩) hblt).trans (H1.out.frozen 1); have BS := hid B1.out.size; clear q1 q2 q3 q4 q5 hf2 hc2 ho2)
              | (go_at_call 57; refine HX.out.mono ?_; rintro e w3 ⟨rfl, hw3, ho3⟩; have HW3 := hid hw3; have HO3 := hid ho3; clear hw3 ho3))
            go_ret
            rw [HRR.out]
            have hbl := B2.out
            have h1b := H1.out.same (hbl.block b hblt)
            have ho : OnlyS (Of (some ⟨b, 0, none⟩)) w2 ((w2.setCell ⟨b, 0, none⟩ (.slice A3 l2.length c3)).setCell ⟨b, 1, none⟩ (.bool false)) := ((OnlyS.refl _ _).setCell (.inl ⟨_, rfl, rfl⟩) _).setCell (.inl ⟨_, rfl, rfl⟩) _
            refine ⟨A2, c2, rfl, HC2.out, (HF2.out.more BS.out).keep ho (fun k hk1 hk2 ⟨a, e, he⟩ => by injection e with e; subst e; simp at he; omega), ?_, (OnlyS.of_below hbl (Nat.le_refl _)).trans ho⟩
            exact ⟨b, A3, c3, rfl, (h1b.setd 0 (.slice A3 l2.length c3)).setd 1 (.bool false), Q2.out, Q3.out, Q4.out, (Q5.out.off h1b (reader_cells _ _ _ _)).keep ho⟩
end Go.Proofs.Ytjdojnbpchommaa
