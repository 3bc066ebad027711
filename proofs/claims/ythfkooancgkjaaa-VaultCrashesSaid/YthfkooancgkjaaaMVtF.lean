/-
  What is proved here: which calls are few; a call's record; what the statements' fixed question answers.
-/
import Derived.Test.YthfkooancgkjaaaMF1
import Derived.Test.YthfkooancgkjaaaMG1
import Derived.Test.YthfkooancgkjaaaMVtOpen
import Derived.Test.YthfkooancgkjaaaMWaF
import Derived.Lib.SlBytesConst
set_option linter.unusedSimpArgs false
set_option linter.unusedVariables false
namespace Go.Proofs.Ythfkooancgkjaaa
open Go.ChangeShapes Go.WideShapes Go.ChangeAt Go.RowKit
set_option linter.unusedVariables false
set_option maxRecDepth 20000

theorem opV_at {w : World} {A : Option Addr} {n : Nat} {l : List Ov} (h : InOps w A n l) (hn : 0 < n) : ∃ g off, A = some ⟨g, off, none⟩ ∧ g < w.heap.size ∧ ∀ i, i < n → ∃ o B c E d, l[i]? = some o ∧ OpIn w o B c E d ∧ w.rangeAt g (off + i * 4) (opC o B c E d) := by
  obtain ⟨⟨g, off, s⟩, rfl, hat⟩ := h.2.2 hn
  obtain ⟨o, B, c, E, d, h1, h2, h3⟩ := hat 0 hn
  have h0 := h3 0 _ rfl
  have hs : s = none := by simpa [Addr.add] using World.cell?_spot h0
  subst hs
  refine ⟨g, off, rfl, ?_, fun i hi => ?_⟩
  · have := block_lt_of_cell h0; rwa [add_block] at this
  · obtain ⟨o, B, c, E, d, h1, h2, h3⟩ := hat i hi
    refine ⟨o, B, c, E, d, h1, h2, fun j v hv => ?_⟩
    have := h3 j v hv
    rw [Addr.add_mid] at this
    rw [← this]
    congr 2; omega
theorem InOps.belowv {w w' : World} {A : Option Addr} {n : Nat} {l : List Ov} (h : InOps w A n l) (hb : Below w.heap.size w w') : InOps w' A n l := by
  refine ⟨h.1, h.2.1, fun hn => ?_⟩
  obtain ⟨ad, e, hat⟩ := h.2.2 hn
  refine ⟨ad, e, fun i hi => ?_⟩
  obtain ⟨o, B, c, E, d, h1, h2, h3⟩ := hat i hi
  exact ⟨o, B, c, E, d, h1, ⟨h2.k, h2.i, h2.b.below hb, ⟨h2.l.1, h2.l.2.1, h2.l.2.2.below hb⟩, h2.lb⟩, fun j v hv => (hb.cell (block_lt_of_cell (h3 j v hv))).trans (h3 j v hv)⟩
def SmallV (l : List Ov) (k : Nat) : Prop := ∀ j, j < k → ∀ o, l[j]? = some o → fewR o.b 10 7000 = true ∧ o.l.length ≤ 200
def FewV (l : List Ov) (N : Nat) (w : World) (e : Ending) (w' : World) : Prop := ∃ f, e = .returned (.bool f) ∧ w = w' ∧ (f = true ↔ l.length ≤ N ∧ SmallV l l.length)
theorem vtFew_yes {A : Option Addr} {n c N : Nat} {l : List Ov} {w : World} (h : InOps w A n l) (hN : N ≤ 100) (h1 : n ≤ N) (h2 : SmallV l l.length) (hc : Calls Try.prog 7 #[.slice A n c, .int .i64 N] w (FewV l N w)) : Calls Try.prog 7 #[.slice A n c, .int .i64 N] w fun e w' => e = .returned (.bool true) ∧ w = w' := hc.mono fun e w' ⟨f, he, hw, hf⟩ => by
  have : f = true := hf.2 ⟨by rw [h.1]; exact h1, h2⟩
  subst this
  exact ⟨he, hw⟩
theorem vtFew_no {A : Option Addr} {n c N : Nat} {l : List Ov} {w : World} (h : ¬ (l.length ≤ N ∧ SmallV l l.length)) (hc : Calls Try.prog 7 #[.slice A n c, .int .i64 N] w (FewV l N w)) : Calls Try.prog 7 #[.slice A n c, .int .i64 N] w fun e w' => e = .returned (.bool false) ∧ w = w' := hc.mono fun e w' ⟨f, he, hw, hf⟩ => by
  cases f with
  | false => exact ⟨he, hw⟩
  | true => exact (h (hf.1 rfl)).elim
set_option maxHeartbeats 1000000 in
theorem vtFew_any (A : Option Addr) (n c N : Nat) (l : List Ov) (w : World) (h : InOps w A n l) (hN : N ≤ 100) : Calls Try.prog 7 #[.slice A n c, .int .i64 N] w (FewV l N w) := by
  have hl := h.1
  have hmax := h.2.1
  have H := hid h; have HL := hid hl
  clear h hl
  go_enter Try.func7, Try.ntmps7
  go_wp2
  go_loop [5] (fun i => ∃ k : Nat, k ≤ n ∧ k ≤ 200 ∧ i = .int .i64 k ∧ Hid (SmallV l k)) (fun i => n - (intOf i).toNat)
  case atStart => exact ⟨0, by omega, by omega, rfl, fun j hj => by omega⟩
  case round =>
    obtain ⟨k, hk, hk2, rfl, HA⟩ := hrel
    by_cases hlt : k < n
    · by_cases hlt2 : k < 200
      · obtain ⟨g, off, rfl, _, hat⟩ := opV_at H.out (by omega)
        obtain ⟨o, B, c1, E, d, h1, h2, h3⟩ := hat k hlt
        have z2 : w.cell? ⟨g, off + k * 4 + 2, none⟩ = some (.slice B o.b.length c1) := h3 2 _ rfl
        have z3 : w.cell? ⟨g, off + k * 4 + 3, none⟩ = some (.slice E o.l.length d) := h3 3 _ rfl
        have CR := hid (RFew_nm B o.b.length c1 o.b w h2.b 10 7000 (by decide) (by decide))
        obtain ⟨f, hf⟩ : ∃ f, f = fewR o.b 10 7000 := ⟨_, rfl⟩
        rw [← hf] at CR
        have H1 := hid h1; have HF := hid hf
        obtain ⟨m1, hm1⟩ : ∃ m, m = o.b.length := ⟨_, rfl⟩
        obtain ⟨m2, hm2⟩ : ∃ m, m = o.l.length := ⟨_, rfl⟩
        rw [← hm1] at z2 CR
        rw [← hm2] at z3
        have HM2 := hid hm2
        clear hat h1 h2 h3 hm1 hm2 hf
        have HK := hid hk; have HK2 := hid hk2
        clear hk hk2
        cases f with
        | false =>
          have HF2 : Hid (¬ SmallV l l.length) := fun h => by
            have := (h k (by rw [HL.out]; exact hlt) o H1.out).1
            rw [← HF.out] at this
            cases this
          go_wp2_with (go_at_call 21; refine CR.out.mono ?_; rintro e wq ⟨rfl, rfl⟩)
          go_ret
          exact ⟨false, rfl, rfl, fun h => (by cases h), fun h => (HF2.out h.2).elim⟩
        | true =>
          by_cases hb2 : 200 < m2
          · have b2 : 200 < (m2 : Int) := by omega
            have HF2 : Hid (¬ SmallV l l.length) := fun h => by
              have := (h k (by rw [HL.out]; exact hlt) o H1.out).2
              have := HM2.out
              omega
            go_wp2_with (go_at_call 21; refine CR.out.mono ?_; rintro e wq ⟨rfl, rfl⟩)
            go_ret
            exact ⟨false, rfl, rfl, fun h => (by cases h), fun h => (HF2.out h.2).elim⟩
          · have b2 : ¬ 200 < (m2 : Int) := by omega
            go_wp2_with (go_at_call 21; refine CR.out.mono ?_; rintro e wq ⟨rfl, rfl⟩)
            go_round
            case rel =>
              refine ⟨k + 1, by omega, by omega, by go_num, fun j hj o' ho' => ?_⟩
              by_cases hjk : j = k
              · subst hjk
                rw [H1.out] at ho'
                injection ho' with ho'
                subst ho'
                exact ⟨HF.out.symm, by have := HM2.out; omega⟩
              · exact HA.out j (by omega) o' ho'
            case measure => simp [intOf]; omega
      · obtain rfl : k = 200 := by omega
        have hn40 : ¬ (n : Int) ≤ (N : Int) := by omega
        have hf : decide ((n : Int) ≤ (N : Int)) = false := decide_eq_false hn40
        go_wp2
        go_ret
        exact ⟨false, by simp_all, rfl, fun h => (by cases h), fun h => by have := h.1; rw [HL.out] at this; omega⟩
    · obtain rfl : k = n := by omega
      by_cases hn40 : k ≤ N
      · have hf : decide ((k : Int) ≤ (N : Int)) = true := decide_eq_true (by omega)
        go_wp2
        go_ret
        exact ⟨true, by simp_all, rfl, fun _ => ⟨by rw [HL.out]; exact hn40, by rw [HL.out]; exact HA.out⟩, fun _ => rfl⟩
      · have hf : decide ((k : Int) ≤ (N : Int)) = false := decide_eq_false (by omega)
        go_wp2
        go_ret
        exact ⟨false, by simp_all, rfl, fun h => (by cases h), fun h => by have := h.1; rw [HL.out] at this; omega⟩
/-! The fixed question. -/
theorem one_rpv (w : World) : Rp (w.alloc (.cells #[.int .u8 97] 5 (1, 2))) none (some ⟨w.heap.size, 0, none⟩) [97] := fun _ =>
  ⟨_, rfl, (fun ⟨a, e, _⟩ => by cases e), fun j hj => by
    rw [Addr.add_lit, Nat.zero_add, World.cell?_alloc_mark]
    match j, hj with
    | 0, _ => rfl⟩
theorem scn_nil {P : Nat → List Int} {n f i : Nat} {l : Int} (h : (scn P n f i l).1 = []) : scn P n f i l = ([], i, l) := by
  cases f with
  | zero => rfl
  | succ f =>
    cases hx : nx P (n - i) i l true [] with
    | none => exact scn_none hx
    | some q =>
      obtain ⟨r, j, g⟩ := q
      rw [scn_some hx] at h
      cases h
/-- a new vault with one record more -/
theorem vt_one {T S : Nat} (hf : 2 + 2 * S ≤ T) (hS : 1 ≤ S) : let s : SS := ⟨List.replicate T zpg, [], -1, false⟩
    let s1 := (s.sv 0 (val9 0 1 1)).2.2
    let s2 := (s1.ap (off S 0) S ⟨1, 0, false⟩ [97]).2.1
    VR T S s 0 0 1 0 [] ∧ s.bs ∧ (s.sv 0 (val9 0 1 1)).1 = 0 ∧ (scn (s1.lp (off S 0)) S S 0 1) = ([], 0, 1) ∧ (s1.ap (off S 0) S ⟨1, 0, false⟩ [97]).1 = 0 ∧ (s1.ap (off S 0) S ⟨1, 0, false⟩ [97]).2.2 = ⟨1, 1, false⟩ ∧ (s2.lf ⟨1, 1, false⟩).1 = 0 ∧ (s2.lf ⟨1, 1, false⟩).2.2 = ⟨1, 1, false⟩ ∧ s1.Q = [] := by
  intro s s1 s2
  have h := vr_new hf (by omega)
  have h0 := vr_on h (by decide) rfl
  obtain ⟨u1, u2⟩ := vr_up h (by decide) (by decide) h0
  have hsc := scn_nil u1.al
  rw [hsc] at u2
  obtain ⟨Y, N, q0, M, R, A1, A2, P, X, hw⟩ := u2.wi
  have hon := sv_on (s := s) rfl rfl 0 (val9 0 1 (0 + 1))
  have hc : (cut [97]).length = 1 := by rw [cut_len]; rfl
  refine ⟨h, new_bs T, h0, hsc, ?_⟩
  rcases wi_on hw (by decide) hon.1 hon.2 rfl (b := [97]) (fun y hy => by simp at hy; omega) with ⟨k, _⟩ | ⟨_, k, _⟩ | ⟨_, _, k1, k2, k3, k4, _⟩
  · simp at k
  · rw [hc] at k; simp at k; omega
  · rw [hc] at k2
    have hs2 : s2.F = -1 ∧ s2.D = false := ⟨k3, k4⟩
    have hfl := fl_on hs2.1 hs2.2
    refine ⟨k1, k2, ?_, ?_, u1.q⟩
    · unfold SS.lf
      rw [if_neg (by decide)]
      exact hfl.2.2
    · unfold SS.lf
      rw [if_neg (by decide)]
      rw [hfl.2.2]
      rfl
set_option maxHeartbeats 2000000 in
theorem vtawake_any (w : World) : Calls Try.prog 6 #[] w fun e w' => e = .returned (.bool true) ∧ Below w.heap.size w w' := by
  have CN := hid (Dy.new 10 w (by decide))
  obtain ⟨s0, hs0⟩ : ∃ s0, s0 = (⟨List.replicate 10 zpg, [], -1, false⟩ : SS) := ⟨_, rfl⟩
  obtain ⟨a1, a2, a3, a4, a5, a6, a7, a8, a9⟩ := vt_one (T := 10) (S := 4) (by decide) (by decide)
  rw [← hs0] at CN a1 a2 a3 a4 a5 a6 a7 a8 a9
  obtain ⟨s1, hs1⟩ : ∃ s1, s1 = (s0.sv 0 (val9 0 1 1)).2.2 := ⟨_, rfl⟩
  rw [← hs1] at a4 a5 a6 a7 a8 a9
  obtain ⟨s2, hs2⟩ : ∃ s2, s2 = (s1.ap (off 4 0) 4 ⟨1, 0, false⟩ [97]).2.1 := ⟨_, rfl⟩
  rw [← hs2] at a7 a8
  obtain ⟨s3, hs3⟩ : ∃ s3, s3 = (s2.lf ⟨1, 1, false⟩).2.1 := ⟨_, rfl⟩
  have e1 : s0.sv 0 (val9 0 1 (0 + 1)) = (0, (s0.sv 0 (val9 0 1 1)).2.1, s1) := by
    show s0.sv 0 (val9 0 1 1) = _
    exact Prod.ext a3 (Prod.ext rfl hs1.symm)
  have e2 : s1.ap (off 4 0) 4 ⟨1, 0, false⟩ [97] = (0, s2, ⟨1, 1, false⟩) := Prod.ext a5 (Prod.ext hs2.symm a6)
  have e3 : s2.lf ⟨1, 1, false⟩ = (0, s3, ⟨1, 1, false⟩) := Prod.ext a7 (Prod.ext hs3.symm a8)
  have CO : Hid (∀ b w1, Dy w.heap.size w1 b s0 → Below w.heap.size w w1 → Calls Try.prog 9 #[.pointer (some ⟨b, 0, none⟩)] w1 fun e w' => ∃ vb lb V, e = .returned (.tuple #[.pointer (some ⟨vb, 0, none⟩), V, .int .i64 0]) ∧ w1.heap.size ≤ vb ∧ w1.heap.size ≤ lb ∧ Blk w' vb 62 (vtC b 4 false 1 1 (some ⟨lb, 0, none⟩) true) ∧ Blk w' lb 90 (lgC b (off 4 0) 4 ⟨1, 0, false⟩) ∧ Dy w.heap.size w' b s1 ∧ Ks w1 w' ∧ Below w.heap.size w1 w') := hid fun b w1 h hb => by
    have := vtOpen_any h hb.size a2 a1 (by decide) (by decide) (by decide) (by decide) (by decide)
    unfold OpV at this
    rw [e1] at this
    simp only [a4] at this
    refine this.mono ?_
    rintro e w' (⟨_, vb, lb, V, q1, q2, q3, q4, q5, _, q7, q8, q9⟩ | ⟨q, _⟩)
    · exact ⟨vb, lb, V, q1, q2, q3, q4, q5, q7, q8, q9⟩
    · exact (q rfl).elim
  have CA : Hid (∀ b vb lb w2, Dy w.heap.size w2 b s1 → Below w.heap.size w w2 → w.heap.size ≤ vb → w.heap.size ≤ lb → Blk w2 vb 62 (vtC b 4 false 1 1 (some ⟨lb, 0, none⟩) true) → Blk w2 lb 90 (lgC b (off 4 0) 4 ⟨1, 0, false⟩) → Calls Try.prog 11 #[.pointer (some ⟨vb, 0, none⟩), .slice (some ⟨w2.heap.size, 0, none⟩) 1 1] (w2.alloc (.cells #[.int .u8 97] 5 (1, 2))) (ApV w.heap.size b vb lb 4 (off 4 0) false 1 1 (0, s2, ⟨1, 1, false⟩) (w2.alloc (.cells #[.int .u8 97] 5 (1, 2))))) := hid fun b vb lb w2 h1 h2 h3 h4 h5 h6 => by
    have hb : Below w2.heap.size w2 (w2.alloc (.cells #[.int .u8 97] 5 (1, 2))) := (Below.refl _ _).alloc (Nat.le_refl _) _
    have := vtAppend_up (h1.below hb) (Nat.le_trans h2.size hb.size) h3 h4 (h5.below hb) (h6.below hb) (by decide) (by decide) (by decide) ⟨by decide, by decide⟩ (some ⟨w2.heap.size, 0, none⟩) 1 1 [97] rfl (one_rpv w2) (fun h => absurd h (by decide)) (by decide) (by decide) (by rw [a9]; decide)
    rw [e2] at this
    exact this
  have CF : Hid (∀ b vb lb w3, Dy w.heap.size w3 b s2 → Below w.heap.size w w3 → w.heap.size ≤ vb → w.heap.size ≤ lb → Blk w3 vb 62 (vtC b 4 false 1 1 (some ⟨lb, 0, none⟩) true) → Blk w3 lb 90 (lgC b (off 4 0) 4 ⟨1, 1, false⟩) → Calls Try.prog 12 #[.pointer (some ⟨vb, 0, none⟩)] w3 (ApV w.heap.size b vb lb 4 (off 4 0) false 1 1 (0, s3, ⟨1, 1, false⟩) w3)) := hid fun b vb lb w3 h1 h2 h3 h4 h5 h6 => by
    have := vtFlush_up h1 h2.size h3 h4 h5 h6
    rw [e3] at this
    exact this
  have CSP : Hid (∀ b vb lb w2, Blk w2 vb 62 (vtC b 4 false 1 1 (some ⟨lb, 0, none⟩) true) → Calls Try.prog 20 #[.pointer (some ⟨vb, 0, none⟩)] w2 fun e w' => e = .returned (.int .i64 4) ∧ w2 = w') := hid fun b vb lb w2 h => vtSpace_any h
  have CRM : Hid (∀ b vb lb w2, Blk w2 vb 62 (vtC b 4 false 1 1 (some ⟨lb, 0, none⟩) true) → Blk w2 lb 90 (lgC b (off 4 0) 4 ⟨1, 1, false⟩) → Calls Try.prog 19 #[.pointer (some ⟨vb, 0, none⟩)] w2 fun e w' => e = .returned (.int .i64 3) ∧ ∃ q, w' = w2.drewN q) := hid fun b vb lb w2 h h2 => vtRoom_any h h2 (by decide) (by decide)
  clear hs0 hs1 hs2 hs3 e1 e2 e3 a1 a2 a3 a4 a5 a6 a7 a8 a9
  have kc := fun (w : World) (C : Array Value) (n c : Nat) => Lib.run_convert_bytes_const (P := Try.prog) w 23 5 C n c Try.underlying23 Try.underlying5
  unfold ApV at CA CF
  simp only at CA CF
  go_enter Try.func6, Try.ntmps6
  go_wp2_with (first
    | (go_at_call 8; refine CN.out.mono ?_; rintro e w1 ⟨b, rfl, hd, hb1⟩; have B1 := hid hb1; have CO1 := hid (CO.out b w1 hd hb1); clear hd hb1)
    | (go_at_call 9; refine CO1.out.mono ?_; rintro e w2 ⟨vb, lb, V, rfl, q1, q2, q3, q4, q5, q6, q7⟩; have B2 := hid (B1.out.trans q7); have HVB := hid (Nat.le_trans B1.out.size q1); have HLB := hid (Nat.le_trans B1.out.size q2); have CS2 := hid (CSP.out b vb lb w2 q3); have CA2 := hid (CA.out b vb lb w2 q5 B2.out HVB.out HLB.out q3 q4); clear q1 q2 q3 q4 q5 q6 q7)
    | (go_at_call 20; refine CS2.out.mono ?_; rintro e wq ⟨rfl, rfl⟩)
    | (go_at_call 11; refine CA2.out.mono ?_; rintro e w3 ⟨rfl, h1, h2, h3, h4, h5⟩; have B3 := hid ((B2.out.alloc B2.out.size (.cells #[.int .u8 97] 5 (1, 2))).trans h5); have CF3 := hid (CF.out b vb lb w3 h1 B3.out HVB.out HLB.out h3 h2); clear h1 h2 h3 h4 h5)
    | (go_at_call 12; refine CF3.out.mono ?_; rintro e w4 ⟨rfl, h1, h2, h3, h4, h5⟩; have B4 := hid (B3.out.trans h5); have CR4 := hid (CRM.out b vb lb w4 h3 h2); clear h1 h2 h3 h4 h5)
    | (go_at_call 19; refine CR4.out.mono ?_; rintro e w5 ⟨rfl, q5, rfl⟩; have B5 := hid (B4.out.trans ((below_dn q5).mono B4.out.size))))
  go_ret
  exact ⟨rfl, B5.out⟩
end Go.Proofs.Ythfkooancgkjaaa
