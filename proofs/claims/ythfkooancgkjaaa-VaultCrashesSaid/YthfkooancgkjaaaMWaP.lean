/-
  What is proved here: a record that is put behind the others; letting all last.
-/
import Derived.Test.YthfkooancgkjaaaMWaC
set_option linter.unusedSimpArgs false
set_option linter.unusedVariables false
namespace Go.Proofs.Ythfkooancgkjaaa
open Go.ChangeShapes Go.WideShapes Go.ChangeAt Go.RowKit
set_option linter.unusedVariables false
set_option linter.unusedSimpArgs false
set_option maxRecDepth 20000

theorem wFlush_any {n0 : Nat} {w : World} {b : Nat} {s : SS} (hD : Dy n0 w b s) (hn : n0 ≤ w.heap.size) (lb a c : Nat) (l : LS) (hlb : n0 ≤ lb) (hl : Blk w lb 90 (lgC b a c l)) :
    Calls Try.prog 29 #[.pointer (some ⟨lb, 0, none⟩)] w (ApA n0 b lb a c (s.lf l) w) := by
  have c0 : w.cell? ⟨lb, 0, none⟩ = some (.pointer (some ⟨b, 0, none⟩)) := hl.cell 0
  have c5 : w.cell? ⟨lb, 5, none⟩ = some (.bool l.o) := hl.cell 5
  by_cases ho : l.o = true
  · rw [ho] at c5
    have H : Hid (ApA n0 b lb a c (s.lf l) w (.returned (.int .i64 6)) w) := by
      show ApA _ _ _ _ _ _ _ _ _
      unfold SS.lf
      rw [if_pos ho]
      exact ⟨rfl, hD, hl, Kx.below (Below.refl _ _), Below.refl _ _⟩
    clear hD hl ho
    go_enter Try.func29, Try.ntmps29
    go_wp2
    go_ret
    exact H.out
  · have ho' : l.o = false := by simpa using ho
    rw [ho'] at c5
    have e : s.lf l = (s.fl.1, s.fl.2, ⟨l.g, l.n, decide (s.fl.1 = 6)⟩) := by unfold SS.lf; rw [if_neg ho]
    rw [e]
    have CF := hid (df_any hD hn)
    have HL := hid hl
    have HO := hid ho'
    obtain ⟨r, hr⟩ : ∃ r, r = s.fl.1 := ⟨_, rfl⟩
    rw [← hr] at CF ⊢
    clear hD hl ho ho' hr e
    go_enter Try.func29, Try.ntmps29
    go_wp2_with (first
      | (go_at_call 49; refine CF.out.mono ?_; rintro e w1 ⟨rfl, hlf⟩; have HLF := hid hlf; have CR := hid (wrefuse_any lb b a c l r w1 (hlf.2.1.blk HL.out (by decide)) HO.out); clear hlf)
      | (go_at_call 48; refine CR.out.mono ?_; rintro e w2 ⟨rfl, hb2, ho2⟩; have HB2 := hid hb2; have HO2 := hid ho2; clear hb2 ho2))
    go_ret
    have hl1 := HLF.out.2.1.blk HL.out (by decide)
    exact ⟨rfl, HLF.out.1.log HO2.out hl1, HB2.out, (Kx.of HLF.out.2.1).trans (Kx.log HO2.out hl1), HLF.out.2.2.trans (HO2.out.below (Nat.le_trans hn HLF.out.2.2.size) (fun k hk => by omega))⟩
/-- within Append: k pages are written -/
structure ApI (n0 b lb a c : Nat) (l : LS) (ps : List (List Int)) (B : Option Addr) (xs : List Int) (w : World) (s : SS) (k : Nat) (sk : SS) (wr : World) : Prop where
  dy : Dy n0 wr b sk
  lg : Blk wr lb 90 (lgC b a c l)
  kx : Kx w wr
  be : Below n0 w wr
  ap : apw s (a + l.n) ps = apw sk (a + l.n + k) (ps.drop k)
  ql : sk.Q.length ≤ s.Q.length + k
  rq : k < ps.length → Rp wr none B xs ∧ (110 < xs.length → Src n0 wr B xs)
theorem ApI.below {n0 b lb a c : Nat} {l : LS} {ps : List (List Int)} {B : Option Addr} {xs : List Int} {w : World} {s : SS} {k : Nat} {sk : SS} {wr w' : World} (h : ApI n0 b lb a c l ps B xs w s k sk wr) (hb : Below wr.heap.size wr w') (hn : n0 ≤ wr.heap.size) : ApI n0 b lb a c l ps B xs w s k sk w' :=
  ⟨h.dy.below hb, h.lg.below hb, h.kx.trans (Kx.below hb), h.be.trans (hb.mono hn), h.ap, h.ql, fun hk => ⟨(h.rq hk).1.belowN hb, fun h110 => (RqL.keep ⟨(h.rq hk).1, (h.rq hk).2 h110⟩ (Kx.below hb).u8 (hb.mono hn)).2⟩⟩
theorem ApI.next {n0 b lb a c : Nat} {l : LS} {ps : List (List Int)} {B : Option Addr} {xs : List Int} {w : World} {s : SS} {k : Nat} {sk : SS} {wr w' : World} (h : ApI n0 b lb a c l ps B xs w s k sk wr) (hk : k < ps.length) (hN : ps.length = np xs.length) {ix : Int} (hix : ix = ((a + l.n + k : Nat) : Int)) {X : List Int} (hX : X = ps[k]?.getD []) {r : Int} (hr : r = (sk.wr ix X).1)
    (hl : Lf n0 b (sk.wr ix X).2 wr w') : (r = 0 → ApI n0 b lb a c l ps B xs w s (k + 1) (sk.wr ix X).2 w') ∧ (r ≠ 0 → apw s (a + l.n) ps = sk.wr ix X ∧ Blk w' lb 90 (lgC b a c l) ∧ Kx w w' ∧ Below n0 w w' ∧ Dy n0 w' b (sk.wr ix X).2) := by
  have h1 := apw_next sk (a + l.n + k) ps hk
  rw [← hix, ← hX] at h1
  have h2 := sk.wr_len ix X
  have hlg := hl.2.1.blk h.lg (by decide)
  have hkx := h.kx.trans (Kx.of hl.2.1)
  have hbe := h.be.trans hl.2.2
  refine ⟨fun h0 => ⟨hl.1, hlg, hkx, hbe, ?_, ?_, fun hk2 => ?_⟩, fun h0 => ⟨?_, hlg, hkx, hbe, hl.1⟩⟩
  · rw [h.ap, h1, if_neg (by rw [← hr]; simpa using h0)]
    rfl
  · have := h.ql; omega
  · have h110 : 110 < xs.length := by rw [hN] at hk2; unfold np at hk2; omega
    have := RqL.keep ⟨(h.rq hk).1, (h.rq hk).2 h110⟩ (Kx.of hl.2.1).u8 hl.2.2
    exact ⟨this.1, fun _ => this.2⟩
  · rw [h.ap, h1, if_pos (by rw [← hr]; exact h0)]
theorem dw_blk {n0 : Nat} {w : World} {b : Nat} {s : SS} (h : Dy n0 w b s) (hn : n0 ≤ w.heap.size) (i : Int) (gb : Nat) (X : List Int) (hb : Blk w gb 5 (u8s X).toArray) (hX : X.length = 128) (hQ : s.Q.length < 1000000) (r : Int) (hr : r = (s.wr i X).1) :
    Calls Try.prog 45 #[.pointer (some ⟨b, 0, none⟩), .int .i64 i, .slice (some ⟨gb, 0, none⟩) 128 128] w fun e w' => e = .returned (.int .i64 r) ∧ Lf n0 b (s.wr i X).2 w w' := by
  have hr1 : Rp w none (some ⟨gb, 0, none⟩) X := fun hx => ⟨_, rfl, (fun ⟨a, e, _⟩ => by cases e), (fun j hj => by
    rw [Addr.add_lit, Nat.zero_add, hb.cell, List.getElem?_toArray, u8s_get _ _ hj])⟩
  have := dw_src h hn i (some ⟨gb, 0, none⟩) 128 X hr1 (fun _ a e => by injection e with e; subst e; exact .inr ⟨_, hb⟩) (by omega) hQ
  rw [hX, ← hr] at this
  exact this
theorem lg_used {wr : World} {lb b a c u N : Nat} {l : LS} (h : Blk wr lb 90 (lgC b a c l)) (ho : l.o = false) : Blk (wr.setCell ⟨lb, 3, none⟩ (.int .i64 ((u : Int) + (N : Int)))) lb 90 (lgC b a c ⟨l.g, u + N, false⟩) := by
  have := h.setd 3 (.int .i64 ((u : Int) + (N : Int)))
  unfold lgC at this ⊢
  rw [ho] at this
  exact this
theorem minm_run (x y : Int) (w : World) : Sem.run Try.prog (Builtin.min_ #[3, 3] 3 #[.int .i64 x, .int .i64 y]) w = .ok (.int .i64 (min x y)) w := by
  have e : min x y = if y < x then y else x := by split <;> omega
  rw [e]
  go_simp
  try split <;> rfl
set_option maxHeartbeats 8000000 in
theorem wAppend_any {n0 : Nat} {w : World} {b : Nat} {s : SS} (hD : Dy n0 w b s) (hn : n0 ≤ w.heap.size) (lb a c : Nat) (l : LS) (hlb : n0 ≤ lb) (hl : Blk w lb 90 (lgC b a c l)) (hc : c ≤ 4096) (ha : a ≤ 4096) (hu : l.n ≤ c) (hg : 0 ≤ l.g ∧ l.g < 4294967296)
    (B : Option Addr) (m cx : Nat) (xs : List Int) (hm : m = xs.length) (hr : Rp w none B xs) (hr2 : 110 < m → Src n0 w B xs) (hmc : m ≤ cx) (hmb : m ≤ 9223372036854775807) (hQ : s.Q.length < 900000) :
    Calls Try.prog 28 #[.pointer (some ⟨lb, 0, none⟩), .slice B m cx] w (ApA n0 b lb a c (s.ap a c l xs) w) := by
  have c5 : w.cell? ⟨lb, 5, none⟩ = some (.bool l.o) := hl.cell 5
  have HSAME : Hid (∀ (r : Int) w', Below w.heap.size w w' → ApA n0 b lb a c (r, s, l) w (.returned (.int .i64 r)) w') := hid fun r w' hb => ⟨rfl, hD.below hb, hl.below hb, Kx.below hb, hb.mono hn⟩
  by_cases ho : l.o = true
  · rw [ho] at c5
    have e : s.ap a c l xs = (6, s, l) := by unfold SS.ap; rw [if_pos ho]
    rw [e]
    clear hD hl ho e hr hr2
    go_enter Try.func28, Try.ntmps28
    go_wp2
    go_ret
    exact HSAME.out 6 w (Below.refl _ _)
  have ho' : l.o = false := by simpa using ho
  rw [ho'] at c5
  by_cases h6 : 6000 < m
  · have b6 : (6000 : Int) < (m : Int) := by omega
    have e : s.ap a c l xs = (3, s, l) := by unfold SS.ap; rw [if_neg ho, if_pos (by omega)]
    rw [e]
    clear hD hl ho e hr hr2
    go_enter Try.func28, Try.ntmps28
    go_wp2
    go_ret
    exact HSAME.out 3 w (Below.refl _ _)
  have b6 : ¬ (6000 : Int) < (m : Int) := by omega
  obtain ⟨N, hN⟩ : ∃ N, N = np m := ⟨_, rfl⟩
  have hNb : 1 ≤ N ∧ N ≤ 55 := by rw [hN]; exact np_max m (by omega)
  have hcl : (cut xs).length = N := by rw [cut_len, ← hm, hN]
  have CPT := hid (wparts_any m w (by omega))
  rw [← hN] at CPT
  have CRM := hid (wroom_any lb b a c l w hl (by omega) hu)
  obtain ⟨u, huu⟩ : ∃ u, u = l.n := ⟨_, rfl⟩
  rw [← huu] at CRM hu
  by_cases hful : c < u + N
  · have b7 : (c : Int) - (u : Int) < (N : Int) := by omega
    have e : s.ap a c l xs = (5, s, l) := by unfold SS.ap; rw [if_neg ho, if_neg (by omega), if_pos (by rw [hcl, ← huu]; exact hful)]
    rw [e]
    clear hD hl ho e hr hr2 hN hNb hcl huu hm hu hful hQ hg
    go_enter Try.func28, Try.ntmps28
    go_wp2_with (first
      | (go_at_call 30; refine CPT.out.mono ?_; rintro e w1 ⟨rfl, rfl⟩)
      | (go_at_call 34; refine CRM.out.mono ?_; rintro e w2 ⟨rfl, q2, rfl⟩))
    go_ret
    exact HSAME.out 5 _ (below_dn q2)
  have b7 : ¬ (c : Int) - (u : Int) < (N : Int) := by omega
  obtain ⟨ps, hps⟩ : ∃ ps, ps = rpg l.g l.n true (cut xs) := ⟨_, rfl⟩
  have e : s.ap a c l xs = if (apw s (a + l.n) ps).1 = 0 then (0, (apw s (a + l.n) ps).2, ⟨l.g, u + N, false⟩) else ((apw s (a + l.n) ps).1, (apw s (a + l.n) ps).2, ⟨l.g, l.n, decide ((apw s (a + l.n) ps).1 = 6)⟩) := by
    unfold SS.ap
    rw [if_neg ho, if_neg (by omega), if_neg (by rw [hcl, ← huu]; exact hful), ← hps, hcl, huu]
  obtain ⟨YY, hYY⟩ : ∃ Y, Y = s.ap a c l xs := ⟨_, rfl⟩
  rw [← hYY]
  rw [e] at hYY
  have HYY := hid hYY
  clear hYY
  have hpl : ps.length = N := by rw [hps, rpg_len, hcl]
  have PAT : Hid (∀ k, k < N → ps[k]?.getD [] = wpg l.g ((u : Int) + (k : Int) + 1) (kdI k N) ((xs.drop (110 * k)).take 110)) := hid fun k hk => by
    rw [hps, rpg_cut l.g xs l.n k (by rw [← hm, ← hN]; exact hk), ← hm, ← hN, ← huu]
    congr 1
  have NUM : Hid (∀ k, k < N → 110 * k ≤ m ∧ ((k + 1) * 110 ≤ m ∨ k + 1 = N)) := hid fun k hk => by rw [hN] at hk ⊢; unfold np at hk ⊢; omega
  have HI0 : Hid (∀ q, ApI n0 b lb a c l ps B xs w s 0 s (w.drewN q)) := hid fun q => ⟨hD.below (below_dn q), hl.below (below_dn q), Kx.below (below_dn q), (below_dn q).mono hn, rfl, Nat.le_refl _, fun _ => ⟨hr.belowN (below_dn q), fun h110 => (RqL.keep (w' := w.drewN q) ⟨hr, hr2 (by omega)⟩ (fun g cs hg => rfl) ((below_dn q).mono hn)).2⟩⟩
  have HO := hid ho'
  have HM := hid hm
  have HPL := hid hpl
  have HNP : Hid (ps.length = np xs.length) := by show _ = _; rw [hpl, hN, hm]
  have HU := hid huu
  have HN0 := hid hn
  have HLB := hid hlb
  have HG := hid hg
  have HQ := hid hQ
  clear hD hl ho ho' e hr hr2 hps hpl hcl hm huu hN hn hlb hg hQ HSAME
  have cN : IntKind.i64.wrap (N : Int) = (N : Int) := IntWalk.i64_in _ (by omega)
  go_enter Try.func28, Try.ntmps28
  go_wp2_with (first
    | (go_at_call 30; refine CPT.out.mono ?_; rintro e w1 ⟨rfl, rfl⟩)
    | (go_at_call 34; refine CRM.out.mono ?_; rintro e w2 ⟨rfl, q2, rfl⟩))
  have HI := hid (HI0.out q2)
  clear HI0 CPT CRM b6 b7
  generalize w.drewN q2 = wq at HI ⊢
  go_loopg [29] N (fun g s29 wr => ∃ (k : Nat) (sk : SS), k + g = N ∧ s29 = .int .i64 k ∧ Hid (ApI n0 b lb a c l ps B xs w s k sk wr))
  case atStart => exact ⟨0, s, by omega, rfl, HI⟩
  case round =>
    clear HI
    obtain ⟨k, sk, hkg, rfl, HI⟩ := hrel
    have c3 : wr.cell? ⟨lb, 3, none⟩ = some (.int .i64 u) := by rw [HU.out]; exact HI.out.lg.cell 3
    cases gk with
    | zero =>
      obtain rfl : k = N := by omega
      have f3 : wr.frozen? ⟨lb, 3, none⟩ = false := HI.out.lg.frozen 3
      go_wp2
      go_ret
      have hap : apw s (a + l.n) ps = (0, sk) := by rw [HI.out.ap]; exact apw_end _ _ _ (by rw [HPL.out]; exact Nat.le_refl _)
      rw [hap, if_pos rfl] at HYY
      rw [HYY.out]
      have ho := only_set (R := fun k => k = lb) (w := wr) rfl 3 (.int .i64 ((u : Int) + (k : Int)))
      exact ⟨rfl, HI.out.dy.log ho HI.out.lg, lg_used HI.out.lg HO.out, HI.out.kx.trans (Kx.log ho HI.out.lg), HI.out.be.trans (ho.below (Nat.le_trans HN0.out HI.out.be.size) (fun k hk => by have := HLB.out; omega))⟩
    | succ g =>
      have hk : k < N := by omega
      have hkb : (k : Int) < (N : Int) := by omega
      obtain ⟨nu1, nu2⟩ := NUM.out k hk
      obtain ⟨hi, hhi⟩ : ∃ hi, hi = min ((k + 1) * 110) m := ⟨_, rfl⟩
      have hmn : ∀ w, Sem.run Try.prog (Builtin.min_ #[3, 3] 3 #[.int .i64 (((k : Int) + 1) * 110), .int .i64 (m : Int)]) w = .ok (.int .i64 (hi : Nat)) w := fun w => by
        rw [minm_run]; congr 2; omega
      obtain ⟨mp, hmp⟩ : ∃ mp, hi = 110 * k + mp := ⟨hi - 110 * k, by omega⟩
      have hhm : hi ≤ m := by omega
      have HPA : Hid (mp = ((xs.drop (110 * k)).take 110).length ∧ ((xs.drop (110 * k)).take 110).length ≤ 110) := by
        show _ ∧ _
        rw [List.length_take, List.length_drop, ← HM.out]
        omega
      have c3' := hid c3
      have HK := hid hk
      have e9 : IntKind.i64.wrap ((u : Int) + (k : Int)) = (u : Int) + (k : Int) := IntWalk.i64_in _ (by omega)
      clear nu1 nu2 hhi
      go_wp2_with (refine cutn_at rfl (.tmp 32) (.tmp 34) (.tmp 40) rfl B m cx (110 * k) hi mp _ _ rfl rfl rfl (by omega) (by omega) hmp (by omega) ?_; intro A2 hA2; have HA2 := hid hA2; clear hA2)
      obtain ⟨part, hpart⟩ : ∃ p, p = (xs.drop (110 * k)).take 110 := ⟨_, rfl⟩
      rw [← hpart] at HPA
      have RPW : Hid (Rp wr none A2 part) := by
        show Rp _ _ _ _
        rw [HA2.out, hpart]
        exact rp_part (HI.out.rq (by rw [HPL.out]; exact hk)).1 (by rw [← HM.out]; exact hmc)
      obtain ⟨X, hX⟩ : ∃ X, X = wpg l.g ((u : Int) + (k : Int) + 1) (kdI k N) part := ⟨_, rfl⟩
      have HX0 : Hid (X = ps[k]?.getD []) := by show _ = _; rw [PAT.out k hk, hX, hpart]
      have HX1 : Hid (X.length = 128) := by show _ = _; rw [hX]; exact wpg_len HPA.out.2
      obtain ⟨ix, hix⟩ : ∃ ix, ix = (a : Int) + ((u : Int) + (k : Int)) := ⟨_, rfl⟩
      have HIXQ : Hid (ix = ((a + l.n + k : Nat) : Int)) := by show _ = _; rw [hix, ← HU.out]; omega
      obtain ⟨r, hr⟩ : ∃ r, r = (sk.wr ix X).1 := ⟨_, rfl⟩
      have HR := hid hr
      have CK := hid (fun w => wkind_any k N w (by omega))
      have CPG : Hid (∀ y, Blk y lb 90 (lgC b a c l) → Rp y none A2 part → Calls Try.prog 46 #[.pointer (some ⟨lb, 0, none⟩), .int .i64 ((u : Int) + (k : Int)), .int .i64 (kdI k N), .slice A2 mp (cx - 110 * k)] y fun e w' => ∃ B, e = .returned (.slice B 128 128) ∧ NewB y X B w') := hid fun y h1 h2 => by
        have := wpage_any lb b a c (u + k) l (kdI k N) A2 mp (cx - 110 * k) part y h1 HG.out (by omega) (kdI_bound k N) HPA.out.1 h2 HPA.out.2
        rw [show ((u + k : Nat) : Int) = (u : Int) + (k : Int) from rfl, ← hX] at this
        exact this
      have e10 : IntKind.i64.wrap ((a : Int) + ((u : Int) + (k : Int))) = ix := by rw [hix]; exact IntWalk.i64_in _ (by omega)
      clear hpart hX hr c3 hmn hmp hhm hix
      refine wp_region_held (S := fun w' => Hid ((fun w' => Blk w' lb 90 (lgC b a c l)) w')) (by kernel_rfl) ?_
      change wpAnyH _ _ _ _ _ _ _ _ wr.drew
      have Gx0 : Hid ((fun w' => Blk w' lb 90 (lgC b a c l)) wr.drew) := HI.out.lg.below (below_drew1 _)
      have HIX' : Hid (ApI n0 b lb a c l ps B xs w s k sk wr.drew) := HI.out.below (below_drew1 _) (Nat.le_trans HN0.out HI.out.be.size)
      have RPX' : Hid (Rp wr.drew none A2 part) := RPW.out.belowN (below_drew1 _)
      have HIX := HIX'
      have RPX := RPX'
      clear HIX' RPX'
      generalize wr.drew = x0 at Gx0 HIX RPX ⊢
      refine wpAnyH_take (i := 0) (oi := { dst := some 48, op := _, type := _, pos := _, after := _, guard := _ }) (v := ?_) rfl (by kernel_rfl) (by kernel_rfl) (by kernel_rfl) (fun _ _ _ h => h) (Or.inl ⟨by kernel_rfl, ?_⟩) Gx0 ?_
      rotate_left
      · (intro w hSw; go_simp; try with_reducible rfl)
      try simp only [Act.put, List.setIfInBounds_toArray, List.set_cons_zero, List.set_cons_succ]
      refine wpAnyH_take (i := 1) (oi := { dst := some 49, op := _, type := _, pos := _, after := _, guard := _ }) (v := ?_) rfl (by kernel_rfl) (by kernel_rfl) (by kernel_rfl) (fun _ _ _ h => h) (Or.inl ⟨by kernel_rfl, ?_⟩) Gx0 ?_
      rotate_left
      · (intro w hSw; go_simp; try with_reducible rfl)
      try simp only [Act.put, List.setIfInBounds_toArray, List.set_cons_zero, List.set_cons_succ]
      refine wpAnyH_take (i := 2) (oi := { dst := some 50, op := _, type := _, pos := _, after := _, guard := _ }) (v := ?_) rfl (by kernel_rfl) (by kernel_rfl) (by kernel_rfl) (fun _ _ _ h => h) (Or.inl ⟨by kernel_rfl, ?_⟩) Gx0 ?_
      rotate_left
      · (intro w hSw; go_simp; try with_reducible rfl)
      try simp only [Act.put, List.setIfInBounds_toArray, List.set_cons_zero, List.set_cons_succ]
      refine wpAnyH_take (i := 3) (oi := { dst := some 51, op := _, type := _, pos := _, after := _, guard := _ }) (v := ?_) rfl (by kernel_rfl) (by kernel_rfl) (by kernel_rfl) (fun _ _ _ h => h) (Or.inl ⟨by kernel_rfl, ?_⟩) Gx0 ?_
      rotate_left
      · (intro w hSw; have hc : w.cell? ⟨lb, 0, none⟩ = some (.pointer (some ⟨b, 0, none⟩)) := hSw.out.cell 0; go_simp; try with_reducible rfl)
      try simp only [Act.put, List.setIfInBounds_toArray, List.set_cons_zero, List.set_cons_succ]
      refine wpAnyH_take (i := 4) (oi := { dst := some 52, op := _, type := _, pos := _, after := _, guard := _ }) (v := ?_) rfl (by kernel_rfl) (by kernel_rfl) (by kernel_rfl) (fun _ _ _ h => h) (Or.inl ⟨by kernel_rfl, ?_⟩) Gx0 ?_
      rotate_left
      · (intro w hSw; go_simp; try with_reducible rfl)
      try simp only [Act.put, List.setIfInBounds_toArray, List.set_cons_zero, List.set_cons_succ]
      refine wpAnyH_take (i := 5) (oi := { dst := some 53, op := _, type := _, pos := _, after := _, guard := _ }) (v := ?_) rfl (by kernel_rfl) (by kernel_rfl) (by kernel_rfl) (fun _ _ _ h => h) (Or.inl ⟨by kernel_rfl, ?_⟩) Gx0 ?_
      rotate_left
      · (intro w hSw; go_simp; try with_reducible rfl)
      try simp only [Act.put, List.setIfInBounds_toArray, List.set_cons_zero, List.set_cons_succ]
      refine wpAnyH_take (i := 6) (oi := { dst := some 54, op := _, type := _, pos := _, after := _, guard := _ }) (v := ?_) rfl (by kernel_rfl) (by kernel_rfl) (by kernel_rfl) (fun _ _ _ h => h) (Or.inl ⟨by kernel_rfl, ?_⟩) Gx0 ?_
      rotate_left
      · (intro w hSw; go_simp; try with_reducible rfl)
      try simp only [Act.put, List.setIfInBounds_toArray, List.set_cons_zero, List.set_cons_succ]
      refine wpAnyH_take (i := 7) (oi := { dst := some 55, op := _, type := _, pos := _, after := _, guard := _ }) (v := ?_) rfl (by kernel_rfl) (by kernel_rfl) (by kernel_rfl) (fun _ _ _ h => h) (Or.inl ⟨by kernel_rfl, ?_⟩) Gx0 ?_
      rotate_left
      · (intro w hSw; have hc : w.cell? ⟨lb, 1, none⟩ = some (.int .i64 a) := hSw.out.cell 1; go_simp; try with_reducible rfl)
      try simp only [Act.put, List.setIfInBounds_toArray, List.set_cons_zero, List.set_cons_succ]
      refine wpAnyH_take (i := 8) (oi := { dst := some 56, op := _, type := _, pos := _, after := _, guard := _ }) (v := ?_) rfl (by kernel_rfl) (by kernel_rfl) (by kernel_rfl) (fun _ _ _ h => h) (Or.inl ⟨by kernel_rfl, ?_⟩) Gx0 ?_
      rotate_left
      · (intro w hSw; go_simp; try with_reducible rfl)
      try simp only [Act.put, List.setIfInBounds_toArray, List.set_cons_zero, List.set_cons_succ]
      refine wpAnyH_take (i := 9) (oi := { dst := some 57, op := _, type := _, pos := _, after := _, guard := _ }) (v := ?_) rfl (by kernel_rfl) (by kernel_rfl) (by kernel_rfl) (fun _ _ _ h => h) (Or.inl ⟨by kernel_rfl, ?_⟩) Gx0 ?_
      rotate_left
      · (intro w hSw; go_simp; try with_reducible rfl)
      try simp only [Act.put, List.setIfInBounds_toArray, List.set_cons_zero, List.set_cons_succ]
      refine wpAnyH_take (i := 10) (oi := { dst := some 58, op := _, type := _, pos := _, after := _, guard := _ }) (v := ?_) rfl (by kernel_rfl) (by kernel_rfl) (by kernel_rfl) (fun _ _ _ h => h) (Or.inl ⟨by kernel_rfl, ?_⟩) Gx0 ?_
      rotate_left
      · (intro w hSw; go_simp; try with_reducible rfl)
      try simp only [Act.put, List.setIfInBounds_toArray, List.set_cons_zero, List.set_cons_succ]
      refine wpAnyH_take (i := 11) (oi := { dst := some 59, op := _, type := _, pos := _, after := _, guard := _ }) (v := ?_) rfl (by kernel_rfl) (by kernel_rfl) (by kernel_rfl) (fun _ _ _ h => h) (Or.inl ⟨by kernel_rfl, ?_⟩) Gx0 ?_
      rotate_left
      · (intro w hSw; go_simp; try with_reducible rfl)
      try simp only [Act.put, List.setIfInBounds_toArray, List.set_cons_zero, List.set_cons_succ]
      refine wpAnyH_take (i := 12) (oi := { dst := some 60, op := _, type := _, pos := _, after := _, guard := _ }) (v := ?_) rfl (by kernel_rfl) (by kernel_rfl) (by kernel_rfl) (fun _ _ _ h => h) (Or.inl ⟨by kernel_rfl, ?_⟩) Gx0 ?_
      rotate_left
      · (intro w hSw; go_simp; try with_reducible rfl)
      try simp only [Act.put, List.setIfInBounds_toArray, List.set_cons_zero, List.set_cons_succ]
      refine wpAnyH_take (i := 13) (oi := { dst := some 61, op := _, type := _, pos := _, after := _, guard := _ }) (v := ?_) rfl (by kernel_rfl) (by kernel_rfl) (by kernel_rfl) (fun _ _ _ h => h) (Or.inl ⟨by kernel_rfl, ?_⟩) Gx0 ?_
      rotate_left
      · (intro w hSw; go_simp; try with_reducible rfl)
      try simp only [Act.put, List.setIfInBounds_toArray, List.set_cons_zero, List.set_cons_succ]
      refine wpAnyH_take (i := 15) (oi := { dst := some 63, op := _, type := _, pos := _, after := _, guard := _ }) (v := ?_) rfl (by kernel_rfl) (by kernel_rfl) (by kernel_rfl) (fun _ _ _ h => h) (Or.inl ⟨by kernel_rfl, ?_⟩) Gx0 ?_
      rotate_left
      · (intro w hSw; go_simp; try with_reducible rfl)
      try simp only [Act.put, List.setIfInBounds_toArray, List.set_cons_zero, List.set_cons_succ]
      refine wpAnyH_ready (rs := [14]) (by kernel_rfl) (by simp) ?_
      refine (AllReadyH.cons (o := { dst := some 62, op := _, type := _, pos := _, after := _, guard := _ }) rfl (fun Qc hQc => ?_) AllReadyH.nil)
      go_simp
      go_at_call 47
      refine (CK.out _).mono ?_
      rintro e y ⟨rfl, hy⟩
      subst hy
      go_wp2_with fail
      refine hQc.out _ _ Gx0 (fun hHeld => ?_)
      clear hQc Qc hHeld
      try simp only [Act.put, List.setIfInBounds_toArray, List.set_cons_zero, List.set_cons_succ]
      refine wpAnyH_ready (rs := [16]) (by kernel_rfl) (by simp) ?_
      refine (AllReadyH.cons (o := { dst := some 64, op := _, type := _, pos := _, after := _, guard := _ }) rfl (fun Qc hQc => ?_) AllReadyH.nil)
      go_simp
      go_at_call 46
      refine (CPG.out _ HIX.out.lg RPX.out).mono ?_
      rintro e x1 ⟨B', rfl, hnb⟩
      obtain ⟨gb, rfl, hgb, hbb, hbel⟩ := hnb
      have Gx1 := hid (Gx0.out.below hbel)
      have HIY := hid (HIX.out.below hbel (Nat.le_trans HN0.out HIX.out.be.size))
      have HBB := hid hbb
      clear hgb hbb hbel
      go_wp2_with fail
      refine hQc.out _ _ Gx1 (fun hHeld => ?_)
      clear hQc Qc hHeld Gx0 HIX RPX
      try simp only [Act.put, List.setIfInBounds_toArray, List.set_cons_zero, List.set_cons_succ]
      refine wpAnyH_ready (rs := [17]) (by kernel_rfl) (by simp) ?_
      refine (AllReadyH.cons (o := { dst := some 65, op := _, type := _, pos := _, after := _, guard := _ }) rfl (fun Qc hQc => ?_) AllReadyH.nil)
      go_simp
      go_at_call 45
      refine (dw_blk HIY.out.dy (Nat.le_trans HN0.out HIY.out.be.size) ix gb X HBB.out HX1.out (by have := HIY.out.ql; have := HQ.out; omega) r HR.out).mono ?_
      rintro e x2 ⟨rfl, hlf⟩
      have Gx2 := hid (hlf.2.1.blk Gx1.out (by decide))
      have HNX := hid (HIY.out.next (by rw [HPL.out]; exact HK.out) HNP.out HIXQ.out HX0.out HR.out hlf)
      have SY := hid (Nat.le_trans (Nat.le_trans HN0.out HIY.out.be.size) hlf.2.1.sz)
      clear hlf
      go_wp2_with fail
      refine hQc.out _ _ Gx2 (fun hHeld => ?_)
      clear hQc Qc hHeld Gx1 HIY HBB
      try simp only [Act.put, List.setIfInBounds_toArray, List.set_cons_zero, List.set_cons_succ]
      refine wpAnyH_take (i := 18) (oi := { dst := some 9, op := _, type := _, pos := _, after := _, guard := _ }) (v := ?_) rfl (by kernel_rfl) (by kernel_rfl) (by kernel_rfl) (fun _ _ _ h => h) (Or.inl ⟨by kernel_rfl, ?_⟩) Gx2 ?_
      rotate_left
      · (intro w hSw; go_simp; try with_reducible rfl)
      try simp only [Act.put, List.setIfInBounds_toArray, List.set_cons_zero, List.set_cons_succ]
      refine wpAnyH_done (by kernel_rfl) ?_ _
      try simp only [Act.put, List.setIfInBounds_toArray, List.set_cons_zero, List.set_cons_succ]
      by_cases hr0 : r = 0
      · have gr : (r != 0) = false := by simp [hr0]
        have HIN := hid (HNX.out.1 hr0)
        clear hr0 HNX
        go_wp2
        go_roundg g
        case measure => omega
        case rel => exact ⟨k + 1, (sk.wr ix X).2, by omega, by go_num, HIN⟩
      · have gr : (r != 0) = true := by simpa using hr0
        obtain ⟨t1, t2, t3, t4, t5⟩ := HNX.out.2 hr0
        have T1 := hid t1; have T3 := hid t3; have T4 := hid t4; have T5 := hid t5; have T2 := hid t2
        have CRF := hid (wrefuse_any lb b a c l r x2 t2 HO.out)
        have HR0 := hid hr0
        clear t1 t2 t3 t4 t5 hr0 HNX
        go_wp2_with (go_at_call 48; refine CRF.out.mono ?_; rintro e wf ⟨rfl, hb2, ho2⟩; have HB2 := hid hb2; have HO2 := hid ho2; clear hb2 ho2)
        go_ret
        rw [T1.out, if_neg (by rw [← HR.out]; exact HR0.out), ← HR.out] at HYY
        rw [HYY.out]
        exact ⟨rfl, T5.out.log HO2.out T2.out, HB2.out, T3.out.trans (Kx.log HO2.out T2.out), T4.out.trans (HO2.out.below SY.out (fun k hk => by have := HLB.out; omega))⟩
end Go.Proofs.Ythfkooancgkjaaa
