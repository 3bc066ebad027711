/-
  What is proved here: serials rise by one, and each value is told till the next one, whatever stands beside.
-/
import Derived.Test.YtjdojnbpchommaaMSlN
import Derived.Test.YtjdojnbpchommaaMDvFuse
import Derived.Test.YtjdojnbpchommaaMDyM
set_option linter.unusedSimpArgs false
set_option linter.unusedVariables false
namespace Go.Proofs.Ytjdojnbpchommaa
open Go.ChangeShapes Go.WideShapes Go.ChangeAt Go.RowKit
set_option linter.unusedVariables false
set_option linter.unusedSimpArgs false
set_option maxRecDepth 20000

theorem Dy.mono {n0 n1 : Nat} {w : World} {b : Nat} {s : SS} (h : Dy n1 w b s) (hn : n0 ≤ n1) : Dy n0 w b s := by
  obtain ⟨R, k1, k2⟩ := h
  exact ⟨R, k1, fun k hk => ⟨Nat.le_trans hn (k2 k hk).1, (k2 k hk).2⟩⟩
theorem same_as {w : World} {X Y : Option Addr} {xs : List Int} {n c d : Nat} (hx : Rp w none X xs) (hy : Rp w none Y xs) (hl : xs.length ≤ 300) (hn : n = xs.length) : Calls Try.prog 23 #[.slice X n c, .slice Y n d] w fun e w' => e = .returned (.bool true) ∧ Below w.heap.size w w' := by
  subst hn
  have := Same_any X Y c d xs xs w hx hy (by omega) (by omega)
  rwa [show decide (xs = xs) = true from decide_eq_true rfl] at this
theorem same_zpg {u : World} {X : Option Addr} {c : Nat} {zb : Array Value} (hz : zb = (u8s zpg).toArray) (hx : Rp u none X zpg) : Calls Try.prog 23 #[.slice X 128 c, .slice (some ⟨u.heap.size, 0, none⟩) 128 128] (u.alloc (.cells zb 5)) fun e w' => e = .returned (.bool true) ∧ Below u.heap.size u w' := by
  subst hz
  have hb : Below u.heap.size u (u.alloc (.cells (u8s zpg).toArray 5)) := (Below.refl _ _).alloc (Nat.le_refl _) _
  exact (same_as (hx.belowN hb) (zb_rp u) (by decide) rfl).mono fun e w' ⟨h1, h2⟩ => ⟨h1, hb.trans (h2.mono hb.size)⟩
/-- the slot at 1 of four pages holds the last of so many values; the others hold noughts -/
def CtM (s : SS) (cnt k : Nat) (v : List Int) : Prop := Cln s 1 cnt v ∧ s.L.length = 4 ∧ s.L[0]?.getD [] = zpg ∧ s.L[3]?.getD [] = zpg ∧ cnt ≤ k
theorem ctm_next {s : SS} {cnt k : Nat} {v u : List Int} (h : CtM s cnt k v) (hk : k ≤ 1000) (hu : u.length ≤ 110) (hb : Bs u) : ∃ s', s.sv 1 u = (0, ((cnt + 1 : Nat) : Int), s') ∧ s'.ld 1 = (0, ((cnt + 1 : Nat) : Int), u) ∧ CtM s' (cnt + 1) (k + 1) u := by
  obtain ⟨h1, h2, h3, h4, h5⟩ := h
  have hs := sv_cln h1 (by omega) hu hb
  refine ⟨_, hs.1, ld_cln hs.2, hs.2, by simp only [List.length_set]; exact h2, ?_, ?_, by omega⟩
  · simp only
    rw [List.getElem?_set_ne (by omega)]; exact h3
  · simp only
    rw [List.getElem?_set_ne (by unfold sd; omega)]; exact h4
set_option maxHeartbeats 8000000 in
theorem scounts_40 (A : Option Addr) (n c : Nat) (L : List (List Int)) (w : World) (hin : InR w A n L) (h40 : n ≤ 40) : Calls Try.prog 5 #[.slice A n c] w fun e w' => e = .returned (.bool true) ∧ Below w.heap.size w w' := by
  obtain ⟨zb, HZB, hmk⟩ := make_128
  obtain ⟨n0, hn0⟩ : ∃ n0, n0 = w.heap.size := ⟨_, rfl⟩
  rw [← hn0]
  have HN0 := hid hn0
  have HIN := hid hin; have H40 := hid h40
  have hn2 : (n : Int) ≤ 40 := by omega
  clear hin hn0 h40
  go_enter Try.func5, Try.ntmps5
  go_wp2_with (first
    | (go_at_call 8; refine (oawake_any _).mono ?_; rintro e w1 ⟨rfl, hb⟩; have B1 := hid (hb.mono (Nat.le_of_eq HN0.out)); have S1 : Hid (n0 ≤ w1.heap.size) := Nat.le_trans (Nat.le_of_eq HN0.out) hb.size; clear hb)
    | (go_at_call 10; refine (Dy.new 4 _ (by decide)).mono ?_; rintro e w3 ⟨b, rfl, hd, hb⟩; have HY3 := hid (hd.mono S1.out); have B3 := hid (B1.out.trans (hb.mono S1.out)); clear hb hd))
  go_loopw [5, 6] (fun nv i wr => ∃ (k cnt : Nat) (s : SS) (v : List Int), k ≤ n ∧ i = .int .i64 k ∧ nv = .int .u64 (cnt : Nat) ∧ Hid (Dy n0 wr b s) ∧ Hid (CtM s cnt k v) ∧ Hid (Below n0 w wr)) (fun _ i _ => n - (intOf i).toNat)
  case atStart => exact ⟨0, 0, _, [], Nat.zero_le _, rfl, rfl, HY3.out, ⟨cln_new 4 1 (by decide), rfl, rfl, rfl, Nat.le_refl _⟩, B3.out⟩
  case round =>
    obtain ⟨k, cnt, s, v, hk, rfl, rfl, HY, HM, BL⟩ := hrel
    clear B1 S1 HY3 B3
    have S4 : Hid (n0 ≤ wr.heap.size) := Nat.le_trans (Nat.le_of_eq HN0.out) BL.out.size
    by_cases hlt : k < n
    · obtain ⟨g, off, rfl, hg, hat⟩ := HIN.out.2.2 (by omega)
      obtain ⟨B, c1, xs, h1, h2, h3, h4, h5, h6⟩ := hat k hlt
      have z0 : wr.cell? ⟨g, off + k, none⟩ = some (.slice B xs.length c1) := (BL.out.cell (by rw [HN0.out]; exact hg)).trans h2
      obtain ⟨m, hm⟩ : ∃ m, m = xs.length := ⟨_, rfl⟩
      rw [← hm] at z0
      have HG : Hid (g < n0) := by show _ < _; rw [HN0.out]; exact hg
      have Z0 := hid z0
      have R0 := hid (h4.belowN (by have := BL.out; rwa [HN0.out] at this) : Rp wr none B xs)
      have HB := hid h3; have HMM := hid hm; have RW := hid h4
      have hk2 : (k : Int) < n := by omega
      clear hat h1 h2 h3 h4 h5 h6 hg
      by_cases c300 : 300 < m
      · have g1 : decide (300 < (m : Int)) = true := decide_eq_true (by omega)
        have g2 : 300 < (m : Int) := by omega
        clear hm
        go_wp2
        go_ret
        exact ⟨rfl, BL.out⟩
      · have g1 : decide (300 < (m : Int)) = false := decide_eq_false (by omega)
        have g2 : ¬ 300 < (m : Int) := by omega
        have hq : s.Q.length < 1000000 := by rw [HM.out.1.q]; decide
        have CS0 := oSave_any HY.out S4.out HM.out.1.bs 1 (by decide) B c1 xs R0.out (by omega) hq
        rw [← hm] at CS0
        by_cases c110 : 110 < m
        · have g3 : decide (110 < (m : Int)) = true := decide_eq_true (by omega)
          have g4 : 110 < (m : Int) := by omega
          rw [sv_long (by omega)] at CS0
          have CS := hid CS0
          clear hm CS0 hq
          go_wp2_with (go_at_call 12; refine CS.out.mono ?_; rintro e w5 ⟨rfl, hlf⟩; have HLF := hid hlf; have y0 : w5.cell? ⟨g, off + k, none⟩ = some (.slice B m c1) := (hlf.2.2.cell HG.out).trans Z0.out; clear hlf)
          go_roundw
          case rel => exact ⟨k + 1, cnt, s, v, by omega, by go_num, rfl, HLF.out.1, ⟨HM.out.1, HM.out.2.1, HM.out.2.2.1, HM.out.2.2.2.1, Nat.le_succ_of_le HM.out.2.2.2.2⟩, BL.out.trans HLF.out.2.2⟩
          case measure => simp [intOf]; omega
        · have g3 : decide (110 < (m : Int)) = false := decide_eq_false (by omega)
          have g4 : ¬ 110 < (m : Int) := by omega
          obtain ⟨s', e1, e2, hm2⟩ := ctm_next HM.out (by have := H40.out; omega) (u := xs) (by omega) HB.out
          rw [e1] at CS0
          have CS := hid CS0
          have CL : Hid (∀ w', Dy n0 w' b s' → Calls Try.prog 21 #[.pointer (some ⟨b, 0, none⟩), .int .i64 1] w' fun e w2 => ∃ V c, e = .returned (.tuple #[.int .u64 ((cnt + 1 : Nat) : Int), .slice V m c, .int .i64 0]) ∧ Fresh w' w2 V xs ∧ Below w'.heap.size w' w2) := fun w' hd => by
            have := oLoad_any hd hm2.1.bs 1 (by decide)
            rw [e2] at this
            unfold LdAns at this
            rw [hm]; exact this
          have HM2 := hid hm2
          have hcnt : (cnt : Int) ≤ 40 := by have := HM.out.2.2.2.2; omega
          have hc1 : ((cnt + 1 : Nat) : Int) = (cnt : Int) + 1 := by omega
          rw [hc1] at CS CL
          have hm300 : xs.length ≤ 300 := by omega
          have HML := hid hm300
          clear hm CS0 hq e1 e2 hm2 hm300
          unfold SvAns at CS
          simp only at CS
          go_wp2_with (first
            | (go_at_call 12; refine CS.out.mono ?_; rintro e w5 ⟨rfl, hlf⟩; have HLF := hid hlf; have y0 : w5.cell? ⟨g, off + k, none⟩ = some (.slice B m c1) := (hlf.2.2.cell HG.out).trans Z0.out; have Y0 := hid y0; have BL5 := hid (BL.out.trans hlf.2.2); have S5 : Hid (n0 ≤ w5.heap.size) := Nat.le_trans S4.out hlf.2.1.sz; clear hlf)
            | (go_at_call 21; refine (CL.out _ HLF.out.1).mono ?_; rintro e w6 ⟨V, cv, rfl, hf, hb⟩; have HY6 := hid (HLF.out.1.below hb); have y6 : w6.cell? ⟨g, off + k, none⟩ = some (.slice B m c1) := (hb.cell (Nat.lt_of_lt_of_le HG.out S5.out)).trans Y0.out; have BL6 := hid (BL5.out.trans (hb.mono S5.out)); have RV := hid hf.rp0; have S6 : Hid (n0 ≤ w6.heap.size) := Nat.le_trans S5.out hb.size; clear hf hb)
            | (go_at_call 23; refine (same_as (xs := xs) RV.out (RW.out.belowN (bel_of BL6.out HN0.out)) HML.out HMM.out).mono ?_; rintro e w7 ⟨rfl, hb⟩; have HY7 := hid (HY6.out.below hb); have BL7 := hid (BL6.out.trans (hb.mono S6.out)); clear hb))
          go_roundw
          case rel => exact ⟨k + 1, cnt + 1, s', xs, by omega, by go_num, by rw [hc1], HY7.out, HM2.out, BL7.out⟩
          case measure => simp [intOf]; omega
    · obtain rfl : k = n := by omega
      have r0 : s.rd 0 = (0, zpg) := by
        have := rd_cln HM.out.1.q HM.out.1.d 0 (by rw [HM.out.2.1]; decide)
        rw [HM.out.2.2.1] at this
        exact this
      have r3 : s.rd 3 = (0, zpg) := by
        have := rd_cln HM.out.1.q HM.out.1.d 3 (by rw [HM.out.2.1]; decide)
        rw [HM.out.2.2.2.1] at this
        exact this
      have C0 := dr_any HY.out 0
      rw [r0] at C0
      have CA := hid C0
      have CB : Hid (∀ w', Below wr.heap.size wr w' → Calls Try.prog 25 #[.pointer (some ⟨b, 0, none⟩), .int .i64 3] w' (RdAns zpg 0 w')) := fun w' hb => by
        have := dr_any (HY.out.below hb) 3
        rw [r3] at this
        exact this
      have HZL : Hid (zpg.length = 128) := by show _ = _; decide
      clear r0 r3 C0
      go_wp2_with (first
        | (go_at_call 25; (with_reducible refine CA.out.mono ?_); rintro e w1 ⟨X, q, cx, rfl, rfl, hf, hb⟩; rw [HZL.out]; have B1 := hid hb; have C2 := hid (CB.out w1 hb); have R1 := hid hf.rp0; clear hf hb)
        | (go_at_call 25; refine C2.out.mono ?_; rintro e w2 ⟨X2, q2, cx2, rfl, rfl, hf2, hb2⟩; rw [HZL.out]; have B2 := hid (B1.out.trans (hb2.mono B1.out.size)); have R2 := hid (R1.out.belowN hb2); have R2' := hid hf2.rp0; have C3 := hid (same_zpg (c := cx) HZB.out R2.out); clear hf2 hb2)
        | (go_at_call 23; (with_reducible refine C3.out.mono ?_); rintro e w3 ⟨rfl, hb3⟩; have B3 := hid (B2.out.trans (hb3.mono B2.out.size)); have C4 := hid (same_zpg (c := cx2) HZB.out (R2'.out.belowN hb3)); clear hb3)
        | (go_at_call 23; refine C4.out.mono ?_; rintro e w4 ⟨rfl, hb4⟩; have B4 := hid (B3.out.trans (hb4.mono B3.out.size)); clear hb4))
      go_ret
      exact ⟨rfl, BL.out.trans (B4.out.mono S4.out)⟩
theorem scounts_walk (A : Option Addr) (n c : Nat) (L : List (List Int)) (w : World) (hin : InR w A n L) : Calls Try.prog 5 #[.slice A n c] w fun e w' => e = .returned (.bool true) ∧ Below w.heap.size w w' := by
  by_cases h40 : n ≤ 40
  · exact scounts_40 A n c L w hin h40
  · have hm := hin.2.1
    have g1 : decide (40 < (n : Int)) = true := decide_eq_true (by omega)
    have g2 : 40 < (n : Int) := by omega
    clear h40 hin
    go_enter Try.func5, Try.ntmps5
    go_wp2_with (first
      | (go_at_call 8; (with_reducible refine (oawake_any w).mono ?_); rintro e w1 ⟨rfl, hb⟩; have B1 := hid hb; clear hb)
      | (go_at_call 8; refine (oawake_any _).mono ?_; rintro e w2 ⟨rfl, hb⟩; have B2 := hid (B1.out.trans (hb.mono B1.out.size)); clear hb))
    go_ret
    exact ⟨rfl, B2.out⟩
end Go.Proofs.Ytjdojnbpchommaa
