/-
  Whatever is taken from whatever bytes, each answer, and what is left, is the chapter's; a reader that fails once takes nothing more: the statement of the kit, for all bytes and every list of fields that can be read as data.
-/
import Derived.Test.YtmdclicomneomaaReads0
import Derived.Test.YtmdclicomneomaaSmall
import Derived.Test.YtmdclicomneomaaSameQ
import Derived.BigQuiet
import Derived.Deep.QuietTactic
namespace Go.Proofs.Ytmdclicomneomaa
open Go.ChangeShapes Go.WideShapes Go.ChangeAt Go.RowKit
set_option linter.unusedVariables false

theorem InL.bs {w : World} {A : Option Addr} {n : Nat} {l : List (Int × Int × List Int)} (h : InL w A n l) : ∀ f ∈ l, Bs f.2.2 := by
  intro f hf
  obtain ⟨i, hi⟩ := List.mem_iff_getElem?.1 hf
  have hlt : i < l.length := by
    rcases Nat.lt_or_ge i l.length with h1 | h1
    · exact h1
    · rw [List.getElem?_eq_none h1] at hi; cases hi
  have hl := h.1
  obtain ⟨b, o, _, _, hat⟩ := h.at_ (by omega)
  obtain ⟨k, x, bb, B, c, h1, _, _, h4, _⟩ := hat i (by omega)
  rw [hi] at h1
  injection h1 with h1
  subst h1
  exact h4

/-- what is left lies outside the reader -/
theorem off_reader {w : World} {r : Nat} {st : RS} {A : Option Addr} {xs : List Int} (hr : RRep w (some ⟨r, 0, none⟩) st) (h : Rp w none A xs) : Rp w (some ⟨r, 0, none⟩) A xs := by
  cases st with
  | none => cases hr
  | got f l =>
    obtain ⟨b, B, c, e, h1, _⟩ := hr
    injection e with e
    injection e with e
    subst e
    exact h.off h1 (reader_cells _ _ _ _)
theorem below_drewN {B : Nat} {a w : World} (h : Below B a w) (n : Nat) : Below B a (w.drewN n) := ⟨h.os, h.tape, h.output, h.size, h.block⟩
theorem tkR_rest {b : List Int} {k most X : Int} {ys rest : List Int} (h : tkR b k most = some (X, ys, rest)) (hb : Bs b) : rest.length ≤ b.length ∧ Bs rest ∧ ys.length ≤ b.length := by
  unfold tkR at h
  simp only at h
  repeat' split at h
  all_goals first | (cases h; done) | skip
  all_goals
    injection h with h
    injection h with h1 h2
    injection h2 with h2 h3
    subst h2; subst h3
    simp only [List.length_drop, List.length_take, List.length_nil]
    refine ⟨by omega, ?_, by omega⟩
    first | exact hb.drop _ | exact (hb.drop _).drop _

set_option maxRecDepth 5000 in
set_option maxHeartbeats 2000000 in
theorem reads_few (A0 A : Option Addr) (m c0 n c : Nat) (xs : List Int) (l : List (Int × Int × List Int)) (w : World) (h0 : InB w A0 m c0 xs) (h : InL w A n l) (hf : (few l 60 && sm l && decide (m ≤ 9000)) = false) :
    Calls Try.prog 4 #[.slice A0 m c0, .slice A n c] w fun e w' => e = .returned (.bool true) ∧ Below w.heap.size w w' := by
  have H := hid h
  have hm := h0.2.1
  clear h h0
  cases hf1 : few l 60 with
  | false =>
    have tok1 : True := trivial
    clear hf
    go_enter Try.func4, Try.ntmps4
    go_wp2_with (first
      | (go_at_call 9; have _t := tok1; refine (awake_any _).mono ?_; rintro e w1 ⟨rfl, hb1⟩; have HB1 := hid hb1; clear tok1 hb1)
      | (go_at_call 10; refine (Few_any A n c l 60 _ (H.out.below HB1.out) (by omega)).mono ?_; rintro e w2 ⟨rfl, rfl⟩)
      | (go_at_call 9; refine (awake_any _).mono ?_; rintro e w2 ⟨rfl, hb2⟩; have HB2 := hid (HB1.out.trans (hb2.mono HB1.out.size)); clear hb2))
    go_ret
    exact ⟨rfl, HB2.out⟩
  | true =>
    rw [hf1] at hf
    cases hf2 : sm l with
    | false =>
      have tok1 : True := trivial
      clear hf
      go_enter Try.func4, Try.ntmps4
      go_wp2_with (first
        | (go_at_call 9; have _t := tok1; refine (awake_any _).mono ?_; rintro e w1 ⟨rfl, hb1⟩; have HB1 := hid hb1; clear tok1 hb1)
        | (go_at_call 10; refine (Few_any A n c l 60 _ (H.out.below HB1.out) (by omega)).mono ?_; rintro e w2 ⟨rfl, rfl⟩)
        | (go_at_call 11; refine (small_any A n c l _ (H.out.below HB1.out)).mono ?_; rintro e w2 ⟨rfl, rfl⟩)
        | (go_at_call 9; refine (awake_any _).mono ?_; rintro e w2 ⟨rfl, hb2⟩; have HB2 := hid (HB1.out.trans (hb2.mono HB1.out.size)); clear hb2))
      go_ret
      exact ⟨rfl, HB2.out⟩
    | true =>
      rw [hf2] at hf
      have hm2 : 9000 < m := by simpa using hf
      have tok1 : True := trivial
      clear hf
      go_enter Try.func4, Try.ntmps4
      go_wp2_with (first
        | (go_at_call 9; have _t := tok1; refine (awake_any _).mono ?_; rintro e w1 ⟨rfl, hb1⟩; have HB1 := hid hb1; clear tok1 hb1)
        | (go_at_call 10; refine (Few_any A n c l 60 _ (H.out.below HB1.out) (by omega)).mono ?_; rintro e w2 ⟨rfl, rfl⟩)
        | (go_at_call 11; refine (small_any A n c l _ (H.out.below HB1.out)).mono ?_; rintro e w2 ⟨rfl, rfl⟩)
        | (go_at_call 9; refine (awake_any _).mono ?_; rintro e w2 ⟨rfl, hb2⟩; have HB2 := hid (HB1.out.trans (hb2.mono HB1.out.size)); clear hb2))
      go_ret
      exact ⟨rfl, HB2.out⟩

set_option maxRecDepth 5000 in
set_option maxHeartbeats 4000000 in
theorem reads_good (A0 A : Option Addr) (m c0 n c : Nat) (xs : List Int) (l : List (Int × Int × List Int)) (w : World) (h0 : InB w A0 m c0 xs) (hmc : m ≤ c0) (h : InL w A n l) (hf1 : few l 60 = true) (hf2 : sm l = true) (hm : m ≤ 9000) :
    Calls Try.prog 4 #[.slice A0 m c0, .slice A n c] w fun e w' => e = .returned (.bool true) ∧ Below w.heap.size w w' := by
  obtain ⟨hl, hs⟩ := few_all hf1 (by omega)
  have HSM := hid (sm_all hf2)
  have hn : n ≤ 60 := by have := h.1; omega
  have H := hid h
  obtain ⟨hxl, _, hxb, hxr⟩ := h0
  have HXL := hid hxl; have HXB := hid hxb; have HXR := hid hxr
  have HNEW := hid (fun (w1 : World) (hb : Below w.heap.size w w1) => New_any A0 c0 xs w1 (hxr.same fun k hk _ => hb.block k hk) (by omega) hxb)
  rw [hxl] at HNEW
  clear h hs hl hxl hxb hxr
  go_enter Try.func4, Try.ntmps4
  go_wp2_with (first
    | (go_at_call 9; refine (awake_any _).mono ?_; rintro e w1 ⟨rfl, hb1⟩; have HB1 := hid hb1; clear hb1)
    | (go_at_call 10; refine (Few_any A n c l 60 _ (H.out.below HB1.out) (by omega)).mono ?_; rintro e w2 ⟨rfl, rfl⟩)
    | (go_at_call 11; refine (small_any A n c l _ (H.out.below HB1.out)).mono ?_; rintro e w2 ⟨rfl, rfl⟩)
    | (go_at_call 16; refine (HNEW.out _ HB1.out).mono ?_; rintro e w6 ⟨r, rfl, hr6, hrep6, hb6⟩; have HR6 := hid hr6; have HREP6 := hid hrep6; have HB6 := hid (HB1.out.trans (hb6.mono HB1.out.size)); clear hr6 hrep6 hb6))
  have HOFR : Hid (∀ k, Of (some ⟨r, 0, none⟩) k → w.heap.size ≤ k) := by
    have h1 := HR6.out; have h2 := HB1.out.size
    rintro k ⟨a, ha, rfl⟩; injection ha with ha; subst ha; show _ ≤ r; omega
  have hfr : Rp w6 (some ⟨r, 0, none⟩) A0 xs := off_reader HREP6.out (HXR.out.same fun k hk _ => HB6.out.block k hk)
  have HFR := hid hfr
  clear hfr HNEW
  go_loopw [6, 7, 8] (fun s f i wr => ∃ (k : Nat) (fl : Bool) (rs : List Int) (q : Nat) (Ar : Option Addr) (cr : Nat), k ≤ n ∧ i = .int .i64 k ∧ f = .bool fl ∧ Hid (q = rs.length) ∧ s = .slice Ar q cr ∧ RRep wr (some ⟨r, 0, none⟩) (.got fl rs) ∧ Rp wr (some ⟨r, 0, none⟩) Ar rs ∧ Bs rs ∧ q ≤ cr ∧ q ≤ 9000 ∧ Below w.heap.size w wr) (fun _ _ i _ => n - (intOf i).toNat)
  case atStart => exact ⟨0, false, xs, m, A0, c0, by omega, rfl, rfl, HXL.out.symm, rfl, HREP6.out, HFR.out, HXB.out, hmc, hm, HB6.out⟩
  case round =>
    obtain ⟨k, fl, rs, q, Ar, cr, hk, rfl, rfl, HQ, rfl, hrep, hrp, hbs, hqc, hq, hbl⟩ := hrel
    have HREP := hid hrep; have HRP := hid hrp; have HBS := hid hbs; have HBL := hid hbl
    clear hrep hrp hbs hbl HREP6 HFR HB6
    by_cases hlt : k < n
    · obtain ⟨b, o, rfl, hblt, hfat⟩ := H.out.at_ (by omega)
      obtain ⟨kk, x, bb, B, cc, q1, q2, q3, q4, q5, q6, q7, q8, q9⟩ := (hfat k hlt)
      have hmem := List.mem_of_getElem? q1
      have hsx : x ≤ 4611686018427387904 ∨ kk = 4 := HSM.out _ hmem
      have HC0 : Hid (∀ w3, Below w.heap.size w w3 → ∀ j, w3.cell? ⟨b, j, none⟩ = w.cell? ⟨b, j, none⟩) := fun w3 h3 j => h3.cell hblt
      have d0 := (HC0.out wr HBL.out _).trans q7
      have d1 := (HC0.out wr HBL.out _).trans q8
      have d2 := (HC0.out wr HBL.out _).trans q9
      have Q2 := hid q2; have Q3 := hid q3; have HSX := hid hsx; have HBLT := hid hblt
      clear hmem q1 q2 q3 q4 q5 q6 q7 q8 q9 hfat hsx hblt
      by_cases hk1 : kk < 1
      · go_wp2
        go_roundw
        case rel => exact ⟨k + 1, fl, rs, q, Ar, cr, by omega, by go_num, rfl, HQ, rfl, HREP.out.below ((Below.refl _ _).alloc (Nat.le_refl _) _), HRP.out.same (fun k hk _ => Below.heap_alloc wr _ k hk), HBS.out, hqc, hq, HBL.out.alloc HBL.out.size _⟩
        case measure => simp [intOf]; omega
      by_cases hk8 : 8 < kk
      · go_wp2
        go_roundw
        case rel => exact ⟨k + 1, fl, rs, q, Ar, cr, by omega, by go_num, rfl, HQ, rfl, HREP.out.below ((Below.refl _ _).alloc (Nat.le_refl _) _), HRP.out.same (fun k hk _ => Below.heap_alloc wr _ k hk), HBS.out, hqc, hq, HBL.out.alloc HBL.out.size _⟩
        case measure => simp [intOf]; omega
      have hkk1 : 1 ≤ kk := by omega
      have hkk8 : kk ≤ 8 := by omega
      clear hk1 hk8
      have hro : RRep (wr.alloc (.cells #[.int .i64 kk, .int .u64 x, .slice B bb.length cc] 35)) (some ⟨r, 0, none⟩) (.got fl rs) := HREP.out.below ((Below.refl _ _).alloc (Nat.le_refl _) _)
      have hrpo : Rp (wr.alloc (.cells #[.int .i64 kk, .int .u64 x, .slice B bb.length cc] 35)) (some ⟨r, 0, none⟩) Ar rs := HRP.out.same (fun k hk _ => Below.heap_alloc wr _ k hk)
      have hko : Blk (wr.alloc (.cells #[.int .i64 kk, .int .u64 x, .slice B bb.length cc] 35)) wr.heap.size 35 #[.int .i64 kk, .int .u64 x, .slice B bb.length cc] := Blk.new wr 35 _
      have hbo : Below w.heap.size w (wr.alloc (.cells #[.int .i64 kk, .int .u64 x, .slice B bb.length cc] 35)) := HBL.out.alloc HBL.out.size _
      have HRO := hid hro; have HRPO := hid hrpo; have HKO := hid hko; have HBO := hid hbo
      have HRLT : Hid (r < wr.heap.size) := HREP.out.lt ⟨_, rfl, rfl⟩
      clear hro hrpo hko hbo
      have hgr : wr.heap.size ≠ r := by have := HRLT.out; omega
      obtain ⟨g9, hg9⟩ : ∃ g9, g9 = wr.heap.size := ⟨_, rfl⟩
      rw [← hg9] at HKO hgr
      have HG9 : Hid (w.heap.size ≤ g9) := by have := HBL.out.size; show _ ≤ _; omega
      go_wp2_with fail
      rw [← hg9]
      generalize wr.alloc (.cells #[.int .i64 kk, .int .u64 x, .slice B bb.length cc] 35) = wo at HRO HRPO HKO HBO ⊢
      have HNR : Hid (¬ Of (some (⟨r, 0, none⟩ : Addr)) g9) := by
        rintro ⟨a, ha, e⟩; injection ha with ha; subst ha; exact hgr e
      have HK3 : Hid (∀ w3, OnlyS (Of (some ⟨r, 0, none⟩)) wo w3 → Blk w3 g9 35 #[.int .i64 kk, .int .u64 x, .slice B bb.length cc]) := fun w3 ho => HKO.out.same (ho.block g9 HKO.out.lt HNR.out)
      have HRL : Hid (rs.length < 1000000) := by have := HQ.out; show _ < _; omega
      have HQC : Hid (rs.length ≤ cr) := by have := HQ.out; show _ ≤ _; omega
      clear hg9 hgr d0 d1 d2 HREP HRP HBL HRLT HC0
      cases fl with
      | true =>
        cases htk : tkR rs kk x with
        | none =>
          obtain ⟨ht1, hx0, hx1, hsx⟩ : tkR rs kk x = none ∧ 0 ≤ x ∧ x < 18446744073709551616 ∧ (x ≤ 4611686018427387904 ∨ kk = 4) := ⟨by rw [htk], Q2.out, Q3.out, HSX.out⟩
          have ht := take_any (some ⟨r, 0, none⟩) (.got true rs) kk x wo HRO.out
          unfold TakePost at ht
          rw [tk_failed rs kk x ⟨hkk1, hkk8⟩ hx0 hsx] at ht
          simp only [List.length_nil] at ht
          have HT := hid ht
          have hrt := fun (w3 : World) (hr : Rp w3 none Ar rs) => rtake_any Ar cr rs kk x w3 hr HBS.out HQC.out HRL.out ⟨hkk1, hkk8⟩ hx0 hsx
          unfold RTakePost at hrt
          rw [ht1, ← HQ.out] at hrt
          have HRT := hid hrt
          clear ht hrt ht1 hx0 hx1 hsx htk
          go_wp2_with (go_at_call 17; refine HT.out.mono ?_; rintro e w3 ⟨A3, c3, rfl, hc3, hf3, hrep3, ho3⟩; have HF3 := hid hf3; have HREP3 := hid hrep3; have HO3 := hid ho3; have HB3 := hid (HBO.out.trans (ho3.below HBO.out.size HOFR.out)); have k0 := (HK3.out w3 ho3).cell 0; have k1 := (HK3.out w3 ho3).cell 1; have HRP3 := hid (HRPO.out.keep ho3); have HK9 := hid (HK3.out w3 ho3); have hlt9 := (HK3.out w3 ho3).lt; clear hc3 hf3 hrep3 ho3)
          have hz3 : w3.heap.size ≤ w3.heap.size := Nat.le_refl _
          go_wp2_with fail
          refine (HRT.out _ ?_).mono ?_
          exact (HRP3.out.any).belowN (((Below.refl _ _).alloc (Nat.le_refl _) _))
          rintro e w5 ⟨hb5, hor⟩
          have hor2 := hor.resolve_right (by rintro ⟨X, ys, rest, By, cy, Ar', cr', h, _⟩; cases h)
          obtain ⟨_, rfl⟩ := hor2
          have hz5 : w3.heap.size ≤ w5.heap.size := (by have := hb5.size; simp at this; omega)
          have HBX := hid (((Below.refl w3.heap.size w3).alloc (Nat.le_refl _) (.cells #[.int .i64 kk, .int .u64 0, .slice A3 0 c3] 35)).trans (hb5.mono (by simp)))
          have hkf := (Blk.new w3 35 #[.int .i64 kk, .int .u64 0, .slice A3 0 c3]).same (hb5.block _ (by simp))
          have m1 := hkf.cell 1
          have m2 := hkf.cell 2
          have hlt5 := hkf.lt
          clear hkf
          clear hb5 hor
          go_wp2_with fail
          have hS := fun (W : World) => Same_quiet A3 none c3 0 [] [] W (Rp.nil _ _ _) (Rp.nil _ _ _) (by simp) (by simp)
          rw [decide_eq_true rfl] at hS
          refine (hS _).mono ?_
          clear hS
          rintro e w7 ⟨rfl, q7, rfl⟩
          go_wp2_with (first | (go_at_call 19; refine (Fails_any _ _ _ (HREP3.out.below (by (repeat (first | exact HBX.out | refine below_drewN ?_ _ | refine Below.setCell ?_ (by first | exact hz5 | (simp; omega)) _ | refine Below.alloc ?_ (by first | exact hz5 | (simp; omega)) _))))).mono ?_; rintro e w8 ⟨rfl, rfl⟩; simp only [RS.fails]) | (go_at_call 20; refine (Left_any _ _ _ (HREP3.out.below (by (repeat (first | exact HBX.out | refine below_drewN ?_ _ | refine Below.setCell ?_ (by first | exact hz5 | (simp; omega)) _ | refine Below.alloc ?_ (by first | exact hz5 | (simp; omega)) _))))).mono ?_; rintro e w8 ⟨rfl, rfl⟩; simp only [RS.left]; rw [← HQ.out]) | (go_at_call 21; refine (Done_any _ _ _ (HREP3.out.below (by (repeat (first | exact HBX.out | refine below_drewN ?_ _ | refine Below.setCell ?_ (by first | exact hz5 | (simp; omega)) _ | refine Below.alloc ?_ (by first | exact hz5 | (simp; omega)) _))))).mono ?_; rintro e w8 ⟨rfl, rfl⟩; rw [show RS.done (.got true rs) = false from rfl]))
          go_roundw
          case rel =>
            exact ⟨k + 1, true, rs, q, Ar, cr, by omega, by go_num, rfl, HQ, rfl, HREP3.out.below (by (repeat (first | exact HBX.out | refine below_drewN ?_ _ | refine Below.setCell ?_ (by first | exact hz5 | (simp; omega)) _ | refine Below.alloc ?_ (by first | exact hz5 | (simp; omega)) _))), HRP3.out.same (fun k hk _ => Below.block (B := w3.heap.size) (by (repeat (first | exact HBX.out | refine below_drewN ?_ _ | refine Below.setCell ?_ (by first | exact hz5 | (simp; omega)) _ | refine Below.alloc ?_ (by first | exact hz5 | (simp; omega)) _))) k hk), HBS.out, hqc, hq, HB3.out.trans (Below.mono (by (repeat (first | exact HBX.out | refine below_drewN ?_ _ | refine Below.setCell ?_ (by first | exact hz5 | (simp; omega)) _ | refine Below.alloc ?_ (by first | exact hz5 | (simp; omega)) _))) HB3.out.size)⟩
          case measure => simp [intOf]; omega
        | some z =>
          obtain ⟨X, ys, rest⟩ := z
          obtain ⟨ht1, hx0, hx1, hsx⟩ : tkR rs kk x = some (X, ys, rest) ∧ 0 ≤ x ∧ x < 18446744073709551616 ∧ (x ≤ 4611686018427387904 ∨ kk = 4) := ⟨by rw [htk], Q2.out, Q3.out, HSX.out⟩
          have ht := take_any (some ⟨r, 0, none⟩) (.got true rs) kk x wo HRO.out
          unfold TakePost at ht
          rw [tk_failed rs kk x ⟨hkk1, hkk8⟩ hx0 hsx] at ht
          simp only [List.length_nil] at ht
          have HT := hid ht
          have hrt := fun (w3 : World) (hr : Rp w3 none Ar rs) => rtake_any Ar cr rs kk x w3 hr HBS.out HQC.out HRL.out ⟨hkk1, hkk8⟩ hx0 hsx
          unfold RTakePost at hrt
          rw [ht1, ← HQ.out] at hrt
          have HRT := hid hrt
          have HTR := hid (tkR_rest ht1 HBS.out)
          clear ht hrt ht1 hx0 hx1 hsx htk
          go_wp2_with (go_at_call 17; refine HT.out.mono ?_; rintro e w3 ⟨A3, c3, rfl, hc3, hf3, hrep3, ho3⟩; have HF3 := hid hf3; have HREP3 := hid hrep3; have HO3 := hid ho3; have HB3 := hid (HBO.out.trans (ho3.below HBO.out.size HOFR.out)); have k0 := (HK3.out w3 ho3).cell 0; have k1 := (HK3.out w3 ho3).cell 1; have HRP3 := hid (HRPO.out.keep ho3); have HK9 := hid (HK3.out w3 ho3); have hlt9 := (HK3.out w3 ho3).lt; clear hc3 hf3 hrep3 ho3)
          have hz3 : w3.heap.size ≤ w3.heap.size := Nat.le_refl _
          go_wp2_with fail
          refine (HRT.out _ ?_).mono ?_
          exact (HRP3.out.any).belowN (((Below.refl _ _).alloc (Nat.le_refl _) _))
          rintro e w5 ⟨hb5, hor⟩
          obtain ⟨X', ys', rest', By, cy, Ar', cr', he, rfl, hy5, hr5, hc5⟩ := hor.resolve_left (by rintro ⟨h, _⟩; cases h)
          obtain ⟨rfl, rfl, rfl⟩ : X = X' ∧ ys = ys' ∧ rest = rest' := (by simpa only [Option.some.injEq, Prod.mk.injEq] using he)
          have hz5 : w3.heap.size ≤ w5.heap.size := (by have := hb5.size; simp at this; omega)
          have HBX := hid (((Below.refl w3.heap.size w3).alloc (Nat.le_refl _) (.cells #[.int .i64 kk, .int .u64 0, .slice A3 0 c3] 35)).trans (hb5.mono (by simp)))
          have hkf := (Blk.new w3 35 #[.int .i64 kk, .int .u64 0, .slice A3 0 c3]).same (hb5.block _ (by simp))
          have m1 := hkf.cell 1
          have m2 := hkf.cell 2
          have hlt5 := hkf.lt
          clear hkf
          have HY5 := hid (hy5.belowN hb5)
          have HR5 := hid (hr5.belowN hb5)
          clear hb5 hor he hy5 hr5
          go_wp2_with fail
          have hS := fun (W : World) => Same_quiet A3 none c3 0 [] [] W (Rp.nil _ _ _) (Rp.nil _ _ _) (by simp) (by simp)
          rw [decide_eq_true rfl] at hS
          refine (hS _).mono ?_
          clear hS
          rintro e w7 ⟨rfl, q7, rfl⟩
          go_wp2_with (first | (go_at_call 19; refine (Fails_any _ _ _ (HREP3.out.below (by (repeat (first | exact HBX.out | refine below_drewN ?_ _ | refine Below.setCell ?_ (by first | exact hz5 | (simp; omega)) _ | refine Below.alloc ?_ (by first | exact hz5 | (simp; omega)) _))))).mono ?_; rintro e w8 ⟨rfl, rfl⟩; simp only [RS.fails]) | (go_at_call 20; refine (Left_any _ _ _ (HREP3.out.below (by (repeat (first | exact HBX.out | refine below_drewN ?_ _ | refine Below.setCell ?_ (by first | exact hz5 | (simp; omega)) _ | refine Below.alloc ?_ (by first | exact hz5 | (simp; omega)) _))))).mono ?_; rintro e w8 ⟨rfl, rfl⟩; simp only [RS.left]; rw [← HQ.out]) | (go_at_call 21; refine (Done_any _ _ _ (HREP3.out.below (by (repeat (first | exact HBX.out | refine below_drewN ?_ _ | refine Below.setCell ?_ (by first | exact hz5 | (simp; omega)) _ | refine Below.alloc ?_ (by first | exact hz5 | (simp; omega)) _))))).mono ?_; rintro e w8 ⟨rfl, rfl⟩; rw [show RS.done (.got true rs) = false from rfl]))
          go_roundw
          case rel =>
            exact ⟨k + 1, true, rs, q, Ar, cr, by omega, by go_num, rfl, HQ, rfl, HREP3.out.below (by (repeat (first | exact HBX.out | refine below_drewN ?_ _ | refine Below.setCell ?_ (by first | exact hz5 | (simp; omega)) _ | refine Below.alloc ?_ (by first | exact hz5 | (simp; omega)) _))), HRP3.out.same (fun k hk _ => Below.block (B := w3.heap.size) (by (repeat (first | exact HBX.out | refine below_drewN ?_ _ | refine Below.setCell ?_ (by first | exact hz5 | (simp; omega)) _ | refine Below.alloc ?_ (by first | exact hz5 | (simp; omega)) _))) k hk), HBS.out, hqc, hq, HB3.out.trans (Below.mono (by (repeat (first | exact HBX.out | refine below_drewN ?_ _ | refine Below.setCell ?_ (by first | exact hz5 | (simp; omega)) _ | refine Below.alloc ?_ (by first | exact hz5 | (simp; omega)) _))) HB3.out.size)⟩
          case measure => simp [intOf]; omega
      | false =>
        cases htk : tkR rs kk x with
        | none =>
          obtain ⟨ht1, hx0, hx1, hsx⟩ : tkR rs kk x = none ∧ 0 ≤ x ∧ x < 18446744073709551616 ∧ (x ≤ 4611686018427387904 ∨ kk = 4) := ⟨by rw [htk], Q2.out, Q3.out, HSX.out⟩
          have ht := take_any (some ⟨r, 0, none⟩) (.got false rs) kk x wo HRO.out
          unfold TakePost at ht
          rw [tk_ref rs kk x HBS.out ⟨hkk1, hkk8⟩ hx0 hsx HRL.out, ht1] at ht
          simp only [ofT] at ht
          simp only [List.length_nil] at ht
          have HT := hid ht
          have hrt := fun (w3 : World) (hr : Rp w3 none Ar rs) => rtake_any Ar cr rs kk x w3 hr HBS.out HQC.out HRL.out ⟨hkk1, hkk8⟩ hx0 hsx
          unfold RTakePost at hrt
          rw [ht1, ← HQ.out] at hrt
          have HRT := hid hrt
          clear ht hrt ht1 hx0 hx1 hsx htk
          go_wp2_with (go_at_call 17; refine HT.out.mono ?_; rintro e w3 ⟨A3, c3, rfl, hc3, hf3, hrep3, ho3⟩; have HF3 := hid hf3; have HREP3 := hid hrep3; have HO3 := hid ho3; have HB3 := hid (HBO.out.trans (ho3.below HBO.out.size HOFR.out)); have k0 := (HK3.out w3 ho3).cell 0; have k1 := (HK3.out w3 ho3).cell 1; have HRP3 := hid (HRPO.out.keep ho3); have HK9 := hid (HK3.out w3 ho3); have hlt9 := (HK3.out w3 ho3).lt; clear hc3 hf3 hrep3 ho3)
          have hz3 : w3.heap.size ≤ w3.heap.size := Nat.le_refl _
          go_wp2_with fail
          refine (HRT.out _ ?_).mono ?_
          exact (HRP3.out.any).belowN (((Below.refl _ _).alloc (Nat.le_refl _) _))
          rintro e w5 ⟨hb5, hor⟩
          have hor2 := hor.resolve_right (by rintro ⟨X, ys, rest, By, cy, Ar', cr', h, _⟩; cases h)
          obtain ⟨_, rfl⟩ := hor2
          have hz5 : w3.heap.size ≤ w5.heap.size := (by have := hb5.size; simp at this; omega)
          have HBX := hid (((Below.refl w3.heap.size w3).alloc (Nat.le_refl _) (.cells #[.int .i64 kk, .int .u64 0, .slice A3 0 c3] 35)).trans (hb5.mono (by simp)))
          have hkf := (Blk.new w3 35 #[.int .i64 kk, .int .u64 0, .slice A3 0 c3]).same (hb5.block _ (by simp))
          have m1 := hkf.cell 1
          have m2 := hkf.cell 2
          have hlt5 := hkf.lt
          clear hkf
          clear hb5 hor
          go_wp2_with fail
          have hS := fun (W : World) => Same_quiet A3 none c3 0 [] [] W (Rp.nil _ _ _) (Rp.nil _ _ _) (by simp) (by simp)
          rw [decide_eq_true rfl] at hS
          refine (hS _).mono ?_
          clear hS
          rintro e w7 ⟨rfl, q7, rfl⟩
          go_wp2_with (first | (go_at_call 19; refine (Fails_any _ _ _ (HREP3.out.below (by (repeat (first | exact HBX.out | refine below_drewN ?_ _ | refine Below.setCell ?_ (by first | exact hz5 | (simp; omega)) _ | refine Below.alloc ?_ (by first | exact hz5 | (simp; omega)) _))))).mono ?_; rintro e w8 ⟨rfl, rfl⟩; simp only [RS.fails]) | (go_at_call 20; refine (Left_any _ _ _ (HREP3.out.below (by (repeat (first | exact HBX.out | refine below_drewN ?_ _ | refine Below.setCell ?_ (by first | exact hz5 | (simp; omega)) _ | refine Below.alloc ?_ (by first | exact hz5 | (simp; omega)) _))))).mono ?_; rintro e w8 ⟨rfl, rfl⟩; simp only [RS.left]; rw [← HQ.out]) | (go_at_call 21; refine (Done_any _ _ _ (HREP3.out.below (by (repeat (first | exact HBX.out | refine below_drewN ?_ _ | refine Below.setCell ?_ (by first | exact hz5 | (simp; omega)) _ | refine Below.alloc ?_ (by first | exact hz5 | (simp; omega)) _))))).mono ?_; rintro e w8 ⟨rfl, rfl⟩; rw [show RS.done (.got true rs) = false from rfl]))
          go_roundw
          case rel =>
            exact ⟨k + 1, true, rs, q, Ar, cr, by omega, by go_num, rfl, HQ, rfl, HREP3.out.below (by (repeat (first | exact HBX.out | refine below_drewN ?_ _ | refine Below.setCell ?_ (by first | exact hz5 | (simp; omega)) _ | refine Below.alloc ?_ (by first | exact hz5 | (simp; omega)) _))), HRP3.out.same (fun k hk _ => Below.block (B := w3.heap.size) (by (repeat (first | exact HBX.out | refine below_drewN ?_ _ | refine Below.setCell ?_ (by first | exact hz5 | (simp; omega)) _ | refine Below.alloc ?_ (by first | exact hz5 | (simp; omega)) _))) k hk), HBS.out, hqc, hq, HB3.out.trans (Below.mono (by (repeat (first | exact HBX.out | refine below_drewN ?_ _ | refine Below.setCell ?_ (by first | exact hz5 | (simp; omega)) _ | refine Below.alloc ?_ (by first | exact hz5 | (simp; omega)) _))) HB3.out.size)⟩
          case measure => simp [intOf]; omega
        | some z =>
          obtain ⟨X, ys, rest⟩ := z
          obtain ⟨ht1, hx0, hx1, hsx⟩ : tkR rs kk x = some (X, ys, rest) ∧ 0 ≤ x ∧ x < 18446744073709551616 ∧ (x ≤ 4611686018427387904 ∨ kk = 4) := ⟨by rw [htk], Q2.out, Q3.out, HSX.out⟩
          have ht := take_any (some ⟨r, 0, none⟩) (.got false rs) kk x wo HRO.out
          unfold TakePost at ht
          rw [tk_ref rs kk x HBS.out ⟨hkk1, hkk8⟩ hx0 hsx HRL.out, ht1] at ht
          simp only [ofT] at ht
          have HT := hid ht
          have hrt := fun (w3 : World) (hr : Rp w3 none Ar rs) => rtake_any Ar cr rs kk x w3 hr HBS.out HQC.out HRL.out ⟨hkk1, hkk8⟩ hx0 hsx
          unfold RTakePost at hrt
          rw [ht1, ← HQ.out] at hrt
          have HRT := hid hrt
          have HTR := hid (tkR_rest ht1 HBS.out)
          clear ht hrt ht1 hx0 hx1 hsx htk
          go_wp2_with (go_at_call 17; refine HT.out.mono ?_; rintro e w3 ⟨A3, c3, rfl, hc3, hf3, hrep3, ho3⟩; have HF3 := hid hf3; have HREP3 := hid hrep3; have HO3 := hid ho3; have HB3 := hid (HBO.out.trans (ho3.below HBO.out.size HOFR.out)); have k0 := (HK3.out w3 ho3).cell 0; have k1 := (HK3.out w3 ho3).cell 1; have HRP3 := hid (HRPO.out.keep ho3); have HK9 := hid (HK3.out w3 ho3); have hlt9 := (HK3.out w3 ho3).lt; clear hc3 hf3 hrep3 ho3)
          have hz3 : w3.heap.size ≤ w3.heap.size := Nat.le_refl _
          go_wp2_with fail
          refine (HRT.out _ ?_).mono ?_
          exact (HRP3.out.any).belowN (((Below.refl _ _).alloc (Nat.le_refl _) _))
          rintro e w5 ⟨hb5, hor⟩
          obtain ⟨X', ys', rest', By, cy, Ar', cr', he, rfl, hy5, hr5, hc5⟩ := hor.resolve_left (by rintro ⟨h, _⟩; cases h)
          obtain ⟨rfl, rfl, rfl⟩ : X = X' ∧ ys = ys' ∧ rest = rest' := (by simpa only [Option.some.injEq, Prod.mk.injEq] using he)
          have hz5 : w3.heap.size ≤ w5.heap.size := (by have := hb5.size; simp at this; omega)
          have HBX := hid (((Below.refl w3.heap.size w3).alloc (Nat.le_refl _) (.cells #[.int .i64 kk, .int .u64 X, .slice A3 ys.length c3] 35)).trans (hb5.mono (by simp)))
          have hkf := (Blk.new w3 35 #[.int .i64 kk, .int .u64 X, .slice A3 ys.length c3]).same (hb5.block _ (by simp))
          have m1 := hkf.cell 1
          have m2 := hkf.cell 2
          have hlt5 := hkf.lt
          clear hkf
          have HY5 := hid (hy5.belowN hb5)
          have HR5 := hid (hr5.belowN hb5)
          clear hb5 hor he hy5 hr5
          go_wp2_with fail
          refine (Same_quiet A3 By c3 cy ys ys _ ((HF3.out.rp (fun g _ _ ⟨a, e, _⟩ => by cases e)).belowN (by (repeat (first | exact HBX.out | refine below_drewN ?_ _ | refine Below.setCell ?_ (by first | exact hz5 | (simp; omega)) _ | refine Below.alloc ?_ (by first | exact hz5 | (simp; omega)) _)))) (HY5.out.belowN (by exact (Below.refl _ _).alloc (Nat.le_refl _) _)) (by have := HTR.out.2.2; have := HRL.out; omega) (by have := HTR.out.2.2; have := HRL.out; omega)).mono ?_
          rintro e w7 ⟨rfl, q7, rfl⟩
          rw [decide_eq_true rfl]
          go_wp2_with (first | (go_at_call 19; refine (Fails_any _ _ _ (HREP3.out.below (by (repeat (first | exact HBX.out | refine below_drewN ?_ _ | refine Below.setCell ?_ (by first | exact hz5 | (simp; omega)) _ | refine Below.alloc ?_ (by first | exact hz5 | (simp; omega)) _))))).mono ?_; rintro e w8 ⟨rfl, rfl⟩; simp only [RS.fails]) | (go_at_call 20; refine (Left_any _ _ _ (HREP3.out.below (by (repeat (first | exact HBX.out | refine below_drewN ?_ _ | refine Below.setCell ?_ (by first | exact hz5 | (simp; omega)) _ | refine Below.alloc ?_ (by first | exact hz5 | (simp; omega)) _))))).mono ?_; rintro e w8 ⟨rfl, rfl⟩; simp only [RS.left]) | (go_at_call 21; refine (Done_any _ _ _ (HREP3.out.below (by (repeat (first | exact HBX.out | refine below_drewN ?_ _ | refine Below.setCell ?_ (by first | exact hz5 | (simp; omega)) _ | refine Below.alloc ?_ (by first | exact hz5 | (simp; omega)) _))))).mono ?_; rintro e w8 ⟨rfl, rfl⟩; rw [show RS.done (.got false rest) = ((rest.length : Int) == 0) from by simp [RS.done, RS.fails, RS.left]]))
          go_roundw
          case rel =>
            have hro := off_reader (HREP3.out.below HBX.out) HR5.out
            have h1 := HTR.out.1
            have h2 := HQ.out
            exact ⟨k + 1, false, rest, rest.length, Ar', cr', by omega, by go_num, rfl, rfl, rfl, HREP3.out.below (by (repeat (first | exact HBX.out | refine below_drewN ?_ _ | refine Below.setCell ?_ (by first | exact hz5 | (simp; omega)) _ | refine Below.alloc ?_ (by first | exact hz5 | (simp; omega)) _))), hro.same (fun k hk _ => Below.block (B := w5.heap.size) (by (repeat (first | exact Below.refl _ _ | refine below_drewN ?_ _ | refine Below.alloc ?_ (by first | exact Nat.le_refl _ | (simp; omega)) _))) k hk), HTR.out.2.1, hc5, by omega, HB3.out.trans (Below.mono (by (repeat (first | exact HBX.out | refine below_drewN ?_ _ | refine Below.setCell ?_ (by first | exact hz5 | (simp; omega)) _ | refine Below.alloc ?_ (by first | exact hz5 | (simp; omega)) _))) HB3.out.size)⟩
          case measure => simp [intOf]; omega
    · go_wp2
      go_ret
      exact ⟨rfl, HBL.out⟩
end Go.Proofs.Ytmdclicomneomaa
