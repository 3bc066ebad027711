/-
  What is proved here: all messages have the n-th signature that the chapter says; where there is none it is spent: the walk of the statement.
-/
import Derived.Test.YtobceieadjpaaaaDoorMHsLk
import Derived.Test.YtobceieadjpaaaaDoorMHq4
set_option linter.unusedSimpArgs false
set_option linter.unusedVariables false
namespace Go.Proofs.YtobceieadjpaaaaDoor
open Go.ChangeShapes Go.WideShapes Go.ChangeAt Go.RowKit
set_option linter.unusedVariables false
set_option maxRecDepth 20000

set_option maxHeartbeats 8000000 in
theorem hsigns_walk (t b k : Int) (sd : List Int) (q : Int) (A : Option Addr) (n c : Nat) (L : List Int) (w : World) (hs : Ky sd) (hin : InB w A n c L) (hc : n ≤ c) (ht : Tab w) :
    Calls Tryd.prog 7 #[.agg (formC t b k sd), .int .i64 q, .slice A n c] w fun e w' => e = .returned (.bool true) ∧ Below w.heap.size w w' := by
  have B0 : Hid (Below w.heap.size w (w.alloc (.cells (formC t b k sd) 44))) := (Below.refl _ _).alloc (Nat.le_refl _) _
  have l0 := Blk.new w 44 (formC t b k sd)
  have L0 := hid l0
  have c0 := form_t l0; have c1 := form_b l0; have c2 := form_k l0
  have CA := hid (fun w1 (hb : Below w.heap.size w w1) => zawake_any w1 (ht.below hb))
  have CK := hid (uKeys_any t b k)
  have CSL := hid (zsmall_any t b k sd)
  have SDI := hid (hash_info hs.len)
  have FI := hid (form_info (t := t) (b := b) (k := k) hs)
  clear l0
  by_cases hbig : (300 : Int) < (n : Int)
  · clear hs hin hc ht CSL SDI
    go_enter Tryd.func7, Tryd.ntmps7
    go_wp2_with (first
      | (go_at_call 24; refine (CK.out _).mono ?_; rintro e wq ⟨rfl, rfl⟩)
      | (go_at_call 21; (with_reducible refine (CA.out _ B0.out).mono ?_); rintro e w1 ⟨rfl, hb1⟩; have B1 := hid (B0.out.trans (hb1.mono B0.out.size)); have L1 := hid (L0.out.below hb1); clear hb1)
      | (go_at_call 21; refine (CA.out _ B1.out).mono ?_; rintro e w2 ⟨rfl, hb2⟩; have B2 := hid (B1.out.trans (hb2.mono B1.out.size)); clear hb2))
    go_ret
    exact ⟨rfl, B2.out⟩
  have hbd : decide ((300 : Int) < (n : Int)) = false := decide_eq_false hbig
  by_cases hK0 : hkeys t b k = 0
  · rw [hK0] at CK
    clear hs hin hc ht CSL SDI hK0
    go_enter Tryd.func7, Tryd.ntmps7
    go_wp2_with (first
      | (go_at_call 24; refine (CK.out _).mono ?_; rintro e wq ⟨rfl, rfl⟩)
      | (go_at_call 21; (with_reducible refine (CA.out _ B0.out).mono ?_); rintro e w1 ⟨rfl, hb1⟩; have B1 := hid (B0.out.trans (hb1.mono B0.out.size)); have L1 := hid (L0.out.below hb1); clear hb1)
      | (go_at_call 21; refine (CA.out _ B1.out).mono ?_; rintro e w2 ⟨rfl, hb2⟩; have B2 := hid (B1.out.trans (hb2.mono B1.out.size)); clear hb2))
    go_ret
    exact ⟨rfl, B2.out⟩
  obtain ⟨h1, h2, hk⟩ := hkeys_kd hK0
  have hKz : (((hkeys t b k : Nat) : Int) == 0) = false := by simp; omega
  have hKe : ¬ ((hkeys t b k : Nat) : Int) = 0 := by omega
  rcases hsm : zsml t b k with _ | _
  · rw [hsm] at CSL
    generalize hkeys t b k = K at CK hKz hKe hK0
    clear hs hin hc ht SDI h1 h2 hk hsm
    go_enter Tryd.func7, Tryd.ntmps7
    go_wp2_with (first
      | (go_at_call 24; refine (CK.out _).mono ?_; rintro e wq ⟨rfl, rfl⟩)
      | (go_at_call 21; (with_reducible refine (CA.out _ B0.out).mono ?_); rintro e w1 ⟨rfl, hb1⟩; have B1 := hid (B0.out.trans (hb1.mono B0.out.size)); have L1 := hid (L0.out.below hb1); clear hb1)
      | (refine load_at (by first | rfl | simp [Region.wanted, yielded, *]) 44 (.tmp 3) rfl w.heap.size 0 rfl (Value.int .i64 t :: .int .i64 b :: .int .i64 k :: u8s sd) _ (form_row L1.out) Tryd.underlying44 rfl FI.out (formC t b k sd) rfl ?_)
      | (go_at_call 25; refine (CSL.out _).mono ?_; rintro e w3 ⟨rfl, hb3⟩; have B3 := hid (B1.out.trans (hb3.mono B1.out.size)); have L3 := hid (L1.out.below hb3); have d0 := form_t L3.out; have d1 := form_b L3.out; have d2 := form_k L3.out; clear hb3)
      | (go_at_call 21; refine (CA.out _ B3.out).mono ?_; rintro e w2 ⟨rfl, hb2⟩; have B2 := hid (B3.out.trans (hb2.mono B3.out.size)); clear hb2))
    go_ret
    exact ⟨rfl, B2.out⟩
  rw [hsm] at CSL
  obtain ⟨hLn, _, hBs, hRp⟩ := hin
  have CN : Hid (∀ w1, Below w.heap.size w w1 → Calls Tryd.prog 26 #[.int .i64 t, .int .i64 b, .int .i64 k, .agg (u8s sd).toArray] w1 fun e w' => ∃ s, e = .returned (.tuple #[.pointer (some ⟨s, 0, none⟩), .int .i64 0]) ∧ w1.heap.size ≤ s ∧ SignAt w' s t b k sd ∧ Below w1.heap.size w1 w') := fun w1 hb => hNew_kd t b k sd w1 h1 h2 hk hs (ht.below hb)
  have HSG : ∃ (SG : List Int) (ee : Int), SG.length < 100000 ∧ (∀ s w1, SignAt w1 s t b k sd → w.heap.size ≤ s → Below w.heap.size w w1 → Calls Tryd.prog 31 #[.pointer (some ⟨s, 0, none⟩), .int .i64 q, .slice A n c] w1 fun e w' => ∃ A1 c1, e = .returned (.tuple #[.slice A1 SG.length c1, .int .i64 ee]) ∧ Rp w' none A1 SG ∧ OnlyS (Of (some ⟨s, 0, none⟩)) w1 w') ∧
      (∀ w1, Below w.heap.size w w1 → Calls Tryd.prog 32 #[.int .i64 t, .int .i64 b, .int .i64 k, .agg (u8s sd).toArray, .int .i64 q, .slice A n c] w1 fun e w' => ∃ A1 c1, e = .returned (.tuple #[.slice A1 SG.length c1, .int .i64 ee]) ∧ Rp w' none A1 SG ∧ Below w1.heap.size w1 w') := by
    by_cases hsp : q < 0 ∨ ((hkeys t b k : Nat) : Int) ≤ q
    · refine ⟨[], 7, by decide, fun s w1 hsg hsl hb => ?_, fun w1 hb => ?_⟩
      · refine (hSign_spent s t b k sd _ A n c w1 h2 hk hs hsg hsp).mono fun e w' he => ?_
        obtain ⟨rfl, rfl⟩ := he
        exact ⟨none, 0, rfl, Rp.nil _ _ _, OnlyS.refl _ _⟩
      · refine (uSign_spent t b k sd _ A n c w1 hsp).mono fun e w' he => ?_
        obtain ⟨rfl, hb2⟩ := he
        exact ⟨none, 0, rfl, Rp.nil _ _ _, hb2⟩
    · obtain ⟨pn, rfl⟩ : ∃ pn : Nat, q = pn := ⟨q.toNat, by omega⟩
      have hpk : pn < hkeys t b k := by omega
      have hgl := hsg_length h1 h2 hk sd pn L
      refine ⟨hsg t b k sd pn L, 0, by rw [hgl, hsize_ok hK0]; have := tsize_lim (h := t) (k := k); have := tsize_lim (h := b) (k := k); omega, fun s w1 hsa hsl hb => ?_, fun w1 hb => ?_⟩
      · refine (hSign_at s t b k sd pn A n c L w w1 h1 h2 hk hs hsa hpk hb hsl hLn.symm hRp hBs (by omega) hc ht).mono fun e w' he => ?_
        obtain ⟨g, he, _, hbk, _, hbl⟩ := he
        rw [← hgl] at he
        exact ⟨_, _, he, blk_rp hbk, hbl⟩
      · refine (uSign_any t b k sd pn A n c L w1 h1 h2 hk hs hpk hLn.symm (hRp.belowN hb) hBs (by omega)).mono fun e w' he => ?_
        obtain ⟨A1, c1, he, hr1, hbl⟩ := he
        rw [← hgl] at he
        exact ⟨_, _, he, hr1, hbl⟩
  obtain ⟨SG, ee, hsl, hcode, href⟩ := HSG
  have HC := hid hcode; have HR := hid href
  obtain ⟨sn, hsn⟩ : ∃ sn, sn = SG.length := ⟨_, rfl⟩
  have CSM : Hid (∀ (A1 B1 : Option Addr) (c1 d1 : Nat) (w1 : World), Rp w1 none A1 SG → Rp w1 none B1 SG → Calls Tryd.prog 28 #[.slice A1 sn c1, .slice B1 sn d1] w1 fun e w' => e = .returned (.bool true) ∧ ∃ q, w' = w1.drewN q) := fun A1 B1 c1 d1 w1 ha hb => by
    have := Same_quiet A1 B1 c1 d1 SG SG w1 ha hb (by omega) (by omega)
    rw [decide_eq_true rfl, ← hsn] at this
    exact this
  rw [← hsn] at HC HR
  have HRD : Hid (∀ (p : Nat) (wa wc : World), w.heap.size ≤ p → Below w.heap.size w wa → OnlyS (Of (some ⟨p, 0, none⟩)) wa wc → Below w.heap.size w wc) := fun p wa wc hp hb ho => hb.trans (ho.below hb.size (fun k hk => by obtain ⟨a, e, rfl⟩ := hk; injection e with e; subst e; exact hp))
  generalize hkeys t b k = K at CK hKz hKe hK0
  clear hs hc ht h1 h2 hk hsm hcode href hsl hLn hBs hRp hsn
  go_enter Tryd.func7, Tryd.ntmps7
  go_wp2_with (first
    | (go_at_call 24; refine (CK.out _).mono ?_; rintro e wq ⟨rfl, rfl⟩)
    | (go_at_call 21; (with_reducible refine (CA.out _ B0.out).mono ?_); rintro e w1 ⟨rfl, hb1⟩; have B1 := hid (B0.out.trans (hb1.mono B0.out.size)); have L1 := hid (L0.out.below hb1); clear hb1)
    | (refine load_at (by first | rfl | simp [Region.wanted, yielded, *]) 44 (.tmp 3) rfl w.heap.size 0 rfl (Value.int .i64 t :: .int .i64 b :: .int .i64 k :: u8s sd) _ (form_row L1.out) Tryd.underlying44 rfl FI.out (formC t b k sd) rfl ?_)
    | (go_at_call 25; refine (CSL.out _).mono ?_; rintro e w3 ⟨rfl, hb3⟩; have B3 := hid (B1.out.trans (hb3.mono B1.out.size)); have L3 := hid (L1.out.below hb3); have d0 := form_t L3.out; have d1 := form_b L3.out; have d2 := form_k L3.out; clear hb3)
    | (refine load_at rfl 26 (.tmp 45) rfl w.heap.size 3 rfl (u8s sd) _ (form_sd L3.out) Tryd.underlying26 rfl SDI.out (u8s sd).toArray rfl ?_)
    | (go_at_call 26; refine (CN.out _ B3.out).mono ?_; rintro e w2 ⟨s, rfl, hls, hsg, hb2⟩; have LS2 := hid (Nat.le_trans B3.out.size hls); have NS2 : Hid (w.heap.size ≠ s) := (by have := L3.out.lt; show _ ≠ _; omega); have B2 := hid (B3.out.trans (hb2.mono B3.out.size)); have L2 := hid (L3.out.below hb2); have T2 := hid hsg; clear hb2 hsg hls)
    | (go_at_call 31; refine (HC.out _ _ T2.out LS2.out B2.out).mono ?_; rintro e w4 ⟨A1, c1, rfl, hr1, ho4⟩; have B4 := hid (HRD.out _ _ _ LS2.out B2.out ho4); have L4 := hid (L2.out.only ho4 (not_of NS2.out)); have R4 := hid hr1; have e0 := form_t L4.out; have e1 := form_b L4.out; have e2 := form_k L4.out; clear ho4 hr1)
    | (refine load_at rfl 26 (.tmp 64) rfl w.heap.size 3 rfl (u8s sd) _ (form_sd L4.out) Tryd.underlying26 rfl SDI.out (u8s sd).toArray rfl ?_)
    | (go_at_call 32; refine (HR.out _ B4.out).mono ?_; rintro e w5 ⟨A2, c2, rfl, hr2, hb5⟩; have B5 := hid (B4.out.trans (hb5.mono B4.out.size)); have R5 := hid (R4.out.belowN hb5); have S5 := hid hr2; clear hb5 hr2)
    | (go_at_call 28; refine (CSM.out _ _ _ _ _ R5.out S5.out).mono ?_; rintro e w6 ⟨rfl, q6, rfl⟩))
  go_ret
  exact ⟨rfl, below_drewN B5.out q6⟩
end Go.Proofs.YtobceieadjpaaaaDoor
