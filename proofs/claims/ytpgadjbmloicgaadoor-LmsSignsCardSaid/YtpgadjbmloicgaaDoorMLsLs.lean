/-
  What is proved here: all messages have the signature by each key of a tree that the chapter says; where there is none it is spent: the walk of the statement.
-/
import Derived.Test.YtpgadjbmloicgaaDoorMLsLk
import Derived.Test.YtpgadjbmloicgaaDoorMLsS
set_option linter.unusedSimpArgs false
set_option linter.unusedVariables false
namespace Go.Proofs.YtpgadjbmloicgaaDoor
open Go.ChangeShapes Go.WideShapes Go.ChangeAt Go.RowKit
set_option linter.unusedVariables false
set_option maxRecDepth 20000

set_option maxHeartbeats 8000000 in
theorem tsigns_walk (h k : Int) (id : List Int) (q : Int) (sd : List Int) (A : Option Addr) (n c : Nat) (L : List Int) (w : World) (hid0 : id.length = 16 ∧ Bs id) (hq : 0 ≤ q ∧ q < 4294967296) (hs : Ky sd) (hin : InB w A n c L) (hc : n ≤ c) (ht : Tab w) :
    Calls Tryd.prog 6 #[.int .i64 h, .agg (lkeyC k id q sd), .slice A n c] w fun e w' => e = .returned (.bool true) ∧ Below w.heap.size w w' := by
  have hi : Idn id := ⟨hid0.1, hid0.2⟩
  have B0 : Hid (Below w.heap.size w (w.alloc (.cells (lkeyC k id q sd) 28))) := (Below.refl _ _).alloc (Nat.le_refl _) _
  have L0 := hid (Blk.new w 28 (lkeyC k id q sd))
  have CA := hid (fun w1 (hb : Below w.heap.size w w1) => sawake_any w1 (ht.below hb))
  have CK := hid (tKeys_any h k)
  have CSL := hid (ssmall_any h k)
  have IDI := hid (id_info hi); have SDI := hid (hash_info hs.len)
  have HII := hid hi
  by_cases hbig : (300 : Int) < (n : Int)
  · clear hid0 hq hs hin hc ht hi CK CSL IDI SDI
    go_enter Tryd.func6, Tryd.ntmps6
    go_wp2_with (first
      | (go_at_call 15; (with_reducible refine (CA.out _ B0.out).mono ?_); rintro e w1 ⟨rfl, hb1⟩; have B1 := hid (B0.out.trans (hb1.mono B0.out.size)); have L1 := hid (L0.out.below hb1); have c0 := lkey_0 L1.out; clear hb1)
      | (go_at_call 15; refine (CA.out _ B1.out).mono ?_; rintro e w2 ⟨rfl, hb2⟩; have B2 := hid (B1.out.trans (hb2.mono B1.out.size)); clear hb2))
    go_ret
    exact ⟨rfl, B2.out⟩
  have hbd : decide ((300 : Int) < (n : Int)) = false := decide_eq_false hbig
  by_cases hK0 : tkeys h k = 0
  · rw [hK0] at CK
    clear hid0 hq hs hin hc ht hi CSL IDI SDI hK0
    go_enter Tryd.func6, Tryd.ntmps6
    go_wp2_with (first
      | (go_at_call 15; (with_reducible refine (CA.out _ B0.out).mono ?_); rintro e w1 ⟨rfl, hb1⟩; have B1 := hid (B0.out.trans (hb1.mono B0.out.size)); have L1 := hid (L0.out.below hb1); have c0 := lkey_0 L1.out; clear hb1)
      | (go_at_call 18; refine (CK.out _).mono ?_; rintro e wq ⟨rfl, rfl⟩)
      | (go_at_call 15; refine (CA.out _ B1.out).mono ?_; rintro e w2 ⟨rfl, hb2⟩; have B2 := hid (B1.out.trans (hb2.mono B1.out.size)); clear hb2))
    go_ret
    exact ⟨rfl, B2.out⟩
  obtain ⟨h1, hk⟩ := tkeys_kd hK0
  have hKle := tkeys_le h k
  have hKz : (((tkeys h k : Nat) : Int) == 0) = false := by simp; omega
  have hKe : ¬ ((tkeys h k : Nat) : Int) = 0 := by omega
  rcases hsm : sml h k with _ | _
  · rw [hsm] at CSL
    generalize tkeys h k = K at CK hKz hKe hK0 hKle
    clear hid0 hq hs hin hc ht hi IDI SDI h1 hk hsm
    go_enter Tryd.func6, Tryd.ntmps6
    go_wp2_with (first
      | (go_at_call 15; (with_reducible refine (CA.out _ B0.out).mono ?_); rintro e w1 ⟨rfl, hb1⟩; have B1 := hid (B0.out.trans (hb1.mono B0.out.size)); have L1 := hid (L0.out.below hb1); have c0 := lkey_0 L1.out; clear hb1)
      | (go_at_call 18; refine (CK.out _).mono ?_; rintro e wq ⟨rfl, rfl⟩)
      | (go_at_call 19; refine (CSL.out _).mono ?_; rintro e wq ⟨rfl, rfl⟩)
      | (go_at_call 15; refine (CA.out _ B1.out).mono ?_; rintro e w2 ⟨rfl, hb2⟩; have B2 := hid (B1.out.trans (hb2.mono B1.out.size)); clear hb2))
    go_ret
    exact ⟨rfl, B2.out⟩
  rw [hsm] at CSL
  obtain ⟨hLn, _, hBs, hRp⟩ := hin
  have CN : Hid (∀ w1, Below w.heap.size w w1 → Calls Tryd.prog 20 #[.int .i64 h, .int .i64 k, .agg (u8s id).toArray, .agg (u8s sd).toArray] w1 fun e w' => ∃ t, e = .returned (.tuple #[.pointer (some ⟨t, 0, none⟩), .int .i64 0]) ∧ w1.heap.size ≤ t ∧ TreeAt w' t h k id sd ∧ Below w1.heap.size w1 w') := fun w1 hb => sNew_kd h k id sd w1 h1 hk hi hs (ht.below hb)
  obtain ⟨p, hp⟩ : ∃ p, p = q % 6 - 1 := ⟨_, rfl⟩
  have HCQ : Hid (∀ w1, Blk w1 w.heap.size 28 (lkeyC k id q sd) → w1.cell? ⟨w.heap.size, 17, none⟩ = some (.int .u32 q)) := fun w1 h => lkey_17 h hi
  have hq6 : 0 ≤ q % 6 ∧ q % 6 < 6 := by omega
  have hw1 : IntKind.i64.wrap (q % 6) = q % 6 := IntWalk.i64_in _ (by omega)
  have hw2 : IntKind.i64.wrap (q % 6 - 1) = q % 6 - 1 := IntWalk.i64_in _ (by omega)
  have hqa : 0 ≤ q := hq.1
  have HSG : ∃ (SG : List Int) (ee : Int), SG.length < 100000 ∧ (∀ t w1, TreeAt w1 t h k id sd → Below w.heap.size w w1 → Calls Tryd.prog 25 #[.pointer (some ⟨t, 0, none⟩), .int .i64 (q % 6 - 1), .slice A n c] w1 fun e w' => ∃ A1 c1, e = .returned (.tuple #[.slice A1 SG.length c1, .int .i64 ee]) ∧ Rp w' none A1 SG ∧ Below w1.heap.size w1 w') ∧
      (∀ w1, Below w.heap.size w w1 → Calls Tryd.prog 26 #[.int .i64 h, .int .i64 k, .agg (u8s id).toArray, .agg (u8s sd).toArray, .int .i64 (q % 6 - 1), .slice A n c] w1 fun e w' => ∃ A1 c1, e = .returned (.tuple #[.slice A1 SG.length c1, .int .i64 ee]) ∧ Rp w' none A1 SG ∧ Below w1.heap.size w1 w') := by
    by_cases hsp : q % 6 - 1 < 0 ∨ ((tkeys h k : Nat) : Int) ≤ q % 6 - 1
    · refine ⟨[], 7, by decide, fun t w1 htr hb => ?_, fun w1 hb => ?_⟩
      · refine (sSign_spent t h k id sd _ A n c w1 hi hs htr hsp).mono fun e w' he => ?_
        obtain ⟨rfl, rfl⟩ := he
        exact ⟨none, 0, rfl, Rp.nil _ _ _, Below.refl _ _⟩
      · refine (tSign_spent h k id sd _ A n c w1 hsp).mono fun e w' he => ?_
        obtain ⟨rfl, hb2⟩ := he
        exact ⟨none, 0, rfl, Rp.nil _ _ _, hb2⟩
    · obtain ⟨pn, hpn⟩ : ∃ pn : Nat, q % 6 - 1 = pn := ⟨(q % 6 - 1).toNat, by omega⟩
      rw [hpn] at hsp ⊢
      have hpk : pn < tkeys h k := by omega
      have hgl := sgt_length (id := id) (sd := sd) h1 hk pn L
      refine ⟨sgt h k id sd pn L, 0, by rw [hgl, tsize_ok h1 hk]; have := ksize_le k; omega, fun t w1 htr hb => ?_, fun w1 hb => ?_⟩
      · refine (sSign_at t h k id sd pn A n c L w1 h1 hk hi hs htr hpk hLn.symm (hRp.belowN hb) hBs (by omega) hc (ht.below hb)).mono fun e w' he => ?_
        obtain ⟨g, he, _, hbk, hbl⟩ := he
        rw [← hgl] at he
        exact ⟨_, _, he, blk_rp hbk, hbl⟩
      · refine (tSign_any h k id sd pn A n c L w1 h1 hk hi hs hpk hLn.symm (hRp.belowN hb) hBs (by omega)).mono fun e w' he => ?_
        obtain ⟨A1, c1, he, hr1, hbl⟩ := he
        rw [← hgl] at he
        exact ⟨_, _, he, hr1, hbl⟩
  obtain ⟨SG, ee, hsl, hcode, href⟩ := HSG
  have HC := hid hcode; have HR := hid href
  obtain ⟨sn, hsn⟩ : ∃ sn, sn = SG.length := ⟨_, rfl⟩
  have CSM : Hid (∀ (A1 B1 : Option Addr) (c1 d1 : Nat) (w1 : World), Rp w1 none A1 SG → Rp w1 none B1 SG → Calls Tryd.prog 22 #[.slice A1 sn c1, .slice B1 sn d1] w1 fun e w' => e = .returned (.bool true) ∧ ∃ q, w' = w1.drewN q) := fun A1 B1 c1 d1 w1 ha hb => by
    have := Same_quiet A1 B1 c1 d1 SG SG w1 ha hb (by omega) (by omega)
    rw [decide_eq_true rfl, ← hsn] at this
    exact this
  rw [← hsn] at HC HR
  generalize tkeys h k = K at CK hKz hKe hK0 hKle
  clear hid0 hq hs hc ht hi h1 hk hsm hp hcode href hsl hLn hBs hRp hsn
  go_enter Tryd.func6, Tryd.ntmps6
  go_wp2_with (first
    | (go_at_call 15; (with_reducible refine (CA.out _ B0.out).mono ?_); rintro e w1 ⟨rfl, hb1⟩; have B1 := hid (B0.out.trans (hb1.mono B0.out.size)); have L1 := hid (L0.out.below hb1); have c0 := lkey_0 L1.out; clear hb1)
    | (go_at_call 18; refine (CK.out _).mono ?_; rintro e wq ⟨rfl, rfl⟩)
    | (go_at_call 19; refine (CSL.out _).mono ?_; rintro e wq ⟨rfl, rfl⟩)
    | (refine load_at rfl 23 (.tmp 40) rfl w.heap.size 1 rfl (u8s id) _ (lkey_id L1.out HII.out) Tryd.underlying23 rfl IDI.out (u8s id).toArray rfl ?_)
    | (refine load_at rfl 26 (.tmp 42) rfl w.heap.size 18 rfl (u8s sd) _ (lkey_sd L1.out HII.out) Tryd.underlying26 rfl SDI.out (u8s sd).toArray rfl ?_)
    | (go_at_call 20; refine (CN.out _ B1.out).mono ?_; rintro e w2 ⟨t, rfl, _, htr, hb2⟩; have B2 := hid (B1.out.trans (hb2.mono B1.out.size)); have L2 := hid (L1.out.below hb2); have T2 := hid htr; have d17 := HCQ.out _ L2.out; clear hb2 htr)
    | (go_at_call 25; refine (HC.out _ _ T2.out B2.out).mono ?_; rintro e w3 ⟨A1, c1, rfl, hr1, hb3⟩; have B3 := hid (B2.out.trans (hb3.mono B2.out.size)); have L3 := hid (L2.out.below hb3); have R3 := hid hr1; have e0 := lkey_0 L3.out; clear hb3 hr1)
    | (refine load_at rfl 23 (.tmp 63) rfl w.heap.size 1 rfl (u8s id) _ (lkey_id L3.out HII.out) Tryd.underlying23 rfl IDI.out (u8s id).toArray rfl ?_)
    | (refine load_at rfl 26 (.tmp 65) rfl w.heap.size 18 rfl (u8s sd) _ (lkey_sd L3.out HII.out) Tryd.underlying26 rfl SDI.out (u8s sd).toArray rfl ?_)
    | (go_at_call 26; refine (HR.out _ B3.out).mono ?_; rintro e w4 ⟨A2, c2, rfl, hr2, hb4⟩; have B4 := hid (B3.out.trans (hb4.mono B3.out.size)); have R4 := hid (R3.out.belowN hb4); have S4 := hid hr2; clear hb4 hr2)
    | (go_at_call 22; refine (CSM.out _ _ _ _ _ R4.out S4.out).mono ?_; rintro e w5 ⟨rfl, q5, rfl⟩))
  go_ret
  exact ⟨rfl, below_drewN B4.out q5⟩
end Go.Proofs.YtpgadjbmloicgaaDoor
