/-
  What is proved here: a signature that was made has its size, leads to the public key, and is made again: the walk of the statement.
-/
import Derived.Test.YteiflhgmgdibgaaDoorMLmSn
import Derived.Test.YteiflhgmgdibgaaDoorMLmR1
set_option linter.unusedSimpArgs false
set_option linter.unusedVariables false
namespace Go.Proofs.YteiflhgmgdibgaaDoor
open Go.ChangeShapes Go.WideShapes Go.ChangeAt Go.RowKit
set_option linter.unusedVariables false
set_option maxRecDepth 20000

theorem signK_bs (k : Int) (id : List Int) (q : Int) (seed msg : List Int) : Bs (signK k id q seed msg) := by
  unfold signK
  intro v hv
  rw [List.mem_append, List.mem_append] at hv
  rcases hv with hv | hv | hv
  · exact be_bs k 4 v hv
  · exact (show Ky (saltOf id q seed) from under_ky _ _ _ _).bs v hv
  · exact rowsOf_bs _ _ (fun i => (steps_ky (show Ky (begn id q i seed) from under_ky _ _ _ _) _ _).bs) v hv
theorem Rp.drewN {w : World} {A : Option Addr} {xs : List Int} (h : Rp w none A xs) (q : Nat) : Rp (w.drewN q) none A xs := h.belowN (below_drewN (Below.refl _ _) q)
set_option maxHeartbeats 8000000 in
theorem right_walk (k : Int) (id : List Int) (q : Int) (sd : List Int) (A : Option Addr) (n c : Nat) (L : List Int) (w : World) (hid0 : id.length = 16 ∧ Bs id) (hq : 0 ≤ q ∧ q < 4294967296) (hs : Ky sd) (h : InB w A n c L) (hc : n ≤ c) (ht : Tab w) :
    Calls Tryd.prog 6 #[.agg (lkeyC k id q sd), .slice A n c] w fun e w' => e = .returned (.bool true) ∧ Below w.heap.size w w' := by
  have hi : Idn id := ⟨hid0.1, hid0.2⟩
  have IDI := hid (id_info hi); have SDI := hid (hash_info hs.len)
  have HII := hid hi
  obtain ⟨Z, HZ, hZ0, hZs⟩ := zero_Hash
  have hz32 : Z.size = 32 := by rw [HZ.out, List.size_toArray, u8s_length]; simp
  have B0 : Hid (Below w.heap.size w (w.alloc (.cells (lkeyC k id q sd) 28))) := (Below.refl _ _).alloc (Nat.le_refl _) _
  have L0 := hid (Blk.new w 28 (lkeyC k id q sd))
  rcases Nat.lt_or_ge 500 n with hbig | hsm
  · have hb1 : (500 : Int) < (n : Int) := by omega
    clear hid0 hq hs h hc ht hi hbig hz32
    go_enter Tryd.func6, Tryd.ntmps6
    go_wp2_with (go_at_call 10; refine (kawake_any _).mono ?_; rintro e w6 ⟨rfl, hb6⟩; have B0 := hid (B0.out.trans (hb6.mono B0.out.size)); clear hb6)
    go_ret
    exact ⟨rfl, B0.out⟩
  · obtain ⟨hLn, _, hBs, hRp⟩ := h
    subst hLn
    have hs1 : ¬ ((500 : Int) < (L.length : Int)) := by omega
    have HRL := hid (fun (w1 : World) (hb : Below w.heap.size w w1) => hRp.belowN hb)
    have CSM : Hid (∀ (A1 B1 : Option Addr) (c1 d1 nn : Nat) (xs : List Int) (w1 : World), nn = xs.length → xs.length < 1000000 → Rp w1 none A1 xs → Rp w1 none B1 xs → Calls Tryd.prog 13 #[.slice A1 nn c1, .slice B1 nn d1] w1 fun e w' => e = .returned (.bool true) ∧ ∃ q, w' = w1.drewN q) := fun A1 B1 c1 d1 nn xs w1 hn hl ha hb => by
      subst hn
      have := Same_quiet A1 B1 c1 d1 xs xs w1 ha hb (by omega) (by omega)
      rw [decide_eq_true rfl] at this
      exact this
    by_cases hk : kbits k = 0
    · have hno : k ≠ 1 ∧ k ≠ 2 ∧ k ≠ 3 ∧ k ≠ 4 := by
        rcases kd_cases k with rfl | rfl | rfl | rfl | h
        · exact absurd hk (by decide)
        · exact absurd hk (by decide)
        · exact absurd hk (by decide)
        · exact absurd hk (by decide)
        · exact h
      have CPB := hid (fun w1 => lPublic_no k id q sd w1 hno hi hq hs)
      have CSG := hid (fun A1 m1 c1 w1 => lSign_no k id q sd A1 m1 c1 w1 hno hi hq hs)
      have HI := hid (info_hash zeroK zeroK_ky.len)
      have HZ32 : Hid (Z.size = (u8s zeroK).toArray.size) := hz32.trans (hash_size zeroK_ky.len).symm
      have HLM : Hid (([] : List Int).length + L.length < 1000000000000) := by show _ < _; simp; omega
      have ON : ∀ w1 : World, Hid (w1.ownsRow w1.heap.size 5 1 (.slice none 0 0) ([] : List Int).length (u8s [])) := fun w1 => ⟨by simp [u8s], .inl ⟨rfl, rfl⟩⟩
      clear hid0 hq hs hc ht hi hsm hk hno hBs hRp hz32
      go_enter Tryd.func6, Tryd.ntmps6
      go_wp2_with (first
        | (go_at_call 10; refine (kawake_any _).mono ?_; rintro e w1 ⟨rfl, hb1⟩; have L1 := hid (L0.out.below hb1); have B1 := hid (B0.out.trans (hb1.mono B0.out.size)); have RL1 := hid (HRL.out _ B1.out); have ON1 := ON w1; clear hb1)
        | (at_builtin; refine append_rpm rfl (.tmp 22) (.tmp 23) rfl w1.heap.size w1.heap.size _ [] rfl ON1.out A L.length c L rfl rfl RL1.out HLM.out (Nat.le_refl _) (Nat.le_refl _) ?_; intro v2 w2 HO2 HB2; obtain ⟨A2, c2, rfl, -, hc2, hf2⟩ := fresh_of_own (w := w1) HO2.out (Nat.le_refl _); clear hc2 hf2; have L2 := hid (L1.out.below HB2.out); have B2 := hid (B1.out.trans (HB2.out.mono B1.out.size)); have c0 := lkey_0 L2.out; have c17 := lkey_17 L2.out HII.out; clear HO2 HB2)
        | (refine load_at rfl 23 (.tmp 28) rfl w.heap.size 1 rfl (u8s id) _ (lkey_id L2.out HII.out) Tryd.underlying23 rfl IDI.out (u8s id).toArray rfl ?_)
        | (refine load_at rfl 26 (.tmp 32) rfl w.heap.size 18 rfl (u8s sd) _ (lkey_sd L2.out HII.out) Tryd.underlying26 rfl SDI.out (u8s sd).toArray rfl ?_)
        | (go_at_call 8; refine (CPB.out _).mono ?_; rintro e w3 ⟨rfl, hb3⟩; have L3 := hid (L2.out.below hb3); have B3 := hid (B2.out.trans (hb3.mono B2.out.size)); clear hb3)
        | (refine wpList_store_row rfl 26 (.tmp 6) (.tmp 35) rfl w3.heap.size (u8s zeroK).toArray rfl rfl 26 Z (Blk.new w3 26 Z) HI.out HZ32.out (u8s_all zeroK) ?_; have hbb : Below w3.heap.size w3 ((w3.alloc (.cells Z 26)).setRow w3.heap.size (u8s zeroK).toArray) := below_setRow ((Below.refl _ _).alloc (Nat.le_refl _) _) (Nat.le_refl _) _; have L4 := hid (L3.out.below hbb); have B4 := hid (B3.out.trans (hbb.mono B3.out.size)); generalize (w3.alloc (.cells Z 26)).setRow w3.heap.size (u8s zeroK).toArray = w4 at L4 B4 ⊢; have d0 := lkey_0 L4.out; have d17 := lkey_17 L4.out HII.out; clear hbb)
        | (refine load_at rfl 23 (.tmp 40) rfl w.heap.size 1 rfl (u8s id) _ (lkey_id L4.out HII.out) Tryd.underlying23 rfl IDI.out (u8s id).toArray rfl ?_)
        | (refine load_at rfl 26 (.tmp 44) rfl w.heap.size 18 rfl (u8s sd) _ (lkey_sd L4.out HII.out) Tryd.underlying26 rfl SDI.out (u8s sd).toArray rfl ?_)
        | (refine load_at rfl 23 (.tmp 53) rfl w.heap.size 1 rfl (u8s id) _ (lkey_id L4.out HII.out) Tryd.underlying23 rfl IDI.out (u8s id).toArray rfl ?_)
        | (refine load_at rfl 26 (.tmp 57) rfl w.heap.size 18 rfl (u8s sd) _ (lkey_sd L4.out HII.out) Tryd.underlying26 rfl SDI.out (u8s sd).toArray rfl ?_)
        | (go_at_call 11; refine (CSG.out _ _ _ _).mono ?_; rintro e w5 ⟨rfl, hb5⟩; have L4 := hid (L4.out.below hb5); have B4 := hid (B4.out.trans (hb5.mono B4.out.size)); have d0 := lkey_0 L4.out; have d17 := lkey_17 L4.out HII.out; clear hb5))
      go_ret
      exact ⟨rfl, B4.out⟩
    · have hkd := kbits_kd hk
      obtain ⟨SG, hSG⟩ : ∃ SG, SG = signK k id q sd L := ⟨_, rfl⟩
      obtain ⟨PK, hPK⟩ : ∃ PK, PK = pubK k id q sd := ⟨_, rfl⟩
      obtain ⟨sz, hsz⟩ : ∃ sz, sz = ksize k := ⟨_, rfl⟩
      have hsl : SG.length = sz := by rw [hSG, hsz]; exact signK_length hkd id q sd L
      have hsz9 : sz < 10000 := by rw [hsz]; have := kchains_le k; unfold ksize; split <;> omega
      have hpk : Ky PK := by rw [hPK]; exact under_ky _ _ _ _
      have hsgb : Bs SG := by rw [hSG]; exact signK_bs k id q sd L
      have CSZ : Hid (∀ w1, Calls Tryd.prog 16 #[.int .i64 k] w1 fun e w' => e = .returned (.int .i64 (sz : Nat)) ∧ Below w1.heap.size w1 w') := fun w1 => by rw [hsz]; exact lSize_any k w1
      have CPB : Hid (∀ w1, Below w.heap.size w w1 → Calls Tryd.prog 8 #[.int .i64 k, .agg (u8s id).toArray, .int .u32 q, .agg (u8s sd).toArray] w1 fun e w' => e = .returned (.tuple #[.agg (u8s PK).toArray, .int .i64 0]) ∧ Below w1.heap.size w1 w') := fun w1 hb => by rw [hPK]; exact lPublic_kd k id q sd w1 hkd hi hq hs (ht.below hb)
      have CSG : Hid (∀ (A1 : Option Addr) (c1 : Nat) w1, Rp w1 none A1 L → L.length ≤ c1 → Below w.heap.size w w1 → Calls Tryd.prog 11 #[.int .i64 k, .agg (u8s id).toArray, .int .u32 q, .agg (u8s sd).toArray, .slice A1 L.length c1] w1 fun e w' => ∃ g, e = .returned (.tuple #[.slice (some ⟨g, 0, none⟩) sz sz, .int .i64 0]) ∧ Rp w' none (some ⟨g, 0, none⟩) SG ∧ Below w1.heap.size w1 w') := fun A1 c1 w1 hr hc1 hb => by
        refine (lSign_kd k id q sd A1 L.length c1 L w1 hkd hi hq hs rfl hr hBs (by omega) hc1 (ht.below hb)).mono fun e w' he => ?_
        obtain ⟨g, he, hge, hbk, hbl⟩ := he
        rw [← hsz] at he
        rw [← hSG] at hbk
        exact ⟨g, he, blk_rp hbk, hbl⟩
      have CRC : Hid (∀ g w1, Rp w1 none (some ⟨g, 0, none⟩) SG → Below w.heap.size w w1 → Calls Tryd.prog 14 #[.agg (u8s id).toArray, .int .u32 q, .slice A L.length c, .slice (some ⟨g, 0, none⟩) sz sz] w1 fun e w' => e = .returned (.tuple #[.agg (u8s PK).toArray, .bool true]) ∧ Below w1.heap.size w1 w') := fun g w1 hr hb => by
        have := lRecover_any id q A L.length c L (some ⟨g, 0, none⟩) sz sz SG w1 hi hq rfl (hRp.belowN hb) hBs (by omega) hc hsl.symm hr hsgb (by omega) (ht.below hb)
        rw [hSG, rec_sign hkd, sig_sign hkd, ← hPK] at this
        exact this
      have HI := hid (info_hash PK hpk.len); have HIL := hid (hash_info hpk.len)
      have HZ32 : Hid (Z.size = (u8s PK).toArray.size) := hz32.trans (hash_size hpk.len).symm
      have HEQ : Hid (∀ w : World, (binOp .eql 26 (.agg (u8s PK).toArray) (.agg (u8s PK).toArray)).run Tryd.prog w = .ok (.bool true) w) := fun w => by
        have h := eql_hash PK PK hpk.bs hpk.bs hpk.len hpk.len w
        rw [decide_eq_true rfl] at h
        exact h
      have HSL : Hid (sz = SG.length) := hsl.symm
      have HS9 : Hid (SG.length < 1000000) := by show _ < _; omega
      have HL9 : Hid (L.length < 1000000) := by show _ < _; omega
      have HLM : Hid (([] : List Int).length + L.length < 1000000000000) := by show _ < _; simp; omega
      have HCC := hid hc
      have ON : ∀ w1 : World, Hid (w1.ownsRow w1.heap.size 5 1 (.slice none 0 0) ([] : List Int).length (u8s [])) := fun w1 => ⟨by simp [u8s], .inl ⟨rfl, rfl⟩⟩
      clear hid0 hq hs hc ht hi hsm hk hkd hBs hRp hz32 hSG hPK hsz hsl hsz9 hpk hsgb
      go_enter Tryd.func6, Tryd.ntmps6
      go_wp2_with (first
        | (go_at_call 10; refine (kawake_any _).mono ?_; rintro e w1 ⟨rfl, hb1⟩; have L1 := hid (L0.out.below hb1); have B1 := hid (B0.out.trans (hb1.mono B0.out.size)); have RL1 := hid (HRL.out _ B1.out); have ON1 := ON w1; clear hb1)
        | (at_builtin; refine append_rpm rfl (.tmp 22) (.tmp 23) rfl w1.heap.size w1.heap.size _ [] rfl ON1.out A L.length c L rfl rfl RL1.out HLM.out (Nat.le_refl _) (Nat.le_refl _) ?_; intro v2 w2 HO2 HB2; obtain ⟨A2, c2, rfl, -, hc2, hf2⟩ := fresh_of_own (w := w1) HO2.out (Nat.le_refl _); have L2 := hid (L1.out.below HB2.out); have B2 := hid (B1.out.trans (HB2.out.mono B1.out.size)); have F2 : Hid (Rp w2 none A2 L) := hf2.rp0; have C2 : Hid (L.length ≤ c2) := hc2; have c0 := lkey_0 L2.out; have c17 := lkey_17 L2.out HII.out; clear hc2 hf2 HO2 HB2)
        | (refine load_at rfl 23 (.tmp 28) rfl w.heap.size 1 rfl (u8s id) _ (lkey_id L2.out HII.out) Tryd.underlying23 rfl IDI.out (u8s id).toArray rfl ?_)
        | (refine load_at rfl 26 (.tmp 32) rfl w.heap.size 18 rfl (u8s sd) _ (lkey_sd L2.out HII.out) Tryd.underlying26 rfl SDI.out (u8s sd).toArray rfl ?_)
        | (go_at_call 8; refine (CPB.out _ B2.out).mono ?_; rintro e w3 ⟨rfl, hb3⟩; have L3 := hid (L2.out.below hb3); have B3 := hid (B2.out.trans (hb3.mono B2.out.size)); have F3 := hid (F2.out.belowN hb3); clear hb3)
        | (refine wpList_store_row rfl 26 (.tmp 6) (.tmp 35) rfl w3.heap.size (u8s PK).toArray rfl rfl 26 Z (Blk.new w3 26 Z) HI.out HZ32.out (u8s_all PK) ?_; have hbb : Below w3.heap.size w3 ((w3.alloc (.cells Z 26)).setRow w3.heap.size (u8s PK).toArray) := below_setRow ((Below.refl _ _).alloc (Nat.le_refl _) _) (Nat.le_refl _) _; have P4 : Hid (Blk ((w3.alloc (.cells Z 26)).setRow w3.heap.size (u8s PK).toArray) w3.heap.size 26 (u8s PK).toArray) := (Blk.new w3 26 Z).row _; have L4 := hid (L3.out.below hbb); have B4 := hid (B3.out.trans (hbb.mono B3.out.size)); have F4 := hid (F3.out.belowN hbb); generalize (w3.alloc (.cells Z 26)).setRow w3.heap.size (u8s PK).toArray = w4 at P4 L4 B4 F4 ⊢; have d0 := lkey_0 L4.out; have d17 := lkey_17 L4.out HII.out; clear hbb)
        | (refine load_at rfl 23 (.tmp 40) rfl w.heap.size 1 rfl (u8s id) _ (lkey_id L4.out HII.out) Tryd.underlying23 rfl IDI.out (u8s id).toArray rfl ?_)
        | (refine load_at rfl 26 (.tmp 44) rfl w.heap.size 18 rfl (u8s sd) _ (lkey_sd L4.out HII.out) Tryd.underlying26 rfl SDI.out (u8s sd).toArray rfl ?_)
        | (go_at_call 11; (with_reducible refine (CSG.out A c _ (HRL.out _ B4.out) HCC.out B4.out).mono ?_); rintro e w5 ⟨g1, rfl, hs5, hb5⟩; have S5 := hid hs5; have P5 := hid (P4.out.below hb5); have L5 := hid (L4.out.below hb5); have B5 := hid (B4.out.trans (hb5.mono B4.out.size)); have F5 := hid (F4.out.belowN hb5); have e0 := lkey_0 L5.out; have e17 := lkey_17 L5.out HII.out; clear hs5 hb5)
        | (refine load_at rfl 23 (.tmp 53) rfl w.heap.size 1 rfl (u8s id) _ (lkey_id L5.out HII.out) Tryd.underlying23 rfl IDI.out (u8s id).toArray rfl ?_)
        | (refine load_at rfl 26 (.tmp 57) rfl w.heap.size 18 rfl (u8s sd) _ (lkey_sd L5.out HII.out) Tryd.underlying26 rfl SDI.out (u8s sd).toArray rfl ?_)
        | (go_at_call 11; refine (CSG.out A2 c2 _ F5.out C2.out B5.out).mono ?_; rintro e w6 ⟨g2, rfl, hs6, hb6⟩; have T6 := hid hs6; have S6 := hid (S5.out.belowN hb6); have P6 := hid (P5.out.below hb6); have L6 := hid (L5.out.below hb6); have B6 := hid (B5.out.trans (hb6.mono B5.out.size)); have F6 := hid (F5.out.belowN hb6); have f0 := lkey_0 L6.out; have f17 := lkey_17 L6.out HII.out; clear hs6 hb6)
        | (refine load_at rfl 23 (.tmp 83) rfl w.heap.size 1 rfl (u8s id) _ (lkey_id L6.out HII.out) Tryd.underlying23 rfl IDI.out (u8s id).toArray rfl ?_)
        | (go_at_call 14; refine (CRC.out g1 _ S6.out B6.out).mono ?_; rintro e w7 ⟨rfl, hb7⟩; have T7 := hid (T6.out.belowN hb7); have S7 := hid (S6.out.belowN hb7); have P7 := hid (P6.out.below hb7); have L7 := hid (L6.out.below hb7); have B7 := hid (B6.out.trans (hb7.mono B6.out.size)); have F7 := hid (F6.out.belowN hb7); clear hb7)
        | (refine wpList_store_row rfl 26 (.tmp 12) (.tmp 90) rfl w7.heap.size (u8s PK).toArray rfl rfl 26 Z (Blk.new w7 26 Z) HI.out HZ32.out (u8s_all PK) ?_; have hbb : Below w7.heap.size w7 ((w7.alloc (.cells Z 26)).setRow w7.heap.size (u8s PK).toArray) := below_setRow ((Below.refl _ _).alloc (Nat.le_refl _) _) (Nat.le_refl _) _; have Q8 : Hid (Blk ((w7.alloc (.cells Z 26)).setRow w7.heap.size (u8s PK).toArray) w7.heap.size 26 (u8s PK).toArray) := (Blk.new w7 26 Z).row _; have P8 := hid (P7.out.below hbb); have L8 := hid (L7.out.below hbb); have B8 := hid (B7.out.trans (hbb.mono B7.out.size)); have F8 := hid (F7.out.belowN hbb); have S8 := hid (S7.out.belowN hbb); have T8 := hid (T7.out.belowN hbb); generalize (w7.alloc (.cells Z 26)).setRow w7.heap.size (u8s PK).toArray = w8 at Q8 P8 L8 B8 F8 S8 T8 ⊢; have h0 := lkey_0 L8.out; have heq := HEQ.out; clear hbb)
        | (refine load_at rfl 26 (.tmp 12) rfl w7.heap.size 0 rfl (u8s PK) _ (blk_row Q8.out) Tryd.underlying26 rfl HIL.out (u8s PK).toArray rfl ?_)
        | (refine load_at rfl 26 (.tmp 6) rfl w3.heap.size 0 rfl (u8s PK) _ (blk_row P8.out) Tryd.underlying26 rfl HIL.out (u8s PK).toArray rfl ?_)
        | (go_at_call 16; refine (CSZ.out _).mono ?_; rintro e w9 ⟨rfl, hb9⟩; have B9 := hid (B8.out.trans (hb9.mono B8.out.size)); have F9 := hid (F8.out.belowN hb9); have S9 := hid (S8.out.belowN hb9); have T9 := hid (T8.out.belowN hb9); clear hb9)
        | (go_at_call 13; (with_reducible refine (CSM.out _ _ _ _ sz SG w9 HSL.out HS9.out S9.out T9.out).mono ?_); rintro e w10 ⟨rfl, q4, rfl⟩)
        | (go_at_call 13; refine (CSM.out A2 A c2 c L.length L _ rfl HL9.out (F9.out.drewN q4) (HRL.out _ (below_drewN B9.out q4))).mono ?_; rintro e w11 ⟨rfl, q5, rfl⟩))
      go_ret
      exact ⟨rfl, below_drewN B9.out (q4 + q5)⟩
end Go.Proofs.YteiflhgmgdibgaaDoor
