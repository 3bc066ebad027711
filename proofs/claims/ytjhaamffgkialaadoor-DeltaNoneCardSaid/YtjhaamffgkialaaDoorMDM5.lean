/-
  What is proved here: where there is no tree there is nothing since, and nothing is applied: the walk of the statement.
-/
import Derived.Test.YtjhaamffgkialaaDoorMQZ2
set_option linter.unusedSimpArgs false
set_option linter.unusedVariables false
namespace Go.Proofs.YtjhaamffgkialaaDoor
open Go.ChangeShapes Go.WideShapes Go.ChangeAt Go.RowKit Go.Shelf
set_option linter.unusedVariables false
set_option linter.unusedSimpArgs false
set_option maxRecDepth 20000

theorem build_h0w {ops : Array Oper} {rest : List Oper} {o : Oper} {a : Act} {w : World} {Q : Exit → Act → World → Prop} (hw : Region.wanted o (yielded ops a.tmps) = true) (ho : o.op = .build 26 #[])
    (h : wpList Tryd.prog ops Q rest (a.put o.dst (.agg (kc zk))) w) : wpList Tryd.prog ops Q (o :: rest) a w := by
  have e : (Array.map (fun (i, x) => (i, a.eval x)) (#[] : Array (Nat × Operand))).toList = [] := by simp
  refine BigFrame.wpList_want hw fun K hK => ?_
  unfold Oper.wp
  rw [exec_build 26 #[] ho (kc zk) (by rw [e]; exact built_hash0) w]
  exact hK _ _ h
set_option maxHeartbeats 8000000 in
theorem dnone_main {w : World} {A0 : Option Addr} {n c0 : Nat} {P : List KV} (tree size : Int) (h : InP w A0 n P) (hn : n ≤ 15) (ht : Tab w) : Calls Tryd.prog 5 #[.slice A0 n c0, .int .i64 tree, .int .i64 size] w fun e w' => e = .returned (.bool true) ∧ Below w.heap.size w w' := by
  obtain ⟨Z, HZ, hZ0, hZs⟩ := zero_key
  have CA := hid (fun w1 (hb : Below w.heap.size w w1) => dawake_any w1 (ht.below hb))
  have CL := hid (fun w1 (hb : Below w.heap.size w w1) => xBuilt_any (c0 := c0) (h.below hb) (by omega) (ht.below hb))
  have HPL : Hid (P.length ≤ 15) := by have := h.1; show _ ≤ _; omega
  have HT := hid ht
  have hm1 : ¬ (15 : Int) < (n : Int) := by omega
  clear h ht hn
  unfold BtA at CL
  go_enter Tryd.func5, Tryd.ntmps5
  go_upto_region 4 with (first
    | (go_at_call 27; refine (CA.out _ (Below.refl _ _)).mono ?_; rintro e w1 ⟨rfl, hb⟩; have B1 := hid hb; clear hb)
    | (go_at_call 12; refine (CL.out _ B1.out).mono ?_; rintro e w2 ⟨f, ti, g, b, N, A, c, tv, T, rfl, bt⟩; have BT := hid bt; clear bt))
  clear hm1 CA CL
  have hnl : N.length ≤ 1050 := by have h1 := BT.out.nl; have h2 := HPL.out; omega
  have FO := hid BT.out.fo
  have B2 := hid (B1.out.trans (BT.out.bl.mono B1.out.size))
  have HT2 := hid (HT.out.below B2.out)
  have hw1 := tat_small BT.out.t
  have CSZ := hid (fun w' (hb : Below w2.heap.size w2 w') => xSize_at (FO.out.below hb))
  have CSN := hid (fun (w' : World) => since_no (sz := size) (xRoot_bad (w := w') (p := none) (i := tree) (fun w1 _ => xisTree_nil tree w1)))
  obtain ⟨R, hR⟩ : ∃ R, R = hsO T := ⟨_, rfl⟩
  have CR0 := fun w' (hb : Below w2.heap.size w2 w') => droot_any (FO.out.below hb) BT.out.t (HT2.out.below hb)
  have hRk : Ky R := by rw [hR]; exact (CR0 w2 (Below.refl _ _)).1
  have CR := hid (fun w' (hb : Below w2.heap.size w2 w') => (CR0 w' hb).2)
  have CA2 := hid (fun w' (hb : Below w2.heap.size w2 w') => dApply_nil hRk (FO.out.below hb) BT.out.t (HT2.out.below hb) (by omega) (Nat.lt_of_le_of_lt numOlen (by omega)))
  rw [← hR] at CR CA2
  clear CR0 hw1 hR
  have HRI := hid (kc_info hRk)
  have hrz : Hid (Z.size = (kc R).size) := by show _ = _; rw [HZ.out, kc_size zk_ky, kc_size hRk]
  have FR := hid BT.out.fr
  clear BT HPL B1
  have Z0 : Ky zk := zk_ky
  unfold hV at CR
  by_cases hge : -1 ≤ tree
  · by_cases hlt : tree < (N.length : Int)
    · have hit : isTr N.length tree = true := by
        unfold isTr isNd
        rcases Int.lt_or_le tree 0 with h1 | h1
        · rw [show tree = -1 by omega]; rfl
        · rw [decide_eq_true (show 0 ≤ tree ∧ tree < N.length from ⟨h1, hlt⟩)]; simp
      obtain ⟨T2, hT2⟩ := tat_of FR.out hit
      clear hit
      have hw2 := tat_small hT2
      obtain ⟨O, hO⟩ : ∃ O, O = hsO T2 := ⟨_, rfl⟩
      have CR0 := fun w' (hb : Below w2.heap.size w2 w') => droot_any (FO.out.below hb) hT2 (HT2.out.below hb)
      have hOk : Ky O := by rw [hO]; exact (CR0 w2 (Below.refl _ _)).1
      have CO := hid (fun w' (hb : Below w2.heap.size w2 w') => (CR0 w' hb).2)
      have CP := hid (fun w' (hb : Below w2.heap.size w2 w') => dApply_nil zk_ky (FO.out.below hb) hT2 (HT2.out.below hb) (by omega) (Nat.lt_of_le_of_lt numOlen (by omega)))
      have CSP := hid (fun (hs : 0 ≤ size) w' (hb : Below w2.heap.size w2 w') => since_any (FO.out.below hb) FR.out hT2 hs (by omega) (Nat.lt_of_le_of_lt numOlen (by omega)) (HT2.out.below hb))
      rw [← hO] at CO CP
      have CSM := hid (fun (hs : size < 0) w' (hb : Below w2.heap.size w2 w') => since_neg (p := some ⟨f, 0, none⟩) (ti := tree) hOk hs (CO.out w' hb))
      unfold hV at CO
      clear CR0 hw2 hO hT2
      have HOK := hid hOk
      have HOI := hid (kc_info hOk)
      have hoz : Hid (Z.size = (kc O).size) := by show _ = _; rw [HZ.out, kc_size zk_ky, kc_size hOk]
      by_cases hsz : 0 ≤ size
      · have CS := hid (CSP.out hsz)
        clear CSP CSM
        unfold SnA at CS
        by_cases hz : O = zk
        · subst hz
          go_upto_region 8 with (first
              | (go_at_call 28; refine (CSZ.out _ (Below.refl _ _)).mono ?_; rintro e wz ⟨rfl, rfl⟩)
              | (go_at_call 29; with_reducible refine (CS.out _ (Below.refl _ _)).mono ?_; rintro e w4 ⟨v4, rfl, ho, hb⟩; have D4 := hid hb; obtain ⟨A4, c4, hv4⟩ := ho.len; obtain ⟨m4, hm4⟩ : ∃ m4 : Nat, v4 = .slice A4 m4 c4 := ⟨_, hv4⟩; clear hv4; subst hm4; clear hb ho)
              | (go_at_call 29; with_reducible refine (CSN.out _).mono ?_; rintro e w6 ⟨rfl, hb⟩; have D6 := hid (D5.out.trans (hb.mono D5.out.size)); clear hb)
              | (refine build_h0 rfl rfl ?_)
              | (go_at_call 30; with_reducible refine (CP.out _ D4.out).mono ?_; rintro e w5 ⟨h5, hb⟩; obtain ⟨_, rfl⟩ : True ∧ e = .returned (.tuple #[.int .i64 tree, .int .i64 0]) := (by rcases h5 with h | h; exact h; exact absurd trivial (by simpa using h.1)); have D5 := hid (D4.out.trans (hb.mono D4.out.size)); clear hb h5))
          go_upto_region 9 with (first
              | (go_at_call 13; with_reducible refine (CR.out _ D6.out).mono ?_; rintro e w7 ⟨rfl, hb⟩; have D7 := hid (D6.out.trans (hb.mono D6.out.size)); clear hb)
              | (refine wpList_store_row rfl 26 (.tmp 16) (.tmp 68) rfl w7.heap.size (kc R) rfl rfl 26 Z (Blk.new w7 26 Z) HRI.out hrz.out (kc_one _) ?_))
          have D8 : Hid (Below w2.heap.size w2 ((w7.alloc (.cells Z 26)).setRow w7.heap.size (kc R))) := below_setRow (D7.out.alloc D7.out.size _) D7.out.size _
          have KR : Hid (Blk ((w7.alloc (.cells Z 26)).setRow w7.heap.size (kc R)) w7.heap.size 26 (kc R)) := (Blk.new w7 26 Z).row _
          generalize (w7.alloc (.cells Z 26)).setRow w7.heap.size (kc R) = w8 at D8 KR ⊢
          go_upto_region 10 with (first
              | (refine load_at rfl 26 (.tmp 16) rfl w7.heap.size 0 rfl (u8s R) _ (blk_key KR.out) Tryd.underlying26 rfl (u8s_info hRk) (kc R) rfl ?_)
              | (go_at_call 30; with_reducible refine (CA2.out _ D8.out).mono ?_; rintro e w9 ⟨h9, hb⟩; obtain ⟨_, rfl⟩ : True ∧ e = .returned (.tuple #[.int .i64 ti, .int .i64 0]) := (by rcases h9 with h | h; exact h; exact absurd trivial (by simpa using h.1)); have D9 := hid (D8.out.trans (hb.mono D8.out.size)); clear hb h9))
          go_upto_region 11 with (first
              | (go_at_call 13; with_reducible refine (CO.out _ D9.out).mono ?_; rintro e w10 ⟨rfl, hb⟩; have D10 := hid (D9.out.trans (hb.mono D9.out.size)); clear hb)
              | (refine wpList_store_row rfl 26 (.tmp 20) (.tmp 81) rfl w10.heap.size (kc zk) rfl rfl 26 Z (Blk.new w10 26 Z) HOI.out hoz.out (kc_one _) ?_))
          have D11 : Hid (Below w2.heap.size w2 ((w10.alloc (.cells Z 26)).setRow w10.heap.size (kc zk))) := below_setRow (D10.out.alloc D10.out.size _) D10.out.size _
          have KO : Hid (Blk ((w10.alloc (.cells Z 26)).setRow w10.heap.size (kc zk)) w10.heap.size 26 (kc zk)) := (Blk.new w10 26 Z).row _
          generalize (w10.alloc (.cells Z 26)).setRow w10.heap.size (kc zk) = w11 at D11 KO ⊢
          have heq : ∀ w, (binOp .eql 26 (.agg (kc zk)) (.agg (kc zk))).run Tryd.prog w = .ok (.bool true) w := fun w => by rw [eql_key zk zk Z0 Z0 w, decide_eq_true rfl]
          clear KR D10 D9 D8 D7 D6 D5 D4 CSZ CSN CS CP CR CO CA2
          go_wp2_with (first
              | (refine load_at rfl 26 (.tmp 20) rfl w10.heap.size 0 rfl (u8s zk) _ (blk_key KO.out) Tryd.underlying26 rfl (u8s_info HOK.out) (kc zk) rfl ?_)
              | (refine build_h0w rfl rfl ?_)
              | fail)
          go_ret
          exact ⟨rfl, B2.out.trans (D11.out.mono B2.out.size)⟩
        · go_upto_region 8 with (first
              | (go_at_call 28; refine (CSZ.out _ (Below.refl _ _)).mono ?_; rintro e wz ⟨rfl, rfl⟩)
              | (go_at_call 29; with_reducible refine (CS.out _ (Below.refl _ _)).mono ?_; rintro e w4 ⟨v4, rfl, ho, hb⟩; have D4 := hid hb; obtain ⟨A4, c4, hv4⟩ := ho.len; obtain ⟨m4, hm4⟩ : ∃ m4 : Nat, v4 = .slice A4 m4 c4 := ⟨_, hv4⟩; clear hv4; subst hm4; clear hb ho)
              | (go_at_call 29; with_reducible refine (CSN.out _).mono ?_; rintro e w6 ⟨rfl, hb⟩; have D6 := hid (D5.out.trans (hb.mono D5.out.size)); clear hb)
              | (refine build_h0 rfl rfl ?_)
              | (go_at_call 30; with_reducible refine (CP.out _ D4.out).mono ?_; rintro e w5 ⟨h5, hb⟩; obtain ⟨_, rfl⟩ : O ≠ zk ∧ e = .returned (.tuple #[.int .i64 0, .int .i64 9]) := (by rcases h5 with h | h; exact absurd h.1 hz; exact h); have D5 := hid (D4.out.trans (hb.mono D4.out.size)); clear hb h5))
          go_upto_region 9 with (first
              | (go_at_call 13; with_reducible refine (CR.out _ D6.out).mono ?_; rintro e w7 ⟨rfl, hb⟩; have D7 := hid (D6.out.trans (hb.mono D6.out.size)); clear hb)
              | (refine wpList_store_row rfl 26 (.tmp 16) (.tmp 68) rfl w7.heap.size (kc R) rfl rfl 26 Z (Blk.new w7 26 Z) HRI.out hrz.out (kc_one _) ?_))
          have D8 : Hid (Below w2.heap.size w2 ((w7.alloc (.cells Z 26)).setRow w7.heap.size (kc R))) := below_setRow (D7.out.alloc D7.out.size _) D7.out.size _
          have KR : Hid (Blk ((w7.alloc (.cells Z 26)).setRow w7.heap.size (kc R)) w7.heap.size 26 (kc R)) := (Blk.new w7 26 Z).row _
          generalize (w7.alloc (.cells Z 26)).setRow w7.heap.size (kc R) = w8 at D8 KR ⊢
          go_upto_region 10 with (first
              | (refine load_at rfl 26 (.tmp 16) rfl w7.heap.size 0 rfl (u8s R) _ (blk_key KR.out) Tryd.underlying26 rfl (u8s_info hRk) (kc R) rfl ?_)
              | (go_at_call 30; with_reducible refine (CA2.out _ D8.out).mono ?_; rintro e w9 ⟨h9, hb⟩; obtain ⟨_, rfl⟩ : True ∧ e = .returned (.tuple #[.int .i64 ti, .int .i64 0]) := (by rcases h9 with h | h; exact h; exact absurd trivial (by simpa using h.1)); have D9 := hid (D8.out.trans (hb.mono D8.out.size)); clear hb h9))
          go_upto_region 11 with (first
              | (go_at_call 13; with_reducible refine (CO.out _ D9.out).mono ?_; rintro e w10 ⟨rfl, hb⟩; have D10 := hid (D9.out.trans (hb.mono D9.out.size)); clear hb)
              | (refine wpList_store_row rfl 26 (.tmp 20) (.tmp 81) rfl w10.heap.size (kc O) rfl rfl 26 Z (Blk.new w10 26 Z) HOI.out hoz.out (kc_one _) ?_))
          have D11 : Hid (Below w2.heap.size w2 ((w10.alloc (.cells Z 26)).setRow w10.heap.size (kc O))) := below_setRow (D10.out.alloc D10.out.size _) D10.out.size _
          have KO : Hid (Blk ((w10.alloc (.cells Z 26)).setRow w10.heap.size (kc O)) w10.heap.size 26 (kc O)) := (Blk.new w10 26 Z).row _
          generalize (w10.alloc (.cells Z 26)).setRow w10.heap.size (kc O) = w11 at D11 KO ⊢
          have heq : ∀ w, (binOp .eql 26 (.agg (kc O)) (.agg (kc zk))).run Tryd.prog w = .ok (.bool false) w := fun w => by rw [eql_key O zk HOK.out Z0 w, decide_eq_false hz]
          clear KR D10 D9 D8 D7 D6 D5 D4 CSZ CSN CS CP CR CO CA2
          go_wp2_with (first
              | (refine load_at rfl 26 (.tmp 20) rfl w10.heap.size 0 rfl (u8s O) _ (blk_key KO.out) Tryd.underlying26 rfl (u8s_info HOK.out) (kc O) rfl ?_)
              | (refine build_h0w rfl rfl ?_)
              | fail)
          go_ret
          exact ⟨rfl, B2.out.trans (D11.out.mono B2.out.size)⟩
      · have CS := hid (CSM.out (by omega))
        clear CSP CSM
        by_cases hz : O = zk
        · subst hz
          go_upto_region 8 with (first
              | (go_at_call 28; refine (CSZ.out _ (Below.refl _ _)).mono ?_; rintro e wz ⟨rfl, rfl⟩)
              | (go_at_call 29; with_reducible refine (CS.out _ (Below.refl _ _)).mono ?_; rintro e w4 ⟨rfl, hb⟩; have D4 := hid hb; clear hb)
              | (go_at_call 29; with_reducible refine (CSN.out _).mono ?_; rintro e w6 ⟨rfl, hb⟩; have D6 := hid (D5.out.trans (hb.mono D5.out.size)); clear hb)
              | (refine build_h0 rfl rfl ?_)
              | (go_at_call 30; with_reducible refine (CP.out _ D4.out).mono ?_; rintro e w5 ⟨h5, hb⟩; obtain ⟨_, rfl⟩ : True ∧ e = .returned (.tuple #[.int .i64 tree, .int .i64 0]) := (by rcases h5 with h | h; exact h; exact absurd trivial (by simpa using h.1)); have D5 := hid (D4.out.trans (hb.mono D4.out.size)); clear hb h5))
          go_upto_region 9 with (first
              | (go_at_call 13; with_reducible refine (CR.out _ D6.out).mono ?_; rintro e w7 ⟨rfl, hb⟩; have D7 := hid (D6.out.trans (hb.mono D6.out.size)); clear hb)
              | (refine wpList_store_row rfl 26 (.tmp 16) (.tmp 68) rfl w7.heap.size (kc R) rfl rfl 26 Z (Blk.new w7 26 Z) HRI.out hrz.out (kc_one _) ?_))
          have D8 : Hid (Below w2.heap.size w2 ((w7.alloc (.cells Z 26)).setRow w7.heap.size (kc R))) := below_setRow (D7.out.alloc D7.out.size _) D7.out.size _
          have KR : Hid (Blk ((w7.alloc (.cells Z 26)).setRow w7.heap.size (kc R)) w7.heap.size 26 (kc R)) := (Blk.new w7 26 Z).row _
          generalize (w7.alloc (.cells Z 26)).setRow w7.heap.size (kc R) = w8 at D8 KR ⊢
          go_upto_region 10 with (first
              | (refine load_at rfl 26 (.tmp 16) rfl w7.heap.size 0 rfl (u8s R) _ (blk_key KR.out) Tryd.underlying26 rfl (u8s_info hRk) (kc R) rfl ?_)
              | (go_at_call 30; with_reducible refine (CA2.out _ D8.out).mono ?_; rintro e w9 ⟨h9, hb⟩; obtain ⟨_, rfl⟩ : True ∧ e = .returned (.tuple #[.int .i64 ti, .int .i64 0]) := (by rcases h9 with h | h; exact h; exact absurd trivial (by simpa using h.1)); have D9 := hid (D8.out.trans (hb.mono D8.out.size)); clear hb h9))
          go_upto_region 11 with (first
              | (go_at_call 13; with_reducible refine (CO.out _ D9.out).mono ?_; rintro e w10 ⟨rfl, hb⟩; have D10 := hid (D9.out.trans (hb.mono D9.out.size)); clear hb)
              | (refine wpList_store_row rfl 26 (.tmp 20) (.tmp 81) rfl w10.heap.size (kc zk) rfl rfl 26 Z (Blk.new w10 26 Z) HOI.out hoz.out (kc_one _) ?_))
          have D11 : Hid (Below w2.heap.size w2 ((w10.alloc (.cells Z 26)).setRow w10.heap.size (kc zk))) := below_setRow (D10.out.alloc D10.out.size _) D10.out.size _
          have KO : Hid (Blk ((w10.alloc (.cells Z 26)).setRow w10.heap.size (kc zk)) w10.heap.size 26 (kc zk)) := (Blk.new w10 26 Z).row _
          generalize (w10.alloc (.cells Z 26)).setRow w10.heap.size (kc zk) = w11 at D11 KO ⊢
          have heq : ∀ w, (binOp .eql 26 (.agg (kc zk)) (.agg (kc zk))).run Tryd.prog w = .ok (.bool true) w := fun w => by rw [eql_key zk zk Z0 Z0 w, decide_eq_true rfl]
          clear KR D10 D9 D8 D7 D6 D5 D4 CSZ CSN CS CP CR CO CA2
          go_wp2_with (first
              | (refine load_at rfl 26 (.tmp 20) rfl w10.heap.size 0 rfl (u8s zk) _ (blk_key KO.out) Tryd.underlying26 rfl (u8s_info HOK.out) (kc zk) rfl ?_)
              | (refine build_h0w rfl rfl ?_)
              | fail)
          go_ret
          exact ⟨by show Ending.returned (Value.bool (!decide (0 ≤ size))) = _; rw [decide_eq_false (show ¬ 0 ≤ size by omega)]; rfl, B2.out.trans (D11.out.mono B2.out.size)⟩
        · go_upto_region 8 with (first
              | (go_at_call 28; refine (CSZ.out _ (Below.refl _ _)).mono ?_; rintro e wz ⟨rfl, rfl⟩)
              | (go_at_call 29; with_reducible refine (CS.out _ (Below.refl _ _)).mono ?_; rintro e w4 ⟨rfl, hb⟩; have D4 := hid hb; clear hb)
              | (go_at_call 29; with_reducible refine (CSN.out _).mono ?_; rintro e w6 ⟨rfl, hb⟩; have D6 := hid (D5.out.trans (hb.mono D5.out.size)); clear hb)
              | (refine build_h0 rfl rfl ?_)
              | (go_at_call 30; with_reducible refine (CP.out _ D4.out).mono ?_; rintro e w5 ⟨h5, hb⟩; obtain ⟨_, rfl⟩ : O ≠ zk ∧ e = .returned (.tuple #[.int .i64 0, .int .i64 9]) := (by rcases h5 with h | h; exact absurd h.1 hz; exact h); have D5 := hid (D4.out.trans (hb.mono D4.out.size)); clear hb h5))
          go_upto_region 9 with (first
              | (go_at_call 13; with_reducible refine (CR.out _ D6.out).mono ?_; rintro e w7 ⟨rfl, hb⟩; have D7 := hid (D6.out.trans (hb.mono D6.out.size)); clear hb)
              | (refine wpList_store_row rfl 26 (.tmp 16) (.tmp 68) rfl w7.heap.size (kc R) rfl rfl 26 Z (Blk.new w7 26 Z) HRI.out hrz.out (kc_one _) ?_))
          have D8 : Hid (Below w2.heap.size w2 ((w7.alloc (.cells Z 26)).setRow w7.heap.size (kc R))) := below_setRow (D7.out.alloc D7.out.size _) D7.out.size _
          have KR : Hid (Blk ((w7.alloc (.cells Z 26)).setRow w7.heap.size (kc R)) w7.heap.size 26 (kc R)) := (Blk.new w7 26 Z).row _
          generalize (w7.alloc (.cells Z 26)).setRow w7.heap.size (kc R) = w8 at D8 KR ⊢
          go_upto_region 10 with (first
              | (refine load_at rfl 26 (.tmp 16) rfl w7.heap.size 0 rfl (u8s R) _ (blk_key KR.out) Tryd.underlying26 rfl (u8s_info hRk) (kc R) rfl ?_)
              | (go_at_call 30; with_reducible refine (CA2.out _ D8.out).mono ?_; rintro e w9 ⟨h9, hb⟩; obtain ⟨_, rfl⟩ : True ∧ e = .returned (.tuple #[.int .i64 ti, .int .i64 0]) := (by rcases h9 with h | h; exact h; exact absurd trivial (by simpa using h.1)); have D9 := hid (D8.out.trans (hb.mono D8.out.size)); clear hb h9))
          go_upto_region 11 with (first
              | (go_at_call 13; with_reducible refine (CO.out _ D9.out).mono ?_; rintro e w10 ⟨rfl, hb⟩; have D10 := hid (D9.out.trans (hb.mono D9.out.size)); clear hb)
              | (refine wpList_store_row rfl 26 (.tmp 20) (.tmp 81) rfl w10.heap.size (kc O) rfl rfl 26 Z (Blk.new w10 26 Z) HOI.out hoz.out (kc_one _) ?_))
          have D11 : Hid (Below w2.heap.size w2 ((w10.alloc (.cells Z 26)).setRow w10.heap.size (kc O))) := below_setRow (D10.out.alloc D10.out.size _) D10.out.size _
          have KO : Hid (Blk ((w10.alloc (.cells Z 26)).setRow w10.heap.size (kc O)) w10.heap.size 26 (kc O)) := (Blk.new w10 26 Z).row _
          generalize (w10.alloc (.cells Z 26)).setRow w10.heap.size (kc O) = w11 at D11 KO ⊢
          have heq : ∀ w, (binOp .eql 26 (.agg (kc O)) (.agg (kc zk))).run Tryd.prog w = .ok (.bool false) w := fun w => by rw [eql_key O zk HOK.out Z0 w, decide_eq_false hz]
          clear KR D10 D9 D8 D7 D6 D5 D4 CSZ CSN CS CP CR CO CA2
          go_wp2_with (first
              | (refine load_at rfl 26 (.tmp 20) rfl w10.heap.size 0 rfl (u8s O) _ (blk_key KO.out) Tryd.underlying26 rfl (u8s_info HOK.out) (kc O) rfl ?_)
              | (refine build_h0w rfl rfl ?_)
              | fail)
          go_ret
          exact ⟨by show Ending.returned (Value.bool (!decide (0 ≤ size))) = _; rw [decide_eq_false (show ¬ 0 ≤ size by omega)]; rfl, B2.out.trans (D11.out.mono B2.out.size)⟩
    · have hit : isTr N.length tree = false := by
        unfold isTr isNd
        rw [decide_eq_false (show ¬ tree = -1 by omega), decide_eq_false (show ¬ (0 ≤ tree ∧ tree < N.length) from fun h => hlt h.2)]; rfl
      have CRB := fun w' (hb : Below w2.heap.size w2 w') => xRoot_bad (w := w') (p := some ⟨f, 0, none⟩) (i := tree) (fun w1 hb1 => by have := xisTree_at ((FO.out.below hb).below hb1) tree; rw [hit] at this; exact this)
      have CO := hid CRB
      unfold hV at CO
      have CS := hid (fun w' (hb : Below w2.heap.size w2 w') => since_no (sz := size) (CRB w' hb))
      have CP := hid (fun w' (hb : Below w2.heap.size w2 w') => dApply_bad zk_ky (fun w1 hb1 => CRB w1 (hb.trans (hb1.mono hb.size))))
      have HOK := hid zk_ky
      have HOI := hid (kc_info zk_ky)
      have hoz : Hid (Z.size = (kc zk).size) := by show _ = _; rw [HZ.out]
      clear CRB hit
      go_upto_region 8 with (first
          | (go_at_call 28; refine (CSZ.out _ (Below.refl _ _)).mono ?_; rintro e wz ⟨rfl, rfl⟩)
          | (go_at_call 29; with_reducible refine (CS.out _ (Below.refl _ _)).mono ?_; rintro e w4 ⟨rfl, hb⟩; have D4 := hid hb; clear hb)
          | (go_at_call 29; with_reducible refine (CSN.out _).mono ?_; rintro e w6 ⟨rfl, hb⟩; have D6 := hid (D5.out.trans (hb.mono D5.out.size)); clear hb)
          | (refine build_h0 rfl rfl ?_)
          | (go_at_call 30; with_reducible refine (CP.out _ D4.out).mono ?_; rintro e w5 ⟨rfl, hb⟩; have D5 := hid (D4.out.trans (hb.mono D4.out.size)); clear hb))
      go_upto_region 9 with (first
          | (go_at_call 13; with_reducible refine (CR.out _ D6.out).mono ?_; rintro e w7 ⟨rfl, hb⟩; have D7 := hid (D6.out.trans (hb.mono D6.out.size)); clear hb)
          | (refine wpList_store_row rfl 26 (.tmp 16) (.tmp 68) rfl w7.heap.size (kc R) rfl rfl 26 Z (Blk.new w7 26 Z) HRI.out hrz.out (kc_one _) ?_))
      have D8 : Hid (Below w2.heap.size w2 ((w7.alloc (.cells Z 26)).setRow w7.heap.size (kc R))) := below_setRow (D7.out.alloc D7.out.size _) D7.out.size _
      have KR : Hid (Blk ((w7.alloc (.cells Z 26)).setRow w7.heap.size (kc R)) w7.heap.size 26 (kc R)) := (Blk.new w7 26 Z).row _
      generalize (w7.alloc (.cells Z 26)).setRow w7.heap.size (kc R) = w8 at D8 KR ⊢
      go_upto_region 10 with (first
          | (refine load_at rfl 26 (.tmp 16) rfl w7.heap.size 0 rfl (u8s R) _ (blk_key KR.out) Tryd.underlying26 rfl (u8s_info hRk) (kc R) rfl ?_)
          | (go_at_call 30; with_reducible refine (CA2.out _ D8.out).mono ?_; rintro e w9 ⟨h9, hb⟩; obtain ⟨_, rfl⟩ : True ∧ e = .returned (.tuple #[.int .i64 ti, .int .i64 0]) := (by rcases h9 with h | h; exact h; exact absurd trivial (by simpa using h.1)); have D9 := hid (D8.out.trans (hb.mono D8.out.size)); clear hb h9))
      go_upto_region 11 with (first
          | (go_at_call 13; with_reducible refine (CO.out _ D9.out).mono ?_; rintro e w10 ⟨rfl, hb⟩; have D10 := hid (D9.out.trans (hb.mono D9.out.size)); clear hb)
          | (refine wpList_store_row rfl 26 (.tmp 20) (.tmp 81) rfl w10.heap.size (kc zk) rfl rfl 26 Z (Blk.new w10 26 Z) HOI.out hoz.out (kc_one _) ?_))
      have D11 : Hid (Below w2.heap.size w2 ((w10.alloc (.cells Z 26)).setRow w10.heap.size (kc zk))) := below_setRow (D10.out.alloc D10.out.size _) D10.out.size _
      have KO : Hid (Blk ((w10.alloc (.cells Z 26)).setRow w10.heap.size (kc zk)) w10.heap.size 26 (kc zk)) := (Blk.new w10 26 Z).row _
      generalize (w10.alloc (.cells Z 26)).setRow w10.heap.size (kc zk) = w11 at D11 KO ⊢

      clear KR D10 D9 D8 D7 D6 D5 D4 CSZ CSN CS CP CR CO CA2
      go_wp2_with (first
          | fail)
      go_ret
      exact ⟨rfl, B2.out.trans (D11.out.mono B2.out.size)⟩
  · have hit : isTr N.length tree = false := by
      unfold isTr isNd
      rw [decide_eq_false (show ¬ tree = -1 by omega), decide_eq_false (show ¬ (0 ≤ tree ∧ tree < N.length) from fun h => by omega)]; rfl
    have CRB := fun w' (hb : Below w2.heap.size w2 w') => xRoot_bad (w := w') (p := some ⟨f, 0, none⟩) (i := tree) (fun w1 hb1 => by have := xisTree_at ((FO.out.below hb).below hb1) tree; rw [hit] at this; exact this)
    have CO := hid CRB
    unfold hV at CO
    have CS := hid (fun w' (hb : Below w2.heap.size w2 w') => since_no (sz := size) (CRB w' hb))
    have CP := hid (fun w' (hb : Below w2.heap.size w2 w') => dApply_bad zk_ky (fun w1 hb1 => CRB w1 (hb.trans (hb1.mono hb.size))))
    have HOK := hid zk_ky
    have HOI := hid (kc_info zk_ky)
    have hoz : Hid (Z.size = (kc zk).size) := by show _ = _; rw [HZ.out]
    clear CRB hit
    go_upto_region 8 with (first
        | (go_at_call 28; refine (CSZ.out _ (Below.refl _ _)).mono ?_; rintro e wz ⟨rfl, rfl⟩)
        | (go_at_call 29; with_reducible refine (CS.out _ (Below.refl _ _)).mono ?_; rintro e w4 ⟨rfl, hb⟩; have D4 := hid hb; clear hb)
        | (go_at_call 29; with_reducible refine (CSN.out _).mono ?_; rintro e w6 ⟨rfl, hb⟩; have D6 := hid (D5.out.trans (hb.mono D5.out.size)); clear hb)
        | (refine build_h0 rfl rfl ?_)
        | (go_at_call 30; with_reducible refine (CP.out _ D4.out).mono ?_; rintro e w5 ⟨rfl, hb⟩; have D5 := hid (D4.out.trans (hb.mono D4.out.size)); clear hb))
    go_upto_region 9 with (first
        | (go_at_call 13; with_reducible refine (CR.out _ D6.out).mono ?_; rintro e w7 ⟨rfl, hb⟩; have D7 := hid (D6.out.trans (hb.mono D6.out.size)); clear hb)
        | (refine wpList_store_row rfl 26 (.tmp 16) (.tmp 68) rfl w7.heap.size (kc R) rfl rfl 26 Z (Blk.new w7 26 Z) HRI.out hrz.out (kc_one _) ?_))
    have D8 : Hid (Below w2.heap.size w2 ((w7.alloc (.cells Z 26)).setRow w7.heap.size (kc R))) := below_setRow (D7.out.alloc D7.out.size _) D7.out.size _
    have KR : Hid (Blk ((w7.alloc (.cells Z 26)).setRow w7.heap.size (kc R)) w7.heap.size 26 (kc R)) := (Blk.new w7 26 Z).row _
    generalize (w7.alloc (.cells Z 26)).setRow w7.heap.size (kc R) = w8 at D8 KR ⊢
    go_upto_region 10 with (first
        | (refine load_at rfl 26 (.tmp 16) rfl w7.heap.size 0 rfl (u8s R) _ (blk_key KR.out) Tryd.underlying26 rfl (u8s_info hRk) (kc R) rfl ?_)
        | (go_at_call 30; with_reducible refine (CA2.out _ D8.out).mono ?_; rintro e w9 ⟨h9, hb⟩; obtain ⟨_, rfl⟩ : True ∧ e = .returned (.tuple #[.int .i64 ti, .int .i64 0]) := (by rcases h9 with h | h; exact h; exact absurd trivial (by simpa using h.1)); have D9 := hid (D8.out.trans (hb.mono D8.out.size)); clear hb h9))
    go_upto_region 11 with (first
        | (go_at_call 13; with_reducible refine (CO.out _ D9.out).mono ?_; rintro e w10 ⟨rfl, hb⟩; have D10 := hid (D9.out.trans (hb.mono D9.out.size)); clear hb)
        | (refine wpList_store_row rfl 26 (.tmp 20) (.tmp 81) rfl w10.heap.size (kc zk) rfl rfl 26 Z (Blk.new w10 26 Z) HOI.out hoz.out (kc_one _) ?_))
    have D11 : Hid (Below w2.heap.size w2 ((w10.alloc (.cells Z 26)).setRow w10.heap.size (kc zk))) := below_setRow (D10.out.alloc D10.out.size _) D10.out.size _
    have KO : Hid (Blk ((w10.alloc (.cells Z 26)).setRow w10.heap.size (kc zk)) w10.heap.size 26 (kc zk)) := (Blk.new w10 26 Z).row _
    generalize (w10.alloc (.cells Z 26)).setRow w10.heap.size (kc zk) = w11 at D11 KO ⊢

    clear KR D10 D9 D8 D7 D6 D5 D4 CSZ CSN CS CP CR CO CA2
    go_wp2_with (first
        | fail)
    go_ret
    exact ⟨rfl, B2.out.trans (D11.out.mono B2.out.size)⟩
theorem dnone_walk {w : World} {A0 : Option Addr} {n c0 : Nat} {P : List KV} (tree size : Int) (h : InP w A0 n P) (ht : Tab w) : Calls Tryd.prog 5 #[.slice A0 n c0, .int .i64 tree, .int .i64 size] w fun e w' => e = .returned (.bool true) ∧ Below w.heap.size w w' := by
  by_cases h15 : (15 : Int) < (n : Int)
  · have CA := hid (fun w1 (hb : Below w.heap.size w w1) => dawake_any w1 (ht.below hb))
    have hml : n ≤ 9223372036854775807 := h.2.1
    clear h ht
    go_enter Tryd.func5, Tryd.ntmps5
    go_wp2_with (first
      | (go_at_call 27; refine (CA.out _ (Below.refl _ _)).mono ?_; rintro e w1 ⟨rfl, hb⟩; have B1 := hid hb; clear hb)
      | (go_at_call 27; refine (CA.out _ B1.out).mono ?_; rintro e w2 ⟨rfl, hb⟩; have B2 := hid (B1.out.trans (hb.mono B1.out.size)); clear hb))
    go_ret
    exact ⟨rfl, B2.out⟩
  · exact dnone_main tree size h (by omega) ht
end Go.Proofs.YtjhaamffgkialaaDoor
