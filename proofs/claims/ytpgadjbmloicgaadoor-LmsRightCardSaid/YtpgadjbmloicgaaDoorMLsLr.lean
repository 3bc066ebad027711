/-
  What is proved here: what is signed by any key of a tree is right, and has its size: the walk of the statement.
-/
import Derived.Test.YtpgadjbmloicgaaDoorMLsLk
import Derived.Test.YtpgadjbmloicgaaDoorMLsS
import Derived.Test.YtpgadjbmloicgaaDoorMLsy
set_option linter.unusedSimpArgs false
set_option linter.unusedVariables false
namespace Go.Proofs.YtpgadjbmloicgaaDoor
open Go.ChangeShapes Go.WideShapes Go.ChangeAt Go.RowKit
set_option linter.unusedVariables false
set_option maxRecDepth 20000

/-- what came in lies where it lay -/
structure Rt (tw : List Int) (k : Int) (id : List Int) (q : Int) (sd : List Int) (w w' : World) : Prop where
  b0 : Blk w' (w.heap.size) 51 (u8s tw).toArray
  b1 : Blk w' (w.heap.size + 1) 28 (lkeyC k id q sd)
  bl : Below w.heap.size w w'
section
variable {tw : List Int} {k : Int} {id : List Int} {q : Int} {sd : List Int} {w w' w2 : World}
theorem Rt.below (h : Rt tw k id q sd w w') (hb : Below w'.heap.size w' w2) : Rt tw k id q sd w w2 := ⟨h.b0.below hb, h.b1.below hb, h.bl.trans (hb.mono h.bl.size)⟩
theorem Rt.drew (h : Rt tw k id q sd w w') : Rt tw k id q sd w w'.drew := h.below ((Below.refl _ _).drew)
theorem Rt.alloc (h : Rt tw k id q sd w w') (o : Obj) : Rt tw k id q sd w (w'.alloc o) := h.below ((Below.refl _ _).alloc (Nat.le_refl _) _)
theorem Rt.row (h : Rt tw k id q sd w w') {g : Nat} (n0 : w.heap.size ≠ g) (n1 : w.heap.size + 1 ≠ g) (hg : w.heap.size ≤ g) (cs : Array Value) : Rt tw k id q sd w (w'.setRow g cs) := ⟨h.b0.rowFar n0 cs, h.b1.rowFar n1 cs, below_setRow h.bl hg cs⟩
end
set_option maxHeartbeats 8000000 in
theorem tright_walk (tw : List Int) (k : Int) (id : List Int) (q : Int) (sd : List Int) (A : Option Addr) (n c : Nat) (L : List Int) (w : World) (htl : tw.length = 2) (htb : Bs tw) (hid0 : id.length = 16 ∧ Bs id) (hq : 0 ≤ q ∧ q < 4294967296) (hs : Ky sd) (hin : InB w A n c L) (hc : n ≤ c) (ht : Tab w) :
    Calls Tryd.prog 8 #[.agg (u8s tw).toArray, .agg (lkeyC k id q sd), .slice A n c] w fun e w' => e = .returned (.bool true) ∧ Below w.heap.size w w' := by
  have hi : Idn id := ⟨hid0.1, hid0.2⟩
  obtain ⟨hk1, hk2, hb0⟩ := blks2 w (u8s tw).toArray (lkeyC k id q sd) 51 28
  have GT : Hid (Rt tw k id q sd w ((w.alloc (.cells (u8s tw).toArray 51)).alloc (.cells (lkeyC k id q sd) 28))) := ⟨hk1, hk2, hb0⟩
  obtain ⟨t0, ht0⟩ : ∃ t0, t0 = tw[0]?.getD 0 := ⟨_, rfl⟩
  obtain ⟨t1, ht1⟩ : ∃ t1, t1 = tw[1]?.getD 0 := ⟨_, rfl⟩
  have hb00 := htb.at 0
  have hb11 := htb.at 1
  rw [← ht0] at hb00; rw [← ht1] at hb11
  have HC0 : Hid (∀ w', Blk w' w.heap.size 51 (u8s tw).toArray → w'.cell? ⟨w.heap.size, 0, none⟩ = some (.int .u8 t0)) := fun w' h => by rw [h.cell, List.getElem?_toArray, u8s_get _ _ (by omega), ht0]
  have HC1 : Hid (∀ w', Blk w' w.heap.size 51 (u8s tw).toArray → w'.cell? ⟨w.heap.size, 1, none⟩ = some (.int .u8 t1)) := fun w' h => by rw [h.cell, List.getElem?_toArray, u8s_get _ _ (by omega), ht1]
  have CA := hid (fun w1 (hb : Below w.heap.size w w1) => sawake_any w1 (ht.below hb))
  obtain ⟨h, hh⟩ : ∃ h, h = 1 + t0 % 2 := ⟨_, rfl⟩
  have hh12 : 1 ≤ h ∧ h ≤ 4 := by omega
  have CSL := hid (ssmall_any h k)
  have CZ := hid (sSize_any h k)
  have IDI := hid (id_info hi); have SDI := hid (hash_info hs.len)
  have HII := hid hi
  have hw1 : IntKind.i64.wrap (t0 % 2) = t0 % 2 := IntWalk.i64_in _ (by omega)
  have hw2 : IntKind.i64.wrap (1 + t0 % 2) = 1 + t0 % 2 := IntWalk.i64_in _ (by omega)
  have hw3 : IntKind.i64.wrap t1 = t1 := IntWalk.i64_in _ (by omega)
  obtain ⟨hLn, _, hBs, hRp⟩ := hin
  have HNO : Hid (tkeys h k = 0 → ∀ w1, Calls Tryd.prog 20 #[.int .i64 h, .int .i64 k, .agg (u8s id).toArray, .agg (u8s sd).toArray] w1 fun e w' => e = .returned (.tuple #[.pointer none, .int .i64 1]) ∧ Below w1.heap.size w1 w') := fun hn w1 => sNew_no h k id sd w1 hn
  have HYES : Hid (tkeys h k ≠ 0 → ∀ w1, Below w.heap.size w w1 → Calls Tryd.prog 20 #[.int .i64 h, .int .i64 k, .agg (u8s id).toArray, .agg (u8s sd).toArray] w1 fun e w' => ∃ t, e = .returned (.tuple #[.pointer (some ⟨t, 0, none⟩), .int .i64 0]) ∧ w1.heap.size ≤ t ∧ TreeAt w' t h k id sd ∧ Below w1.heap.size w1 w') := fun hn w1 hb => sNew_kd h k id sd w1 hh12 (tkeys_kd hn).2 hi hs (ht.below hb)
  have HKEY : Hid (∀ t w1, TreeAt w1 t h k id sd → Calls Tryd.prog 21 #[.pointer (some ⟨t, 0, none⟩)] w1 fun e w' => e = .returned (.int .i64 (tkeys h k : Nat)) ∧ w1 = w') := fun t w1 ht => sKeys_at t h k id sd w1 hi hs ht
  have hKle := tkeys_le h k
  have HGO : Hid (tkeys h k ≠ 0 → n ≤ 300 → ∃ (SG PB : List Int) (ts : Nat), ts = tsize h k ∧ ts < 100000 ∧
      (∀ t w1, TreeAt w1 t h k id sd → Below w.heap.size w w1 → Calls Tryd.prog 25 #[.pointer (some ⟨t, 0, none⟩), .int .i64 (t1 % ((tkeys h k : Nat) : Int)), .slice A n c] w1 fun e w' => ∃ g, e = .returned (.tuple #[.slice (some ⟨g, 0, none⟩) ts ts, .int .i64 0]) ∧ Blk w' g 5 (u8s SG).toArray ∧ Below w1.heap.size w1 w') ∧
      (∀ t w1, TreeAt w1 t h k id sd → Calls Tryd.prog 25 #[.pointer (some ⟨t, 0, none⟩), .int .i64 (tkeys h k : Nat), .slice A n c] w1 fun e w' => e = .returned (.tuple #[.slice none 0 0, .int .i64 7]) ∧ w1 = w') ∧
      (∀ t w1, TreeAt w1 t h k id sd → Calls Tryd.prog 23 #[.pointer (some ⟨t, 0, none⟩)] w1 fun e w' => ∃ g, e = .returned (.slice (some ⟨g, 0, none⟩) 56 56) ∧ Blk w' g 5 (u8s PB).toArray ∧ Below w1.heap.size w1 w') ∧
      (∀ gp gs w1, Blk w1 gp 5 (u8s PB).toArray → Blk w1 gs 5 (u8s SG).toArray → Below w.heap.size w w1 → Calls Tryd.prog 27 #[.slice (some ⟨gp, 0, none⟩) 56 56, .slice A n c, .slice (some ⟨gs, 0, none⟩) ts ts] w1 fun e w' => e = .returned (.bool true) ∧ Below w1.heap.size w1 w')) := fun hn h300 => by
    have hkd := (tkeys_kd hn).2
    obtain ⟨pn, hpn⟩ : ∃ pn : Nat, t1 % ((tkeys h k : Nat) : Int) = pn := ⟨(t1 % ((tkeys h k : Nat) : Int)).toNat, by have := Int.emod_nonneg t1 (b := ((tkeys h k : Nat) : Int)) (by omega); omega⟩
    have hplt : pn < tkeys h k := by have := Int.emod_lt_of_pos t1 (b := ((tkeys h k : Nat) : Int)) (by omega); omega
    have hgl := sgt_length (id := id) (sd := sd) hh12 hkd pn L
    have hpl := pbt_length h k hi.len sd
    have hts : tsize h k < 100000 := by rw [tsize_ok hh12 hkd]; have := ksize_le k; omega
    rw [hpn]
    refine ⟨sgt h k id sd pn L, pbt h k id sd, tsize h k, rfl, hts, fun t w1 htr hb => ?_, fun t w1 htr => sSign_spent t h k id sd _ A n c w1 hi hs htr (.inr (Int.le_refl _)), fun t w1 htr => ?_, fun gp gs w1 hp1 hs1 hb => ?_⟩
    · refine (sSign_at t h k id sd pn A n c L w1 hh12 hkd hi hs htr hplt hLn.symm (hRp.belowN hb) hBs (by omega) hc (ht.below hb)).mono fun e w' he => ?_
      obtain ⟨g, he, _, hbk, hbl⟩ := he
      exact ⟨g, he, hbk, hbl⟩
    · refine (sPublic_at t h k id sd w1 hh12 hkd hi hs htr).mono fun e w' he => ?_
      obtain ⟨g, he, _, hbk, hbl⟩ := he
      exact ⟨g, he, hbk, hbl⟩
    · have := sVerify_any (some ⟨gp, 0, none⟩) A (some ⟨gs, 0, none⟩) 56 56 n c (tsize h k) (tsize h k) (pbt h k id sd) L (sgt h k id sd pn L) w1 hpl.symm (blk_rp hp1) (pbt_bs hi.bs) (by omega) hLn.symm (hRp.belowN hb) hBs (by omega) hc hgl.symm (blk_rp hs1) (sgt_bs h k id sd pn L) (by omega) (ht.below hb)
      rw [ver_right hh12 hkd hi.len hplt] at this
      exact this
  generalize tkeys h k = K at HNO HYES HKEY hKle HGO
  generalize tsize h k = TS at CZ HGO
  have HHE := hid hh
  obtain ⟨ta0, ta1⟩ := hb00
  obtain ⟨tb0, tb1⟩ := hb11
  have htm : t0.tmod 2 = t0 % 2 := Int.tmod_eq_emod_of_nonneg ta0
  clear hk1 hk2 hb0 htl htb hid0 hq hs ht hi ht0 ht1 hBs hRp hLn
  go_enter Tryd.func8, Tryd.ntmps8
  go_wp2_with fail
  generalize (w.alloc (.cells (u8s tw).toArray 51)).alloc (.cells (lkeyC k id q sd) 28) = w0 at GT ⊢
  refine wp_region_held (S := fun w' => Hid (Rt tw k id q sd w w')) (by kernel_rfl) ?_
  change wpAnyH _ _ _ _ _ _ _ _ w0.drew
  have Gx0 : Hid (Rt tw k id q sd w w0.drew) := GT.out.drew
  have HBx0 : Below w0.heap.size w0 w0.drew := (Below.refl _ _).drew
  clear HBx0
  generalize w0.drew = x0 at Gx0  ⊢
  refine wpAnyH_take (i := 0) (oi := { dst := some 15, op := _, type := _, pos := _, after := _, guard := _ }) (v := ?_) rfl (by kernel_rfl) (by kernel_rfl) (by kernel_rfl) (fun _ _ _ h => h) (Or.inl ⟨by kernel_rfl, ?_⟩) (by assumption) ?_
  rotate_left
  · (intro w hSw; go_simp; try with_reducible rfl)
  try simp only [Act.put, List.setIfInBounds_toArray, List.set_cons_zero, List.set_cons_succ]
  refine wpAnyH_take (i := 1) (oi := { dst := some 16, op := _, type := _, pos := _, after := _, guard := _ }) (v := ?_) rfl (by kernel_rfl) (by kernel_rfl) (by kernel_rfl) (fun _ _ _ h => h) (Or.inl ⟨by kernel_rfl, ?_⟩) (by assumption) ?_
  rotate_left
  · (intro w hSw; have c0 := HC0.out _ (Hid.out hSw).b0; go_simp; try with_reducible rfl)
  try simp only [Act.put, List.setIfInBounds_toArray, List.set_cons_zero, List.set_cons_succ]
  refine wpAnyH_take (i := 2) (oi := { dst := some 17, op := _, type := _, pos := _, after := _, guard := _ }) (v := ?_) rfl (by kernel_rfl) (by kernel_rfl) (by kernel_rfl) (fun _ _ _ h => h) (Or.inl ⟨by kernel_rfl, ?_⟩) (by assumption) ?_
  rotate_left
  · (intro w hSw; go_simp; try with_reducible rfl)
  try simp only [Act.put, List.setIfInBounds_toArray, List.set_cons_zero, List.set_cons_succ]
  refine wpAnyH_take (i := 3) (oi := { dst := some 18, op := _, type := _, pos := _, after := _, guard := _ }) (v := ?_) rfl (by kernel_rfl) (by kernel_rfl) (by kernel_rfl) (fun _ _ _ h => h) (Or.inl ⟨by kernel_rfl, ?_⟩) (by assumption) ?_
  rotate_left
  · (intro w hSw; go_simp; try with_reducible rfl)
  try simp only [Act.put, List.setIfInBounds_toArray, List.set_cons_zero, List.set_cons_succ]
  refine wpAnyH_take (i := 4) (oi := { dst := some 19, op := _, type := _, pos := _, after := _, guard := _ }) (v := ?_) rfl (by kernel_rfl) (by kernel_rfl) (by kernel_rfl) (fun _ _ _ h => h) (Or.inl ⟨by kernel_rfl, ?_⟩) (by assumption) ?_
  rotate_left
  · (intro w hSw; go_simp; try with_reducible rfl)
  try simp only [Act.put, List.setIfInBounds_toArray, List.set_cons_zero, List.set_cons_succ]
  refine wpAnyH_take (i := 5) (oi := { dst := some 20, op := _, type := _, pos := _, after := _, guard := _ }) (v := ?_) rfl (by kernel_rfl) (by kernel_rfl) (by kernel_rfl) (fun _ _ _ h => h) (Or.inl ⟨by kernel_rfl, ?_⟩) (by assumption) ?_
  rotate_left
  · (intro w hSw; go_simp; try with_reducible rfl)
  try simp only [Act.put, List.setIfInBounds_toArray, List.set_cons_zero, List.set_cons_succ]
  refine wpAnyH_take (i := 6) (oi := { dst := some 21, op := _, type := _, pos := _, after := _, guard := _ }) (v := ?_) rfl (by kernel_rfl) (by kernel_rfl) (by kernel_rfl) (fun _ _ _ h => h) (Or.inl ⟨by kernel_rfl, ?_⟩) (by assumption) ?_
  rotate_left
  · (intro w hSw; have c1 := HC1.out _ (Hid.out hSw).b0; go_simp; try with_reducible rfl)
  try simp only [Act.put, List.setIfInBounds_toArray, List.set_cons_zero, List.set_cons_succ]
  refine wpAnyH_take (i := 7) (oi := { dst := some 7, op := _, type := _, pos := _, after := _, guard := _ }) (v := ?_) rfl (by kernel_rfl) (by kernel_rfl) (by kernel_rfl) (fun _ _ _ h => h) (Or.inl ⟨by kernel_rfl, ?_⟩) (by assumption) ?_
  rotate_left
  · (intro w hSw; go_simp; try with_reducible rfl)
  try simp only [Act.put, List.setIfInBounds_toArray, List.set_cons_zero, List.set_cons_succ]
  refine wpAnyH_take (i := 8) (oi := { dst := some 8, op := _, type := _, pos := _, after := _, guard := _ }) (v := ?_) rfl (by kernel_rfl) (by kernel_rfl) (by kernel_rfl) (fun _ _ _ h => h) (Or.inl ⟨by kernel_rfl, ?_⟩) (by assumption) ?_
  rotate_left
  · (intro w hSw; go_simp; try with_reducible rfl)
  try simp only [Act.put, List.setIfInBounds_toArray, List.set_cons_zero, List.set_cons_succ]
  refine wpAnyH_done (by kernel_rfl) ?_ _
  try simp only [Act.put, List.setIfInBounds_toArray, List.set_cons_zero, List.set_cons_succ]
  have G1 := hid Gx0.out
  generalize x0 = w1 at G1 ⊢
  clear Gx0 GT HC0 HC1
  rw [← HHE.out]
  have c0 := lkey_0 G1.out.b1
  clear HHE hw1 hw2
  rcases hsm : sml h k with _ | _
  · rw [hsm] at CSL
    clear HNO HYES HKEY HGO hsm hh
    go_wp2_with (first
      | (go_at_call 19; refine (CSL.out _).mono ?_; rintro e wq ⟨rfl, rfl⟩)
      | (go_at_call 15; (with_reducible refine (CA.out _ G1.out.bl).mono ?_); rintro e w5 ⟨rfl, hb5⟩; have G5 := hid (G1.out.below hb5); clear hb5))
    go_ret
    exact ⟨rfl, G5.out.bl⟩
  rw [hsm] at CSL
  by_cases hK0 : K = 0
  · have CN := hid (HNO.out hK0)
    clear HNO HYES HKEY HGO hsm hh hK0
    by_cases hbig : (300 : Int) < (n : Int)
    all_goals
      go_wp2_with (first
        | (go_at_call 19; refine (CSL.out _).mono ?_; rintro e wq ⟨rfl, rfl⟩)
        | (refine load_at rfl 23 (.tmp 32) rfl (w.heap.size + 1) 1 rfl (u8s id) _ (lkey_id G1.out.b1 HII.out) Tryd.underlying23 rfl IDI.out (u8s id).toArray rfl ?_)
        | (refine load_at rfl 26 (.tmp 34) rfl (w.heap.size + 1) 18 rfl (u8s sd) _ (lkey_sd G1.out.b1 HII.out) Tryd.underlying26 rfl SDI.out (u8s sd).toArray rfl ?_)
        | (go_at_call 20; refine (CN.out _).mono ?_; rintro e w2 ⟨rfl, hb2⟩; have G2 := hid (G1.out.below hb2); clear hb2)
        | (go_at_call 15; (with_reducible refine (CA.out _ G2.out.bl).mono ?_); rintro e w5 ⟨rfl, hb5⟩; have G5 := hid (G2.out.below hb5); clear hb5)
        | (go_at_call 15; refine (CA.out _ G5.out.bl).mono ?_; rintro e w6 ⟨rfl, hb6⟩; have G6 := hid (G5.out.below hb6); clear hb6))
      go_ret
      exact ⟨rfl, G6.out.bl⟩
  have CN := hid (HYES.out hK0)
  by_cases hbig : (300 : Int) < (n : Int)
  · clear HNO HYES HKEY HGO hsm hh hK0
    go_wp2_with (first
      | (go_at_call 19; refine (CSL.out _).mono ?_; rintro e wq ⟨rfl, rfl⟩)
      | (refine load_at rfl 23 (.tmp 32) rfl (w.heap.size + 1) 1 rfl (u8s id) _ (lkey_id G1.out.b1 HII.out) Tryd.underlying23 rfl IDI.out (u8s id).toArray rfl ?_)
      | (refine load_at rfl 26 (.tmp 34) rfl (w.heap.size + 1) 18 rfl (u8s sd) _ (lkey_sd G1.out.b1 HII.out) Tryd.underlying26 rfl SDI.out (u8s sd).toArray rfl ?_)
      | (go_at_call 20; refine (CN.out _ G1.out.bl).mono ?_; rintro e w2 ⟨t, rfl, _, htr, hb2⟩; have G2 := hid (G1.out.below hb2); clear hb2 htr)
      | (go_at_call 15; (with_reducible refine (CA.out _ G2.out.bl).mono ?_); rintro e w5 ⟨rfl, hb5⟩; have G5 := hid (G2.out.below hb5); clear hb5)
      | (go_at_call 15; refine (CA.out _ G5.out.bl).mono ?_; rintro e w6 ⟨rfl, hb6⟩; have G6 := hid (G5.out.below hb6); clear hb6))
    go_ret
    exact ⟨rfl, G6.out.bl⟩
  obtain ⟨SG, PB, ts, hts, hts9, hsg, hsp, hpb, hvr⟩ := HGO.out hK0 (by omega)
  rw [← hts] at CZ
  have CSG := hid hsg; have CSP := hid hsp; have CPB := hid hpb; have CVR := hid hvr
  have hKz : ¬ (K : Int) = 0 := by omega
  clear HNO HYES HGO hsm hh hts hsg hsp hpb hvr
  go_wp2_with (first
    | (go_at_call 19; refine (CSL.out _).mono ?_; rintro e wq ⟨rfl, rfl⟩)
    | (refine load_at rfl 23 (.tmp 32) rfl (w.heap.size + 1) 1 rfl (u8s id) _ (lkey_id G1.out.b1 HII.out) Tryd.underlying23 rfl IDI.out (u8s id).toArray rfl ?_)
    | (refine load_at rfl 26 (.tmp 34) rfl (w.heap.size + 1) 18 rfl (u8s sd) _ (lkey_sd G1.out.b1 HII.out) Tryd.underlying26 rfl SDI.out (u8s sd).toArray rfl ?_)
    | (go_at_call 20; refine (CN.out _ G1.out.bl).mono ?_; rintro e w2 ⟨t, rfl, _, htr, hb2⟩; have G2 := hid (G1.out.below hb2); have T2 := hid htr; clear hb2 htr)
    | (go_at_call 15; refine (CA.out _ G2.out.bl).mono ?_; rintro e w3 ⟨rfl, hb3⟩; have G3 := hid (G2.out.below hb3); have T3 := hid (T2.out.below hb3); clear hb3)
    | (go_at_call 21; (with_reducible refine (HKEY.out _ _ T3.out).mono ?_); rintro e wq ⟨rfl, rfl⟩)
    | (go_at_call 25; (with_reducible refine (CSG.out _ _ T3.out G3.out.bl).mono ?_); rintro e w4 ⟨gs, rfl, hgs, hb4⟩; have G4 := hid (G3.out.below hb4); have T4 := hid (T3.out.below hb4); have RS4 := hid hgs; have e0 := lkey_0 G4.out.b1; clear hb4 hgs)
    | (go_at_call 21; refine (HKEY.out _ _ T4.out).mono ?_; rintro e wq ⟨rfl, rfl⟩)
    | (go_at_call 25; refine (CSP.out _ _ T4.out).mono ?_; rintro e wq ⟨rfl, rfl⟩)
    | (go_at_call 16; refine (CZ.out _).mono ?_; rintro e w5 ⟨rfl, hb5⟩; have G5 := hid (G4.out.below hb5); have T5 := hid (T4.out.below hb5); have RS5 := hid (RS4.out.below hb5); clear hb5)
    | (go_at_call 23; refine (CPB.out _ _ T5.out).mono ?_; rintro e w6 ⟨gp, rfl, hgp, hb6⟩; have G6 := hid (G5.out.below hb6); have RS6 := hid (RS5.out.below hb6); have RP6 := hid hgp; clear hb6 hgp)
    | (go_at_call 27; refine (CVR.out _ _ _ RP6.out RS6.out G6.out.bl).mono ?_; rintro e w7 ⟨rfl, hb7⟩; have G7 := hid (G6.out.below hb7); clear hb7))
  go_ret
  exact ⟨rfl, G7.out.bl⟩
end Go.Proofs.YtpgadjbmloicgaaDoor
