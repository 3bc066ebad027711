/-
  What is proved here: all texts that are hashed of a trail, to the root.
-/
import Derived.Test.YtoacjaecfabahaaDoorMJZ
import Derived.Test.YtoacjaecfabahaaDoorMJS
set_option linter.unusedSimpArgs false
set_option linter.unusedVariables false
namespace Go.Proofs.YtoacjaecfabahaaDoor
open Go.ChangeShapes Go.WideShapes Go.ChangeAt Go.RowKit
set_option linter.unusedVariables false
set_option linter.unusedSimpArgs false
set_option maxRecDepth 20000

/-- Texts at work -/
structure TsI (w : World) (cs : Array Value) (v : Value) (X : List Int) (u : Value) (H : List (List Int)) (W : World) : Prop where
  kb : Blk W w.heap.size 51 cs
  oi : OwI w.heap.size W v X
  oh : OwH w.heap.size W u H
  bl : Below w.heap.size w W
section
variable {w x y : World} {cs : Array Value} {v u : Value} {X : List Int} {H : List (List Int)}
theorem TsI.below (h : TsI w cs v X u H x) (hb : Below x.heap.size x y) : TsI w cs v X u H y := ⟨h.kb.below hb, h.oi.below hb, h.oh.below hb, h.bl.trans (hb.mono h.bl.size)⟩
theorem TsI.appI {v' : Value} {X' : List Int} (h : TsI w cs v X u H x) (ho : OwI w.heap.size y v' X') (hg : x.grownBy y v.ownBlock) : TsI w cs v' X' u H y := by
  have ne : ∀ k {t : TypeId} {C : Array Value}, Blk x k t C → t ≠ 3 → some k ≠ v.ownBlock := fun k t C hk ht e' => by
    obtain ⟨_, D, hD⟩ := h.oi.ty k e'.symm
    exact hk.ne hD ht rfl
  refine ⟨h.kb.same (hg.block _ h.kb.lt (ne _ h.kb (by decide))), ho, h.oh.keep (fun k hk => ?_), h.bl.grown hg h.bl.size (fun k e => (h.oi.lt k e).1)⟩
  obtain ⟨_, C, hC⟩ := h.oh.ty k hk
  exact hg.block k hC.lt (ne k hC (by decide))
theorem TsI.appH {u' : Value} {H' : List (List Int)} (h : TsI w cs v X u H x) (ho : OwH w.heap.size y u' H') (hg : x.grownBy y u.ownBlock) : TsI w cs v X u' H' y := by
  have ne : ∀ k {t : TypeId} {C : Array Value}, Blk x k t C → t ≠ 33 → some k ≠ u.ownBlock := fun k t C hk ht e' => by
    obtain ⟨_, D, hD⟩ := h.oh.ty k e'.symm
    exact hk.ne hD ht rfl
  refine ⟨h.kb.same (hg.block _ h.kb.lt (ne _ h.kb (by decide))), h.oi.keep (fun k hk => ?_), ho, h.bl.grown hg h.bl.size (fun k e => (h.oh.lt k e).1)⟩
  obtain ⟨_, C, hC⟩ := h.oi.ty k hk
  exact hg.block k hC.lt (ne k hC (by decide))
end
theorem segI_nat {p q : Nat} (h1 : p ≤ q) (h2 : q ≤ 2147483647) : segI (p : Int) (q : Int) = szs (seg p q) := by
  unfold segI mayR
  rw [decide_eq_true (by omega : 0 ≤ (p : Int) ∧ (p : Int) ≤ (q : Int) ∧ (q : Int) ≤ 2147483647), if_pos rfl, Int.toNat_natCast, Int.toNat_natCast]
theorem op_gd {ops : Array Oper} {rest : List Oper} {o : Oper} {a : Act} {w : World} {Q : Exit → Act → World → Prop} (p : Op) (ho : o.op = p) (h : wpList Tryd.prog ops Q (o :: rest) a w) : wpList Tryd.prog ops Q (o :: rest) a w := h
set_option maxHeartbeats 16000000 in
theorem jrTexts_any {w : World} {A B C : Option Addr} {n c m d p q x y z : Nat} {Ah Be Bt : List (List Int)} (hA : InH w A n Ah) (hB : InH w B m Be) (hC : InH w C p Bt) (hnc : n ≤ c) (hmd : m ≤ d) (hpq : p ≤ q) (hxy : x + p = y) (hyz : y ≤ z) (hz : z ≤ 2147483647) (hp : p ≤ 1) (hn : n = (seg 0 x).length) (hm : m = (seg y z).length) (hpl : p = (seg x y).length) :
    Calls Tryd.prog 38 #[.agg (tlc A n c B m d), .int .i64 (x : Int), .int .i64 (z : Int), .slice C p q] w (TxA w (allX 0 (seg 0 x ++ seg x y ++ seg y z) (Ah ++ Bt ++ Be))) := by
  have n62 : n ≤ 62 := by rw [hn]; exact seg_few (by omega)
  have m62 : m ≤ 62 := by rw [hm]; exact seg_few (by omega)
  have la := hA.1; have lb := hB.1; have lc := hC.1
  obtain ⟨E1, hE1⟩ : ∃ E1, E1 = seg 0 x := ⟨_, rfl⟩
  obtain ⟨E2, hE2⟩ : ∃ E2, E2 = seg x y := ⟨_, rfl⟩
  obtain ⟨E3, hE3⟩ : ∃ E3, E3 = seg y z := ⟨_, rfl⟩
  have s1 := fun (w' : World) => gSegs_any ((0 : Nat) : Int) (x : Int) w'
  have s2 := fun (w' : World) => gSegs_any (x : Int) (y : Int) w'
  have s3 := fun (w' : World) => gSegs_any (y : Int) (z : Int) w'
  simp only [segI_nat (Nat.zero_le x) (show x ≤ 2147483647 by omega), ← hE1] at s1
  simp only [segI_nat (show x ≤ y by omega) (show y ≤ 2147483647 by omega), ← hE2] at s2
  simp only [segI_nat hyz hz, ← hE3] at s3
  rw [show ((0 : Nat) : Int) = 0 from rfl] at s1
  unfold SgA at s1 s2 s3
  have CS1 := hid s1; have CS2 := hid s2; have CS3 := hid s3
  have q1 : (x : Int) + (p : Int) = (y : Int) := by omega
  have hw1 : IntKind.i64.wrap (y : Int) = (y : Int) := IntWalk.i64_in _ (by omega)
  have a1 := al_seg (x - 0) (Nat.le_refl _) (Nat.zero_le x)
  have a2 := al_seg (y - x) (Nat.le_refl _) (show x ≤ y by omega)
  have a3 := al_seg (z - y) (Nat.le_refl _) hyz
  rw [← hE1] at a1 hn; rw [← hE2] at a2 hpl; rw [← hE3] at a3 hm
  have hal : Al 0 (E1 ++ E2 ++ E3) z := by
    rw [List.append_assoc]
    exact al_append.2 ⟨by rw [al_adv a1]; exact a1, by rw [al_adv a1]; exact al_append.2 ⟨by rw [al_adv a2]; exact a2, by rw [al_adv a2]; exact a3⟩⟩
  have HAL := hid hal
  have HS1 := hid (show ([] : List Int).length + (szs E1).length < 1000000 by rw [szs_len]; simp; omega)
  have HS2 := hid (show (szs E1).length + (szs E2).length < 1000000 by rw [szs_len, szs_len]; omega)
  have HS3 := hid (show (szs (E1 ++ E2)).length + (szs E3).length < 1000000 by rw [szs_len, szs_len, List.length_append]; omega)
  have HLE := hid (show (E1 ++ E2 ++ E3).length = n + p + m by rw [List.length_append, List.length_append]; omega)
  have HLL := hid (show (Ah ++ Bt ++ Be).length = n + p + m by rw [List.length_append, List.length_append]; omega)
  rw [← hE1, ← hE2, ← hE3]
  have k1 := Blk.new w 51 (tlc A n c B m d)
  have b1 : Below w.heap.size w (w.alloc (.cells (tlc A n c B m d) 51)) := (Below.refl _ _).alloc (Nat.le_refl _) _
  have P0 : Hid (TsI w (tlc A n c B m d) (.slice none 0 0) [] (.slice none 0 0) [] (w.alloc (.cells (tlc A n c B m d) 51))) := ⟨k1, OwI.nil _ _, OwH.nil _ _, b1⟩
  have HA := hid hA; have HB := hid hB; have HC := hid hC
  have HZ := hid hz
  have HN := hid n62; have HM := hid m62; have HP := hid hp; have L1 := hid hn; have L2 := hid hpl; have L3 := hid hm; have LA := hid la; have LC := hid lc
  clear hE1 hE2 hE3 s1 s2 s3 a1 a2 a3 hal k1 b1 hA hB hC hnc hmd hpq hxy hyz hz hp hn hm hpl la lb lc n62 m62
  unfold TxA
  go_enter Tryd.func38, Tryd.ntmps38
  go_upto_region 4 with (first
    | (go_at_call 41; refine (CS1.out _).mono ?_; rintro e w3 ⟨v3, rfl, ho, hb⟩; have O3 := hid ho; have P1 := hid (P0.out.below hb); obtain ⟨A3, d3, hv3, _, _⟩ := O3.out.len; generalize hl3 : (szs E1).length = n3 at hv3; have N3 := hid hl3; subst hv3; have I3 := hid (OwI.in O3.out); clear ho hb hl3)
    | (at_builtin; refine append_i rfl (.tmp 11) (.tmp 13) rfl w.heap.size (.slice none 0 0) [] rfl P1.out.oi _ _ _ (szs E1) I3.out rfl (by rw [← N3.out]; exact HS1.out) P1.out.bl.size ?_; intro v4 w4 ho hg _; rw [List.nil_append] at ho; have P4 := hid (P1.out.appI ho hg); clear ho hg O3 I3 P1 N3))
  go_upto_region 5 with (first
    | (go_at_call 41; refine (CS2.out _).mono ?_; rintro e w5 ⟨v5, rfl, ho, hb⟩; have O5 := hid ho; have P5 := hid (P4.out.below hb); obtain ⟨A5, d5, hv5, _, _⟩ := O5.out.len; generalize hl5 : (szs E2).length = n5 at hv5; have N5 := hid hl5; subst hv5; have I5 := hid (OwI.in O5.out); clear ho hb hl5)
    | (at_builtin; refine append_i rfl (.tmp 15) (.tmp 21) rfl w.heap.size v4 (szs E1) rfl P5.out.oi _ _ _ (szs E2) I5.out rfl (by rw [← N5.out]; exact HS2.out) P5.out.bl.size ?_; intro v6 w6 ho hg _; rw [← szs_app] at ho; have P6 := hid (P5.out.appI ho hg); clear ho hg O5 I5 P5 P4 N5))
  go_upto_region 6 with (first
    | (go_at_call 41; refine (CS3.out _).mono ?_; rintro e w7 ⟨v7, rfl, ho, hb⟩; have O7 := hid ho; have P7 := hid (P6.out.below hb); obtain ⟨A7, d7, hv7, _, _⟩ := O7.out.len; generalize hl7 : (szs E3).length = n7 at hv7; have N7 := hid hl7; subst hv7; have I7 := hid (OwI.in O7.out); clear ho hb hl7)
    | (at_builtin; refine append_i rfl (.tmp 23) (.tmp 29) rfl w.heap.size v6 (szs (E1 ++ E2)) rfl P7.out.oi _ _ _ (szs E3) I7.out rfl (by rw [← N7.out]; exact HS3.out) P7.out.bl.size ?_; intro v8 w8 ho hg _; rw [← szs_app] at ho; have P8 := hid (P7.out.appI ho hg); clear ho hg O7 I7 P7 P6 N7))
  have t0 : w8.cell? ⟨w.heap.size, 0, none⟩ = some (.slice A n c) := P8.out.kb.cell 0
  have IA := hid (HA.out.below P8.out.bl)
  go_upto_region 7 with (at_builtin; refine append_h rfl (.tmp 31) (.tmp 33) rfl w.heap.size (.slice none 0 0) [] rfl P8.out.oh _ _ _ Ah IA.out rfl (by have := HN.out; simp; omega) P8.out.bl.size ?_; intro v9 w9 ho hg _; rw [List.nil_append] at ho; have P9 := hid (P8.out.appH ho hg); clear ho hg)
  have IC := hid (HC.out.below P9.out.bl)
  clear t0 IA P8
  go_upto_region 8 with (at_builtin; refine append_h rfl (.tmp 35) (.tmp 36) rfl w.heap.size v9 Ah rfl P9.out.oh _ _ _ Bt IC.out rfl (by have := HN.out; have := HP.out; have := LA.out; omega) P9.out.bl.size ?_; intro v10 w10 ho hg _; have P10 := hid (P9.out.appH ho hg); clear ho hg)
  have t1 : w10.cell? ⟨w.heap.size, 1, none⟩ = some (.slice B m d) := P10.out.kb.cell 1
  have IB := hid (HB.out.below P10.out.bl)
  clear IC P9
  go_upto_region 9 with (at_builtin; refine append_h rfl (.tmp 38) (.tmp 40) rfl w.heap.size v10 (Ah ++ Bt) rfl P10.out.oh _ _ _ Be IB.out rfl (by have := HN.out; have := HP.out; have := LA.out; have := LC.out; have := HM.out; rw [List.length_append]; omega) P10.out.bl.size ?_; intro v11 w11 ho hg _; have P11 := hid (P10.out.appH ho hg); clear ho hg)
  clear t1 IB P10
  obtain ⟨A8, c8, hv8, hc8, _⟩ := P11.out.oi.len
  obtain ⟨A9, c9, hv9, hc9, _⟩ := P11.out.oh.len
  rw [szs_len, HLE.out] at hv8 hc8
  rw [HLL.out] at hv9 hc9
  subst hv8; subst hv9
  have hcj := jrJoined_any (OwI.in P11.out.oi) P11.out.oh.in hc8 hc9 HAL.out HZ.out (by have := HN.out; have := HM.out; have := HP.out; omega)
  unfold TxA at hcj
  have CJ := hid hcj
  clear hcj hc8 hc9
  go_wp2_with (go_at_call 57; go_loud (have hj := CJ.out; with_reducible refine hj.mono ?_; clear hj); rintro e w12 ⟨v12, rfl, ht⟩; have TX := hid ht; clear ht)
  go_ret
  have hx : TxV w.heap.size w12 (txs (allX 0 (E1 ++ E2 ++ E3) (Ah ++ Bt ++ Be))) v12 := by
    obtain ⟨A', c', rows, h1, h2, h3⟩ := TX.out.tx
    exact ⟨A', c', rows, h1, fown_weak h2 P11.out.bl.size, h3⟩
  exact ⟨v12, rfl, hx, P11.out.bl.trans (TX.out.bl.mono P11.out.bl.size)⟩
end Go.Proofs.YtoacjaecfabahaaDoor
