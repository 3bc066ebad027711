/-
  What a writer and a reader tell is a copy, and bytes that are handed in stay: the statement of the kit, for every input that can be read as data.
-/
import Derived.Test.YtoandanalfalaaaSame
import Derived.Test.YtoandanalfalaaaSpoiled
import Derived.Laws.AppendOwnNone
namespace Go.Proofs.Ytoandanalfalaaa
open Go.ChangeShapes Go.WideShapes Go.ChangeAt Go.RowKit
set_option linter.unusedVariables false

theorem fresh_of_own {w w1 : World} {base n : Nat} {v : Value} {xs : List Int} (h : w1.ownsRow base 5 1 v n (u8s xs)) (hb : w.heap.size ≤ base) :
    ∃ A' c', v = .slice A' n c' ∧ xs.length = n ∧ n ≤ c' ∧ Fresh w w1 A' xs := by
  have hl := h.1
  rw [u8s_length, Nat.mul_one] at hl
  rcases h.2 with ⟨hv, h0⟩ | ⟨g, cap, cur, hv, hg, hh, hnc, hcm, hcs, htk⟩
  · exact ⟨none, 0, by rw [hv, h0], hl, by omega, fun hx => by omega⟩
  · refine ⟨some ⟨g, 0, none⟩, cap, hv, hl, hnc, fun _ => ⟨g, cur, rfl, by omega, hh, fun j hj => ?_⟩⟩
    have e : cur[j]? = (cur.toList.take (n * 1))[j]? := by rw [List.getElem?_take, if_pos (by omega), Array.getElem?_toList]
    rw [e, htk, u8s_get _ _ hj]
theorem Fresh.below {w0 w w' : World} {A : Option Addr} {xs : List Int} (h : Fresh w0 w A xs) (hb : Below w.heap.size w w') : Fresh w0 w' A xs := fun hx => by
  obtain ⟨g, cur, e, hg, hbk, hc⟩ := h hx
  exact ⟨g, cur, e, hg, hbk.same (hb.block g hbk.lt), hc⟩
/-- a row of bytes, whatever they are -/
def AllU8 (cur : Array Value) (n : Nat) : Prop := ∀ j, j < n → ∃ x : Int, cur[j]? = some (.int .u8 x)
theorem AllU8.set_ {cur : Array Value} {n : Nat} (h : AllU8 cur n) (i : Nat) (x : Int) : AllU8 (cur.setIfInBounds i (.int .u8 x)) n := fun j hj => by
  obtain ⟨y, hy⟩ := h j hj
  by_cases hij : i = j
  · subst hij
    have hlt : i < cur.size := by
      rcases Nat.lt_or_ge i cur.size with h1 | h1
      · exact h1
      · rw [Array.getElem?_eq_none h1] at hy; cases hy
    exact ⟨x, by rw [Array.getElem?_setIfInBounds, if_pos rfl, if_pos hlt]⟩
  · exact ⟨y, by rw [Array.getElem?_setIfInBounds, if_neg hij]; exact hy⟩
theorem Blk.rp {w : World} {g : Nat} {xs : List Int} (h : Blk w g 5 (u8s xs).toArray) : Rp w none (some ⟨g, 0, none⟩) xs := fun _ =>
  ⟨_, rfl, (fun ⟨a, e, _⟩ => by cases e), fun j hj => by rw [Addr.add_lit, Nat.zero_add, h.cell, List.getElem?_toArray, u8s_get _ _ hj]⟩

set_option maxRecDepth 5000 in
set_option maxHeartbeats 1000000 in
theorem own_big (A : Option Addr) (n c : Nat) (w : World) (hn : 300 < n) (hm : n ≤ 9223372036854775807) :
    Calls Try.prog 8 #[.slice A n c] w fun e w' => e = .returned (.bool true) ∧ Below w.heap.size w w' := by
  have tok1 : True := trivial
  go_enter Try.func8, Try.ntmps8
  go_wp2_with (first
    | (go_at_call 9; have _t := tok1; refine (awake_any _).mono ?_; rintro e w1 ⟨rfl, hb1⟩; have HB1 := hid hb1; clear tok1 hb1)
    | (go_at_call 9; refine (awake_any _).mono ?_; rintro e w2 ⟨rfl, hb2⟩; have HB2 := hid (HB1.out.trans (hb2.mono HB1.out.size)); clear hb2))
  go_ret
  exact ⟨rfl, HB2.out⟩

theorem plain_all (xs : List Int) (n : Nat) (h : xs.length = n) : (RS.got false xs).plain (n : Int) = (xs, .got false []) := by
  simp only [RS.plain]
  rw [if_neg (by omega), Int.toNat_natCast, List.take_of_length_le (by omega), List.drop_of_length_le (by omega)]

set_option maxRecDepth 5000 in
set_option maxHeartbeats 1500000 in
theorem own_some (ad : Addr) (n c : Nat) (xs : List Int) (w : World) (hlen : xs.length = n) (hn : n ≤ 300) (hbs : Bs xs) (hr : Rp w none (some ad) xs) :
    Calls Try.prog 8 #[.slice (some ad) n c] w fun e w' => e = .returned (.bool true) ∧ Below w.heap.size w w' := by
  obtain ⟨i0, hi, hz0, hz1, hz2⟩ := info_parts info_u8
  obtain ⟨Z, hz, hzne, z0, z1, z2, z3, z4, hZs⟩ := zero_writer
  have HL := hid hlen; have HBS := hid hbs; have HR := hid hr
  have LN : Hid ((u8s xs).length = n * 1) := by show _ = _; rw [u8s_length, hlen]; omega
  have LM : Hid (0 + n ≤ maxLen) := by show _ ≤ _; unfold maxLen; omega
  have LB : Hid ((0 + n) * 1 ≤ 140737488355328) := by show _ ≤ _; omega
  have HC : Hid (∀ w1 : World, Below w.heap.size w w1 → ∀ j u, (u8s xs)[j]? = some u → w1.cell? (ad.add j) = some u) := by
    intro w1 hb j u hu
    rcases Nat.lt_or_ge j xs.length with hj | hj
    · obtain ⟨ad', e', hc⟩ := (hr.belowN hb).get (by omega)
      injection e' with e'; subst e'
      rw [hc j hj, ← hu, u8s_get _ _ hj]
    · rw [List.getElem?_eq_none (by rw [u8s_length]; exact hj)] at hu; cases hu
  have tok1 : True := trivial
  clear hbs hr hlen
  go_enter Try.func8, Try.ntmps8
  go_wp2_with (first
    | (go_at_call 9; refine (awake_any _).mono ?_; rintro e w1 ⟨rfl, hb1⟩; have HB1 := hid hb1; clear hb1)
    | (at_builtin; refine wpList_append_own _ rfl (.tmp 21) (.tmp 22) 33 rfl w1.heap.size 5 i0 (.int .u8 0) 1 1 Try.underlying33 hi hz0 hz1 hz2 rfl (by decide) (.slice none 0 0) 0 [] rfl (World.ownsRow_nil _ _ _ _) ad n c (u8s xs) rfl LN.out (HC.out _ HB1.out) (u8s_one _) LM.out LB.out (Nat.le_refl _) ?_; intro v2 w2 hown2 hg2 _; rw [Nat.zero_add, List.nil_append] at hown2; have HG2 := hid ((Below.refl w1.heap.size w1).grown hg2 (Nat.le_refl _) (fun k hk => by simp [Value.ownBlock] at hk)); obtain ⟨AO, cO, hvO, _, _, hfO⟩ := fresh_of_own hown2 (Nat.le_refl w1.heap.size); subst hvO; have HFO := hid hfO; clear hown2 hg2 hfO)
    | (go_at_call 27; fail))
  have HBA : Hid (Below w.heap.size w w2) := HB1.out.trans (HG2.out.mono HB1.out.size)
  clear HG2
  have hw0 : WRep (w2.alloc (.cells Z 30)) (some ⟨w2.heap.size, 0, none⟩) (.good []) := ⟨_, rfl, new_writer (Blk.new w2 30 Z) hz z0.out z1.out z2.out z3.out⟩
  have hb0 : Below w2.heap.size w2 (w2.alloc (.cells Z 30)) := (Below.refl _ _).alloc (Nat.le_refl _) _
  have HOF : Hid (∀ k, Of (some ⟨w2.heap.size, 0, none⟩) k → w2.heap.size ≤ k) := by
    rintro k ⟨a, ha, rfl⟩; injection ha with ha; subst ha; exact Nat.le_refl _
  have HOF' : Hid (∀ k, Of (some ⟨w2.heap.size, 0, none⟩) k → w.heap.size ≤ k) := fun k hk => Nat.le_trans HBA.out.size (HOF.out k hk)
  have HPL := WPlain_any (some ⟨w2.heap.size, 0, none⟩) (.good []) (some ad) c xs _ hw0 (Rp.new HR.out (HBA.out.trans (hb0.mono HBA.out.size)) HOF'.out) (by have := HL.out; simp [WS.len]; omega)
  rw [HL.out] at HPL
  have HPL := hid HPL
  have HB0 := hid hb0
  clear hw0 hb0
  go_wp2_with (first
    | (go_at_call 27; refine HPL.out.mono ?_; rintro e w4 ⟨rfl, hw4, ho4⟩; have HW4 := hid hw4; have HB4 := hid (HB0.out.trans (ho4.below HB0.out.size HOF.out)); have HOUT := Out_good _ xs w4 hw4 (by have := HL.out; omega); rw [HL.out] at HOUT; have HOUT := hid HOUT; clear hw4 ho4)
    | (go_at_call 13; refine HOUT.out.mono ?_; rintro e w5 ⟨rfl, hk5, hb5⟩; have HK5 := hid hk5; have HB5 := hid hb5; clear hk5 hb5))
  have hlt45 : w4.heap.size < w5.heap.size := HK5.out.lt
  have hw5 := HW4.out.below HB5.out
  obtain ⟨gx, hgx⟩ : ∃ gx, gx = w4.heap.size := ⟨_, rfl⟩
  have HGX : Hid (w2.heap.size ≤ gx) := by have := HB4.out.size; show _ ≤ _; omega
  have HPX : Hid (∀ k, Of (some ⟨w2.heap.size, 0, none⟩) k → k ≠ gx) := by
    intro k hk e; have := HW4.out.lt hk; omega
  have HK5' : Hid (Blk w5 gx 5 (u8s xs).toArray) := by rw [hgx]; exact HK5.out
  have HB25 : Hid (Below w2.heap.size w2 w5) := HB4.out.trans (HB5.out.mono HB4.out.size)
  rw [← hgx]
  have HW5 := hid hw5
  clear hlt45 hw5 hgx HK5 HB5 HW4 HB4
  go_loopw [7] (fun i wr => ∃ (k : Nat) (cur : Array Value), k ≤ n ∧ i = .int .i64 k ∧ Blk wr gx 5 cur ∧ AllU8 cur n ∧ OnlyS (fun k => k = gx) w5 wr) (fun i _ => n - (intOf i).toNat)
  case atStart => exact ⟨0, (u8s xs).toArray, by omega, rfl, HK5'.out, fun j hj => ⟨_, by rw [List.getElem?_toArray, u8s_get _ _ (by have := HL.out; omega)]⟩, OnlyS.refl _ _⟩
  case round =>
    obtain ⟨k, cur, hk, rfl, hcur, hall, honly⟩ := hrel
    have HCUR := hid hcur; have HALL := hid hall; have HON := hid honly
    clear hcur hall honly
    by_cases hlt : k < n
    · obtain ⟨v, hv⟩ := HALL.out k hlt
      have ck : wr.cell? ⟨gx, k, none⟩ = some (.int .u8 v) := by rw [HCUR.out.cell]; exact hv
      have fk : wr.frozen? ⟨gx, k, none⟩ = false := HCUR.out.frozen k
      clear hv
      go_wp2
      go_roundw
      case rel => exact ⟨k + 1, _, by omega, by go_num, HCUR.out.setd k _, HALL.out.set_ k _, OnlyS.setCell (S := fun k => k = gx) (p := ⟨gx, k, none⟩) HON.out (.inl rfl) _⟩
      case measure => simp [intOf]; omega
    · obtain ⟨wo, rfl⟩ : ∃ wo : World, wo = wr := ⟨_, rfl⟩
      have hw6 : WRep wo (some ⟨w2.heap.size, 0, none⟩) (.good xs) := HW5.out.keep (fun k hk => HON.out.block k (HW5.out.lt hk) (HPX.out k hk)) (fun g' cs hg' => HON.out.block g' hg'.lt (fun e => by subst e; exact absurd (hg'.inj HK5'.out).1 (by intro h; cases h)))
      have HB6 : Hid (Below w2.heap.size w2 wo) := HB25.out.trans (HON.out.below HB25.out.size (fun k hk => by subst hk; exact HGX.out))
      have HOUT2 := Out_good _ xs wo hw6 (by have := HL.out; omega)
      rw [HL.out] at HOUT2
      have HOUT2 := hid HOUT2
      clear hw6
      go_wp2_with (first
        | (go_at_call 13; refine HOUT2.out.mono ?_; rintro e w7 ⟨rfl, hk7, hb7⟩; have HK7 := hid hk7; have HB7 := hid (HB6.out.trans (hb7.mono HB6.out.size)); have HBW7 := hid (HBA.out.trans (HB7.out.mono HBA.out.size)); have hnew := New_any (some ad) c xs w7 (HR.out.belowN HBW7.out) (by have := HL.out; omega) HBS.out; rw [HL.out] at hnew; have HNEW := hid hnew; clear hk7 hb7 hnew)
        | (go_at_call 16; refine HNEW.out.mono ?_; rintro e w8 ⟨r, rfl, hr8, hrep, hb8⟩; have HR8 := hid hr8; have HB8 := hid hb8; have hpl := RPlain_any _ _ (n : Int) w8 hrep; rw [show (RS.got false xs).plain (n : Int) = (xs, .got false []) from plain_all xs n HL.out] at hpl; simp only at hpl; rw [HL.out] at hpl; have HPLR := hid hpl; clear hrep hr8 hb8 hpl)
        | (go_at_call 28; refine HPLR.out.mono ?_; rintro e w9 ⟨A9, c9, rfl, hc9, hf9, hrep9, ho9⟩; have HF9 := hid hf9; have HO9 := hid ho9; have HB9 := hid (HB8.out.trans (ho9.below HB8.out.size (fun k hk => by obtain ⟨a, ha, rfl⟩ := hk; injection ha with ha; subst ha; exact HR8.out))); clear hc9 hf9 hrep9 ho9))
      go_loopw [12] (fun i wr => ∃ (k : Nat), k ≤ n ∧ i = .int .i64 k ∧ (0 < n → ∃ gz cur, A9 = some ⟨gz, 0, none⟩ ∧ w8.heap.size ≤ gz ∧ Blk wr gz 5 cur ∧ AllU8 cur n) ∧ Below w7.heap.size w7 wr) (fun i _ => n - (intOf i).toNat)
      case atStart =>
        refine ⟨0, by omega, rfl, fun hpos => ?_, HB9.out⟩
        obtain ⟨gz, cur, e, hg, hbk, hc⟩ := HF9.out (by have := HL.out; omega)
        exact ⟨gz, cur, e, hg, hbk, fun j hj => ⟨_, hc j (by have := HL.out; omega)⟩⟩
      case round =>
        obtain ⟨k2, hk2, rfl, hz9, hbz⟩ := hrel
        have HZ9 := hid hz9; have HBZ := hid hbz
        clear hz9 hbz
        by_cases hlt2 : k2 < n
        · obtain ⟨gz, cur, rfl, hgz, hbk, hall⟩ := HZ9.out (by omega)
          have HGZ := hid hgz; have HBK := hid hbk; have HAL := hid hall
          clear hgz hbk hall
          obtain ⟨v, hv⟩ := HAL.out k2 hlt2
          have ck : wr.cell? ⟨gz, k2, none⟩ = some (.int .u8 v) := by rw [HBK.out.cell]; exact hv
          have fk : wr.frozen? ⟨gz, k2, none⟩ = false := HBK.out.frozen k2
          clear hv
          go_wp2
          go_roundw
          case rel => exact ⟨k2 + 1, by omega, by go_num, fun _ => ⟨gz, _, rfl, HGZ.out, HBK.out.setd k2 _, HAL.out.set_ k2 _⟩, HBZ.out.setCell (p := ⟨gz, k2, none⟩) (Nat.le_trans HB8.out.size HGZ.out) _⟩
          case measure => simp [intOf]; omega
        · have hy := Same_any (some ⟨wo.heap.size, 0, none⟩) AO n cO xs xs wr ((HK7.out.same (HBZ.out.block _ HK7.out.lt)).rp) (((HFO.out.below HB7.out).below HBZ.out).rp (p := none) (fun g _ _ ⟨a, e, _⟩ => by cases e)) (by have := HL.out; omega) (by have := HL.out; omega)
          have HBE : Hid (Below w.heap.size w wr) := HBW7.out.trans (HBZ.out.mono HBW7.out.size)
          rw [decide_eq_true rfl, HL.out] at hy
          have HY := hid hy
          clear hy
          go_wp2_with (first
            | (go_at_call 15; have _t := tok1; refine HY.out.mono ?_; rintro e w11 ⟨rfl, hb11⟩; have HB11 := hid (HBE.out.trans (hb11.mono HBE.out.size)); have hy2 := Same_any (some ad) AO c cO xs xs w11 (HR.out.belowN HB11.out) ((((HFO.out.below HB7.out).below HBZ.out).below hb11).rp (p := none) (fun g _ _ ⟨a, e, _⟩ => by cases e)) (by have := HL.out; omega) (by have := HL.out; omega); rw [decide_eq_true rfl, HL.out] at hy2; have HY2 := hid hy2; clear tok1 hb11 hy2)
            | (go_at_call 15; refine HY2.out.mono ?_; rintro e w12 ⟨rfl, hb12⟩; have HB12 := hid (HB11.out.trans (hb12.mono HB11.out.size)); clear hb12))
          go_ret
          exact ⟨rfl, HB12.out⟩

set_option maxRecDepth 5000 in
set_option maxHeartbeats 1500000 in
theorem own_none (xs : List Int) (w : World) (hlen : xs.length = 0) (hbs : Bs xs) (hr : Rp w none none xs) :
    Calls Try.prog 8 #[.slice none 0 0] w fun e w' => e = .returned (.bool true) ∧ Below w.heap.size w w' := by
  obtain ⟨i0, hi, hz0, hz1, hz2⟩ := info_parts info_u8
  obtain ⟨Z, hz, hzne, z0, z1, z2, z3, z4, hZs⟩ := zero_writer
  have HL := hid hlen; have HBS := hid hbs; have HR := hid hr
  have tok1 : True := trivial
  clear hbs hr hlen
  go_enter Try.func8, Try.ntmps8
  go_wp2_with (first
    | (go_at_call 9; refine (awake_any _).mono ?_; rintro e w1 ⟨rfl, hb1⟩; have HB1 := hid hb1; clear hb1)
    | (at_builtin; refine wpList_append_own_none rfl (.tmp 21) (.tmp 22) 33 rfl w1.heap.size 5 i0 1 Try.underlying33 hi (.slice none 0 0) 0 [] rfl (World.ownsRow_nil _ _ _ _) rfl ?_; obtain ⟨w2, hw2⟩ : ∃ w2, w2 = w1 := ⟨_, rfl⟩; have HG2 : Hid (Below w1.heap.size w1 w2) := (by rw [hw2]; exact Below.refl _ _); have HFO : Hid (Fresh w1 w2 none xs) := fun hx => absurd hx (by have := HL.out; omega); subst hw2)
    | (go_at_call 27; fail))
  have HBA : Hid (Below w.heap.size w w2) := HB1.out.trans (HG2.out.mono HB1.out.size)
  clear HG2
  have hw0 : WRep (w2.alloc (.cells Z 30)) (some ⟨w2.heap.size, 0, none⟩) (.good []) := ⟨_, rfl, new_writer (Blk.new w2 30 Z) hz z0.out z1.out z2.out z3.out⟩
  have hb0 : Below w2.heap.size w2 (w2.alloc (.cells Z 30)) := (Below.refl _ _).alloc (Nat.le_refl _) _
  have HOF : Hid (∀ k, Of (some ⟨w2.heap.size, 0, none⟩) k → w2.heap.size ≤ k) := by
    rintro k ⟨a, ha, rfl⟩; injection ha with ha; subst ha; exact Nat.le_refl _
  have HOF' : Hid (∀ k, Of (some ⟨w2.heap.size, 0, none⟩) k → w.heap.size ≤ k) := fun k hk => Nat.le_trans HBA.out.size (HOF.out k hk)
  have HPL := WPlain_any (some ⟨w2.heap.size, 0, none⟩) (.good []) none 0 xs _ hw0 (Rp.new HR.out (HBA.out.trans (hb0.mono HBA.out.size)) HOF'.out) (by have := HL.out; simp [WS.len]; omega)
  rw [HL.out] at HPL
  have HPL := hid HPL
  have HB0 := hid hb0
  clear hw0 hb0
  go_wp2_with (first
    | (go_at_call 27; refine HPL.out.mono ?_; rintro e w4 ⟨rfl, hw4, ho4⟩; have HW4 := hid hw4; have HB4 := hid (HB0.out.trans (ho4.below HB0.out.size HOF.out)); have HOUT := Out_good _ xs w4 hw4 (by have := HL.out; omega); rw [HL.out] at HOUT; have HOUT := hid HOUT; clear hw4 ho4)
    | (go_at_call 13; refine HOUT.out.mono ?_; rintro e w5 ⟨rfl, hk5, hb5⟩; have HK5 := hid hk5; have HB5 := hid hb5; clear hk5 hb5))
  have hlt45 : w4.heap.size < w5.heap.size := HK5.out.lt
  have hw5 := HW4.out.below HB5.out
  obtain ⟨gx, hgx⟩ : ∃ gx, gx = w4.heap.size := ⟨_, rfl⟩
  have HGX : Hid (w2.heap.size ≤ gx) := by have := HB4.out.size; show _ ≤ _; omega
  have HPX : Hid (∀ k, Of (some ⟨w2.heap.size, 0, none⟩) k → k ≠ gx) := by
    intro k hk e; have := HW4.out.lt hk; omega
  have HK5' : Hid (Blk w5 gx 5 (u8s xs).toArray) := by rw [hgx]; exact HK5.out
  have HB25 : Hid (Below w2.heap.size w2 w5) := HB4.out.trans (HB5.out.mono HB4.out.size)
  rw [← hgx]
  have HW5 := hid hw5
  clear hlt45 hw5 hgx HK5 HB5 HW4 HB4
  go_loopw [7] (fun i wr => ∃ (k : Nat) (cur : Array Value), k ≤ 0 ∧ i = .int .i64 k ∧ Blk wr gx 5 cur ∧ AllU8 cur 0 ∧ OnlyS (fun k => k = gx) w5 wr) (fun i _ => 0 - (intOf i).toNat)
  case atStart => exact ⟨0, (u8s xs).toArray, by omega, rfl, HK5'.out, fun j hj => ⟨_, by rw [List.getElem?_toArray, u8s_get _ _ (by have := HL.out; omega)]⟩, OnlyS.refl _ _⟩
  case round =>
    obtain ⟨k, cur, hk, rfl, hcur, hall, honly⟩ := hrel
    have HCUR := hid hcur; have HALL := hid hall; have HON := hid honly
    clear hcur hall honly
    by_cases hlt : k < 0
    · exact absurd hlt (Nat.not_lt_zero _)
    · obtain ⟨wo, rfl⟩ : ∃ wo : World, wo = wr := ⟨_, rfl⟩
      have hw6 : WRep wo (some ⟨w2.heap.size, 0, none⟩) (.good xs) := HW5.out.keep (fun k hk => HON.out.block k (HW5.out.lt hk) (HPX.out k hk)) (fun g' cs hg' => HON.out.block g' hg'.lt (fun e => by subst e; exact absurd (hg'.inj HK5'.out).1 (by intro h; cases h)))
      have HB6 : Hid (Below w2.heap.size w2 wo) := HB25.out.trans (HON.out.below HB25.out.size (fun k hk => by subst hk; exact HGX.out))
      have HOUT2 := Out_good _ xs wo hw6 (by have := HL.out; omega)
      rw [HL.out] at HOUT2
      have HOUT2 := hid HOUT2
      clear hw6
      go_wp2_with (first
        | (go_at_call 13; refine HOUT2.out.mono ?_; rintro e w7 ⟨rfl, hk7, hb7⟩; have HK7 := hid hk7; have HB7 := hid (HB6.out.trans (hb7.mono HB6.out.size)); have HBW7 := hid (HBA.out.trans (HB7.out.mono HBA.out.size)); have hnew := New_any none 0 xs w7 (HR.out.belowN HBW7.out) (by have := HL.out; omega) HBS.out; rw [HL.out] at hnew; have HNEW := hid hnew; clear hk7 hb7 hnew)
        | (go_at_call 16; refine HNEW.out.mono ?_; rintro e w8 ⟨r, rfl, hr8, hrep, hb8⟩; have HR8 := hid hr8; have HB8 := hid hb8; have hpl := RPlain_any _ _ (0 : Int) w8 hrep; rw [show (RS.got false xs).plain (0 : Int) = (xs, .got false []) from plain_all xs 0 HL.out] at hpl; simp only at hpl; rw [HL.out] at hpl; have HPLR := hid hpl; clear hrep hr8 hb8 hpl)
        | (go_at_call 28; refine HPLR.out.mono ?_; rintro e w9 ⟨A9, c9, rfl, hc9, hf9, hrep9, ho9⟩; have HF9 := hid hf9; have HO9 := hid ho9; have HB9 := hid (HB8.out.trans (ho9.below HB8.out.size (fun k hk => by obtain ⟨a, ha, rfl⟩ := hk; injection ha with ha; subst ha; exact HR8.out))); clear hc9 hf9 hrep9 ho9))
      go_loopw [12] (fun i wr => ∃ (k : Nat), k ≤ 0 ∧ i = .int .i64 k ∧ (0 < 0 → ∃ gz cur, A9 = some ⟨gz, 0, none⟩ ∧ w8.heap.size ≤ gz ∧ Blk wr gz 5 cur ∧ AllU8 cur 0) ∧ Below w7.heap.size w7 wr) (fun i _ => 0 - (intOf i).toNat)
      case atStart =>
        refine ⟨0, by omega, rfl, fun hpos => ?_, HB9.out⟩
        obtain ⟨gz, cur, e, hg, hbk, hc⟩ := HF9.out (by have := HL.out; omega)
        exact ⟨gz, cur, e, hg, hbk, fun j hj => ⟨_, hc j (by have := HL.out; omega)⟩⟩
      case round =>
        obtain ⟨k2, hk2, rfl, hz9, hbz⟩ := hrel
        have HZ9 := hid hz9; have HBZ := hid hbz
        clear hz9 hbz
        by_cases hlt2 : k2 < 0
        · exact absurd hlt2 (Nat.not_lt_zero _)
        · have hy := Same_any (some ⟨wo.heap.size, 0, none⟩) none 0 0 xs xs wr ((HK7.out.same (HBZ.out.block _ HK7.out.lt)).rp) (((HFO.out.below HB7.out).below HBZ.out).rp (p := none) (fun g _ _ ⟨a, e, _⟩ => by cases e)) (by have := HL.out; omega) (by have := HL.out; omega)
          have HBE : Hid (Below w.heap.size w wr) := HBW7.out.trans (HBZ.out.mono HBW7.out.size)
          rw [decide_eq_true rfl, HL.out] at hy
          have HY := hid hy
          clear hy
          go_wp2_with (first
            | (go_at_call 15; have _t := tok1; refine HY.out.mono ?_; rintro e w11 ⟨rfl, hb11⟩; have HB11 := hid (HBE.out.trans (hb11.mono HBE.out.size)); have hy2 := Same_any none none 0 0 xs xs w11 (HR.out.belowN HB11.out) ((((HFO.out.below HB7.out).below HBZ.out).below hb11).rp (p := none) (fun g _ _ ⟨a, e, _⟩ => by cases e)) (by have := HL.out; omega) (by have := HL.out; omega); rw [decide_eq_true rfl, HL.out] at hy2; have HY2 := hid hy2; clear tok1 hb11 hy2)
            | (go_at_call 15; refine HY2.out.mono ?_; rintro e w12 ⟨rfl, hb12⟩; have HB12 := hid (HB11.out.trans (hb12.mono HB11.out.size)); clear hb12))
          go_ret
          exact ⟨rfl, HB12.out⟩

theorem own_walk (A : Option Addr) (n c : Nat) (xs : List Int) (w : World) (h : InB w A n c xs) (hA : A = none → n = 0 ∧ c = 0) :
    Calls Try.prog 8 #[.slice A n c] w fun e w' => e = .returned (.bool true) ∧ Below w.heap.size w w' := by
  obtain ⟨hlen, hmax, hbs, hr⟩ := h
  by_cases hn : n ≤ 300
  · cases A with
    | none =>
      obtain ⟨rfl, rfl⟩ := hA rfl
      exact own_none xs w hlen hbs hr
    | some ad => exact own_some ad n c xs w hlen hn hbs hr
  · exact own_big A n c w (by omega) hmax

theorem open_bytes' {H : Type} {enc : TypeId × Value → H} {w : World} {base : Nat} {spare : Nat → Bool} {held : Bool} {fuel : Nat} {cs : List Value} {x : DataW H × List MemPlace} (h : DataW.trod enc Try.prog w base spare held fuel 33 cs = some x) :
    ∃ A n c xs, cs = [.slice A n c] ∧ InB w A n c xs ∧ (A = none → n = 0 ∧ c = 0) := by
  obtain ⟨A, n, c, xs, hcs, hin⟩ := open_bytes h
  refine ⟨A, n, c, xs, hcs, hin, fun hA => ?_⟩
  rcases open_ints Try.underlying33 Try.underlying5 (by kernel_rfl) h with ⟨hcs2, _⟩ | ⟨a, l, c2, zs, hcs2, _⟩
  · rw [hcs] at hcs2
    injection hcs2 with h2; injection h2 with _ h3 h4
    exact ⟨h3, h4⟩
  · rw [hcs] at hcs2
    injection hcs2 with h2; injection h2 with h3
    rw [hA] at h3; cases h3

set_option maxRecDepth 100000 in
theorem own_lifted (os : Os) (started : os.Started) (H : Type) (enc : TypeId × Value → H) :
    ReturnsInHanded {} Try.checked os 8 .any (Rows.wireOwnSpec.pre6 enc Try.prog Try.f8 Rows.wireOwnRow.domain false) (Rows.wireOwnSpec.post enc Try.prog Try.f8 false true false false) := by
  refine returnsInHanded_of_change (C := Try.checked) own started (by kernel_rfl) Try.func8
    (ChangeSpec.witness6 (enc := enc) (C := Try.checked) false ⟨#[], #[.slice none 0 0], []⟩ 8 (by kernel_rfl) (by kernel_rfl) (by kernel_rfl) (by kernel_rfl)) ?_
  intro W base args ds gs before hval0 hW hcnd _
  have hval : ∀ (j : Nat) t v, Try.f8.params[j]? = some t → args[j]? = some v → Value.okWide Try.prog W .any base t v := hval0
  have hW' := hW
  obtain ⟨p, q, hA0, hV, rfl, hfz, hnd⟩ := hW
  have hA : DataW.TrodAll enc Try.prog W 0 (fun _ => true) true Try.f8.params.toList args.toList ds p := hA0
  rw [Try.params8] at hA hval
  obtain ⟨v0, vs0, d0, ds0, p0, q0, hargs, rfl, rfl, h0, r0⟩ := trodAll_cons hA
  obtain ⟨rfl, rfl, rfl⟩ := trodAll_nil r0
  obtain rfl : args = #[v0] := by cases args; simp_all
  obtain ⟨rfl, rfl⟩ := trodVars_none hV
  have k0 := h0
  have lt0 : ∀ x ∈ p0, x.block < W.heap.size := by obtain ⟨m, hm⟩ := k0; exact DataW.trod_lt m _ _ _ hm
  obtain ⟨a0, len0, cap0, rfl⟩ := okWide_slice Try.underlying33 (hval 0 33 v0 rfl rfl)
  obtain ⟨fuel, hf⟩ := h0
  obtain ⟨A, n, c, l, hcs, hin, hnil⟩ := open_bytes' hf
  simp only [Value.cells] at hcs
  injection hcs with hcs; injection hcs with e1 e2 e3
  subst e1; subst e2; subst e3
  clear hA0 hval0
  refine (own_walk _ _ _ l W hin hnil).mono fun e W' ⟨he, bel⟩ => ?_
  subst he
  exact ⟨_, rfl, _, _, _, [], _, [], hW', trodAll_mk1 (shut_bool Try.underlying4 _), (trodAll_cons_mk (Below.trod laidOut (by kernel_rfl) (of_decide_eq_true (by kernel_rfl)) k0 bel lt0) trodAll_mk0), rfl, bel.frame _, fun h => by cases h⟩

theorem own_over : Rows.wireOwnRow.holds Try.pinned (OpenSpec.ofChange Rows.wireOwnSpec) :=
  OpenClaim.holds_of_wide 8 Try.f8 rfl rfl rfl rfl rfl rfl rfl ⟨rfl, rfl, rfl, rfl, rfl⟩ rfl rfl rfl rfl rfl (by kernel_rfl) Try.func8 (by kernel_rfl)
    (of_decide_eq_true (by kernel_rfl)) (by unfold Func.isWrapper; first | (rw [if_pos (by decide +kernel)]; kernel_rfl) | (rw [if_neg (by decide +kernel)]; exact ⟨rfl, rfl⟩))
    (fun os started H enc _ => own_lifted os started H enc)

theorem wireOwn_holds : Rows.WireOwnSaid := own_over
#print axioms wireOwn_holds
end Go.Proofs.Ytoandanalfalaaa
