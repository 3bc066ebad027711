/-
  What is proved here: which of a slot's pages a serial belongs to; the bytes of a right page, as the code makes them.
-/
import Derived.Test.YthfkooancgkjaaaMSlM
import Derived.Test.YthfkooancgkjaaaMB1
set_option linter.unusedSimpArgs false
set_option linter.unusedVariables false
namespace Go.Proofs.Ythfkooancgkjaaa
open Go.ChangeShapes Go.WideShapes Go.ChangeAt Go.RowKit
set_option linter.unusedVariables false
set_option maxRecDepth 20000

theorem oside_any (x : Int) (w : World) (hx : 0 ≤ x ∧ x < 18446744073709551616) : Calls Try.prog 58 #[.int .u64 x] w fun e w' => e = .returned (.int .i64 (x % 2)) ∧ w = w' := by
  have h1 : x % 2 = 0 ∨ x % 2 = 1 := by omega
  have e0 : x.tmod 2 = x % 2 := Int.tmod_eq_emod_of_nonneg hx.1
  clear hx
  go_enter Try.func58, Try.ntmps58
  rcases h1 with h1 | h1
  · rw [h1] at e0 ⊢
    go_wp2
    go_ret
    exact ⟨rfl, rfl⟩
  · rw [h1] at e0 ⊢
    go_wp2
    go_ret
    exact ⟨rfl, rfl⟩
theorem Rp.away {w : World} {A : Option Addr} {xs : List Int} (h : Rp w none A xs) {k : Nat} (hk : w.heap.size ≤ k) : Rp w (some ⟨k, 0, none⟩) A xs := fun hx => by
  obtain ⟨ad, e, hc⟩ := h.get hx
  have hlt := block_lt_of_cell (hc 0 hx)
  rw [add_block] at hlt
  refine ⟨ad, e, fun ⟨a, e2, e3⟩ => ?_, hc⟩
  injection e2 with e2
  subst e2
  simp only at e3
  omega
theorem of_lt {g n : Nat} (hn : n ≤ g) : ∀ k, Of (some ⟨g, 0, none⟩) k → n ≤ k := by rintro k ⟨a, ha, rfl⟩; injection ha with ha; subst ha; exact hn
theorem rp_zero (u : World) (k p : Nat) (hp : p < u.heap.size) : Rp (u.alloc (.cells (List.replicate k (Value.int .u8 0)).toArray 5)) (some ⟨p, 0, none⟩) (some ⟨u.heap.size, 0, none⟩) (List.replicate k 0) := fun hx => by
  refine ⟨_, rfl, fun ⟨a, e2, e3⟩ => ?_, fun j hj => ?_⟩
  · injection e2 with e2
    subst e2
    simp only at e3
    omega
  · rw [List.length_replicate] at hj
    rw [Addr.add_lit, Nat.zero_add, (Blk.new u 5 _).cell, List.getElem?_toArray, List.getElem?_replicate, if_pos hj, List.getElem?_replicate, if_pos hj]
    rfl
/-- bytes in a block of their own that is new since w -/
def NewB (w : World) (xs : List Int) (A : Option Addr) (w' : World) : Prop := ∃ g, A = some ⟨g, 0, none⟩ ∧ w.heap.size ≤ g ∧ Blk w' g 5 (u8s xs).toArray ∧ Below w.heap.size w w'
set_option maxHeartbeats 2000000 in
theorem opage_any (x : Int) (A : Option Addr) (c : Nat) (v : List Int) (w : World) (hx : 0 ≤ x ∧ x < 18446744073709551616) (hr : Rp w none A v) (hv : v.length ≤ 110) :
    Calls Try.prog 59 #[.int .u64 x, .slice A v.length c] w fun e w' => ∃ B, e = .returned (.slice B 128 128) ∧ NewB w (pgl x v) B w' := by
  obtain ⟨Z, hz, hz0, z0, z1, z2, z3, z4, hZs⟩ := zero_writer
  have hw : WAt (w.alloc (.cells Z 81)) w.heap.size [] := new_writer (Blk.new w 81 Z) hz z0.out z1.out z2.out z3.out
  have B0 : Hid (Below w.heap.size w (w.alloc (.cells Z 81))) := (Below.refl _ _).alloc (Nat.le_refl _) _
  have hl : (pgl x v).length = 128 := pgl_len x v hv
  obtain ⟨m, hm⟩ : ∃ m, m = v.length := ⟨_, rfl⟩
  obtain ⟨k, hk⟩ : ∃ k, k = 110 - v.length := ⟨_, rfl⟩
  have hkm : (110 : Int) - (m : Int) = (k : Int) := by omega
  have hk110 : k ≤ 110 := by omega
  have hmk : ∀ u : World, (Instr.makeSlice 23 (.int .i64 (k : Int)) (.int .i64 (k : Int))).run Try.prog u = .ok (.slice (some ⟨u.heap.size, 0, none⟩) k k) (u.alloc (.cells (List.replicate k (Value.int .u8 0)).toArray 5)) := fun u => make_bytes k (by omega) u
  have hm110 : m ≤ 110 := by omega
  have H1 := hid (WU64_any (some ⟨w.heap.size, 0, none⟩) (.good []) x (w.alloc (.cells Z 81)) ⟨_, rfl, hw⟩ hx (by simp [WS.len]))
  have HOF := hid (of_lt (Nat.le_refl w.heap.size))
  have R1 : Hid (Rp (w.alloc (.cells Z 81)) (some ⟨w.heap.size, 0, none⟩) A v) := (hr.away (Nat.le_refl _)).same fun k hk _ => B0.out.block k hk
  have HX := hid hx; have HM := hid hm; have HL := hid hl; have HK := hid hk
  rw [← hm]
  obtain ⟨zb, hzb⟩ : ∃ zb, zb = (List.replicate k (Value.int .u8 0)).toArray := ⟨_, rfl⟩
  rw [← hzb] at hmk
  have HZB := hid hzb
  have HS0 : Hid ((w.alloc (.cells Z 81)).heap.size = w.heap.size + 1) := by show _ = _; simp
  have HE1 : Hid ((WS.good (be x 8)).str v = .good (be x 8 ++ be v.length 2 ++ v)) := by show _ = _; unfold WS.str; rw [if_neg (by omega)]; rfl
  clear hw z0 z1 z2 z3 z4 hx hr hl hm hk hzb hv
  go_enter Try.func59, Try.ntmps59
  go_wp2_with (first
    | (go_at_call 65; (with_reducible refine H1.out.mono ?_); rintro e w1 ⟨rfl, hw1, ho1⟩; have R2 := hid (R1.out.keep ho1); have H2 := hid (WString_any (some ⟨w.heap.size, 0, none⟩) (.good (be x 8)) A c v w1 hw1 R2.out (by have := HM.out; omega) (by simp [WS.len, be_length])); rw [HE1.out, ← HM.out] at H2; have B1 := hid (B0.out.trans (ho1.below (by rw [HS0.out]; omega) HOF.out)); clear hw1 ho1)
    | (go_at_call 73; go_loud (refine H2.out.mono ?_; rintro e w2 ⟨rfl, hw2, ho2⟩; have B2 := hid (B1.out.trans (ho2.below B1.out.size HOF.out)); have hw2 : WRep w2 (some ⟨w.heap.size, 0, none⟩) (.good (be x 8 ++ be v.length 2 ++ v)) := (by rw [← HM.out]; exact hw2); have wlt : w.heap.size < w2.heap.size := hw2.lt ⟨_, rfl, rfl⟩; have H3 := WPlain_any (some ⟨w.heap.size, 0, none⟩) (.good (be x 8 ++ be v.length 2 ++ v)) (some ⟨w2.heap.size, 0, none⟩) k (List.replicate k 0) (w2.alloc (.cells zb 5)) (hw2.alloc _) (by rw [HZB.out]; exact rp_zero w2 k _ wlt) (by simp [WS.len, be_length]; have := HM.out; omega); rw [List.length_replicate] at H3; have H3 := hid H3; have B3 := hid (B2.out.alloc B2.out.size (.cells zb 5)); clear hw2 ho2 wlt))
    | (go_at_call 67; refine H3.out.mono ?_; rintro e w4 ⟨rfl, hw4, ho4⟩; have B4 := hid (B3.out.trans (ho4.below B3.out.size HOF.out)); have H5 := hid (WU64_any (some ⟨w.heap.size, 0, none⟩) (.good (be x 8 ++ be v.length 2 ++ v ++ List.replicate k 0)) x w4 hw4 HX.out (by simp [WS.len, be_length]; have := HM.out; omega)); clear hw4 ho4)
    | (go_at_call 65; refine H5.out.mono ?_; rintro e w5 ⟨rfl, hw5, ho5⟩; have B5 := hid (B4.out.trans (ho5.below B4.out.size HOF.out)); have hw5 : WRep w5 (some ⟨w.heap.size, 0, none⟩) (.good (pgl x v)) := (by unfold pgl; rw [← HK.out]; exact hw5); have H6 := Out_good _ (pgl x v) w5 hw5 (by rw [HL.out]; decide); rw [HL.out] at H6; have H6 := hid H6; clear hw5 ho5)
    | (go_at_call 42; refine H6.out.mono ?_; rintro e w6 ⟨rfl, hb6, ho6⟩; have HB6 := hid hb6; have B6 := hid (B5.out.trans (ho6.mono B5.out.size)); clear hb6 ho6))
  go_ret
  exact ⟨_, rfl, w5.heap.size, rfl, B5.out.size, HB6.out, B6.out⟩
end Go.Proofs.Ythfkooancgkjaaa
