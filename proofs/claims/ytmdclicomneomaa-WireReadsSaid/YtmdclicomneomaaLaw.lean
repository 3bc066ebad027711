/-
  What is proved here: the statements' own small functions over a writer: a field that is put, and the fixed fact that each statement asks first.
-/
import Derived.Test.YtmdclicomneomaaOut
namespace Go.Proofs.Ytmdclicomneomaa
open Go.ChangeShapes Go.WideShapes Go.ChangeAt Go.RowKit
set_option linter.unusedVariables false

/-- what a field does to what a writer holds -/
def fStep (st : WS) (k x : Int) (bb : List Int) : WS :=
  if k = 1 then st.up 255 (wrap64 x) 1 else
  if k = 2 then st.up 65535 (wrap64 x) 2 else
  if k = 3 then st.put (be (x % 4294967296) 4) else
  if k = 4 then st.put (be x 8) else
  if k = 5 then st.put [x % 2] else
  if k = 6 then st.put bb else
  if k = 7 then st.str bb else
  if k = 8 then st.up 4096 (wrap64 x) 2 else st

theorem new_writer {w : World} {b : Nat} {Z : Array Value} (hb : Blk w b 30 Z) (hz : Z.size = 259) (z0 : Z[0]? = some (.pointer none)) (z1 : ∀ i, i < 256 → Z[1 + i]? = some (.int .u8 0))
    (z2 : Z[257]? = some (.int .i64 0)) (z3 : Z[258]? = some (.bool false)) : WAt w b [] :=
  ⟨Z, none, hb, hz, z0, z2, z3, fun i hi => ⟨0, z1 i hi⟩, fun i hi => by simp at hi, rfl⟩

theorem Out_good (p : Option Addr) (bs : List Int) (w : World) (h : WRep w p (.good bs)) (hl : bs.length < 1000000000000) :
    Calls Try.prog 13 #[.pointer p] w fun e w' => e = .returned (.tuple #[.slice (some ⟨w.heap.size, 0, none⟩) bs.length bs.length, .int .i64 0]) ∧
      Blk w' w.heap.size 5 (u8s bs).toArray ∧ Below w.heap.size w w' := by
  obtain ⟨b, rfl, h⟩ := h
  exact Out_ok b bs w h hl
theorem Out_bad (p : Option Addr) (w : World) (h : WRep w p .bad) :
    Calls Try.prog 13 #[.pointer p] w fun e w' => e = .returned (.tuple #[.slice none 0 0, .int .i64 4]) ∧ w = w' := by
  obtain ⟨b, rfl, h⟩ := h
  exact Out_sp b w h

set_option maxHeartbeats 1000000 in
theorem awake_any (w : World) : Calls Try.prog 9 #[] w fun e w' => e = .returned (.bool true) ∧ Below w.heap.size w w' := by
  obtain ⟨Z, hz, hz0, z0, z1, z2, z3, z4, hZs⟩ := zero_writer
  have hw : WAt (w.alloc (.cells Z 30)) w.heap.size [] := new_writer (Blk.new w 30 Z) hz z0.out z1.out z2.out z3.out
  have h1 := WU16_any (some ⟨w.heap.size, 0, none⟩) (.good []) 258 (w.alloc (.cells Z 30)) ⟨_, rfl, hw⟩ (by simp [WS.len])
  have e1 : (WS.good []).up 65535 258 2 = .good [1, 2] := rfl
  rw [e1] at h1
  have H1 := hid h1
  have B0 : Below w.heap.size w (w.alloc (.cells Z 30)) := (Below.refl _ _).alloc (Nat.le_refl _) _
  have hof : ∀ k, Of (some ⟨w.heap.size, 0, none⟩) k → w.heap.size ≤ k := by rintro k ⟨a, ha, rfl⟩; injection ha with ha; subst ha; exact Nat.le_refl _
  have HOF := hid hof
  clear h1 hw z0 z1 z2 z3 z4 e1 hof
  go_enter Try.func9, Try.ntmps9
  go_wp2_with (first
    | (go_at_call 24; refine H1.out.mono ?_; rintro e w1 ⟨rfl, hw1, ho1⟩; have H2 := hid (WFlag_any (some ⟨w.heap.size, 0, none⟩) (.good [1, 2]) true w1 hw1 (by simp [WS.len])); have B1 := hid (B0.trans (ho1.below (by simp) HOF.out)); clear hw1 ho1)
    | (go_at_call 29; refine H2.out.mono ?_; rintro e w2 ⟨rfl, hw2, ho2⟩; have H3 := hid (Out_good (some ⟨w.heap.size, 0, none⟩) [1, 2, 1] w2 hw2 (by decide)); have B2 := hid (B1.out.trans (ho2.below B1.out.size HOF.out)); clear hw2 ho2)
    | (go_at_call 13; refine H3.out.mono ?_; rintro e w3 ⟨rfl, hw3, ho3⟩; have B3 := hid (B2.out.trans (ho3.mono B2.out.size)); have c1 : w3.cell? ⟨w2.heap.size, 1, none⟩ = some (.int .u8 2) := hw3.cell 1; clear hw3 ho3))
  go_ret
  exact ⟨rfl, B3.out⟩

set_option maxHeartbeats 2000000 in
theorem lput_any (p : Option Addr) (st : WS) (k x : Int) (A : Option Addr) (cap : Nat) (bb : List Int) (w : World) (h : WRep w p st) (hr : Rp w p A bb) (hx : 0 ≤ x ∧ x < 18446744073709551616)
    (hb : bb.length ≤ 1000000) (hl : st.len < 800000000000) :
    Calls Try.prog 12 #[.pointer p, .agg #[.int .i64 k, .int .u64 x, .slice A bb.length cap]] w fun e w' => e = .returned (.tuple #[]) ∧ WRep w' p (fStep st k x bb) ∧ OnlyS (Of p) w w' := by
  have hw1 := h.alloc (.cells #[.int .i64 k, .int .u64 x, .slice A bb.length cap] 35)
  have ho : OnlyS (Of p) w (w.alloc (.cells #[.int .i64 k, .int .u64 x, .slice A bb.length cap] 35)) := (OnlyS.refl _ w).alloc _
  have hr1 := hr.keep ho
  obtain ⟨hx1, hx2⟩ := hx
  have HO := hid ho
  by_cases h1 : k = 1
  · subst h1
    have e : fStep st 1 x bb = st.up 255 (wrap64 x) 1 := rfl
    rw [e]
    have HC := hid (WU8_any p st (wrap64 x) _ hw1 (by omega))
    clear hw1 ho hr1 h hr e
    go_enter Try.func12, Try.ntmps12
    go_wp2_with (go_at_call 23; refine HC.out.mono ?_; rintro e w1 ⟨rfl, hw1, ho1⟩; have HW1 := hid hw1; have HO1 := hid ho1; clear hw1 ho1)
    go_end0
    exact ⟨rfl, HW1.out, HO.out.trans HO1.out⟩
  by_cases h2 : k = 2
  · subst h2
    have e : fStep st 2 x bb = st.up 65535 (wrap64 x) 2 := rfl
    rw [e]
    have HC := hid (WU16_any p st (wrap64 x) _ hw1 (by omega))
    clear hw1 ho hr1 h hr e
    go_enter Try.func12, Try.ntmps12
    go_wp2_with (go_at_call 24; refine HC.out.mono ?_; rintro e w1 ⟨rfl, hw1, ho1⟩; have HW1 := hid hw1; have HO1 := hid ho1; clear hw1 ho1)
    go_end0
    exact ⟨rfl, HW1.out, HO.out.trans HO1.out⟩
  by_cases h3 : k = 3
  · subst h3
    have e : fStep st 3 x bb = st.put (be (x % 4294967296) 4) := rfl
    rw [e]
    have HC := hid (WU32_any p st (x % 4294967296) _ hw1 (by omega) (by omega))
    clear hw1 ho hr1 h hr e
    go_enter Try.func12, Try.ntmps12
    go_wp2_with (go_at_call 30; refine HC.out.mono ?_; rintro e w1 ⟨rfl, hw1, ho1⟩; have HW1 := hid hw1; have HO1 := hid ho1; clear hw1 ho1)
    go_end0
    exact ⟨rfl, HW1.out, HO.out.trans HO1.out⟩
  by_cases h4 : k = 4
  · subst h4
    have e : fStep st 4 x bb = st.put (be x 8) := rfl
    rw [e]
    have HC := hid (WU64_any p st x _ hw1 ⟨hx1, hx2⟩ (by omega))
    clear hw1 ho hr1 h hr e
    go_enter Try.func12, Try.ntmps12
    go_wp2_with (go_at_call 31; refine HC.out.mono ?_; rintro e w1 ⟨rfl, hw1, ho1⟩; have HW1 := hid hw1; have HO1 := hid ho1; clear hw1 ho1)
    go_end0
    exact ⟨rfl, HW1.out, HO.out.trans HO1.out⟩
  by_cases h5 : k = 5
  · subst h5
    have e : fStep st 5 x bb = st.put [x % 2] := rfl
    rw [e]
    have e5 : (if (x % 2 == 1) = true then (1 : Int) else 0) = x % 2 := by
      by_cases h : x % 2 = 1
      · simp [h]
      · have h0 : x % 2 = 0 := by omega
        simp [h0]
    have hc := WFlag_any p st (x % 2 == 1) _ hw1 (by omega)
    rw [e5] at hc
    have HC := hid hc
    clear e5 hc hw1 ho hr1 h hr e
    go_enter Try.func12, Try.ntmps12
    go_wp2_with (go_at_call 29; refine HC.out.mono ?_; rintro e w1 ⟨rfl, hw1, ho1⟩; have HW1 := hid hw1; have HO1 := hid ho1; clear hw1 ho1)
    go_end0
    exact ⟨rfl, HW1.out, HO.out.trans HO1.out⟩
  by_cases h6 : k = 6
  · subst h6
    have e : fStep st 6 x bb = st.put bb := rfl
    rw [e]
    have HC := hid (WPlain_any p st A cap bb _ hw1 hr1 (by omega))
    clear hw1 ho hr1 h hr e
    go_enter Try.func12, Try.ntmps12
    go_wp2_with (go_at_call 27; refine HC.out.mono ?_; rintro e w1 ⟨rfl, hw1, ho1⟩; have HW1 := hid hw1; have HO1 := hid ho1; clear hw1 ho1)
    go_end0
    exact ⟨rfl, HW1.out, HO.out.trans HO1.out⟩
  by_cases h7 : k = 7
  · subst h7
    have e : fStep st 7 x bb = st.str bb := rfl
    rw [e]
    have HC := hid (WString_any p st A cap bb _ hw1 hr1 (by omega) (by omega))
    clear hw1 ho hr1 h hr e
    go_enter Try.func12, Try.ntmps12
    go_wp2_with (go_at_call 26; refine HC.out.mono ?_; rintro e w1 ⟨rfl, hw1, ho1⟩; have HW1 := hid hw1; have HO1 := hid ho1; clear hw1 ho1)
    go_end0
    exact ⟨rfl, HW1.out, HO.out.trans HO1.out⟩
  by_cases h8 : k = 8
  · subst h8
    have e : fStep st 8 x bb = st.up 4096 (wrap64 x) 2 := rfl
    rw [e]
    have HC := hid (WCount_any p st (wrap64 x) _ hw1 (by omega))
    clear hw1 ho hr1 h hr e
    go_enter Try.func12, Try.ntmps12
    go_wp2_with (go_at_call 25; refine HC.out.mono ?_; rintro e w1 ⟨rfl, hw1, ho1⟩; have HW1 := hid hw1; have HO1 := hid ho1; clear hw1 ho1)
    go_end0
    exact ⟨rfl, HW1.out, HO.out.trans HO1.out⟩
  have e : fStep st k x bb = st := by unfold fStep; rw [if_neg h1, if_neg h2, if_neg h3, if_neg h4, if_neg h5, if_neg h6, if_neg h7, if_neg h8]
  rw [e]
  have HW := hid hw1
  have b1 : (k == 1) = false := by simpa using h1
  have b2 : (k == 2) = false := by simpa using h2
  have b3 : (k == 3) = false := by simpa using h3
  have b4 : (k == 4) = false := by simpa using h4
  have b5 : (k == 5) = false := by simpa using h5
  have b6 : (k == 6) = false := by simpa using h6
  have b7 : (k == 7) = false := by simpa using h7
  have b8 : (k == 8) = false := by simpa using h8
  clear hw1 ho hr1 h hr e h1 h2 h3 h4 h5 h6 h7 h8
  go_enter Try.func12, Try.ntmps12
  go_wp2
  go_end0
  exact ⟨rfl, HW.out, HO.out⟩
end Go.Proofs.Ytmdclicomneomaa
