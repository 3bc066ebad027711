/-
  What is proved here: what each call of a writer that puts a field does to what the writer holds.
-/
import Derived.Test.YtmdclicomneomaaSp
namespace Go.Proofs.Ytmdclicomneomaa
open Go.ChangeShapes Go.WideShapes Go.ChangeAt Go.RowKit
set_option linter.unusedVariables false

theorem spoil_any (p : Option Addr) (st : WS) (w : World) (h : WRep w p st) :
    Calls Try.prog 43 #[.pointer p] w fun e w' => e = .returned (.tuple #[]) ∧ WRep w' p st.spoil ∧ OnlyS (Of p) w w' := by
  cases st with
  | none =>
    obtain rfl : p = none := h
    exact (spoil_nil w).mono fun e w' ⟨he, hw⟩ => ⟨he, rfl, by subst hw; exact OnlyS.refl _ _⟩
  | bad =>
    obtain ⟨b, rfl, c, h1, h2, h3⟩ := h
    exact (spoil_ok b c w h1 h2).mono fun e w' ⟨he, hw, ho⟩ => ⟨he, ⟨b, rfl, hw⟩, ho.to⟩
  | good bs =>
    obtain ⟨b, rfl, c, full, h1, h2, _⟩ := h
    exact (spoil_ok b c w h1 h2).mono fun e w' ⟨he, hw, ho⟩ => ⟨he, ⟨b, rfl, hw⟩, ho.to⟩

/-- a number that may be put if it is from 0 to most -/
def WS.up (st : WS) (most x : Int) (n : Nat) : WS := if x < 0 ∨ most < x then st.spoil else st.put (be x n)
theorem WS.len_up (st : WS) (most x : Int) (n : Nat) : (st.up most x n).len ≤ st.len + n := by
  unfold WS.up
  split
  · rw [WS.len_spoil]; omega
  · have := WS.len_put st (be x n); rw [be_length] at this; exact this

theorem upTo_any (p : Option Addr) (st : WS) (most x : Int) (size : Nat) (w : World) (h : WRep w p st) (hm : most < 9223372036854775808) (hs : size ≤ 8) (hl : st.len < 900000000000) :
    Calls Try.prog 42 #[.pointer p, .int .i64 most, .int .i64 x, .int .i64 size] w fun e w' => e = .returned (.tuple #[]) ∧ WRep w' p (st.up most x size) ∧ OnlyS (Of p) w w' := by
  have HS := hid (spoil_any p st w h)
  by_cases h1 : x < 0
  · have e : st.up most x size = st.spoil := by unfold WS.up; rw [if_pos (Or.inl h1)]
    rw [e]
    clear e h
    go_enter Try.func42, Try.ntmps42
    go_wp2_with (go_at_call 43; refine HS.out.mono ?_; rintro e w1 ⟨rfl, hw1, ho1⟩; have HW1 := hid hw1; have HO1 := hid ho1; clear hw1 ho1)
    refine bodyPost_ret (results_none rfl _ _ _) rfl ?_
    exact ⟨rfl, HW1.out, HO1.out⟩
  · by_cases h2 : most < x
    · have e : st.up most x size = st.spoil := by unfold WS.up; rw [if_pos (Or.inr h2)]
      rw [e]
      clear e h
      go_enter Try.func42, Try.ntmps42
      go_wp2_with (go_at_call 43; refine HS.out.mono ?_; rintro e w1 ⟨rfl, hw1, ho1⟩; have HW1 := hid hw1; have HO1 := hid ho1; clear hw1 ho1)
      refine bodyPost_ret (results_none rfl _ _ _) rfl ?_
      exact ⟨rfl, HW1.out, HO1.out⟩
    · have e : st.up most x size = st.put (be x size) := by unfold WS.up; rw [if_neg (by omega)]
      rw [e]
      have h3 : 0 ≤ x := by omega
      have h4 : x < 9223372036854775808 := by omega
      have HC := hid (wnumber_any p st x size w h ⟨h3, by omega⟩ hs hl)
      clear e h
      go_enter Try.func42, Try.ntmps42
      go_wp2_with (go_at_call 44; refine HC.out.mono ?_; rintro e w1 ⟨rfl, hw1, ho1⟩; have HW1 := hid hw1; have HO1 := hid ho1; clear hw1 ho1)
      go_end0
      exact ⟨rfl, HW1.out, HO1.out⟩

theorem WU8_any (p : Option Addr) (st : WS) (x : Int) (w : World) (h : WRep w p st) (hl : st.len < 900000000000) :
    Calls Try.prog 23 #[.pointer p, .int .i64 x] w fun e w' => e = .returned (.tuple #[]) ∧ WRep w' p (st.up 255 x 1) ∧ OnlyS (Of p) w w' := by
  have HC := hid (upTo_any p st 255 x 1 w h (by omega) (by omega) hl)
  clear h
  go_enter Try.func23, Try.ntmps23
  go_wp2_with (go_at_call 42; refine HC.out.mono ?_; rintro e w1 ⟨rfl, hw1, ho1⟩; have HW1 := hid hw1; have HO1 := hid ho1; clear hw1 ho1)
  go_end0
  exact ⟨rfl, HW1.out, HO1.out⟩

theorem WU16_any (p : Option Addr) (st : WS) (x : Int) (w : World) (h : WRep w p st) (hl : st.len < 900000000000) :
    Calls Try.prog 24 #[.pointer p, .int .i64 x] w fun e w' => e = .returned (.tuple #[]) ∧ WRep w' p (st.up 65535 x 2) ∧ OnlyS (Of p) w w' := by
  have HC := hid (upTo_any p st 65535 x 2 w h (by omega) (by omega) hl)
  clear h
  go_enter Try.func24, Try.ntmps24
  go_wp2_with (go_at_call 42; refine HC.out.mono ?_; rintro e w1 ⟨rfl, hw1, ho1⟩; have HW1 := hid hw1; have HO1 := hid ho1; clear hw1 ho1)
  go_end0
  exact ⟨rfl, HW1.out, HO1.out⟩

theorem WCount_any (p : Option Addr) (st : WS) (x : Int) (w : World) (h : WRep w p st) (hl : st.len < 900000000000) :
    Calls Try.prog 25 #[.pointer p, .int .i64 x] w fun e w' => e = .returned (.tuple #[]) ∧ WRep w' p (st.up 4096 x 2) ∧ OnlyS (Of p) w w' := by
  have HC := hid (upTo_any p st 4096 x 2 w h (by omega) (by omega) hl)
  clear h
  go_enter Try.func25, Try.ntmps25
  go_wp2_with (go_at_call 42; refine HC.out.mono ?_; rintro e w1 ⟨rfl, hw1, ho1⟩; have HW1 := hid hw1; have HO1 := hid ho1; clear hw1 ho1)
  go_end0
  exact ⟨rfl, HW1.out, HO1.out⟩

theorem WU32_any (p : Option Addr) (st : WS) (x : Int) (w : World) (h : WRep w p st) (hx : 0 ≤ x ∧ x < 4294967296) (hl : st.len < 900000000000) :
    Calls Try.prog 30 #[.pointer p, .int .u32 x] w fun e w' => e = .returned (.tuple #[]) ∧ WRep w' p (st.put (be x 4)) ∧ OnlyS (Of p) w w' := by
  have HC := hid (wnumber_any p st x 4 w h ⟨hx.1, by omega⟩ (by omega) hl)
  obtain ⟨hx1, hx2⟩ := hx
  clear h
  go_enter Try.func30, Try.ntmps30
  go_wp2_with (go_at_call 44; refine HC.out.mono ?_; rintro e w1 ⟨rfl, hw1, ho1⟩; have HW1 := hid hw1; have HO1 := hid ho1; clear hw1 ho1)
  go_end0
  exact ⟨rfl, HW1.out, HO1.out⟩

theorem WU64_any (p : Option Addr) (st : WS) (x : Int) (w : World) (h : WRep w p st) (hx : 0 ≤ x ∧ x < 18446744073709551616) (hl : st.len < 900000000000) :
    Calls Try.prog 31 #[.pointer p, .int .u64 x] w fun e w' => e = .returned (.tuple #[]) ∧ WRep w' p (st.put (be x 8)) ∧ OnlyS (Of p) w w' := by
  have HC := hid (wnumber_any p st x 8 w h hx (by omega) hl)
  clear h
  go_enter Try.func31, Try.ntmps31
  go_wp2_with (go_at_call 44; refine HC.out.mono ?_; rintro e w1 ⟨rfl, hw1, ho1⟩; have HW1 := hid hw1; have HO1 := hid ho1; clear hw1 ho1)
  go_end0
  exact ⟨rfl, HW1.out, HO1.out⟩

/-- a slice of one new cell holds one byte, and doesn't lie in a writer's block -/
theorem Rp.one {w : World} {p : Option Addr} {st : WS} (h : WRep w p st) (v : Int) : Rp (w.alloc (.cells #[.int .u8 v] 5)) p (some ⟨w.heap.size, 0, none⟩) [v] := fun _ =>
  ⟨_, rfl, fun ho => absurd (h.lt ho) (Nat.lt_irrefl _), fun j hj => by
    have hj0 : j = 0 := by simp at hj; omega
    subst hj0
    simp [Addr.add, (Blk.new w 5 #[.int .u8 v]).cell]⟩

theorem WFlag_any (p : Option Addr) (st : WS) (b : Bool) (w : World) (h : WRep w p st) (hl : st.len < 900000000000) :
    Calls Try.prog 29 #[.pointer p, .bool b] w fun e w' => e = .returned (.tuple #[]) ∧ WRep w' p (st.put [if b then 1 else 0]) ∧ OnlyS (Of p) w w' := by
  cases b with
  | true =>
    have HC := hid (wput_any p st (some ⟨w.heap.size, 0, none⟩) 1 [1] (w.alloc (.cells #[.int .u8 1] 5)) (h.alloc _) (Rp.one h 1) (by simp; omega))
    clear h
    go_enter Try.func29, Try.ntmps29
    go_wp2_with (go_at_call 45; refine HC.out.mono ?_; rintro e w1 ⟨rfl, hw1, ho1⟩; have HW1 := hid hw1; have HO1 := hid ho1; clear hw1 ho1)
    refine bodyPost_ret (results_none rfl _ _ _) rfl ?_
    exact ⟨rfl, HW1.out, ((OnlyS.refl _ w).alloc _).trans HO1.out⟩
  | false =>
    have HC := hid (wput_any p st (some ⟨w.heap.size, 0, none⟩) 1 [0] (w.alloc (.cells #[.int .u8 0] 5)) (h.alloc _) (Rp.one h 0) (by simp; omega))
    clear h
    go_enter Try.func29, Try.ntmps29
    go_wp2_with (go_at_call 45; refine HC.out.mono ?_; rintro e w1 ⟨rfl, hw1, ho1⟩; have HW1 := hid hw1; have HO1 := hid ho1; clear hw1 ho1)
    go_end0
    exact ⟨rfl, HW1.out, ((OnlyS.refl _ w).alloc _).trans HO1.out⟩

theorem WPlain_any (p : Option Addr) (st : WS) (A : Option Addr) (cap : Nat) (xs : List Int) (w : World) (h : WRep w p st) (hr : Rp w p A xs) (hl : st.len + xs.length < 1000000000000) :
    Calls Try.prog 27 #[.pointer p, .slice A xs.length cap] w fun e w' => e = .returned (.tuple #[]) ∧ WRep w' p (st.put xs) ∧ OnlyS (Of p) w w' := by
  have HC := hid (wput_any p st A cap xs w h hr hl)
  clear h hr
  go_enter Try.func27, Try.ntmps27
  go_wp2_with (go_at_call 45; refine HC.out.mono ?_; rintro e w1 ⟨rfl, hw1, ho1⟩; have HW1 := hid hw1; have HO1 := hid ho1; clear hw1 ho1)
  go_end0
  exact ⟨rfl, HW1.out, HO1.out⟩

def WS.str (st : WS) (xs : List Int) : WS := if 8192 < xs.length then st.spoil else (st.put (be xs.length 2)).put xs

theorem WString_any (p : Option Addr) (st : WS) (A : Option Addr) (cap : Nat) (xs : List Int) (w : World) (h : WRep w p st) (hr : Rp w p A xs) (hx : xs.length ≤ 9223372036854775807) (hl : st.len < 900000000000) :
    Calls Try.prog 26 #[.pointer p, .slice A xs.length cap] w fun e w' => e = .returned (.tuple #[]) ∧ WRep w' p (st.str xs) ∧ OnlyS (Of p) w w' := by
  by_cases h1 : 8192 < xs.length
  · have e : st.str xs = st.spoil := by unfold WS.str; rw [if_pos h1]
    rw [e]
    have HC := hid (spoil_any p st w h)
    clear h hr e
    go_enter Try.func26, Try.ntmps26
    go_wp2_with (go_at_call 43; refine HC.out.mono ?_; rintro e w1 ⟨rfl, hw1, ho1⟩; have HW1 := hid hw1; have HO1 := hid ho1; clear hw1 ho1)
    refine bodyPost_ret (results_none rfl _ _ _) rfl ?_
    exact ⟨rfl, HW1.out, HO1.out⟩
  · have e : st.str xs = (st.put (be xs.length 2)).put xs := by unfold WS.str; rw [if_neg h1]
    rw [e]
    have HC := hid (wnumber_any p st xs.length 2 w h ⟨by omega, by omega⟩ (by omega) hl)
    have HL : Hid ((st.put (be xs.length 2)).len + xs.length < 1000000000000) := by
      have := WS.len_put st (be xs.length 2)
      rw [be_length] at this
      show _ < _
      omega
    have HR := hid hr
    clear h hr e
    go_enter Try.func26, Try.ntmps26
    go_wp2_with (first
      | (go_at_call 44; refine HC.out.mono ?_; rintro e w1 ⟨rfl, hw1, ho1⟩; have HD := hid (wput_any p _ A cap xs w1 hw1 (HR.out.keep ho1) HL.out); have HO1 := hid ho1; clear hw1 ho1)
      | (go_at_call 45; refine HD.out.mono ?_; rintro e w2 ⟨rfl, hw2, ho2⟩; have HW2 := hid hw2; have HO2 := hid ho2; clear hw2 ho2))
    go_end0
    exact ⟨rfl, HW2.out, HO1.out.trans HO2.out⟩
end Go.Proofs.Ytmdclicomneomaa
