/-
  What is proved here: what each call of a writer that puts a field does to what the writer holds.
-/
import Derived.Test.YtjdojnbpchommaaSp
namespace Go.Proofs.Ytjdojnbpchommaa
open Go.ChangeShapes Go.WideShapes Go.ChangeAt Go.RowKit
set_option linter.unusedVariables false
set_option maxRecDepth 20000

theorem spoil_any (p : Option Addr) (st : WS) (w : World) (h : WRep w p st) :
    Calls Try.prog 51 #[.pointer p] w fun e w' => e = .returned (.tuple #[]) ∧ WRep w' p st.spoil ∧ OnlyS (Of p) w w' := by
  cases st with
  | none =>
    obtain rfl : p = none := h
    exact (spoil_nil w).mono fun e w' ⟨he, hw⟩ => ⟨he, rfl, by subst hw; exact OnlyS.refl _ _⟩
  | bad =>
    obtain ⟨b, rfl, c, h1, h2, h3⟩ := h
    exact (spoil_ok b c w h1 h2).mono fun e w' ⟨he, hw, ho⟩ => ⟨he, ⟨b, rfl, hw⟩, ho.to⟩
  | good bs =>
    obtain ⟨b, rfl, c, full, h1, h2, _⟩ := h
    exact (spoil_ok b c w h1 h2).mono fun e w' ⟨he, hw, ho⟩ => ⟨he, ⟨b, rfl, hw⟩, ho.to⟩



theorem WU64_any (p : Option Addr) (st : WS) (x : Int) (w : World) (h : WRep w p st) (hx : 0 ≤ x ∧ x < 18446744073709551616) (hl : st.len < 900000000000) :
    Calls Try.prog 39 #[.pointer p, .int .u64 x] w fun e w' => e = .returned (.tuple #[]) ∧ WRep w' p (st.put (be x 8)) ∧ OnlyS (Of p) w w' := by
  have HC := hid (wnumber_any p st x 8 w h hx (by omega) hl)
  clear h
  go_enter Try.func39, Try.ntmps39
  go_wp2_with (go_at_call 50; refine HC.out.mono ?_; rintro e w1 ⟨rfl, hw1, ho1⟩; have HW1 := hid hw1; have HO1 := hid ho1; clear hw1 ho1)
  go_end0
  exact ⟨rfl, HW1.out, HO1.out⟩

/-- a slice of one new cell holds one byte, and doesn't lie in a writer's block -/
theorem Rp.one {w : World} {p : Option Addr} {st : WS} (h : WRep w p st) (v : Int) : Rp (w.alloc (.cells #[.int .u8 v] 5)) p (some ⟨w.heap.size, 0, none⟩) [v] := fun _ =>
  ⟨_, rfl, fun ho => absurd (h.lt ho) (Nat.lt_irrefl _), fun j hj => by
    have hj0 : j = 0 := by simp at hj; omega
    subst hj0
    simp [Addr.add, (Blk.new w 5 #[.int .u8 v]).cell]⟩


theorem WPlain_any (p : Option Addr) (st : WS) (A : Option Addr) (cap : Nat) (xs : List Int) (w : World) (h : WRep w p st) (hr : Rp w p A xs) (hl : st.len + xs.length < 1000000000000) :
    Calls Try.prog 41 #[.pointer p, .slice A xs.length cap] w fun e w' => e = .returned (.tuple #[]) ∧ WRep w' p (st.put xs) ∧ OnlyS (Of p) w w' := by
  have HC := hid (wput_any p st A cap xs w h hr hl)
  clear h hr
  go_enter Try.func41, Try.ntmps41
  go_wp2_with (go_at_call 52; refine HC.out.mono ?_; rintro e w1 ⟨rfl, hw1, ho1⟩; have HW1 := hid hw1; have HO1 := hid ho1; clear hw1 ho1)
  go_end0
  exact ⟨rfl, HW1.out, HO1.out⟩

def WS.str (st : WS) (xs : List Int) : WS := if 8192 < xs.length then st.spoil else (st.put (be xs.length 2)).put xs

theorem WString_any (p : Option Addr) (st : WS) (A : Option Addr) (cap : Nat) (xs : List Int) (w : World) (h : WRep w p st) (hr : Rp w p A xs) (hx : xs.length ≤ 9223372036854775807) (hl : st.len < 900000000000) :
    Calls Try.prog 40 #[.pointer p, .slice A xs.length cap] w fun e w' => e = .returned (.tuple #[]) ∧ WRep w' p (st.str xs) ∧ OnlyS (Of p) w w' := by
  by_cases h1 : 8192 < xs.length
  · have e : st.str xs = st.spoil := by unfold WS.str; rw [if_pos h1]
    rw [e]
    have HC := hid (spoil_any p st w h)
    clear h hr e
    go_enter Try.func40, Try.ntmps40
    go_wp2_with (go_at_call 51; refine HC.out.mono ?_; rintro e w1 ⟨rfl, hw1, ho1⟩; have HW1 := hid hw1; have HO1 := hid ho1; clear hw1 ho1)
    refine bodyPost_ret (results_none rfl _ _ _) rfl ?_
    exact ⟨rfl, HW1.out, HO1.out⟩
  · have e : st.str xs = (st.put (be xs.length 2)).put xs := by unfold WS.str; rw [if_neg h1]
    rw [e]
    have HC := hid (wnumber_any p st xs.length 2 w h ⟨by omega, by omega⟩ (by omega) hl)
    have HL : Hid ((st.put (be xs.length 2)).len + xs.length < 1000000000000) := by
      have := WS.len_put st (be xs.length 2)
      rw [be_length] at this
      show _ < _
      omega
    have HR := hid hr
    clear h hr e
    go_enter Try.func40, Try.ntmps40
    go_wp2_with (first
      | (go_at_call 50; refine HC.out.mono ?_; rintro e w1 ⟨rfl, hw1, ho1⟩; have HD := hid (wput_any p _ A cap xs w1 hw1 (HR.out.keep ho1) HL.out); have HO1 := hid ho1; clear hw1 ho1)
      | (go_at_call 52; refine HD.out.mono ?_; rintro e w2 ⟨rfl, hw2, ho2⟩; have HW2 := hid hw2; have HO2 := hid ho2; clear hw2 ho2))
    go_end0
    exact ⟨rfl, HW2.out, HO1.out.trans HO2.out⟩
end Go.Proofs.Ytjdojnbpchommaa
