/-
  What is proved here: what each call of a reader takes, and a copy of bytes.
-/
import Derived.Test.YtjdojnbpchommaaRdr
import Derived.WalkSpells
namespace Go.Proofs.Ytjdojnbpchommaa
open Go.ChangeShapes Go.WideShapes Go.ChangeAt Go.RowKit
set_option linter.unusedVariables false
set_option maxRecDepth 20000

theorem num_bound {w : World} {p : Option Addr} {st : RS} (h : RRep w p st) (n : Nat) (most : Int) (hm : 0 ≤ most) : 0 ≤ (st.num n most).1 ∧ (st.num n most).1 ≤ most := by
  cases st with
  | none => simp [RS.num, hm]
  | got f l =>
    cases f with
    | true => simp [RS.num, hm]
    | false =>
      obtain ⟨b, A, c, _, _, _, _, hb, _⟩ := h
      have := val_bound (l.take n) (hb.take n)
      simp only [RS.num]
      split
      · exact ⟨by simp, hm⟩
      · split
        · exact ⟨by simp, hm⟩
        · exact ⟨this.1, by simp; omega⟩


theorem RU16_any (p : Option Addr) (st : RS) (w : World) (h : RRep w p st) :
    Calls Try.prog 56 #[.pointer p] w fun e w' => e = .returned (.int .i64 (st.num 2 65535).1) ∧ RRep w' p (st.num 2 65535).2 ∧ OnlyS (Of p) w w' := by
  obtain ⟨hb0, hb1⟩ := num_bound h 2 65535 (by decide)
  have HC := rnumber_any p st 2 65535 w h (by decide) (by decide) ⟨by decide, by decide⟩
  obtain ⟨R, hR⟩ : ∃ R, R = st.num 2 65535 := ⟨_, rfl⟩
  rw [← hR] at HC hb0 hb1 ⊢
  obtain ⟨X, s'⟩ := R
  simp only at HC hb0 hb1 ⊢
  have HC := hid HC
  clear hR h
  go_enter Try.func56, Try.ntmps56
  go_wp2_with (go_at_call 54; refine HC.out.mono ?_; rintro e w2 ⟨rfl, hw2, ho2⟩; have HW2 := hid hw2; have HO2 := hid ho2; clear hw2 ho2)
  go_ret
  exact ⟨rfl, HW2.out, HO2.out⟩


theorem RU64_any (p : Option Addr) (st : RS) (w : World) (h : RRep w p st) :
    Calls Try.prog 46 #[.pointer p] w fun e w' => e = .returned (.int .u64 (st.num 8 18446744073709551615).1) ∧ RRep w' p (st.num 8 18446744073709551615).2 ∧ OnlyS (Of p) w w' := by
  obtain ⟨hb0, hb1⟩ := num_bound h 8 18446744073709551615 (by decide)
  have HC := rnumber_any p st 8 18446744073709551615 w h (by decide) (by decide) ⟨by decide, by decide⟩
  obtain ⟨R, hR⟩ : ∃ R, R = st.num 8 18446744073709551615 := ⟨_, rfl⟩
  rw [← hR] at HC hb0 hb1 ⊢
  obtain ⟨X, s'⟩ := R
  simp only at HC hb0 hb1 ⊢
  have HC := hid HC
  clear hR h
  go_enter Try.func46, Try.ntmps46
  go_wp2_with (go_at_call 54; refine HC.out.mono ?_; rintro e w2 ⟨rfl, hw2, ho2⟩; have HW2 := hid hw2; have HO2 := hid ho2; clear hw2 ho2)
  go_ret
  exact ⟨rfl, HW2.out, HO2.out⟩


def RS.count (st : RS) (most : Int) : Int × RS := if most < 0 then (0, st.fail) else st.num 2 (min most 4096)
end Go.Proofs.Ytjdojnbpchommaa
