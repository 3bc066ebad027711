/-
  What is proved here: what each call of a reader takes, and a copy of bytes.
-/
import Derived.Test.YtmdclicomneomaaRdr
import Derived.WalkSpells
namespace Go.Proofs.Ytmdclicomneomaa
open Go.ChangeShapes Go.WideShapes Go.ChangeAt Go.RowKit
set_option linter.unusedVariables false

/-- the slice at A' holds xs in memory that is new since w -/
def Fresh (w w' : World) (A : Option Addr) (xs : List Int) : Prop :=
  0 < xs.length → ∃ g cur, A = some ⟨g, 0, none⟩ ∧ w.heap.size ≤ g ∧ Blk w' g 5 cur ∧ ∀ j, j < xs.length → cur[j]? = some (.int .u8 (xs[j]?.getD 0))

theorem Clone_any (A : Option Addr) (c : Nat) (xs : List Int) (w : World) (hr : Rp w none A xs) (hx : xs.length < 1000000000000) :
    Calls Try.prog 33 #[.slice A xs.length c] w fun e w' => ∃ A' c', e = .returned (.slice A' xs.length c') ∧ xs.length ≤ c' ∧ Fresh w w' A' xs ∧ Below w.heap.size w w' := by
  cases A with
  | none =>
    have h0 : xs = [] := by
      cases xs with
      | nil => rfl
      | cons x xs => obtain ⟨ad, e, _⟩ := hr (by simp); cases e
    subst h0
    have HF : Hid (Fresh w w none []) := fun h => by simp at h
    clear hr
    have hnil : ∀ (w : World) (a : Option Addr) (n c n' c' : Nat), (binOp .eql 33 (.slice a n c) (.slice none n' c')).run Try.prog w = .ok (.bool a.isNone) w := fun w a n c n' c' => Lib.run_eql_slice_nil w _ _ a n c n' c' Try.underlying33
    go_enter Try.func33, Try.ntmps33
    go_wp2
    go_ret
    exact ⟨none, 0, rfl, by simp, HF.out, Below.refl _ _⟩
  | some ad =>
    obtain ⟨i0, hi, hz0, hz1, hz2⟩ := info_parts info_u8
    have hcells : ∀ j u, (u8s xs)[j]? = some u → (w.alloc (.cells #[] 5)).cell? (ad.add j) = some u := by
      intro j u hu
      rcases Nat.lt_or_ge j xs.length with hj | hj
      · obtain ⟨ad', e, _, hc⟩ := hr (by omega)
        injection e with e
        subst e
        have hcj := hc j hj
        rw [World.cell?_alloc_lt w _ _ (block_lt_of_cell hcj), hcj, ← hu, u8s_get _ _ hj]
      · rw [List.getElem?_eq_none (by rw [u8s_length]; exact hj)] at hu; cases hu
    have hown : (w.alloc (.cells #[] 5)).ownsRow w.heap.size 5 1 (.slice (some ⟨w.heap.size, 0, none⟩) 0 0) 0 [] :=
      ⟨by simp, .inr ⟨w.heap.size, 0, #[], rfl, Nat.le_refl _, heap_alloc_new w _, by omega, by unfold maxLen; omega, by simp, by simp⟩⟩
    have HC := hid hcells; have HO := hid hown; have HX := hid hx
    obtain ⟨n, hn⟩ : ∃ n, n = xs.length := ⟨_, rfl⟩
    rw [← hn]
    have HN := hid hn
    have HL : Hid ((u8s xs).length = n * 1) := by show _ = _; rw [u8s_length, HN.out]; omega
    have HM : Hid (0 + n ≤ maxLen) := by show _ ≤ _; have := HN.out; unfold maxLen; omega
    have HB : Hid ((0 + n) * 1 ≤ 140737488355328) := by show _ ≤ _; have := HN.out; omega
    have B0 : Below w.heap.size w (w.alloc (.cells #[] 5)) := (Below.refl _ _).alloc (Nat.le_refl _) _
    clear hcells hown hx hr hn
    have hnil : ∀ (w : World) (a : Option Addr) (n c n' c' : Nat), (binOp .eql 33 (.slice a n c) (.slice none n' c')).run Try.prog w = .ok (.bool a.isNone) w := fun w a n c n' c' => Lib.run_eql_slice_nil w _ _ a n c n' c' Try.underlying33
    go_enter Try.func33, Try.ntmps33
    go_wp2_with (at_builtin; refine wpList_append_own _ rfl (.tmp 5) (.tmp 6) 33 rfl w.heap.size 5 i0 (.int .u8 0) 1 1 Try.underlying33 hi hz0 hz1 hz2 rfl (by decide) (.slice (some ⟨w.heap.size, 0, none⟩) 0 0) 0 [] rfl HO.out ad n c (u8s xs) rfl HL.out HC.out (u8s_one _) HM.out HB.out (by simp) ?_; intro v1 w1 hown1 hg1 _; have HW1 := hid hown1; have HG1 := hid hg1; clear hown1 hg1)
    go_ret
    have hw := HW1.out
    rw [Nat.zero_add, List.nil_append] at hw
    have hbl : Below w.heap.size w w1 := B0.grown HG1.out (by simp) (fun k hk => by simp [Value.ownBlock] at hk; omega)
    rcases hw.2 with ⟨hv, h0⟩ | ⟨g, cap, cur, hv, hg, hh, hnc, hcm, hcs, htk⟩
    · refine ⟨none, 0, ?_, by omega, ?_, hbl⟩
      · subst h0; simp [hv]
      · intro h; have := HN.out; omega
    · refine ⟨some ⟨g, 0, none⟩, cap, by simp [hv], hnc, fun _ => ⟨g, cur, rfl, hg, hh, fun j hj => ?_⟩, hbl⟩
      have hn := HN.out
      have e : cur[j]? = (cur.toList.take (n * 1))[j]? := by rw [List.getElem?_take, if_pos (by omega), Array.getElem?_toList]
      rw [e, htk, u8s_get _ _ hj]

theorem num_bound {w : World} {p : Option Addr} {st : RS} (h : RRep w p st) (n : Nat) (most : Int) (hm : 0 ≤ most) : 0 ≤ (st.num n most).1 ∧ (st.num n most).1 ≤ most := by
  cases st with
  | none => simp [RS.num, hm]
  | got f l =>
    cases f with
    | true => simp [RS.num, hm]
    | false =>
      obtain ⟨b, A, c, _, _, _, _, hb, _⟩ := h
      have := val_bound (l.take n) (hb.take n)
      simp only [RS.num]
      split
      · exact ⟨by simp, hm⟩
      · split
        · exact ⟨by simp, hm⟩
        · exact ⟨this.1, by simp; omega⟩

theorem RU8_any (p : Option Addr) (st : RS) (w : World) (h : RRep w p st) :
    Calls Try.prog 34 #[.pointer p] w fun e w' => e = .returned (.int .i64 (st.num 1 255).1) ∧ RRep w' p (st.num 1 255).2 ∧ OnlyS (Of p) w w' := by
  obtain ⟨hb0, hb1⟩ := num_bound h 1 255 (by decide)
  have HC := rnumber_any p st 1 255 w h (by decide) (by decide) ⟨by decide, by decide⟩
  obtain ⟨R, hR⟩ : ∃ R, R = st.num 1 255 := ⟨_, rfl⟩
  rw [← hR] at HC hb0 hb1 ⊢
  obtain ⟨X, s'⟩ := R
  simp only at HC hb0 hb1 ⊢
  have HC := hid HC
  clear hR h
  go_enter Try.func34, Try.ntmps34
  go_wp2_with (go_at_call 48; refine HC.out.mono ?_; rintro e w2 ⟨rfl, hw2, ho2⟩; have HW2 := hid hw2; have HO2 := hid ho2; clear hw2 ho2)
  go_ret
  exact ⟨rfl, HW2.out, HO2.out⟩

theorem RU16_any (p : Option Addr) (st : RS) (w : World) (h : RRep w p st) :
    Calls Try.prog 35 #[.pointer p] w fun e w' => e = .returned (.int .i64 (st.num 2 65535).1) ∧ RRep w' p (st.num 2 65535).2 ∧ OnlyS (Of p) w w' := by
  obtain ⟨hb0, hb1⟩ := num_bound h 2 65535 (by decide)
  have HC := rnumber_any p st 2 65535 w h (by decide) (by decide) ⟨by decide, by decide⟩
  obtain ⟨R, hR⟩ : ∃ R, R = st.num 2 65535 := ⟨_, rfl⟩
  rw [← hR] at HC hb0 hb1 ⊢
  obtain ⟨X, s'⟩ := R
  simp only at HC hb0 hb1 ⊢
  have HC := hid HC
  clear hR h
  go_enter Try.func35, Try.ntmps35
  go_wp2_with (go_at_call 48; refine HC.out.mono ?_; rintro e w2 ⟨rfl, hw2, ho2⟩; have HW2 := hid hw2; have HO2 := hid ho2; clear hw2 ho2)
  go_ret
  exact ⟨rfl, HW2.out, HO2.out⟩

theorem RU32_any (p : Option Addr) (st : RS) (w : World) (h : RRep w p st) :
    Calls Try.prog 36 #[.pointer p] w fun e w' => e = .returned (.int .u32 (st.num 4 4294967295).1) ∧ RRep w' p (st.num 4 4294967295).2 ∧ OnlyS (Of p) w w' := by
  obtain ⟨hb0, hb1⟩ := num_bound h 4 4294967295 (by decide)
  have HC := rnumber_any p st 4 4294967295 w h (by decide) (by decide) ⟨by decide, by decide⟩
  obtain ⟨R, hR⟩ : ∃ R, R = st.num 4 4294967295 := ⟨_, rfl⟩
  rw [← hR] at HC hb0 hb1 ⊢
  obtain ⟨X, s'⟩ := R
  simp only at HC hb0 hb1 ⊢
  have HC := hid HC
  clear hR h
  go_enter Try.func36, Try.ntmps36
  go_wp2_with (go_at_call 48; refine HC.out.mono ?_; rintro e w2 ⟨rfl, hw2, ho2⟩; have HW2 := hid hw2; have HO2 := hid ho2; clear hw2 ho2)
  go_ret
  exact ⟨rfl, HW2.out, HO2.out⟩

theorem RU64_any (p : Option Addr) (st : RS) (w : World) (h : RRep w p st) :
    Calls Try.prog 37 #[.pointer p] w fun e w' => e = .returned (.int .u64 (st.num 8 18446744073709551615).1) ∧ RRep w' p (st.num 8 18446744073709551615).2 ∧ OnlyS (Of p) w w' := by
  obtain ⟨hb0, hb1⟩ := num_bound h 8 18446744073709551615 (by decide)
  have HC := rnumber_any p st 8 18446744073709551615 w h (by decide) (by decide) ⟨by decide, by decide⟩
  obtain ⟨R, hR⟩ : ∃ R, R = st.num 8 18446744073709551615 := ⟨_, rfl⟩
  rw [← hR] at HC hb0 hb1 ⊢
  obtain ⟨X, s'⟩ := R
  simp only at HC hb0 hb1 ⊢
  have HC := hid HC
  clear hR h
  go_enter Try.func37, Try.ntmps37
  go_wp2_with (go_at_call 48; refine HC.out.mono ?_; rintro e w2 ⟨rfl, hw2, ho2⟩; have HW2 := hid hw2; have HO2 := hid ho2; clear hw2 ho2)
  go_ret
  exact ⟨rfl, HW2.out, HO2.out⟩

theorem RFlag_any (p : Option Addr) (st : RS) (w : World) (h : RRep w p st) :
    Calls Try.prog 38 #[.pointer p] w fun e w' => e = .returned (.bool ((st.num 1 1).1 == 1)) ∧ RRep w' p (st.num 1 1).2 ∧ OnlyS (Of p) w w' := by
  have HC := rnumber_any p st 1 1 w h (by decide) (by decide) ⟨by decide, by decide⟩
  obtain ⟨R, hR⟩ : ∃ R, R = st.num 1 1 := ⟨_, rfl⟩
  rw [← hR] at HC ⊢
  obtain ⟨X, s'⟩ := R
  simp only at HC ⊢
  have HC := hid HC
  clear hR h
  go_enter Try.func38, Try.ntmps38
  go_wp2_with (go_at_call 48; refine HC.out.mono ?_; rintro e w2 ⟨rfl, hw2, ho2⟩; have HW2 := hid hw2; have HO2 := hid ho2; clear hw2 ho2)
  go_ret
  exact ⟨rfl, HW2.out, HO2.out⟩

def RS.count (st : RS) (most : Int) : Int × RS := if most < 0 then (0, st.fail) else st.num 2 (min most 4096)
theorem RCount_any (p : Option Addr) (st : RS) (most : Int) (w : World) (h : RRep w p st) (hm : most < 9223372036854775808) :
    Calls Try.prog 40 #[.pointer p, .int .i64 most] w fun e w' => e = .returned (.int .i64 (st.count most).1) ∧ RRep w' p (st.count most).2 ∧ OnlyS (Of p) w w' := by
  by_cases hneg : most < 0
  · have e : st.count most = (0, st.fail) := by unfold RS.count; rw [if_pos hneg]
    rw [e]
    have HX := hid (fail_any p st w h)
    clear e h
    go_enter Try.func40, Try.ntmps40
    go_wp2_with (go_at_call 46; refine HX.out.mono ?_; rintro e w2 ⟨rfl, hw2, ho2⟩; have HW2 := hid hw2; have HO2 := hid ho2; clear hw2 ho2)
    go_ret
    exact ⟨rfl, HW2.out, HO2.out⟩
  · have e : st.count most = st.num 2 (min most 4096) := by unfold RS.count; rw [if_neg hneg]
    rw [e]
    clear e
    by_cases h4 : most ≤ 4096
    · have em : min most 4096 = most := by omega
      rw [em]
      obtain ⟨hb0, hb1⟩ := num_bound h 2 most (by omega)
      have hb2 : (st.num 2 most).1 ≤ 4096 := by omega
      have HC := rnumber_any p st 2 most w h (by decide) (by decide) ⟨by omega, by omega⟩
      obtain ⟨R, hR⟩ : ∃ R, R = st.num 2 most := ⟨_, rfl⟩
      rw [← hR] at HC hb0 hb2 ⊢
      obtain ⟨X, s'⟩ := R
      simp only at HC hb0 hb2 ⊢
      have HC := hid HC
      have h0 : 0 ≤ most := by omega
      clear hR h hb1 em hneg
      go_enter Try.func40, Try.ntmps40
      go_wp2_with (go_at_call 48; refine HC.out.mono ?_; rintro e w2 ⟨rfl, hw2, ho2⟩; have HW2 := hid hw2; have HO2 := hid ho2; clear hw2 ho2)
      go_ret
      exact ⟨rfl, HW2.out, HO2.out⟩
    · have em : min most 4096 = 4096 := by omega
      rw [em]
      obtain ⟨hb0, hb1⟩ := num_bound h 2 4096 (by omega)
      have hb2 : (st.num 2 4096).1 ≤ 4096 := by omega
      have HC := rnumber_any p st 2 4096 w h (by decide) (by decide) ⟨by omega, by omega⟩
      obtain ⟨R, hR⟩ : ∃ R, R = st.num 2 4096 := ⟨_, rfl⟩
      rw [← hR] at HC hb0 hb2 ⊢
      obtain ⟨X, s'⟩ := R
      simp only at HC hb0 hb2 ⊢
      have HC := hid HC
      have h0 : 0 ≤ most := by omega
      clear hR h hb1 em hneg
      go_enter Try.func40, Try.ntmps40
      go_wp2_with (go_at_call 48; refine HC.out.mono ?_; rintro e w2 ⟨rfl, hw2, ho2⟩; have HW2 := hid hw2; have HO2 := hid ho2; clear hw2 ho2)
      go_ret
      exact ⟨rfl, HW2.out, HO2.out⟩
end Go.Proofs.Ytmdclicomneomaa
