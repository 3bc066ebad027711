/-
  What is proved here: a copy of bytes.
-/
import Derived.Test.YtjdojnbpchommaaDRows
import Derived.WalkSpells
namespace Go.Proofs.Ytjdojnbpchommaa
open Go.ChangeShapes Go.WideShapes Go.ChangeAt Go.RowKit
set_option linter.unusedVariables false
set_option maxRecDepth 20000

theorem Clone_any (A : Option Addr) (c : Nat) (xs : List Int) (w : World) (hr : Rp w none A xs) (hx : xs.length < 1000000000000) :
    Calls Try.prog 37 #[.slice A xs.length c] w fun e w' => ∃ A' c', e = .returned (.slice A' xs.length c') ∧ xs.length ≤ c' ∧ Fresh w w' A' xs ∧ Below w.heap.size w w' := by
  cases A with
  | none =>
    have h0 : xs = [] := by
      cases xs with
      | nil => rfl
      | cons x xs => obtain ⟨ad, e, _⟩ := hr (by simp); cases e
    subst h0
    have HF : Hid (Fresh w w none []) := fun h => by simp at h
    clear hr
    have hnil : ∀ (w : World) (a : Option Addr) (n c n' c' : Nat), (binOp .eql 31 (.slice a n c) (.slice none n' c')).run Try.prog w = .ok (.bool a.isNone) w := fun w a n c n' c' => Lib.run_eql_slice_nil w _ _ a n c n' c' Try.underlying31
    go_enter Try.func37, Try.ntmps37
    go_wp2
    go_ret
    exact ⟨none, 0, rfl, by simp, HF.out, Below.refl _ _⟩
  | some ad =>
    obtain ⟨i0, hi, hz0, hz1, hz2⟩ := info_parts info_u8
    have hcells : ∀ j u, (u8s xs)[j]? = some u → (w.alloc (.cells #[] 5)).cell? (ad.add j) = some u := by
      intro j u hu
      rcases Nat.lt_or_ge j xs.length with hj | hj
      · obtain ⟨ad', e, _, hc⟩ := hr (by omega)
        injection e with e
        subst e
        have hcj := hc j hj
        rw [World.cell?_alloc_lt w _ _ (block_lt_of_cell hcj), hcj, ← hu, u8s_get _ _ hj]
      · rw [List.getElem?_eq_none (by rw [u8s_length]; exact hj)] at hu; cases hu
    have hown : (w.alloc (.cells #[] 5)).ownsRow w.heap.size 5 1 (.slice (some ⟨w.heap.size, 0, none⟩) 0 0) 0 [] :=
      ⟨by simp, .inr ⟨w.heap.size, 0, #[], rfl, Nat.le_refl _, heap_alloc_new w _, by omega, by unfold maxLen; omega, by simp, by simp⟩⟩
    have HC := hid hcells; have HO := hid hown; have HX := hid hx
    obtain ⟨n, hn⟩ : ∃ n, n = xs.length := ⟨_, rfl⟩
    rw [← hn]
    have HN := hid hn
    have HL : Hid ((u8s xs).length = n * 1) := by show _ = _; rw [u8s_length, HN.out]; omega
    have HM : Hid (0 + n ≤ maxLen) := by show _ ≤ _; have := HN.out; unfold maxLen; omega
    have HB : Hid ((0 + n) * 1 ≤ 140737488355328) := by show _ ≤ _; have := HN.out; omega
    have B0 : Below w.heap.size w (w.alloc (.cells #[] 5)) := (Below.refl _ _).alloc (Nat.le_refl _) _
    clear hcells hown hx hr hn
    have hnil : ∀ (w : World) (a : Option Addr) (n c n' c' : Nat), (binOp .eql 31 (.slice a n c) (.slice none n' c')).run Try.prog w = .ok (.bool a.isNone) w := fun w a n c n' c' => Lib.run_eql_slice_nil w _ _ a n c n' c' Try.underlying31
    go_enter Try.func37, Try.ntmps37
    go_wp2_with (at_builtin; refine wpList_append_own _ rfl (.tmp 5) (.tmp 6) 31 rfl w.heap.size 5 i0 (.int .u8 0) 1 1 Try.underlying31 hi hz0 hz1 hz2 rfl (by decide) (.slice (some ⟨w.heap.size, 0, none⟩) 0 0) 0 [] rfl HO.out ad n c (u8s xs) rfl HL.out HC.out (u8s_one _) HM.out HB.out (by simp) ?_; intro v1 w1 hown1 hg1 _; have HW1 := hid hown1; have HG1 := hid hg1; clear hown1 hg1)
    go_ret
    have hw := HW1.out
    rw [Nat.zero_add, List.nil_append] at hw
    have hbl : Below w.heap.size w w1 := B0.grown HG1.out (by simp) (fun k hk => by simp [Value.ownBlock] at hk; omega)
    rcases hw.2 with ⟨hv, h0⟩ | ⟨g, cap, cur, hv, hg, hh, hnc, hcm, hcs, htk⟩
    · refine ⟨none, 0, ?_, by omega, ?_, hbl⟩
      · subst h0; simp [hv]
      · intro h; have := HN.out; omega
    · refine ⟨some ⟨g, 0, none⟩, cap, by simp [hv], hnc, fun _ => ⟨g, cur, rfl, hg, hh, fun j hj => ?_⟩, hbl⟩
      have hn := HN.out
      have e : cur[j]? = (cur.toList.take (n * 1))[j]? := by rw [List.getElem?_take, if_pos (by omega), Array.getElem?_toList]
      rw [e, htk, u8s_get _ _ hj]

end Go.Proofs.Ytjdojnbpchommaa
