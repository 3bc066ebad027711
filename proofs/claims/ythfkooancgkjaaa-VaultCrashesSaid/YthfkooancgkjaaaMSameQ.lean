/-
  What is proved here: what the document's own comparing of bytes answers, and that it leaves memory alone.
-/
import Derived.Test.YthfkooancgkjaaaMA1
import Derived.Deep.QuietTactic
set_option linter.unusedSimpArgs false
set_option linter.unusedVariables false
namespace Go.Proofs.Ythfkooancgkjaaa
open Go.ChangeShapes Go.WideShapes Go.ChangeAt Go.RowKit
set_option linter.unusedVariables false
set_option maxRecDepth 20000

set_option maxRecDepth 5000 in
set_option maxHeartbeats 1000000 in
theorem Same_quiet (A B : Option Addr) (c d : Nat) (xs ys : List Int) (w : World) (hx : Rp w none A xs) (hy : Rp w none B ys) (hlx : xs.length < 1000000000000) (hly : ys.length < 1000000000000) :
    Calls Try.prog 33 #[.slice A xs.length c, .slice B ys.length d] w fun e w' => e = .returned (.bool (decide (xs = ys))) ∧ ∃ q, w' = w.drewN q := by
  obtain ⟨n, hn⟩ : ∃ n, n = xs.length := ⟨_, rfl⟩
  obtain ⟨m, hm⟩ : ∃ m, m = ys.length := ⟨_, rfl⟩
  obtain ⟨r, hr⟩ : ∃ r, r = decide (xs = ys) := ⟨_, rfl⟩
  rw [← hn] at hlx
  rw [← hm] at hly
  rw [← hn, ← hm, ← hr]
  have HX := hid hx; have HY := hid hy; have HN := hid hn; have HM := hid hm; have HR := hid hr
  clear hx hy hn hm hr
  by_cases hnm : n = m
  · subst hnm
    go_enter Try.func33, Try.ntmps33
    go_wp2
    go_loopw [5] (fun i wr => ∃ k : Nat, k ≤ n ∧ i = .int .i64 k ∧ (∀ j, j < k → xs[j]? = ys[j]?) ∧ ∃ q, wr = w.drewN q) (fun i _ => n - (intOf i).toNat)
    case atStart => exact ⟨0, by omega, rfl, fun j hj => by omega, 0, rfl⟩
    case round =>
      obtain ⟨k, hk, rfl, heq, q, rfl⟩ := hrel
      have HE := hid heq
      clear heq
      by_cases hlt : k < n
      · have hxn := HN.out; have hyn := HM.out
        obtain ⟨ad, rfl, hc⟩ := HX.out.get (by omega)
        obtain ⟨be_, rfl, hd⟩ := HY.out.get (by omega)
        have hck := hc k (by omega)
        have hdk := hd k (by omega)
        have hxk : xs[k]? = some (xs[k]?.getD 0) := by rw [List.getElem?_eq_getElem (by omega)]; rfl
        have hyk : ys[k]? = some (ys[k]?.getD 0) := by rw [List.getElem?_eq_getElem (by omega)]; rfl
        obtain ⟨a, ha⟩ : ∃ a, a = xs[k]?.getD 0 := ⟨_, rfl⟩
        obtain ⟨b, hb⟩ : ∃ b, b = ys[k]?.getD 0 := ⟨_, rfl⟩
        rw [← ha] at hck hxk
        rw [← hb] at hdk hyk
        have KX := hid hxk; have KY := hid hyk
        clear hxk hyk ha hb hc hd hxn hyn
        by_cases hab : a = b
        · have hne : (a != b) = false := by simp [hab]
          have HAB := hid hab
          clear hab
          go_wp2
          go_region
          go_wp2
          go_roundw
          case rel =>
            refine ⟨k + 1, by omega, by go_num, fun j hj => ?_, _, rfl⟩
            by_cases hjk : j = k
            · subst hjk; rw [KX.out, KY.out, HAB.out]
            · exact HE.out j (by omega)
          case measure => simp [intOf]; omega
        · have hne : (a != b) = true := by simp [hab]
          have hf : r = false := by
            rw [HR.out]
            apply decide_eq_false
            intro e
            have h1 := KX.out; have h2 := KY.out
            rw [e] at h1
            rw [h1] at h2
            exact hab (by injection h2)
          have HF := hid hf
          clear hf hab
          go_wp2
          go_region
          go_wp2
          go_ret
          rw [HF.out]
          exact ⟨rfl, _, rfl⟩
      · have hkn : k = n := by omega
        have ht : r = true := by
          rw [HR.out]
          apply decide_eq_true
          apply List.ext_getElem?
          intro j
          have h1 := HN.out; have h2 := HM.out
          rcases Nat.lt_or_ge j n with h | h
          · exact HE.out j (by omega)
          · rw [List.getElem?_eq_none (by omega), List.getElem?_eq_none (by omega)]
        have HT := hid ht
        clear ht
        go_wp2
        go_ret
        rw [HT.out]
        exact ⟨rfl, _, rfl⟩
  · have hne : ((n : Int) != (m : Int)) = true := by simp; omega
    have hf : r = false := by
      rw [HR.out]
      apply decide_eq_false
      intro e
      have h1 := HN.out; have h2 := HM.out
      rw [e] at h1
      omega
    have HF := hid hf
    clear hf
    go_enter Try.func33, Try.ntmps33
    go_wp2
    go_ret
    rw [HF.out]
    exact ⟨rfl, 0, rfl⟩
end Go.Proofs.Ythfkooancgkjaaa
