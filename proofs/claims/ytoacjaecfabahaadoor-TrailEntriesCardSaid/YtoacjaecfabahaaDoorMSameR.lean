/-
  What is proved here: what the document's own comparing of bytes, and of lists of parts, answers; and that texts with tags tell tags and parts apart.
-/
import Derived.Test.YtoacjaecfabahaaDoorMA2
import Derived.Deep.QuietTactic
set_option linter.unusedSimpArgs false
set_option linter.unusedVariables false
namespace Go.Proofs.YtoacjaecfabahaaDoor
open Go.ChangeShapes Go.WideShapes Go.ChangeAt Go.RowKit
set_option linter.unusedVariables false

set_option maxRecDepth 5000 in
set_option maxHeartbeats 1000000 in
theorem Same_quiet (A B : Option Addr) (c d : Nat) (xs ys : List Int) (w : World) (hx : Rp w none A xs) (hy : Rp w none B ys) (hlx : xs.length < 1000000000000) (hly : ys.length < 1000000000000) :
    Calls Tryd.prog 56 #[.slice A xs.length c, .slice B ys.length d] w fun e w' => e = .returned (.bool (decide (xs = ys))) ∧ ∃ q, w' = w.drewN q := by
  obtain ⟨n, hn⟩ : ∃ n, n = xs.length := ⟨_, rfl⟩
  obtain ⟨m, hm⟩ : ∃ m, m = ys.length := ⟨_, rfl⟩
  obtain ⟨r, hr⟩ : ∃ r, r = decide (xs = ys) := ⟨_, rfl⟩
  rw [← hn] at hlx
  rw [← hm] at hly
  rw [← hn, ← hm, ← hr]
  have HX := hid hx; have HY := hid hy; have HN := hid hn; have HM := hid hm; have HR := hid hr
  clear hx hy hn hm hr
  by_cases hnm : n = m
  · subst hnm
    go_enter Tryd.func56, Tryd.ntmps56
    go_wp2
    go_loopw [5] (fun i wr => ∃ k : Nat, k ≤ n ∧ i = .int .i64 k ∧ (∀ j, j < k → xs[j]? = ys[j]?) ∧ ∃ q, wr = w.drewN q) (fun i _ => n - (intOf i).toNat)
    case atStart => exact ⟨0, by omega, rfl, fun j hj => by omega, 0, rfl⟩
    case round =>
      obtain ⟨k, hk, rfl, heq, q, rfl⟩ := hrel
      have HE := hid heq
      clear heq
      by_cases hlt : k < n
      · have hxn := HN.out; have hyn := HM.out
        obtain ⟨ad, rfl, hc⟩ := HX.out.get (by omega)
        obtain ⟨be_, rfl, hd⟩ := HY.out.get (by omega)
        have hck := hc k (by omega)
        have hdk := hd k (by omega)
        have hxk : xs[k]? = some (xs[k]?.getD 0) := by rw [List.getElem?_eq_getElem (by omega)]; rfl
        have hyk : ys[k]? = some (ys[k]?.getD 0) := by rw [List.getElem?_eq_getElem (by omega)]; rfl
        obtain ⟨a, ha⟩ : ∃ a, a = xs[k]?.getD 0 := ⟨_, rfl⟩
        obtain ⟨b, hb⟩ : ∃ b, b = ys[k]?.getD 0 := ⟨_, rfl⟩
        rw [← ha] at hck hxk
        rw [← hb] at hdk hyk
        have KX := hid hxk; have KY := hid hyk
        clear hxk hyk ha hb hc hd hxn hyn
        by_cases hab : a = b
        · have hne : (a != b) = false := by simp [hab]
          have HAB := hid hab
          clear hab
          go_wp2
          go_region
          go_wp2
          go_roundw
          case rel =>
            refine ⟨k + 1, by omega, by go_num, fun j hj => ?_, _, rfl⟩
            by_cases hjk : j = k
            · subst hjk; rw [KX.out, KY.out, HAB.out]
            · exact HE.out j (by omega)
          case measure => simp [intOf]; omega
        · have hne : (a != b) = true := by simp [hab]
          have hf : r = false := by
            rw [HR.out]
            apply decide_eq_false
            intro e
            have h1 := KX.out; have h2 := KY.out
            rw [e] at h1
            rw [h1] at h2
            exact hab (by injection h2)
          have HF := hid hf
          clear hf hab
          go_wp2
          go_region
          go_wp2
          go_ret
          rw [HF.out]
          exact ⟨rfl, _, rfl⟩
      · have hkn : k = n := by omega
        have ht : r = true := by
          rw [HR.out]
          apply decide_eq_true
          apply List.ext_getElem?
          intro j
          have h1 := HN.out; have h2 := HM.out
          rcases Nat.lt_or_ge j n with h | h
          · exact HE.out j (by omega)
          · rw [List.getElem?_eq_none (by omega), List.getElem?_eq_none (by omega)]
        have HT := hid ht
        clear ht
        go_wp2
        go_ret
        rw [HT.out]
        exact ⟨rfl, _, rfl⟩
  · have hne : ((n : Int) != (m : Int)) = true := by simp; omega
    have hf : r = false := by
      rw [HR.out]
      apply decide_eq_false
      intro e
      have h1 := HN.out; have h2 := HM.out
      rw [e] at h1
      omega
    have HF := hid hf
    clear hf
    go_enter Tryd.func56, Tryd.ntmps56
    go_wp2
    go_ret
    rw [HF.out]
    exact ⟨rfl, 0, rfl⟩

theorem be4_inj (m k : Nat) (hm : m < 4294967296) (hk : k < 4294967296) (h : be (m : Int) 4 = be (k : Int) 4) : m = k := by
  simp only [be, List.cons.injEq] at h
  obtain ⟨h3, h2, h1, h0, _⟩ := h
  have e3 : (256 : Int) ^ 3 = 16777216 := by decide
  have e2 : (256 : Int) ^ 2 = 65536 := by decide
  have e1 : (256 : Int) ^ 1 = 256 := by decide
  have e0 : (256 : Int) ^ 0 = 1 := by decide
  rw [e3] at h3
  rw [e2] at h2
  rw [e1] at h1
  rw [e0] at h0
  omega
theorem parts_inj : ∀ (a b : List (List Int)), (∀ f ∈ a, f.length ≤ 300) → (∀ f ∈ b, f.length ≤ 300) → a.flatMap part = b.flatMap part → a = b
  | [], [], _, _, _ => rfl
  | [], y :: b, _, _, h => by
    have := congrArg List.length h
    simp [part_length] at this
    omega
  | x :: a, [], _, _, h => by
    have := congrArg List.length h
    simp [part_length] at this
  | x :: a, y :: b, ha, hb, h => by
    simp only [List.flatMap_cons, part, List.append_assoc] at h
    have hx := ha x (List.mem_cons_self ..)
    have hy := hb y (List.mem_cons_self ..)
    obtain ⟨h1, h2⟩ := List.append_inj h (by rw [be_length, be_length])
    have hl := be4_inj _ _ (by omega) (by omega) h1
    obtain ⟨h3, h4⟩ := List.append_inj h2 hl
    rw [h3, parts_inj a b (fun f hf => ha f (List.mem_cons_of_mem _ hf)) (fun f hf => hb f (List.mem_cons_of_mem _ hf)) h4]
theorem textL_inj (s t : Int) (a b : List (List Int)) (ha : ∀ f ∈ a, f.length ≤ 300) (hb : ∀ f ∈ b, f.length ≤ 300) : textL s a = textL t b ↔ s = t ∧ a = b := by
  constructor
  · intro h
    unfold textL at h
    injection h with h1 h2
    exact ⟨h1, parts_inj a b ha hb h2⟩
  · rintro ⟨rfl, rfl⟩; rfl

end Go.Proofs.YtoacjaecfabahaaDoor
