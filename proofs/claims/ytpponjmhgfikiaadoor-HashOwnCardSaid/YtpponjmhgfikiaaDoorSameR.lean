/-
  What is proved here: what the document's own comparing of bytes, and of lists of parts, answers; and that texts with tags tell tags and parts apart.
-/
import Derived.Test.YtpponjmhgfikiaaDoorTextR
import Derived.Deep.QuietTactic
namespace Go.Proofs.YtpponjmhgfikiaaDoor
open Go.ChangeShapes Go.WideShapes Go.ChangeAt Go.RowKit
set_option linter.unusedVariables false

set_option maxRecDepth 5000 in
set_option maxHeartbeats 1000000 in
theorem Same_quiet (A B : Option Addr) (c d : Nat) (xs ys : List Int) (w : World) (hx : Rp w none A xs) (hy : Rp w none B ys) (hlx : xs.length < 1000000000000) (hly : ys.length < 1000000000000) :
    Calls Tryd.prog 12 #[.slice A xs.length c, .slice B ys.length d] w fun e w' => e = .returned (.bool (decide (xs = ys))) ∧ ∃ q, w' = w.drewN q := by
  obtain ⟨n, hn⟩ : ∃ n, n = xs.length := ⟨_, rfl⟩
  obtain ⟨m, hm⟩ : ∃ m, m = ys.length := ⟨_, rfl⟩
  obtain ⟨r, hr⟩ : ∃ r, r = decide (xs = ys) := ⟨_, rfl⟩
  rw [← hn] at hlx
  rw [← hm] at hly
  rw [← hn, ← hm, ← hr]
  have HX := hid hx; have HY := hid hy; have HN := hid hn; have HM := hid hm; have HR := hid hr
  clear hx hy hn hm hr
  by_cases hnm : n = m
  · subst hnm
    go_enter Tryd.func12, Tryd.ntmps12
    go_wp2
    go_loopw [5] (fun i wr => ∃ k : Nat, k ≤ n ∧ i = .int .i64 k ∧ (∀ j, j < k → xs[j]? = ys[j]?) ∧ ∃ q, wr = w.drewN q) (fun i _ => n - (intOf i).toNat)
    case atStart => exact ⟨0, by omega, rfl, fun j hj => by omega, 0, rfl⟩
    case round =>
      obtain ⟨k, hk, rfl, heq, q, rfl⟩ := hrel
      have HE := hid heq
      clear heq
      by_cases hlt : k < n
      · have hxn := HN.out; have hyn := HM.out
        obtain ⟨ad, rfl, hc⟩ := HX.out.get (by omega)
        obtain ⟨be_, rfl, hd⟩ := HY.out.get (by omega)
        have hck := hc k (by omega)
        have hdk := hd k (by omega)
        have hxk : xs[k]? = some (xs[k]?.getD 0) := by rw [List.getElem?_eq_getElem (by omega)]; rfl
        have hyk : ys[k]? = some (ys[k]?.getD 0) := by rw [List.getElem?_eq_getElem (by omega)]; rfl
        obtain ⟨a, ha⟩ : ∃ a, a = xs[k]?.getD 0 := ⟨_, rfl⟩
        obtain ⟨b, hb⟩ : ∃ b, b = ys[k]?.getD 0 := ⟨_, rfl⟩
        rw [← ha] at hck hxk
        rw [← hb] at hdk hyk
        have KX := hid hxk; have KY := hid hyk
        clear hxk hyk ha hb hc hd hxn hyn
        by_cases hab : a = b
        · have hne : (a != b) = false := by simp [hab]
          have HAB := hid hab
          clear hab
          go_wp2
          go_region
          go_wp2
          go_roundw
          case rel =>
            refine ⟨k + 1, by omega, by go_num, fun j hj => ?_, _, rfl⟩
            by_cases hjk : j = k
            · subst hjk; rw [KX.out, KY.out, HAB.out]
            · exact HE.out j (by omega)
          case measure => simp [intOf]; omega
        · have hne : (a != b) = true := by simp [hab]
          have hf : r = false := by
            rw [HR.out]
            apply decide_eq_false
            intro e
            have h1 := KX.out; have h2 := KY.out
            rw [e] at h1
            rw [h1] at h2
            exact hab (by injection h2)
          have HF := hid hf
          clear hf hab
          go_wp2
          go_region
          go_wp2
          go_ret
          rw [HF.out]
          exact ⟨rfl, _, rfl⟩
      · have hkn : k = n := by omega
        have ht : r = true := by
          rw [HR.out]
          apply decide_eq_true
          apply List.ext_getElem?
          intro j
          have h1 := HN.out; have h2 := HM.out
          rcases Nat.lt_or_ge j n with h | h
          · exact HE.out j (by omega)
          · rw [List.getElem?_eq_none (by omega), List.getElem?_eq_none (by omega)]
        have HT := hid ht
        clear ht
        go_wp2
        go_ret
        rw [HT.out]
        exact ⟨rfl, _, rfl⟩
  · have hne : ((n : Int) != (m : Int)) = true := by simp; omega
    have hf : r = false := by
      rw [HR.out]
      apply decide_eq_false
      intro e
      have h1 := HN.out; have h2 := HM.out
      rw [e] at h1
      omega
    have HF := hid hf
    clear hf
    go_enter Tryd.func12, Tryd.ntmps12
    go_wp2
    go_ret
    rw [HF.out]
    exact ⟨rfl, 0, rfl⟩

theorem be4_inj (m k : Nat) (hm : m < 4294967296) (hk : k < 4294967296) (h : be (m : Int) 4 = be (k : Int) 4) : m = k := by
  simp only [be, List.cons.injEq] at h
  obtain ⟨h3, h2, h1, h0, _⟩ := h
  have e3 : (256 : Int) ^ 3 = 16777216 := by decide
  have e2 : (256 : Int) ^ 2 = 65536 := by decide
  have e1 : (256 : Int) ^ 1 = 256 := by decide
  have e0 : (256 : Int) ^ 0 = 1 := by decide
  rw [e3] at h3
  rw [e2] at h2
  rw [e1] at h1
  rw [e0] at h0
  omega
theorem parts_inj : ∀ (a b : List (List Int)), (∀ f ∈ a, f.length ≤ 300) → (∀ f ∈ b, f.length ≤ 300) → a.flatMap part = b.flatMap part → a = b
  | [], [], _, _, _ => rfl
  | [], y :: b, _, _, h => by
    have := congrArg List.length h
    simp [part_length] at this
    omega
  | x :: a, [], _, _, h => by
    have := congrArg List.length h
    simp [part_length] at this
  | x :: a, y :: b, ha, hb, h => by
    simp only [List.flatMap_cons, part, List.append_assoc] at h
    have hx := ha x (List.mem_cons_self ..)
    have hy := hb y (List.mem_cons_self ..)
    obtain ⟨h1, h2⟩ := List.append_inj h (by rw [be_length, be_length])
    have hl := be4_inj _ _ (by omega) (by omega) h1
    obtain ⟨h3, h4⟩ := List.append_inj h2 hl
    rw [h3, parts_inj a b (fun f hf => ha f (List.mem_cons_of_mem _ hf)) (fun f hf => hb f (List.mem_cons_of_mem _ hf)) h4]
theorem textL_inj (s t : Int) (a b : List (List Int)) (ha : ∀ f ∈ a, f.length ≤ 300) (hb : ∀ f ∈ b, f.length ≤ 300) : textL s a = textL t b ↔ s = t ∧ a = b := by
  constructor
  · intro h
    unfold textL at h
    injection h with h1 h2
    exact ⟨h1, parts_inj a b ha hb h2⟩
  · rintro ⟨rfl, rfl⟩; rfl

set_option maxRecDepth 5000 in
set_option maxHeartbeats 1000000 in
theorem RSameL_any (A B : Option Addr) (n m c d : Nat) (L M : List (List Int)) (w : World) (hL : InR w A n L) (hM : InR w B m M) (h1 : ∀ f ∈ L, f.length ≤ 300) (h2 : ∀ f ∈ M, f.length ≤ 300) :
    Calls Tryd.prog 17 #[.slice A n c, .slice B m d] w fun e w' => e = .returned (.bool (decide (L = M))) ∧ ∃ q, w' = w.drewN q := by
  obtain ⟨r, hr⟩ : ∃ r, r = decide (L = M) := ⟨_, rfl⟩
  have hnm := hL.2.1
  have hmm := hM.2.1
  rw [← hr]
  have HR := hid hr; have HL := hid hL; have HM := hid hM; have HN1 := hid hL.1; have HN2 := hid hM.1; have H1 := hid h1; have H2 := hid h2
  clear hr hL hM h1 h2
  by_cases he : n = m
  · subst he
    go_enter Tryd.func17, Tryd.ntmps17
    go_wp2
    go_loopw [5] (fun i wr => ∃ k : Nat, k ≤ n ∧ i = .int .i64 k ∧ Hid (∀ j, j < k → L[j]? = M[j]?) ∧ ∃ q, wr = w.drewN q) (fun i _ => n - (intOf i).toNat)
    case atStart => exact ⟨0, by omega, rfl, fun j hj => by omega, 0, rfl⟩
    case round =>
      obtain ⟨k, hk, rfl, HE, q, hw⟩ := hrel
      by_cases hlt : k < n
      · obtain ⟨b1, o1, rfl, _, hat1⟩ := HL.out.2.2 (by omega)
        obtain ⟨b2, o2, rfl, _, hat2⟩ := HM.out.2.2 (by omega)
        obtain ⟨B1, c1, xs, x1, x2, x3, x4, x5, x6⟩ := hat1 k hlt
        obtain ⟨B2, c2, ys, y1, y2, y3, y4, y5, y6⟩ := hat2 k hlt
        have hx : xs.length ≤ 300 := H1.out _ (List.mem_of_getElem? x1)
        have hy : ys.length ≤ 300 := H2.out _ (List.mem_of_getElem? y1)
        have hsq := fun W (hW : ∃ q, W = w.drewN q) => Same_quiet B1 B2 c1 c2 xs ys W (by obtain ⟨q, rfl⟩ := hW; exact x4) (by obtain ⟨q, rfl⟩ := hW; exact y4) (by omega) (by omega)
        have z1 : wr.cell? ⟨b1, o1 + k, none⟩ = some (.slice B1 xs.length c1) := by rw [hw]; exact x2
        have z2 : wr.cell? ⟨b2, o2 + k, none⟩ = some (.slice B2 ys.length c2) := by rw [hw]; exact y2
        obtain ⟨p, hp⟩ : ∃ p, p = decide (xs = ys) := ⟨_, rfl⟩
        rw [← hp] at hsq
        have HSQ := hid hsq; have HP := hid hp; have X1 := hid x1; have Y1 := hid y1; have HW := hid hw
        clear hat1 hat2 x1 x2 x3 x4 x5 x6 y1 y2 y3 y4 y5 y6 hsq hp hx hy hw
        go_wp2
        go_quiet ((go_at_call 12; exact Calls.quiet_of (HSQ.out _ ⟨_, by rw [HW.out, World.drewN_drewN]⟩)))
        cases p with
        | true =>
          have hxy : xs = ys := by have := HP.out; simpa using this.symm
          have HXY := hid hxy
          clear hxy
          go_wp2
          go_roundw
          case rel =>
            refine ⟨k + 1, by omega, by go_num, fun j hj => ?_, q + nq, by rw [HW.out, World.drewN_drewN]⟩
            by_cases hjk : j = k
            · subst hjk; rw [X1.out, Y1.out, HXY.out]
            · exact HE.out j (by omega)
          case measure => simp [intOf]; omega
        | false =>
          have hrf : r = false := by
            rw [HR.out]
            apply decide_eq_false
            intro e
            have h1 := X1.out; have h2 := Y1.out
            rw [e] at h1
            rw [h1] at h2
            injection h2 with h2
            have := HP.out
            rw [h2] at this
            simp at this
          have HF := hid hrf
          clear hrf
          go_wp2
          go_ret
          rw [HF.out]
          exact ⟨rfl, q + nq, by rw [HW.out, World.drewN_drewN]⟩
      · have hrt : r = true := by
          rw [HR.out]
          apply decide_eq_true
          apply List.ext_getElem?
          intro j
          have h1 := HN1.out; have h2 := HN2.out
          rcases Nat.lt_or_ge j n with h | h
          · exact HE.out j (by omega)
          · rw [List.getElem?_eq_none (by omega), List.getElem?_eq_none (by omega)]
        have HT := hid hrt; have HW := hid hw
        clear hrt hw
        go_wp2
        go_ret
        rw [HT.out]
        exact ⟨rfl, q, HW.out⟩
  · have hne : ((n : Int) != (m : Int)) = true := by simp; omega
    have hrf : r = false := by
      rw [HR.out]
      apply decide_eq_false
      intro e
      have h1 := HN1.out; have h2 := HN2.out
      rw [e] at h1
      omega
    have HF := hid hrf
    clear hrf
    go_enter Tryd.func17, Tryd.ntmps17
    go_wp2
    go_ret
    rw [HF.out]
    exact ⟨rfl, 0, rfl⟩
end Go.Proofs.YtpponjmhgfikiaaDoor
