/-
  What is proved here: which calls on slots are few; lists of bytes that are kept, wherever they lie.
-/
import Derived.Test.YtjdojnbpchommaaMSlX
import Derived.Test.YtjdojnbpchommaaMSlOpen
set_option linter.unusedSimpArgs false
set_option linter.unusedVariables false
namespace Go.Proofs.Ytjdojnbpchommaa
open Go.ChangeShapes Go.WideShapes Go.ChangeAt Go.RowKit
set_option linter.unusedVariables false
set_option maxRecDepth 20000

theorem opC_at {w : World} {A : Option Addr} {n : Nat} {l : List Oq} (h : InOps w A n l) (hn : 0 < n) : ∃ g off, A = some ⟨g, off, none⟩ ∧ g < w.heap.size ∧ ∀ i, i < n → ∃ o B c E d, l[i]? = some o ∧ OpIn w o B c E d ∧ w.rangeAt g (off + i * 5) (opC o B c E d) := by
  obtain ⟨⟨g, off, s⟩, rfl, hat⟩ := h.2.2 hn
  obtain ⟨o, B, c, E, d, h1, h2, h3⟩ := hat 0 hn
  have h0 := h3 0 _ rfl
  have hs : s = none := by simpa [Addr.add] using World.cell?_spot h0
  subst hs
  refine ⟨g, off, rfl, ?_, fun i hi => ?_⟩
  · have := block_lt_of_cell h0; rwa [add_block] at this
  · obtain ⟨o, B, c, E, d, h1, h2, h3⟩ := hat i hi
    refine ⟨o, B, c, E, d, h1, h2, fun j v hv => ?_⟩
    have := h3 j v hv
    rw [Addr.add_mid] at this
    rw [← this]
    congr 2; omega
def SmallO (l : List Oq) (k : Nat) : Prop := ∀ j, j < k → ∀ o, l[j]? = some o → o.b.length ≤ 300 ∧ o.l.length ≤ 100
def FewO (l : List Oq) (w : World) (e : Ending) (w' : World) : Prop := ∃ f, e = .returned (.bool f) ∧ w = w' ∧ (f = true ↔ l.length ≤ 50 ∧ SmallO l l.length)
set_option maxHeartbeats 1000000 in
theorem oFew_any (A : Option Addr) (n c : Nat) (l : List Oq) (w : World) (h : InOps w A n l) : Calls Try.prog 9 #[.slice A n c, .int .i64 50] w (FewO l w) := by
  have hl := h.1
  have hmax := h.2.1
  have H := hid h; have HL := hid hl
  clear h hl
  go_enter Try.func9, Try.ntmps9
  go_wp2
  go_loop [5] (fun i => ∃ k : Nat, k ≤ n ∧ k ≤ 200 ∧ i = .int .i64 k ∧ Hid (SmallO l k)) (fun i => n - (intOf i).toNat)
  case atStart => exact ⟨0, by omega, by omega, rfl, fun j hj => by omega⟩
  case round =>
    obtain ⟨k, hk, hk2, rfl, HA⟩ := hrel
    by_cases hlt : k < n
    · by_cases hlt2 : k < 200
      · obtain ⟨g, off, rfl, _, hat⟩ := opC_at H.out (by omega)
        obtain ⟨o, B, c1, E, d, h1, h2, h3⟩ := hat k hlt
        have z2 : w.cell? ⟨g, off + k * 5 + 3, none⟩ = some (.slice B o.b.length c1) := h3 3 _ rfl
        have z3 : w.cell? ⟨g, off + k * 5 + 4, none⟩ = some (.slice E o.l.length d) := h3 4 _ rfl
        have H1 := hid h1
        obtain ⟨m1, hm1⟩ : ∃ m, m = o.b.length := ⟨_, rfl⟩
        obtain ⟨m2, hm2⟩ : ∃ m, m = o.l.length := ⟨_, rfl⟩
        rw [← hm1] at z2
        rw [← hm2] at z3
        have HM := hid hm1; have HM2 := hid hm2
        clear hat h1 h2 h3 hm1 hm2
        have HK := hid hk; have HK2 := hid hk2
        clear hk hk2
        by_cases hb1 : 300 < m1
        · have b1 : 300 < (m1 : Int) := by omega
          have HF : Hid (¬ SmallO l l.length) := fun h => by
            have := (h k (by rw [HL.out]; exact hlt) o H1.out).1
            have := HM.out
            omega
          go_wp2
          go_ret
          exact ⟨false, rfl, rfl, fun h => (by cases h), fun h => (HF.out h.2).elim⟩
        · have b1 : ¬ 300 < (m1 : Int) := by omega
          by_cases hb2 : 100 < m2
          · have b2 : 100 < (m2 : Int) := by omega
            have HF : Hid (¬ SmallO l l.length) := fun h => by
              have := (h k (by rw [HL.out]; exact hlt) o H1.out).2
              have := HM2.out
              omega
            go_wp2
            go_ret
            exact ⟨false, rfl, rfl, fun h => (by cases h), fun h => (HF.out h.2).elim⟩
          · have b2 : ¬ 100 < (m2 : Int) := by omega
            go_wp2
            go_round
            case rel =>
              refine ⟨k + 1, by omega, by omega, by go_num, fun j hj o' ho' => ?_⟩
              by_cases hjk : j = k
              · subst hjk
                rw [H1.out] at ho'
                injection ho' with ho'
                subst ho'
                have := HM.out; have := HM2.out
                omega
              · exact HA.out j (by omega) o' ho'
            case measure => simp [intOf]; omega
      · obtain rfl : k = 200 := by omega
        have hn50 : ¬ (n : Int) ≤ 50 := by omega
        have hf : decide ((n : Int) ≤ 50) = false := decide_eq_false hn50
        go_wp2
        go_ret
        exact ⟨false, by simp_all, rfl, fun h => (by cases h), fun h => by have := h.1; rw [HL.out] at this; omega⟩
    · obtain rfl : k = n := by omega
      by_cases hn50 : k ≤ 50
      · have hf : decide ((k : Int) ≤ 50) = true := decide_eq_true (by omega)
        go_wp2
        go_ret
        exact ⟨true, by simp_all, rfl, fun _ => ⟨by rw [HL.out]; exact hn50, by rw [HL.out]; exact HA.out⟩, fun _ => rfl⟩
      · have hf : decide ((k : Int) ≤ 50) = false := decide_eq_false (by omega)
        go_wp2
        go_ret
        exact ⟨false, by simp_all, rfl, fun h => (by cases h), fun h => by have := h.1; rw [HL.out] at this; omega⟩
theorem oFew_yes {A : Option Addr} {n c : Nat} {l : List Oq} {w : World} (h : InOps w A n l) (hf : l.length ≤ 50 ∧ SmallO l l.length) : Calls Try.prog 9 #[.slice A n c, .int .i64 50] w fun e w2 => e = .returned (.bool true) ∧ w = w2 :=
  (oFew_any A n c l w h).mono fun e w' ⟨f, h1, h2, h3⟩ => ⟨by rw [h1, h3.2 hf], h2⟩
theorem oFew_no {A : Option Addr} {n c : Nat} {l : List Oq} {w : World} (h : InOps w A n l) (hf : ¬ (l.length ≤ 50 ∧ SmallO l l.length)) : Calls Try.prog 9 #[.slice A n c, .int .i64 50] w fun e w2 => e = .returned (.bool false) ∧ w = w2 :=
  (oFew_any A n c l w h).mono fun e w' ⟨f, h1, h2, h3⟩ => ⟨by
    have : f = false := by
      cases f with
      | true => exact (hf (h3.1 rfl)).elim
      | false => rfl
    rw [h1, this], h2⟩
theorem InOps.below {w w' : World} {A : Option Addr} {n : Nat} {l : List Oq} (h : InOps w A n l) (hb : Below w.heap.size w w') : InOps w' A n l := by
  refine ⟨h.1, h.2.1, fun hn => ?_⟩
  obtain ⟨ad, e, hat⟩ := h.2.2 hn
  refine ⟨ad, e, fun i hi => ?_⟩
  obtain ⟨o, B, c, E, d, h1, h2, h3⟩ := hat i hi
  exact ⟨o, B, c, E, d, h1, ⟨h2.k, h2.i, h2.t, ⟨h2.b.1, h2.b.2.1, h2.b.2.2.1, h2.b.2.2.2.belowN hb⟩, ⟨h2.l.1, h2.l.2.1, h2.l.2.2.below hb⟩, h2.lb⟩, fun j v hv => (hb.cell (block_lt_of_cell (h3 j v hv))).trans (h3 j v hv)⟩

/-- bytes that lie below n0, or in a block of bytes -/
def RqL (n0 : Nat) (w : World) (B : Option Addr) (xs : List Int) : Prop := Rp w none B xs ∧ Src n0 w B xs
theorem RqL.keep {n0 : Nat} {w w' : World} {B : Option Addr} {xs : List Int} (h : RqL n0 w B xs) (hk : Kt w w') (hb : Below n0 w w') : RqL n0 w' B xs := by
  refine ⟨fun hx => ?_, fun hx a ha => ?_⟩
  · obtain ⟨ad, e, h1, hc⟩ := h.1 hx
    refine ⟨ad, e, h1, fun k hkk => ?_⟩
    rcases h.2 hx ad e with h5 | ⟨cs, h5⟩
    · exact (hb.cell (by rw [add_block]; exact h5)).trans (hc k hkk)
    · exact (World.cell?_of_block (w := w) (by rw [add_block]; exact hk.bl _ _ _ h5 (by decide))).trans (hc k hkk)
  · rcases h.2 hx a ha with h5 | ⟨cs, h5⟩
    · exact .inl h5
    · exact .inr ⟨cs, hk.blk h5 (by decide)⟩
theorem Fresh.rq {n0 : Nat} {w w' : World} {B : Option Addr} {xs : List Int} (h : Fresh w w' B xs) : RqL n0 w' B xs := ⟨h.rp0, fun hx a ha => by
  obtain ⟨g, cur, e, hg, hb, hc⟩ := h hx
  rw [e] at ha
  injection ha with ha
  subst ha
  exact .inr ⟨cur, hb⟩⟩
/-- lists of bytes, kept one by one -/
def AllM (n0 : Nat) (w : World) (M : List (List Int)) (v : Value) : Prop :=
  ∃ A c rows, v = .slice A M.length c ∧ w.ownsRow n0 31 1 v M.length rows ∧ ∀ j, j < M.length → ∃ B d, rows[j]? = some (.slice B (M[j]?.getD []).length d) ∧ RqL n0 w B (M[j]?.getD [])
theorem AllM.keep {n0 : Nat} {w w' : World} {M : List (List Int)} {v : Value} (h : AllM n0 w M v) (hk : Kt w w') (hb : Below n0 w w') : AllM n0 w' M v := by
  obtain ⟨A, c, rows, h1, h2, h3⟩ := h
  exact ⟨A, c, rows, h1, hk.own h2 (by decide), fun j hj => by
    obtain ⟨B, d, h4, h5⟩ := h3 j hj
    exact ⟨B, d, h4, h5.keep hk hb⟩⟩
theorem AllM.below {n0 : Nat} {w w' : World} {M : List (List Int)} {v : Value} (h : AllM n0 w M v) (hb : Below w.heap.size w w') (hn : n0 ≤ w.heap.size) : AllM n0 w' M v := h.keep (Kt.below hb) (hb.mono hn)
theorem AllM.nil (n0 : Nat) (w : World) : AllM n0 w [] (.slice none 0 0) := ⟨none, 0, [], rfl, ⟨rfl, .inl ⟨rfl, rfl⟩⟩, fun j hj => by simp at hj⟩
/-- one alone -/
theorem AllM.one {n0 : Nat} {w : World} {B : Option Addr} {m d : Nat} {xs : List Int} (hm : m = xs.length) (h : RqL n0 w B xs) (hn : n0 ≤ w.heap.size) :
    AllM n0 (w.alloc (.cells #[.slice B m d] 31)) [xs] (.slice (some ⟨w.heap.size, 0, none⟩) 1 1) := by
  subst hm
  have hb : Below w.heap.size w (w.alloc (.cells #[.slice B xs.length d] 31)) := (Below.refl _ _).alloc (Nat.le_refl _) _
  refine ⟨_, 1, [.slice B xs.length d], rfl, ⟨rfl, .inr ⟨w.heap.size, 1, #[.slice B xs.length d], rfl, hn, heap_alloc_new w _, Nat.le_refl _, by unfold maxLen; omega, by simp, by simp⟩⟩, fun j hj => ?_⟩
  have : j = 0 := by simp at hj; omega
  subst this
  exact ⟨B, d, rfl, h.keep (Kt.below hb) (hb.mono hn)⟩
/-- one more -/
theorem AllM.push {n0 : Nat} {w w' : World} {M : List (List Int)} {rows : List Value} {v' : Value} {A' : Option Addr} {c' : Nat} {B : Option Addr} {d : Nat} {xs : List Int} (hl : rows.length = M.length) (h3 : ∀ j, j < M.length → ∃ B d, rows[j]? = some (.slice B (M[j]?.getD []).length d) ∧ RqL n0 w B (M[j]?.getD []))
    (hB : RqL n0 w B xs) (hv : v' = .slice A' (M.length + 1) c') (ho : w'.ownsRow n0 31 1 v' (M.length + 1) (rows ++ [.slice B xs.length d])) (hk : ∀ g cs, Blk w g 5 cs → w'.heap[g]? = w.heap[g]?) (hb : Below n0 w w') : AllM n0 w' (M ++ [xs]) v' := by
  have keep : ∀ {B : Option Addr} {xs : List Int}, RqL n0 w B xs → RqL n0 w' B xs := fun h => by
    refine ⟨fun hx => ?_, fun hx a ha => ?_⟩
    · obtain ⟨ad, e, h1, hc⟩ := h.1 hx
      refine ⟨ad, e, h1, fun k hkk => ?_⟩
      rcases h.2 hx ad e with h5 | ⟨cs, h5⟩
      · exact (hb.cell (by rw [add_block]; exact h5)).trans (hc k hkk)
      · exact (World.cell?_of_block (w := w) (by rw [add_block]; exact hk _ _ h5)).trans (hc k hkk)
    · rcases h.2 hx a ha with h5 | ⟨cs, h5⟩
      · exact .inl h5
      · exact .inr ⟨cs, h5.same (hk _ _ h5)⟩
  refine ⟨A', c', _, by rw [hv]; simp, by rw [List.length_append]; exact ho, fun j hj => ?_⟩
  rw [List.length_append, List.length_singleton] at hj
  by_cases h : j < M.length
  · obtain ⟨B', d', h4, h5⟩ := h3 j h
    rw [List.getElem?_append_left h]
    exact ⟨B', d', by rw [List.getElem?_append_left (by omega)]; exact h4, keep h5⟩
  · obtain rfl : j = M.length := by omega
    rw [List.getElem?_append_right (Nat.le_refl _), Nat.sub_self]
    exact ⟨B, d, by rw [List.getElem?_append_right (by omega), hl, Nat.sub_self]; rfl, keep hB⟩
end Go.Proofs.Ytjdojnbpchommaa
