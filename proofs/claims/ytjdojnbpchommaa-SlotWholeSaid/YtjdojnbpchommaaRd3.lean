/-
  What is proved here: a new reader, and what a reader's Plain and String take.
-/
import Derived.Test.YtjdojnbpchommaaRd2
namespace Go.Proofs.Ytjdojnbpchommaa
open Go.ChangeShapes Go.WideShapes Go.ChangeAt Go.RowKit
set_option linter.unusedVariables false
set_option maxRecDepth 20000

theorem New_any (A : Option Addr) (c : Nat) (xs : List Int) (w : World) (hr : Rp w none A xs) (hx : xs.length < 1000000000000) (hb : Bs xs) :
    Calls Try.prog 45 #[.slice A xs.length c] w fun e w' => ∃ g, e = .returned (.pointer (some ⟨g, 0, none⟩)) ∧ w.heap.size ≤ g ∧ RRep w' (some ⟨g, 0, none⟩) (.got false xs) ∧ Below w.heap.size w w' := by
  have HC := hid (Clone_any A c xs w hr hx)
  have HB := hid hb
  clear hr hb
  go_enter Try.func45, Try.ntmps45
  go_wp2_with (go_at_call 37; refine HC.out.mono ?_; rintro e w1 ⟨A', c', rfl, hc', hf, hbl⟩; have HC' := hid hc'; have HF := hid hf; have HBL := hid hbl; clear hc' hf hbl)
  go_ret
  have hbl := HBL.out
  refine ⟨w1.heap.size, rfl, hbl.size, ⟨w1.heap.size, A', c', rfl, Blk.new w1 98 _, HC'.out, hx, HB.out, ?_⟩, hbl.alloc hbl.size _⟩
  have ho : OnlyS (fun _ => False) w1 (w1.alloc (.cells #[.slice A' xs.length c', .bool false] 98)) := (OnlyS.refl _ _).alloc _
  have h2 := HF.out.rp (p := some ⟨w1.heap.size, 0, none⟩) (fun g h1 h2 ⟨a, e, h3⟩ => by injection e with e; subst e; simp at h3; omega)
  exact h2.same fun k hk _ => ho.block k hk (fun h => h)

def RS.plain (st : RS) (n : Int) : List Int × RS :=
  match st with
  | .none => ([], .none)
  | .got true l => ([], .got true l)
  | .got false l => if n < 0 ∨ (l.length : Int) < n then ([], .got true l) else (l.take n.toNat, .got false (l.drop n.toNat))

set_option maxHeartbeats 1000000 in
theorem RPlain_any (p : Option Addr) (st : RS) (n : Int) (w : World) (h : RRep w p st) :
    Calls Try.prog 48 #[.pointer p, .int .i64 n] w fun e w' => ∃ A' c', e = .returned (.slice A' (st.plain n).1.length c') ∧ (st.plain n).1.length ≤ c' ∧ Fresh w w' A' (st.plain n).1 ∧ RRep w' p (st.plain n).2 ∧ OnlyS (Of p) w w' := by
  have HF := hid (Fails_any p st w h)
  have HX := hid (fail_any p st w h)
  cases st with
  | none =>
    obtain rfl : p = none := h
    go_enter Try.func48, Try.ntmps48
    go_wp2_with (go_at_call 55; refine HF.out.mono ?_; rintro e w1 ⟨rfl, rfl⟩; simp only [RS.fails])
    go_ret
    exact ⟨none, 0, rfl, by simp [RS.plain], Fresh.nil _ _ _, rfl, OnlyS.refl _ _⟩
  | got f l =>
    cases f with
    | true =>
      have H := hid h
      clear h
      go_enter Try.func48, Try.ntmps48
      go_wp2_with (go_at_call 55; refine HF.out.mono ?_; rintro e w1 ⟨rfl, rfl⟩; simp only [RS.fails])
      go_ret
      exact ⟨none, 0, rfl, by simp [RS.plain], Fresh.nil _ _ _, H.out, OnlyS.refl _ _⟩
    | false =>
      obtain ⟨b, A, c, rfl, h1, h2, h3, h4, h5⟩ := h
      obtain ⟨m, hml⟩ : ∃ m, m = l.length := ⟨_, rfl⟩
      rw [← hml] at h1 h2 h3
      have c0 : w.cell? ⟨b, 0, none⟩ = some (.slice A m c) := h1.cell 0
      by_cases hlen : n < 0 ∨ (m : Int) < n
      · have e : (RS.got false l).plain n = ([], .got true l) := by simp only [RS.plain]; rw [← hml, if_pos hlen]
        rw [e]
        clear e h1 hml h4 h5
        have HNil := hid (Fresh.nil w)
        by_cases hneg : n < 0
        · clear hlen
          go_enter Try.func48, Try.ntmps48
          go_wp2_with (first
            | (go_at_call 55; refine HF.out.mono ?_; rintro e w1 ⟨rfl, rfl⟩; simp only [RS.fails])
            | (go_at_call 57; refine HX.out.mono ?_; rintro e w2 ⟨rfl, hw2, ho2⟩; have HW2 := hid hw2; have HO2 := hid ho2; clear hw2 ho2))
          go_ret
          exact ⟨none, 0, rfl, by simp, Fresh.nil _ _ _, HW2.out, HO2.out⟩
        · have hgt : (m : Int) < n := by omega
          clear hlen
          go_enter Try.func48, Try.ntmps48
          go_wp2_with (first
            | (go_at_call 55; refine HF.out.mono ?_; rintro e w1 ⟨rfl, rfl⟩; simp only [RS.fails])
            | (go_at_call 57; refine HX.out.mono ?_; rintro e w2 ⟨rfl, hw2, ho2⟩; have HW2 := hid hw2; have HO2 := hid ho2; clear hw2 ho2))
          go_ret
          exact ⟨none, 0, rfl, by simp, Fresh.nil _ _ _, HW2.out, HO2.out⟩
      · have e : (RS.got false l).plain n = (l.take n.toNat, .got false (l.drop n.toNat)) := by simp only [RS.plain]; rw [← hml, if_neg hlen]
        rw [e]
        clear e
        obtain ⟨k, hk⟩ : ∃ k : Nat, n = k := ⟨n.toNat, by omega⟩
        subst hk
        have hkm : k ≤ m := by omega
        have hkc : k ≤ c := by omega
        have hk0 : (0 : Int) ≤ (k : Int) := by omega
        rw [Int.toNat_natCast]
        have hlk : (l.take k).length = k := by rw [List.length_take]; omega
        have hcl := Clone_any A c (l.take k) w (h5.any.take k) (by omega)
        simp only
        rw [hlk] at hcl ⊢
        have HC := hid hcl
        have HML := hid hml; have H1 := hid h1; have H4 := hid h4; have H5 := hid h5; have HLK := hid hlk
        have hblt := h1.lt
        clear h1 hml h4 h5 hlk hcl hlen
        go_enter Try.func48, Try.ntmps48
        go_wp2_with (first
          | (go_at_call 55; refine HF.out.mono ?_; rintro e w1 ⟨rfl, rfl⟩; simp only [RS.fails])
          | (go_at_call 37; refine HC.out.mono ?_; rintro e w2 ⟨A', c', rfl, hc', hf, hbl⟩; have HC' := hid hc'; have HF' := hid hf; have HBL := hid hbl; have d0 : w2.cell? ⟨b, 0, none⟩ = some (.slice A m c) := (hbl.cell (p := ⟨b, 0, none⟩) hblt).trans c0; have e0 : w2.frozen? ⟨b, 0, none⟩ = false := ((H1.out.same (hbl.block b hblt)).frozen 0); clear hc' hf hbl))
        all_goals go_ret
        all_goals have hbl := HBL.out
        all_goals have h1 := H1.out.same (hbl.block b hblt)
        all_goals have h5 := H5.out.same (w' := w2) (fun k hk _ => hbl.block k hk)
        all_goals refine ⟨A', c', rfl, HC'.out, HF'.out.keep (S := Of (some ⟨b, 0, none⟩)) ((OnlyS.refl _ _).setCell (.inl ⟨_, rfl, rfl⟩) _) (fun k hk1 hk2 ⟨a, e, he⟩ => by injection e with e; subst e; simp at he; omega), ?_, (OnlyS.of_below hbl (Nat.le_refl _)).trans ((OnlyS.refl _ _).setCell (.inl ⟨_, rfl, rfl⟩) _)⟩
        · have hck : c = k := by assumption
          exact RRep.cut HML.out h1 h2 h3 H4.out h5 (by rw [if_pos hck]) (by omega)
        · have hck : ¬ c = k := by assumption
          exact RRep.cut HML.out h1 h2 h3 H4.out h5 (by rw [if_neg hck]) rfl
end Go.Proofs.Ytjdojnbpchommaa
