/-
  What is proved here: a page of the code's device is read.
-/
import Derived.Test.YtjdojnbpchommaaDvB
import Derived.Test.YtjdojnbpchommaaDClone
namespace Go.Proofs.Ytjdojnbpchommaa
open Go.ChangeShapes Go.WideShapes Go.ChangeAt Go.RowKit
set_option linter.unusedVariables false
set_option maxRecDepth 20000

theorem page_rp {w : World} {g : Nat} {P : List (List Int)} (h : Blk w g 67 (pcs P).toArray) (hP : PgOk P) {i : Nat} (hi : i < P.length) : Rp w none (some ⟨g, i * 128, none⟩) (P[i]?.getD []) := fun _ => by
  refine ⟨_, rfl, (fun ⟨a, e, _⟩ => by cases e), fun j hj => ?_⟩
  have h128 := hP.at hi
  rw [Addr.add_lit, Nat.mul_comm i 128, h.cell, List.getElem?_toArray, pcs_at hP hi j (by omega), u8s_get _ _ hj]
def ReadAns (w : World) (xs : List Int) (e : Ending) (w' : World) : Prop := ∃ A c, e = .returned (.tuple #[.slice A 128 c, .int .i64 0]) ∧ Fresh w w' A xs ∧ Below w.heap.size w w'
section
variable {w : World} {R : Nat → Prop} {b : Nat} {L : List (List Int)} {Q : List Wr} {F : Int} {D : Bool} (h : DAt w R b L Q F D)
include h
theorem dRead_ok (hd : D = false) (i : Nat) (hi : i < L.length) : Calls Try.prog 25 #[.pointer (some ⟨b, 0, none⟩), .int .i64 i] w (ReadAns w ((pg L Q)[i]?.getD [])) := by
  subst hd
  have CD := hid (dDown_at h); have CH := hid (dhas_yes h i hi)
  obtain ⟨g, vW, fz, fu, h1, h2, h3, r1, r2, r3, e1, e2, e3, e4, e5, e6⟩ := h
  have hP := pg_ok Q L e4 e5
  have hl : i < (pg L Q).length := by rw [pg_length]; exact hi
  have CC : Hid (Calls Try.prog 37 #[.slice (some ⟨g, i * 128, none⟩) 128 128] w fun e w' => ∃ A' c', e = .returned (.slice A' 128 c') ∧ 128 ≤ c' ∧ Fresh w w' A' ((pg L Q)[i]?.getD []) ∧ Below w.heap.size w w') := by
    have := Clone_any (some ⟨g, i * 128, none⟩) 128 _ w (page_rp h2 hP hl) (by rw [hP.at hl]; decide)
    rw [hP.at hl] at this
    exact this
  generalize (pg L Q)[i]?.getD [] = X at CC ⊢
  generalize L.length = n at h1 hi e6
  have c0 : w.cell? ⟨b, 0, none⟩ = some (.slice (some ⟨g, 0, none⟩) n n) := h1.cell 0
  clear h1 h2 h3 r3 e1 e2 e3 e4 e5 hP hl
  go_enter Try.func25, Try.ntmps25
  go_wp2_with (first
    | (go_at_call 24; refine CD.out.mono ?_; rintro e wq ⟨rfl, rfl⟩)
    | (go_at_call 30; refine CH.out.mono ?_; rintro e wq ⟨rfl, rfl⟩)
    | (go_at_call 37; refine CC.out.mono ?_; rintro e w1 ⟨A, c, rfl, hc, hf, hb⟩; have HF := hid hf; have HB := hid hb; clear hc hf hb))
  go_ret2
  exact ⟨A, c, rfl, HF.out, HB.out⟩
theorem dRead_range (hd : D = false) (i : Int) (hi : i < 0 ∨ (L.length : Int) ≤ i) : Calls Try.prog 25 #[.pointer (some ⟨b, 0, none⟩), .int .i64 i] w fun e w' => e = .returned (.tuple #[.slice none 0 0, .int .i64 4]) ∧ w = w' := by
  subst hd
  have CD := hid (dDown_at h); have CH := hid (dhas_no h i hi)
  clear h hi
  go_enter Try.func25, Try.ntmps25
  go_wp2_with (first
    | (go_at_call 24; refine CD.out.mono ?_; rintro e wq ⟨rfl, rfl⟩)
    | (go_at_call 30; refine CH.out.mono ?_; rintro e wq ⟨rfl, rfl⟩))
  go_ret2
  exact ⟨rfl, rfl⟩
end
theorem dRead_down {w : World} {R : Nat → Prop} {b : Nat} {L : List (List Int)} {Q : List Wr} {F : Int} (h : DAt w R b L Q F true) (i : Int) : Calls Try.prog 25 #[.pointer (some ⟨b, 0, none⟩), .int .i64 i] w fun e w' => e = .returned (.tuple #[.slice none 0 0, .int .i64 6]) ∧ w = w' := by
  have CD := hid (dDown_at h)
  clear h
  go_enter Try.func25, Try.ntmps25
  go_wp2_with (go_at_call 24; refine CD.out.mono ?_; rintro e wq ⟨rfl, rfl⟩)
  go_ret2
  exact ⟨rfl, rfl⟩
theorem dRead_nil (i : Int) (w : World) : Calls Try.prog 25 #[.pointer none, .int .i64 i] w fun e w' => e = .returned (.tuple #[.slice none 0 0, .int .i64 6]) ∧ w = w' := by
  have CD := hid (dDown_nil w)
  go_enter Try.func25, Try.ntmps25
  go_wp2_with (go_at_call 24; refine CD.out.mono ?_; rintro e wq ⟨rfl, rfl⟩)
  go_ret2
  exact ⟨rfl, rfl⟩
theorem dWrite_nil (i : Int) (A : Option Addr) (n c : Nat) (w : World) : Calls Try.prog 14 #[.pointer none, .int .i64 i, .slice A n c] w fun e w' => e = .returned (.int .i64 6) ∧ w = w' := by
  have CD := hid (dDown_nil w)
  go_enter Try.func14, Try.ntmps14
  go_wp2_with (go_at_call 24; refine CD.out.mono ?_; rintro e wq ⟨rfl, rfl⟩)
  go_ret
  exact ⟨rfl, rfl⟩
theorem dWrite_down {w : World} {R : Nat → Prop} {b : Nat} {L : List (List Int)} {Q : List Wr} {F : Int} (h : DAt w R b L Q F true) (i : Int) (A : Option Addr) (n c : Nat) : Calls Try.prog 14 #[.pointer (some ⟨b, 0, none⟩), .int .i64 i, .slice A n c] w fun e w' => e = .returned (.int .i64 6) ∧ w = w' := by
  have CD := hid (dDown_at h)
  clear h
  go_enter Try.func14, Try.ntmps14
  go_wp2_with (go_at_call 24; refine CD.out.mono ?_; rintro e wq ⟨rfl, rfl⟩)
  go_ret
  exact ⟨rfl, rfl⟩
section
variable {w : World} {R : Nat → Prop} {b : Nat} {L : List (List Int)} {Q : List Wr} {F : Int} {D : Bool} (h : DAt w R b L Q F D)
include h
theorem dWrite_range (hd : D = false) (i : Int) (hi : i < 0 ∨ (L.length : Int) ≤ i) (A : Option Addr) (n c : Nat) : Calls Try.prog 14 #[.pointer (some ⟨b, 0, none⟩), .int .i64 i, .slice A n c] w fun e w' => e = .returned (.int .i64 4) ∧ w = w' := by
  subst hd
  have CD := hid (dDown_at h); have CH := hid (dhas_no h i hi)
  clear h hi
  go_enter Try.func14, Try.ntmps14
  go_wp2_with (first
    | (go_at_call 24; refine CD.out.mono ?_; rintro e wq ⟨rfl, rfl⟩)
    | (go_at_call 30; refine CH.out.mono ?_; rintro e wq ⟨rfl, rfl⟩))
  go_ret
  exact ⟨rfl, rfl⟩
theorem dWrite_arg (hd : D = false) (i : Nat) (hi : i < L.length) (A : Option Addr) (n c : Nat) (hn : n ≠ 128) (hn2 : n ≤ 9223372036854775807) : Calls Try.prog 14 #[.pointer (some ⟨b, 0, none⟩), .int .i64 i, .slice A n c] w fun e w' => e = .returned (.int .i64 1) ∧ w = w' := by
  subst hd
  have CD := hid (dDown_at h); have CH := hid (dhas_yes h i hi)
  have h1 : ((n : Int) != 128) = true := by simp; omega
  have h2 : ¬ (n : Int) = 128 := by omega
  clear h hi hn
  go_enter Try.func14, Try.ntmps14
  go_wp2_with (first
    | (go_at_call 24; refine CD.out.mono ?_; rintro e wq ⟨rfl, rfl⟩)
    | (go_at_call 30; refine CH.out.mono ?_; rintro e wq ⟨rfl, rfl⟩))
  go_ret
  exact ⟨rfl, rfl⟩
theorem dWrite_out (hd : D = false) (hF : F = 0) (i : Nat) (hi : i < L.length) (A : Option Addr) (c : Nat) : Calls Try.prog 14 #[.pointer (some ⟨b, 0, none⟩), .int .i64 i, .slice A 128 c] w fun e w' => e = .returned (.int .i64 6) ∧ DAt w' R b L Q 0 true ∧ OnlyS R w w' := by
  subst hd
  have CD := hid (dDown_at h); have CH := hid (dhas_yes h i hi); have CB := hid (burn_out h hF)
  clear h hi hF
  go_enter Try.func14, Try.ntmps14
  go_wp2_with (first
    | (go_at_call 24; refine CD.out.mono ?_; rintro e wq ⟨rfl, rfl⟩)
    | (go_at_call 30; refine CH.out.mono ?_; rintro e wq ⟨rfl, rfl⟩)
    | (go_at_call 31; refine CB.out.mono ?_; rintro e w1 ⟨rfl, hd1, ho1⟩; have H1 := hid hd1; have O1 := hid ho1; clear hd1 ho1))
  go_ret
  exact ⟨rfl, H1.out, O1.out⟩
end
end Go.Proofs.Ytjdojnbpchommaa
