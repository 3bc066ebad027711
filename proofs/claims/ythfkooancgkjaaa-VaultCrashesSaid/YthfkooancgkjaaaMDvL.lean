/-
  What is proved here: the code's device within memory that is new since a world: each call of it.
-/
import Derived.Test.YthfkooancgkjaaaMDvX
import Derived.Test.YthfkooancgkjaaaMDvW
import Derived.Test.YthfkooancgkjaaaMDvNil
set_option linter.unusedSimpArgs false
set_option linter.unusedVariables false
namespace Go.Proofs.Ythfkooancgkjaaa
open Go.ChangeShapes Go.WideShapes Go.ChangeAt Go.RowKit
set_option linter.unusedVariables false
set_option maxRecDepth 20000

/-- a device lies at b, in blocks from n0 on -/
def Dv (n0 : Nat) (w : World) (b : Nat) (L : List (List Int)) (Q : List Wr) (F : Int) (D : Bool) : Prop := ∃ R, DAt w R b L Q F D ∧ ∀ k, R k → n0 ≤ k ∧ k < w.heap.size
section
variable {n0 : Nat} {w0 w w' : World} {b : Nat} {L : List (List Int)} {Q : List Wr} {F : Int} {D : Bool}
theorem Dv.below (h : Dv n0 w b L Q F D) (hb : Below w.heap.size w w') : Dv n0 w' b L Q F D := by
  obtain ⟨R, h1, h2⟩ := h
  exact ⟨R, h1.below hb, fun k hk => ⟨(h2 k hk).1, Nat.lt_of_lt_of_le (h2 k hk).2 hb.size⟩⟩
theorem Dv.ok (h : Dv n0 w b L Q F D) : PgOk L ∧ QOk L.length Q ∧ L.length ≤ 4096 ∧ F ≤ 9223372036854775807 := by
  obtain ⟨R, h1, h2⟩ := h; exact h1.ok
theorem Dv.lt (h : Dv n0 w b L Q F D) : n0 ≤ b ∧ b < w.heap.size := by
  obtain ⟨R, h1, h2⟩ := h
  obtain ⟨g, vW, fz, fu, k1, k2, k3, r1, _⟩ := h1
  exact h2 b r1
theorem Dv.down (h : Dv n0 w b L Q F D) : Calls Try.prog 61 #[.pointer (some ⟨b, 0, none⟩)] w fun e w' => e = .returned (.bool D) ∧ w = w' := by
  obtain ⟨R, h1, h2⟩ := h; exact dDown_at h1
theorem Dv.pages (h : Dv n0 w b L Q F D) : Calls Try.prog 22 #[.pointer (some ⟨b, 0, none⟩)] w fun e w' => e = .returned (.int .i64 (L.length : Nat)) ∧ w = w' := by
  obtain ⟨R, h1, h2⟩ := h; exact dPages_at h1
theorem Dv.read_ok (h : Dv n0 w b L Q F false) (i : Nat) (hi : i < L.length) : Calls Try.prog 51 #[.pointer (some ⟨b, 0, none⟩), .int .i64 i] w (ReadAns w ((pg L Q)[i]?.getD [])) := by
  obtain ⟨R, h1, h2⟩ := h; exact dRead_ok h1 rfl i hi
theorem Dv.read_range (h : Dv n0 w b L Q F false) (i : Int) (hi : i < 0 ∨ (L.length : Int) ≤ i) : Calls Try.prog 51 #[.pointer (some ⟨b, 0, none⟩), .int .i64 i] w fun e w' => e = .returned (.tuple #[.slice none 0 0, .int .i64 4]) ∧ w = w' := by
  obtain ⟨R, h1, h2⟩ := h; exact dRead_range h1 rfl i hi
theorem Dv.read_down (h : Dv n0 w b L Q F true) (i : Int) : Calls Try.prog 51 #[.pointer (some ⟨b, 0, none⟩), .int .i64 i] w fun e w' => e = .returned (.tuple #[.slice none 0 0, .int .i64 6]) ∧ w = w' := by
  obtain ⟨R, h1, h2⟩ := h; exact dRead_down h1 i
theorem Dv.after {R : Nat → Prop} {L' : List (List Int)} {Q' : List Wr} {F' : Int} {D' : Bool} (hn : n0 ≤ w.heap.size) (h2 : ∀ k, R k → n0 ≤ k ∧ k < w.heap.size) (h3 : DAt w' R b L' Q' F' D') (h4 : OnlyS R w w') : Dv n0 w' b L' Q' F' D' ∧ Below n0 w w' :=
  ⟨⟨R, h3, fun k hk => ⟨(h2 k hk).1, Nat.lt_of_lt_of_le (h2 k hk).2 h4.size⟩⟩, h4.below hn (fun k hk => (h2 k hk).1)⟩
theorem Dv.setFuse (h : Dv n0 w b L Q F D) (hn : n0 ≤ w.heap.size) (n : Int) (hi : -9223372036854775808 ≤ n ∧ n ≤ 9223372036854775807) : Calls Try.prog 13 #[.pointer (some ⟨b, 0, none⟩), .int .i64 n] w fun e w' => e = .returned (.tuple #[]) ∧ Dv n0 w' b L Q (max n (-1)) D ∧ Below n0 w w' := by
  obtain ⟨R, h1, h2⟩ := h
  exact (dSetFuse_at h1 n hi).mono fun e w' ⟨he, h3, h4⟩ => ⟨he, Dv.after hn h2 h3 h4⟩
theorem Dv.flush_ok (h : Dv n0 w b L Q F false) (hn : n0 ≤ w.heap.size) (hF : F ≠ 0) : Calls Try.prog 49 #[.pointer (some ⟨b, 0, none⟩)] w fun e w' => e = .returned (.int .i64 0) ∧ Dv n0 w' b (pg L Q) [] (bn F) false ∧ Below n0 w w' := by
  obtain ⟨R, h1, h2⟩ := h
  exact (dFlush_ok h1 rfl hF).mono fun e w' ⟨he, h3, h4⟩ => ⟨he, Dv.after hn h2 h3 h4⟩
theorem Dv.flush_out (h : Dv n0 w b L Q F false) (hn : n0 ≤ w.heap.size) (hF : F = 0) : Calls Try.prog 49 #[.pointer (some ⟨b, 0, none⟩)] w fun e w' => e = .returned (.int .i64 6) ∧ Dv n0 w' b L Q 0 true ∧ Below n0 w w' := by
  obtain ⟨R, h1, h2⟩ := h
  exact (dFlush_out h1 rfl hF).mono fun e w' ⟨he, h3, h4⟩ => ⟨he, Dv.after hn h2 h3 h4⟩
theorem Dv.flush_down (h : Dv n0 w b L Q F true) : Calls Try.prog 49 #[.pointer (some ⟨b, 0, none⟩)] w fun e w' => e = .returned (.int .i64 6) ∧ w = w' := by
  obtain ⟨R, h1, h2⟩ := h; exact dFlush_down h1
theorem Dv.write_down (h : Dv n0 w b L Q F true) (i : Int) (A : Option Addr) (n c : Nat) : Calls Try.prog 45 #[.pointer (some ⟨b, 0, none⟩), .int .i64 i, .slice A n c] w fun e w' => e = .returned (.int .i64 6) ∧ w = w' := by
  obtain ⟨R, h1, h2⟩ := h; exact dWrite_down h1 i A n c
theorem Dv.write_range (h : Dv n0 w b L Q F false) (i : Int) (hi : i < 0 ∨ (L.length : Int) ≤ i) (A : Option Addr) (n c : Nat) : Calls Try.prog 45 #[.pointer (some ⟨b, 0, none⟩), .int .i64 i, .slice A n c] w fun e w' => e = .returned (.int .i64 4) ∧ w = w' := by
  obtain ⟨R, h1, h2⟩ := h; exact dWrite_range h1 rfl i hi A n c
theorem Dv.write_arg (h : Dv n0 w b L Q F false) (i : Nat) (hi : i < L.length) (A : Option Addr) (n c : Nat) (hn : n ≠ 128) (hn2 : n ≤ 9223372036854775807) : Calls Try.prog 45 #[.pointer (some ⟨b, 0, none⟩), .int .i64 i, .slice A n c] w fun e w' => e = .returned (.int .i64 1) ∧ w = w' := by
  obtain ⟨R, h1, h2⟩ := h; exact dWrite_arg h1 rfl i hi A n c hn hn2
theorem Dv.write_out (h : Dv n0 w b L Q F false) (hn : n0 ≤ w.heap.size) (hF : F = 0) (i : Nat) (hi : i < L.length) (A : Option Addr) (c : Nat) : Calls Try.prog 45 #[.pointer (some ⟨b, 0, none⟩), .int .i64 i, .slice A 128 c] w fun e w' => e = .returned (.int .i64 6) ∧ Dv n0 w' b L Q 0 true ∧ Below n0 w w' := by
  obtain ⟨R, h1, h2⟩ := h
  exact (dWrite_out h1 rfl hF i hi A c).mono fun e w' ⟨he, h3, h4⟩ => ⟨he, Dv.after hn h2 h3 h4⟩
/-- the bytes lie before n0, or in what is new since w0 -/
theorem Dv.write_ok (h : Dv n0 w0 b L Q F false) (hb : Below w0.heap.size w0 w) (hn : n0 ≤ w0.heap.size) (hF : F ≠ 0) (i : Nat) (hi : i < L.length) (A : Option Addr) (c : Nat) (X : List Int) (hX : X.length = 128)
    (hr : Rp w none A X) (hA : ∀ a, A = some a → a.block < n0 ∨ w0.heap.size ≤ a.block) (hQ : Q.length < 1000000) : Calls Try.prog 45 #[.pointer (some ⟨b, 0, none⟩), .int .i64 i, .slice A 128 c] w fun e w' => e = .returned (.int .i64 0) ∧ Dv n0 w' b L (Q ++ [(i, X)]) (bn F) false ∧ Below n0 w w' := by
  obtain ⟨R, h1, h2⟩ := h
  refine (dWrite_ok (h1.below hb) rfl hF i hi A c X hX hr (fun a ha hR => ?_) hQ).mono fun e w' ⟨he, h3, h4⟩ => ⟨he, ?_, ?_⟩
  · have := h2 _ hR
    rcases hA a ha with h5 | h5 <;> omega
  · exact ⟨_, h3, fun k hk => by
      rcases hk with hk | hk
      · exact ⟨(h2 k hk).1, Nat.lt_of_lt_of_le (h2 k hk).2 (Nat.le_trans hb.size h4.size)⟩
      · exact ⟨Nat.le_trans (Nat.le_trans hn hb.size) hk.1, hk.2⟩⟩
  · exact h4.below (Nat.le_trans hn hb.size) (fun k hk => (h2 k hk).1)
theorem Dv.restart (h : Dv n0 w0 b L Q F D) (hb : Below w0.heap.size w0 w) (hn : n0 ≤ w0.heap.size) (A : Option Addr) (c : Nat) (l : List Int) (hl : Ip w A l) (hA : ∀ a, A = some a → a.block < n0 ∨ w0.heap.size ≤ a.block) (hll : l.length < 1000000000000) (hQ : Q.length < 1000000) :
    Calls Try.prog 15 #[.pointer (some ⟨b, 0, none⟩), .slice A l.length c] w fun e w' => e = .returned (.tuple #[]) ∧ Dv n0 w' b (mixs (keep l) L Q Q.length) [] (-1) false ∧ Below n0 w w' := by
  obtain ⟨R, h1, h2⟩ := h
  refine (dRestart_at (h1.below hb) A c l hl (fun _ a ha hR => ?_) hll hQ).mono fun e w' ⟨he, h3, h4⟩ => ⟨he, ⟨R, h3, fun k hk => ⟨(h2 k hk).1, Nat.lt_of_lt_of_le (h2 k hk).2 (Nat.le_trans hb.size h4.size)⟩⟩, h4.below (Nat.le_trans hn hb.size) (fun k hk => (h2 k hk).1)⟩
  have := h2 _ hR
  rcases hA a ha with h5 | h5 <;> omega
end
theorem Dv.restart2 {n0 : Nat} {w : World} {b : Nat} {L : List (List Int)} {Q : List Wr} {F : Int} {D : Bool} (h : Dv n0 w b L Q F D) (hn : n0 ≤ w.heap.size) (A : Option Addr) (c : Nat) (l : List Int) (hl : Ip w A l) (hA : 0 < l.length → ∀ a, A = some a → a.block < n0) (hll : l.length < 1000000000000) (hQ : Q.length < 1000000) :
    Calls Try.prog 15 #[.pointer (some ⟨b, 0, none⟩), .slice A l.length c] w fun e w' => e = .returned (.tuple #[]) ∧ Dv n0 w' b (mixs (keep l) L Q Q.length) [] (-1) false ∧ Below n0 w w' := by
  obtain ⟨R, h1, h2⟩ := h
  exact (dRestart_at h1 A c l hl (fun h0 a ha hR => by
    have := (h2 _ hR).1
    have := hA h0 a ha
    omega) hll hQ).mono fun e w' ⟨he, h3, h4⟩ => ⟨he, Dv.after hn h2 h3 h4⟩
theorem Dv.new (n : Nat) (w : World) (hn : n ≤ 4096) : Calls Try.prog 8 #[.int .i64 n] w fun e w' => e = .returned (.tuple #[.pointer (some ⟨w.heap.size + 1, 0, none⟩), .int .i64 0]) ∧ Dv w.heap.size w' (w.heap.size + 1) (List.replicate n zpg) [] (-1) false ∧ Below w.heap.size w w' :=
  (dNew_ok n w hn).mono fun e w' ⟨he, h1, h2, h3⟩ => ⟨he, ⟨_, h1, fun k hk => by rw [h3]; exact hk⟩, h2⟩
end Go.Proofs.Ythfkooancgkjaaa
