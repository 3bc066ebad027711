/-
  What is proved here: the code's device within memory that is new since a world, and what its calls leave as it was.
-/
import Derived.Test.YthfkooancgkjaaaMDvD0
import Derived.Test.YthfkooancgkjaaaMDvZ
set_option linter.unusedSimpArgs false
set_option linter.unusedVariables false
namespace Go.Proofs.Ythfkooancgkjaaa
open Go.ChangeShapes Go.WideShapes Go.ChangeAt Go.RowKit
set_option linter.unusedVariables false
set_option maxRecDepth 20000

/-- a device lies at b, its blocks new since n0 -/
def Dy (n0 : Nat) (w : World) (b : Nat) (s : SS) : Prop := ∃ R, DAt w R b s.L s.Q s.F s.D ∧ ∀ k, R k → n0 ≤ k ∧ k < w.heap.size ∧ Ty w k
/-- where bytes lie that are written: below n0, or in a block of bytes -/
def Src (n0 : Nat) (w : World) (B : Option Addr) (X : List Int) : Prop := 0 < X.length → ∀ a, B = some a → a.block < n0 ∨ ∃ cs, Blk w a.block 5 cs
/-- what a call on it leaves -/
def Lf (n0 b : Nat) (s : SS) (w w' : World) : Prop := Dy n0 w' b s ∧ Kt w w' ∧ Below n0 w w'
section
variable {n0 : Nat} {w w' : World} {b : Nat} {s s' : SS}
theorem Dy.typed (h : Dy n0 w b s) (hs : w.heap.size ≤ w'.heap.size) (hk : ∀ k t cs, Blk w k t cs → ¬ NT t → w'.heap[k]? = w.heap[k]?) : Dy n0 w' b s := by
  obtain ⟨R, h1, h3⟩ := h
  have ht : ∀ k, Ty w k → Ty w' k := fun k ⟨t, cs, h6, h7⟩ => ⟨t, cs, h6.same (hk k t cs h6 (fun n => by
    rcases h7 with h7 | h7 | h7
    · exact n.1 h7
    · exact n.2.1 h7
    · exact n.2.2 h7)), h7⟩
  exact ⟨R, h1.typed hk, fun k hr => ⟨(h3 k hr).1, Nat.lt_of_lt_of_le (h3 k hr).2.1 hs, ht k (h3 k hr).2.2⟩⟩
theorem Dy.below (h : Dy n0 w b s) (hb : Below w.heap.size w w') : Dy n0 w' b s := h.typed hb.size fun k t cs hk _ => hb.block k hk.lt
theorem Dy.ok (h : Dy n0 w b s) : PgOk s.L ∧ QOk s.L.length s.Q ∧ s.L.length ≤ 4096 := by
  obtain ⟨R, h1, _⟩ := h; exact ⟨h1.ok.1, h1.ok.2.1, h1.ok.2.2.1⟩
theorem Dy.down (h : Dy n0 w b s) : Calls Try.prog 61 #[.pointer (some ⟨b, 0, none⟩)] w fun e w' => e = .returned (.bool s.D) ∧ w = w' := by
  obtain ⟨R, h1, h2⟩ := h; exact dDown_at h1
theorem Dy.pages (h : Dy n0 w b s) : Calls Try.prog 22 #[.pointer (some ⟨b, 0, none⟩)] w fun e w' => e = .returned (.int .i64 (s.L.length : Nat)) ∧ w = w' := by
  obtain ⟨R, h1, h2⟩ := h; exact dPages_at h1
theorem Dy.after {R R' : Nat → Prop} (hn : n0 ≤ w.heap.size) (h2 : ∀ k, R k → n0 ≤ k ∧ k < w.heap.size ∧ Ty w k) (hd : DAt w' R' b s'.L s'.Q s'.F s'.D) (hR' : ∀ k, R' k → R k ∨ (w.heap.size ≤ k ∧ k < w'.heap.size)) (ho : OnlyS R w w') : Lf n0 b s' w w' := by
  obtain ⟨R3, k1, k2⟩ := hd.own
  refine ⟨⟨R3, k1, fun k hk => ?_⟩, Kt.of_only ho (fun k hk => (h2 k hk).2.2), ho.below hn (fun k hk => (h2 k hk).1)⟩
  obtain ⟨h6, h7⟩ := k2 k hk
  rcases hR' k h6 with h8 | h8
  · exact ⟨(h2 k h8).1, Nat.lt_of_lt_of_le (h2 k h8).2.1 ho.size, h7⟩
  · exact ⟨Nat.le_trans hn h8.1, h8.2, h7⟩
theorem Lf.refl (h : Dy n0 w b s) : Lf n0 b s w w := ⟨h, Kt.below (Below.refl _ _), Below.refl _ _⟩
theorem Lf.first {w1 : World} (hb : Below w.heap.size w w1) (hn : n0 ≤ w.heap.size) (h : Lf n0 b s w1 w') : Lf n0 b s w w' := ⟨h.1, (Kt.below hb).trans h.2.1, (hb.mono hn).trans h.2.2⟩
theorem dw_src (h : Dy n0 w b s) (hn : n0 ≤ w.heap.size) (i : Int) (B : Option Addr) (c : Nat) (X : List Int) (hr : Rp w none B X) (hB : Src n0 w B X) (hX : X.length ≤ 300) (hQ : s.Q.length < 1000000) :
    Calls Try.prog 45 #[.pointer (some ⟨b, 0, none⟩), .int .i64 i, .slice B X.length c] w fun e w' => e = .returned (.int .i64 (s.wr i X).1) ∧ Lf n0 b (s.wr i X).2 w w' := by
  have hh := h
  obtain ⟨R, h1, h2⟩ := h
  obtain ⟨L, Q, F, D⟩ := s
  unfold SS.wr
  simp only at h1 hQ ⊢
  cases D with
  | true => exact (dWrite_down h1 i B _ c).mono fun e w' ⟨he, hw⟩ => by subst hw; exact ⟨he, Lf.refl hh⟩
  | false =>
    rw [if_neg (by simp)]
    by_cases hi : i < 0 ∨ (L.length : Int) ≤ i
    · rw [if_pos hi]
      exact (dWrite_range h1 rfl i hi B _ c).mono fun e w' ⟨he, hw⟩ => by subst hw; exact ⟨he, Lf.refl hh⟩
    · rw [if_neg hi]
      obtain ⟨j, rfl⟩ : ∃ j : Nat, i = j := ⟨i.toNat, by omega⟩
      have hj : j < L.length := by omega
      by_cases hx : X.length ≠ 128
      · rw [if_pos hx]
        exact (dWrite_arg h1 rfl j hj B _ c hx (by omega)).mono fun e w' ⟨he, hw⟩ => by subst hw; exact ⟨he, Lf.refl hh⟩
      · rw [if_neg hx]
        have hx' : X.length = 128 := by omega
        rw [hx']
        by_cases hF : F = 0
        · rw [if_pos hF]
          exact (dWrite_out h1 rfl hF j hj B c).mono fun e w' ⟨he, k1, k2⟩ => ⟨he, Dy.after (s' := ⟨L, Q, 0, true⟩) hn h2 k1 (fun k hk => .inl hk) k2⟩
        · rw [if_neg hF]
          exact (dWrite_ok h1 rfl hF j hj B c X hx' hr (fun a ha hR => by
            rcases hB (by omega) a ha with h5 | ⟨cs, h5⟩
            · have := (h2 _ hR).1
              omega
            · exact (h2 _ hR).2.2.no h5 (by decide)) hQ).mono fun e w' ⟨he, k1, k2⟩ => ⟨he, Dy.after (s' := ⟨L, Q ++ [((j : Int).toNat, X)], bn F, false⟩) (R' := Nw R w w') hn h2 (by simpa using k1) (fun k hk => hk) k2⟩
theorem dw_any (h : Dy n0 w b s) (hn : n0 ≤ w.heap.size) (i : Int) (B : Option Addr) (c : Nat) (X : List Int) (hr : Rp w none B X) (hB : 0 < X.length → ∀ a, B = some a → a.block < n0) (hX : X.length ≤ 300) (hQ : s.Q.length < 1000000) :
    Calls Try.prog 45 #[.pointer (some ⟨b, 0, none⟩), .int .i64 i, .slice B X.length c] w fun e w' => e = .returned (.int .i64 (s.wr i X).1) ∧ Lf n0 b (s.wr i X).2 w w' := dw_src h hn i B c X hr (fun h a e => .inl (hB h a e)) hX hQ
theorem df_any (h : Dy n0 w b s) (hn : n0 ≤ w.heap.size) :
    Calls Try.prog 49 #[.pointer (some ⟨b, 0, none⟩)] w fun e w' => e = .returned (.int .i64 s.fl.1) ∧ Lf n0 b s.fl.2 w w' := by
  have hh := h
  obtain ⟨R, h1, h2⟩ := h
  obtain ⟨L, Q, F, D⟩ := s
  unfold SS.fl
  simp only at h1 ⊢
  cases D with
  | true => exact (dFlush_down h1).mono fun e w' ⟨he, hw⟩ => by subst hw; exact ⟨he, Lf.refl hh⟩
  | false =>
    rw [if_neg (by simp)]
    by_cases hF : F = 0
    · rw [if_pos hF]
      exact (dFlush_out h1 rfl hF).mono fun e w' ⟨he, k1, k2⟩ => ⟨he, Dy.after (s' := ⟨L, Q, 0, true⟩) hn h2 k1 (fun k hk => .inl hk) k2⟩
    · rw [if_neg hF]
      exact (dFlush_ok h1 rfl hF).mono fun e w' ⟨he, k1, k2⟩ => ⟨he, Dy.after (s' := ⟨pg L Q, [], bn F, false⟩) hn h2 k1 (fun k hk => .inl hk) k2⟩
theorem ds_any (h : Dy n0 w b s) (hn : n0 ≤ w.heap.size) (n : Int) (hi : -9223372036854775808 ≤ n ∧ n ≤ 9223372036854775807) :
    Calls Try.prog 13 #[.pointer (some ⟨b, 0, none⟩), .int .i64 n] w fun e w' => e = .returned (.tuple #[]) ∧ Lf n0 b (s.sf n) w w' := by
  obtain ⟨R, h1, h2⟩ := h
  exact (dSetFuse_at h1 n hi).mono fun e w' ⟨he, k1, k2⟩ => ⟨he, Dy.after (s' := s.sf n) hn h2 k1 (fun k hk => .inl hk) k2⟩
theorem dx_any (h : Dy n0 w b s) (hn : n0 ≤ w.heap.size) (A : Option Addr) (c : Nat) (l : List Int) (hl : Ip w A l) (hA : 0 < l.length → ∀ a, A = some a → a.block < n0) (hll : l.length < 1000000000000) (hQ : s.Q.length < 1000000) :
    Calls Try.prog 15 #[.pointer (some ⟨b, 0, none⟩), .slice A l.length c] w fun e w' => e = .returned (.tuple #[]) ∧ Lf n0 b (s.rs l) w w' := by
  obtain ⟨R, h1, h2⟩ := h
  exact (dRestart_at h1 A c l hl (fun h0 a ha hR => by
    have := (h2 _ hR).1
    have := hA h0 a ha
    omega) hll hQ).mono fun e w' ⟨he, k1, k2⟩ => ⟨he, Dy.after (s' := s.rs l) hn h2 k1 (fun k hk => .inl hk) k2⟩
/-- what a read answers -/
def RdAns (xs : List Int) (r : Int) (w : World) (e : Ending) (w' : World) : Prop := ∃ X q c, e = .returned (.tuple #[.slice X q c, .int .i64 r]) ∧ (q = xs.length ∧ Fresh w w' X xs ∧ Below w.heap.size w w')
theorem dr_any (h : Dy n0 w b s) (i : Int) : Calls Try.prog 51 #[.pointer (some ⟨b, 0, none⟩), .int .i64 i] w (RdAns (s.rd i).2 (s.rd i).1 w) := by
  obtain ⟨R, h1, h2⟩ := h
  obtain ⟨L, Q, F, D⟩ := s
  unfold SS.rd
  simp only at h1 ⊢
  cases D with
  | true => exact (dRead_down h1 i).mono fun e w' ⟨he, hw⟩ => by subst hw; exact ⟨none, 0, 0, he, rfl, Fresh.nil _ _ _, Below.refl _ _⟩
  | false =>
    rw [if_neg (by simp)]
    by_cases hi : i < 0 ∨ (L.length : Int) ≤ i
    · rw [if_pos hi]
      exact (dRead_range h1 rfl i hi).mono fun e w' ⟨he, hw⟩ => by subst hw; exact ⟨none, 0, 0, he, rfl, Fresh.nil _ _ _, Below.refl _ _⟩
    · rw [if_neg hi]
      obtain ⟨j, rfl⟩ : ∃ j : Nat, i = j := ⟨i.toNat, by omega⟩
      have hj : j < L.length := by omega
      have hl : ((pg L Q)[j]?.getD []).length = 128 := (pg_ok _ _ h1.ok.1 h1.ok.2.1).at (by rw [pg_length]; exact hj)
      exact (dRead_ok h1 rfl j hj).mono fun e w' ⟨A, c, he, k1, k2⟩ => ⟨A, 128, c, he, by simpa using hl.symm, by simpa using k1, k2⟩
theorem Dy.new (n : Nat) (w : World) (hn : n ≤ 4096) : Calls Try.prog 8 #[.int .i64 n] w fun e w' => ∃ b, e = .returned (.tuple #[.pointer (some ⟨b, 0, none⟩), .int .i64 0]) ∧ Dy w.heap.size w' b ⟨List.replicate n zpg, [], -1, false⟩ ∧ Below w.heap.size w w' :=
  (dNew_ok n w hn).mono fun e w' ⟨he, h1, h2, h3⟩ => by
    obtain ⟨R3, k1, k2⟩ := h1.own
    exact ⟨_, he, ⟨R3, k1, fun k hk => ⟨(k2 k hk).1.1, by rw [h3]; exact (k2 k hk).1.2, (k2 k hk).2⟩⟩, h2⟩
end
end Go.Proofs.Ythfkooancgkjaaa
