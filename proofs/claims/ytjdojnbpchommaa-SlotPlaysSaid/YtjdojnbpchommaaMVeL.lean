/-
  What is proved here: the document's device in memory: its words; an operation; what a call leaves.
-/
import Derived.Test.YtjdojnbpchommaaMDyM
set_option linter.unusedSimpArgs false
set_option linter.unusedVariables false
namespace Go.Proofs.Ytjdojnbpchommaa
open Go.ChangeShapes Go.WideShapes Go.ChangeAt Go.RowKit
set_option linter.unusedVariables false
set_option maxRecDepth 20000

/-- a page's bytes, in a block of their own -/
def Pb (w : World) (B : Option Addr) (X : List Int) : Prop := ∃ g cur, B = some ⟨g, 0, none⟩ ∧ Blk w g 5 cur ∧ ∀ j, j < 128 → cur[j]? = some (.int .u8 (X[j]?.getD 0))
theorem Pb.rp {w : World} {B : Option Addr} {X : List Int} (h : Pb w B X) (hX : X.length = 128) : Rp w none B X := fun hx => by
  obtain ⟨g, cur, rfl, hb, hc⟩ := h
  exact ⟨_, rfl, (fun ⟨a, e, _⟩ => by cases e), fun j hj => by rw [Addr.add_lit, Nat.zero_add, hb.cell, hc j (by omega)]⟩
theorem Pb.same {w w' : World} {B : Option Addr} {X : List Int} (h : Pb w B X) (hk : ∀ k cs, Blk w k 5 cs → w'.heap[k]? = w.heap[k]?) : Pb w' B X := by
  obtain ⟨g, cur, rfl, hb, hc⟩ := h
  exact ⟨g, cur, rfl, hb.same (hk g cur hb), hc⟩
theorem Fresh.pb {w w' : World} {B : Option Addr} {X : List Int} (h : Fresh w w' B X) (hX : X.length = 128) : Pb w' B X := by
  obtain ⟨g, cur, rfl, _, hb, hc⟩ := h (by omega)
  exact ⟨g, cur, rfl, hb, fun j hj => hc j (by omega)⟩
/-- the cells of the document's device -/
def devV (A : Option Addr) (n c : Nat) (A' : Option Addr) (m c' : Nat) (F : Int) (D : Bool) : Array Value := #[.slice A n c, .slice A' m c', .int .i64 F, .bool D]
/-- at each place a page's bytes -/
def RowsP (w : World) (rows : List Value) (L : List (List Int)) : Prop := ∀ i, i < L.length → ∃ B d, rows[i]? = some (.slice B 128 (128 + d)) ∧ Pb w B (L[i]?.getD [])
/-- at each place a write's number and bytes -/
def QrP (w : World) (qr : List Value) (Q : List Wr) : Prop := ∀ i q, Q[i]? = some q → ∃ B d, qr[2 * i]? = some (.int .i64 (q.1 : Nat)) ∧ qr[2 * i + 1]? = some (.slice B 128 (128 + d)) ∧ Pb w B q.2
/-- the document's device lies at b, its blocks new since n0 -/
def VAt (n0 : Nat) (w : World) (b : Nat) (s : SS) : Prop :=
  ∃ A c A' c' rows qr, Blk w b 44 (devV A s.L.length c A' s.Q.length c' s.F s.D) ∧ w.ownsRow n0 31 1 (.slice A s.L.length c) s.L.length rows ∧ w.ownsRow n0 71 2 (.slice A' s.Q.length c') s.Q.length qr ∧ n0 ≤ b ∧
    RowsP w rows s.L ∧ QrP w qr s.Q ∧ (-1 ≤ s.F ∧ s.F ≤ 9223372036854775807) ∧ PgOk s.L ∧ QOk s.L.length s.Q ∧ s.L.length ≤ 4096
/-- a type of none of the blocks that turn -/
def VN (t : TypeId) : Prop := t ≠ 44 ∧ t ≠ 31 ∧ t ≠ 71
instance (t : TypeId) : Decidable (VN t) := by unfold VN; infer_instance
structure Vt (w w' : World) : Prop where
  sz : w.heap.size ≤ w'.heap.size
  bl : ∀ k t cs, Blk w k t cs → VN t → w'.heap[k]? = w.heap[k]?
theorem Vt.trans {a b c : World} (h : Vt a b) (k : Vt b c) : Vt a c := ⟨Nat.le_trans h.sz k.sz, fun j t cs hb ht => (k.bl j t cs (hb.same (h.bl j t cs hb ht)) ht).trans (h.bl j t cs hb ht)⟩
theorem Vt.below {w w' : World} (h : Below w.heap.size w w') : Vt w w' := ⟨h.size, fun k t cs hb _ => h.block k hb.lt⟩
theorem Vt.blk {w w' : World} (h : Vt w w') {k : Nat} {t : TypeId} {cs : Array Value} (hb : Blk w k t cs) (ht : VN t) : Blk w' k t cs := hb.same (h.bl k t cs hb ht)
/-- one block alone has turned -/
theorem Vt.one {w w' : World} {g : Nat} {t : TypeId} {cs : Array Value} (hs : w.heap.size ≤ w'.heap.size) (hk : ∀ k, k < w.heap.size → k ≠ g → w'.heap[k]? = w.heap[k]?) (hg : Blk w g t cs) (ht : ¬ VN t) : Vt w w' :=
  ⟨hs, fun k t' cs' hb hv => hk k hb.lt (fun e => by subst e; obtain ⟨rfl, _⟩ := hb.inj hg; exact ht hv)⟩
theorem own_t {w w' : World} {base e size n : Nat} {v : Value} {xs : List Value} (h : w.ownsRow base e size v n xs) (hk : ∀ k cs, Blk w k e cs → w'.heap[k]? = w.heap[k]?) : w'.ownsRow base e size v n xs := by
  refine ⟨h.1, ?_⟩
  rcases h.2 with h1 | ⟨g, cap, cur, hv, hg, hh, r⟩
  · exact .inl h1
  · exact .inr ⟨g, cap, cur, hv, hg, (hk g cur hh).trans hh, r⟩
section
variable {n0 : Nat} {w w' : World} {b : Nat} {s : SS}
theorem RowsP.same {rows : List Value} {L : List (List Int)} (h : RowsP w rows L) (hk : ∀ k cs, Blk w k 5 cs → w'.heap[k]? = w.heap[k]?) : RowsP w' rows L := fun i hi => by
  obtain ⟨B, d, h1, h2⟩ := h i hi
  exact ⟨B, d, h1, h2.same hk⟩
theorem QrP.same {qr : List Value} {Q : List Wr} (h : QrP w qr Q) (hk : ∀ k cs, Blk w k 5 cs → w'.heap[k]? = w.heap[k]?) : QrP w' qr Q := fun i q hq => by
  obtain ⟨B, d, h1, h2, h3⟩ := h i q hq
  exact ⟨B, d, h1, h2, h3.same hk⟩
theorem VAt.typed (h : VAt n0 w b s) (hk : ∀ k t cs, Blk w k t cs → (t = 44 ∨ t = 31 ∨ t = 71 ∨ t = 5) → w'.heap[k]? = w.heap[k]?) : VAt n0 w' b s := by
  obtain ⟨A, c, A', c', rows, qr, h1, h2, h3, h4, h5, h6, rest⟩ := h
  exact ⟨A, c, A', c', rows, qr, h1.same (hk _ _ _ h1 (.inl rfl)), own_t h2 (fun k cs hb => hk k _ cs hb (.inr (.inl rfl))), own_t h3 (fun k cs hb => hk k _ cs hb (.inr (.inr (.inl rfl)))), h4, h5.same (fun k cs hb => hk k _ cs hb (.inr (.inr (.inr rfl)))), h6.same (fun k cs hb => hk k _ cs hb (.inr (.inr (.inr rfl)))), rest⟩
theorem VAt.below (h : VAt n0 w b s) (hb : Below w.heap.size w w') : VAt n0 w' b s := h.typed fun k t cs hk _ => hb.block k hk.lt
theorem VAt.kt (h : VAt n0 w b s) (hk : Kt w w') : VAt n0 w' b s := h.typed fun k t cs hb ht => hk.bl k t cs hb (by rcases ht with rfl | rfl | rfl | rfl <;> decide)
theorem Dy.vt (h : Dy n0 w b s) (hk : Vt w w') : Dy n0 w' b s := h.typed hk.sz fun k t cs hb ht => hk.bl k t cs hb (by
  have : t = 62 ∨ t = 67 ∨ t = 69 := by
    by_cases h1 : t = 62
    · exact .inl h1
    · by_cases h2 : t = 67
      · exact .inr (.inl h2)
      · by_cases h3 : t = 69
        · exact .inr (.inr h3)
        · exact (ht ⟨h1, h2, h3⟩).elim
  rcases this with rfl | rfl | rfl <;> decide)
theorem VAt.lt (h : VAt n0 w b s) : b < w.heap.size := by
  obtain ⟨A, c, A', c', rows, qr, h1, _⟩ := h; exact h1.lt
end
/-- what a call leaves -/
def Lv (n0 b : Nat) (s : SS) (w w' : World) : Prop := VAt n0 w' b s ∧ Vt w w' ∧ Below n0 w w'
theorem Lv.refl {n0 b : Nat} {s : SS} {w : World} (h : VAt n0 w b s) : Lv n0 b s w w := ⟨h, Vt.below (Below.refl _ _), Below.refl _ _⟩
/-- the device's own cells are other ones -/
theorem Lv.cell {n0 b i : Nat} {s s' : SS} {w : World} {u : Value} {A A' : Option Addr} {c c' n m : Nat} {F : Int} {D : Bool} {rows qr : List Value}
    (h1 : Blk w b 44 (devV A n c A' m c' F D)) (hL : s.L = s'.L) (hQ : s.Q = s'.Q) (hn : n = s.L.length) (hm : m = s.Q.length)
    (h2 : w.ownsRow n0 31 1 (.slice A n c) n rows) (h3 : w.ownsRow n0 71 2 (.slice A' m c') m qr) (h4 : n0 ≤ b) (h5 : RowsP w rows s.L) (h6 : QrP w qr s.Q) (h7 : -1 ≤ s'.F ∧ s'.F ≤ 9223372036854775807) (h8 : PgOk s.L ∧ QOk s.L.length s.Q ∧ s.L.length ≤ 4096)
    (hs : (devV A n c A' m c' F D).setIfInBounds i u = devV A n c A' m c' s'.F s'.D) : Lv n0 b s' w (w.setCell ⟨b, i, none⟩ u) := by
  have hB : Below n0 w (w.setCell ⟨b, i, none⟩ u) := (Below.refl _ _).setCell h4 _
  have ho : ∀ k t cs, Blk w k t cs → t ≠ 44 → (w.setCell ⟨b, i, none⟩ u).heap[k]? = w.heap[k]? := fun k t cs hk ht => other_set _ _ _ _ _ (hk.ne h1 ht)
  refine ⟨⟨A, c, A', c', rows, qr, ?_, ?_, ?_, h4, ?_, ?_, h7, by rw [← hL]; exact h8.1, by rw [← hL, ← hQ]; exact h8.2.1, by rw [← hL]; exact h8.2.2⟩, Vt.one (by simp [World.setCell]) (fun k _ hk => other_set _ _ _ _ k hk) h1 (by decide), hB⟩
  · have := h1.setd i u
    rw [hs] at this
    rw [← hL, ← hQ, ← hn, ← hm]; exact this
  · rw [← hL, ← hn]; exact own_t h2 (fun k cs hk => ho k _ cs hk (by decide))
  · rw [← hQ, ← hm]; exact own_t h3 (fun k cs hk => ho k _ cs hk (by decide))
  · rw [← hL]; exact h5.same (fun k cs hk => ho k _ cs hk (by decide))
  · rw [← hQ]; exact h6.same (fun k cs hk => ho k _ cs hk (by decide))
section
variable {n0 : Nat} {w : World} {b : Nat} {s : SS} (h : VAt n0 w b s)
include h
theorem voper_out (hF : s.F = 0) : Calls Try.prog 32 #[.pointer (some ⟨b, 0, none⟩)] w fun e w' => e = .returned (.bool false) ∧ Lv n0 b ⟨s.L, s.Q, 0, true⟩ w w' := by
  obtain ⟨A, c, A', c', rows, qr, h1, h2, h3, h4, h5, h6, h7, h8, h9, h10⟩ := h
  rw [hF] at h1
  have c2 : w.cell? ⟨b, 2, none⟩ = some (.int .i64 0) := h1.cell 2
  have c3 : w.cell? ⟨b, 3, none⟩ = some (.bool s.D) := h1.cell 3
  have f3 : w.frozen? ⟨b, 3, none⟩ = false := h1.frozen 3
  have HL : Hid (Lv n0 b ⟨s.L, s.Q, 0, true⟩ w (w.setCell ⟨b, 3, none⟩ (.bool true))) := Lv.cell (s := s) h1 rfl rfl rfl rfl h2 h3 h4 h5 h6 (by simp) ⟨h8, h9, h10⟩ rfl
  clear h1 h2 h3 h4 h5 h6 h7 h8 h9 h10 hF
  go_enter Try.func32, Try.ntmps32
  go_wp2
  go_ret
  exact ⟨rfl, HL.out⟩
theorem voper_ok (hF : s.F ≠ 0) : Calls Try.prog 32 #[.pointer (some ⟨b, 0, none⟩)] w fun e w' => e = .returned (.bool true) ∧ Lv n0 b ⟨s.L, s.Q, bn s.F, s.D⟩ w w' := by
  have hh := h
  obtain ⟨A, c, A', c', rows, qr, h1, h2, h3, h4, h5, h6, h7, h8, h9, h10⟩ := h
  obtain ⟨L, Q, F, D⟩ := s
  simp only at h1 h2 h3 h4 h5 h6 h7 h8 h9 h10 hF hh ⊢
  have c2 : w.cell? ⟨b, 2, none⟩ = some (.int .i64 F) := h1.cell 2
  have f2 : w.frozen? ⟨b, 2, none⟩ = false := h1.frozen 2
  have e0 : (F == 0) = false := by simpa using hF
  by_cases hp : 0 < F
  · have HL : Hid (Lv n0 b ⟨L, Q, bn F, D⟩ w (w.setCell ⟨b, 2, none⟩ (.int .i64 (F - 1)))) := by
      unfold bn
      rw [if_pos hp]
      exact Lv.cell (s := ⟨L, Q, F, D⟩) h1 rfl rfl rfl rfl h2 h3 h4 h5 h6 (by simp only; omega) ⟨h8, h9, h10⟩ rfl
    have hs : IntKind.i64.wrap (F - 1) = F - 1 := IntWalk.i64_in _ (by omega)
    have g1 : decide (0 < F) = true := decide_eq_true hp
    clear h1 h2 h3 h4 h5 h6 h7 h8 h9 h10 hh
    go_enter Try.func32, Try.ntmps32
    go_wp2
    go_ret
    exact ⟨rfl, by simpa [hs] using HL.out⟩
  · have HL : Hid (Lv n0 b ⟨L, Q, bn F, D⟩ w w) := by
      unfold bn
      rw [if_neg hp]
      exact Lv.refl hh
    have g1 : decide (0 < F) = false := decide_eq_false hp
    clear h1 h2 h3 h4 h5 h6 h7 h8 h9 h10 hh
    go_enter Try.func32, Try.ntmps32
    go_wp2
    go_ret
    exact ⟨rfl, HL.out⟩
end
end Go.Proofs.Ytjdojnbpchommaa
