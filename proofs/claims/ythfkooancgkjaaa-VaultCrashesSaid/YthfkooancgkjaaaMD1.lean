/-
  What is proved here: a device of the code in memory; made; how many pages it has, and writes that wait; whether it is down; whether it has a page; its fuse.
-/
import Derived.Test.YthfkooancgkjaaaMA1
import Derived.Laws.Tables
import Derived.Great.BuildSlice
import Derived.Laws.OwnMore
set_option linter.unusedSimpArgs false
set_option linter.unusedVariables false
namespace Go.Proofs.Ythfkooancgkjaaa
open Go.ChangeShapes Go.WideShapes Go.ChangeAt Go.RowKit
set_option linter.unusedVariables false
set_option maxRecDepth 20000

/-- the cells of a device -/
def devC (g n : Nat) (vW : Value) (fz : Bool) (fu : Int) (D : Bool) : Array Value := #[.slice (some ⟨g, 0, none⟩) n n, vW, .bool fz, .int .i64 fu, .bool D]
/-- a device lies at b: L lasts, Q waits, F is its fuse (none, if below 0), D: is it down; all of it in the blocks R -/
def DAt (w : World) (R : Nat → Prop) (b : Nat) (L : List (List Int)) (Q : List Wr) (F : Int) (D : Bool) : Prop :=
  ∃ g vW fz fu, Blk w b 54 (devC g L.length vW fz fu D) ∧ Blk w g 68 (pcs (pg L Q)).toArray ∧ w.ownsRow 0 70 129 vW Q.length (wcs (un L Q)) ∧
    R b ∧ R g ∧ (∀ k, vW.ownBlock = some k → R k) ∧ fz = decide (0 ≤ F) ∧ (0 ≤ F → fu = F) ∧ F ≤ 9223372036854775807 ∧ PgOk L ∧ QOk L.length Q ∧ L.length ≤ 4096
theorem own_same {w w' : World} {base e size n : Nat} {v : Value} {xs : List Value} (h : w.ownsRow base e size v n xs) (hk : ∀ k, k < w.heap.size → v.ownBlock = some k → w'.heap[k]? = w.heap[k]?) : w'.ownsRow base e size v n xs := by
  refine ⟨h.1, ?_⟩
  rcases h.2 with h1 | ⟨g, cap, cur, hv, hg, hh, r⟩
  · exact .inl h1
  · have hlt : g < w.heap.size := by
      rcases Nat.lt_or_ge g w.heap.size with h2 | h2
      · exact h2
      · rw [Array.getElem?_eq_none h2] at hh; cases hh
    exact .inr ⟨g, cap, cur, hv, hg, (hk g hlt (by rw [hv]; rfl)).trans hh, r⟩
section
variable {w w' : World} {R R' : Nat → Prop} {b : Nat} {L : List (List Int)} {Q : List Wr} {F : Int} {D : Bool}
theorem DAt.same (h : DAt w R b L Q F D) (hk : ∀ k, k < w.heap.size → R k → w'.heap[k]? = w.heap[k]?) : DAt w' R b L Q F D := by
  obtain ⟨g, vW, fz, fu, h1, h2, h3, r1, r2, r3, rest⟩ := h
  exact ⟨g, vW, fz, fu, h1.same (hk b h1.lt r1), h2.same (hk g h2.lt r2), own_same h3 (fun k hl hv => hk k hl (r3 k hv)), r1, r2, r3, rest⟩
theorem DAt.below (h : DAt w R b L Q F D) (hb : Below w.heap.size w w') : DAt w' R b L Q F D := h.same fun k hl _ => hb.block k hl
theorem DAt.mono (h : DAt w R b L Q F D) (hR : ∀ k, R k → R' k) : DAt w R' b L Q F D := by
  obtain ⟨g, vW, fz, fu, h1, h2, h3, r1, r2, r3, rest⟩ := h
  exact ⟨g, vW, fz, fu, h1, h2, h3, hR _ r1, hR _ r2, fun k hv => hR _ (r3 k hv), rest⟩
/-- what others do -/
theorem DAt.apart {S : Nat → Prop} (h : DAt w R b L Q F D) (ho : OnlyS S w w') (hS : ∀ k, R k → ¬ S k) : DAt w' R b L Q F D := h.same fun k hl hr => ho.block k hl (hS k hr)
theorem DAt.lt (h : DAt w R b L Q F D) : b < w.heap.size := by
  obtain ⟨g, vW, fz, fu, h1, _⟩ := h; exact h1.lt
theorem DAt.ok (h : DAt w R b L Q F D) : PgOk L ∧ QOk L.length Q ∧ L.length ≤ 4096 ∧ F ≤ 9223372036854775807 := by
  obtain ⟨g, vW, fz, fu, h1, h2, h3, r1, r2, r3, e1, e2, e3, e4, e5, e6⟩ := h; exact ⟨e4, e5, e6, e3⟩
end
/-- where what is new lies too -/
def Nw (R : Nat → Prop) (w w' : World) (k : Nat) : Prop := R k ∨ (w.heap.size ≤ k ∧ k < w'.heap.size)

theorem dDown_nil (w : World) : Calls Try.prog 61 #[.pointer none] w fun e w' => e = .returned (.bool true) ∧ w = w' := by
  go_enter Try.func61, Try.ntmps61
  go_wp2
  go_ret
  exact ⟨rfl, rfl⟩
theorem dPages_nil (w : World) : Calls Try.prog 22 #[.pointer none] w fun e w' => e = .returned (.int .i64 0) ∧ w = w' := by
  go_enter Try.func22, Try.ntmps22
  go_wp2
  go_ret
  exact ⟨rfl, rfl⟩
section
variable {w : World} {R : Nat → Prop} {b : Nat} {L : List (List Int)} {Q : List Wr} {F : Int} {D : Bool} (h : DAt w R b L Q F D)
include h
theorem dDown_at : Calls Try.prog 61 #[.pointer (some ⟨b, 0, none⟩)] w fun e w' => e = .returned (.bool D) ∧ w = w' := by
  obtain ⟨g, vW, fz, fu, h1, _⟩ := h
  have c4 : w.cell? ⟨b, 4, none⟩ = some (.bool D) := h1.cell 4
  clear h1
  go_enter Try.func61, Try.ntmps61
  go_wp2
  go_ret
  exact ⟨by simp_all, rfl⟩
theorem dPages_at : Calls Try.prog 22 #[.pointer (some ⟨b, 0, none⟩)] w fun e w' => e = .returned (.int .i64 (L.length : Nat)) ∧ w = w' := by
  obtain ⟨g, vW, fz, fu, h1, _⟩ := h
  generalize L.length = n at h1 ⊢
  have c4 : w.cell? ⟨b, 0, none⟩ = some (.slice (some ⟨g, 0, none⟩) n n) := h1.cell 0
  clear h1
  go_enter Try.func22, Try.ntmps22
  go_wp2
  go_ret
  exact ⟨by simp_all, rfl⟩
theorem dhas_yes (i : Nat) (hi : i < L.length) : Calls Try.prog 62 #[.pointer (some ⟨b, 0, none⟩), .int .i64 i] w fun e w' => e = .returned (.bool true) ∧ w = w' := by
  obtain ⟨g, vW, fz, fu, h1, _⟩ := h
  generalize L.length = n at h1 hi
  have c4 : w.cell? ⟨b, 0, none⟩ = some (.slice (some ⟨g, 0, none⟩) n n) := h1.cell 0
  clear h1
  have hb : decide (0 ≤ (i : Int)) = true := by simp
  have hb2 : decide ((i : Int) < (n : Int)) = true := by simp; omega
  have hb3 : decide (i < n) = true := by simp; omega
  go_enter Try.func62, Try.ntmps62
  go_wp2
  go_ret
  exact ⟨by simp_all, rfl⟩
theorem dhas_no (i : Int) (hi : i < 0 ∨ (L.length : Int) ≤ i) : Calls Try.prog 62 #[.pointer (some ⟨b, 0, none⟩), .int .i64 i] w fun e w' => e = .returned (.bool false) ∧ w = w' := by
  obtain ⟨g, vW, fz, fu, h1, _⟩ := h
  generalize L.length = n at h1 hi
  have c4 : w.cell? ⟨b, 0, none⟩ = some (.slice (some ⟨g, 0, none⟩) n n) := h1.cell 0
  clear h1
  by_cases h0 : i < 0
  · have hb : decide (0 ≤ i) = false := by simp; omega
    clear hi
    go_enter Try.func62, Try.ntmps62
    go_wp2
    go_ret
    exact ⟨by simp_all, rfl⟩
  · have hb : decide (0 ≤ i) = true := by simp; omega
    have hb2 : decide (i < (n : Int)) = false := by simp; omega
    clear hi h0
    go_enter Try.func62, Try.ntmps62
    go_wp2
    go_ret
    exact ⟨by simp_all, rfl⟩
end
end Go.Proofs.Ythfkooancgkjaaa
/-
  What is proved here: a device's fuse burns; is set; all that waits lasts; a device is made.
-/
namespace Go.Proofs.Ythfkooancgkjaaa
open Go.ChangeShapes Go.WideShapes Go.ChangeAt Go.RowKit
set_option linter.unusedVariables false
set_option maxRecDepth 20000

theorem ne_dp : (54 : TypeId) ≠ 68 := by intro h; cases h
theorem ne_dw : (54 : TypeId) ≠ 70 := by intro h; cases h
theorem ne_pw : (68 : TypeId) ≠ 70 := by intro h; cases h
/-- a row's block isn't one of another type -/
theorem own_ne {w : World} {base size n g : Nat} {t : TypeId} {v : Value} {xs : List Value} {cs : Array Value} (h : w.ownsRow base 70 size v n xs) (hb : Blk w g t cs) (hne : t ≠ 70) : v.ownBlock ≠ some g := fun e => by
  rcases h.2 with ⟨rfl, _⟩ | ⟨k, cap, cur, rfl, _, hh, _⟩
  · cases e
  · injection e with e
    have e' : k = g := e
    subst e'
    exact hb.ne (show Blk w k 70 cur from hh) hne rfl
/-- the device's own cells are other ones -/
theorem DAt.turned {w w' : World} {R : Nat → Prop} {b : Nat} {L : List (List Int)} {Q : List Wr} {F' : Int} {D D' : Bool} {g : Nat} {vW : Value} {fz fz' : Bool} {fu fu' : Int}
    (h1 : Blk w b 54 (devC g L.length vW fz fu D)) (h2 : Blk w g 68 (pcs (pg L Q)).toArray) (h3 : w.ownsRow 0 70 129 vW Q.length (wcs (un L Q)))
    (h4 : R b ∧ R g ∧ (∀ k, vW.ownBlock = some k → R k)) (h5 : PgOk L ∧ QOk L.length Q ∧ L.length ≤ 4096)
    (n1 : Blk w' b 54 (devC g L.length vW fz' fu' D')) (hk : ∀ k, k ≠ b → w'.heap[k]? = w.heap[k]?) (e1 : fz' = decide (0 ≤ F')) (e2 : 0 ≤ F' → fu' = F') (e3 : F' ≤ 9223372036854775807) : DAt w' R b L Q F' D' :=
  ⟨g, vW, fz', fu', n1, h2.same (hk g (h1.ne h2 ne_dp).symm), own_same h3 (fun k hl hv => hk k (fun e => own_ne h3 h1 ne_dw (by rw [hv, e]))), h4.1, h4.2.1, h4.2.2, e1, e2, e3, h5.1, h5.2.1, h5.2.2⟩
theorem other_set (w : World) (b i : Nat) (v : Value) : ∀ k, k ≠ b → (w.setCell ⟨b, i, none⟩ v).heap[k]? = w.heap[k]? := fun k hk => Below.heap_setCell w ⟨b, i, none⟩ v k hk
theorem only_set {R : Nat → Prop} {w : World} {b : Nat} (h : R b) (i : Nat) (v : Value) : OnlyS R w (w.setCell ⟨b, i, none⟩ v) := (OnlyS.refl R w).setCell (.inl h) v

section
variable {w : World} {R : Nat → Prop} {b : Nat} {L : List (List Int)} {Q : List Wr} {F : Int} {D : Bool} (h : DAt w R b L Q F D)
include h
theorem burn_none (hF : F < 0) : Calls Try.prog 63 #[.pointer (some ⟨b, 0, none⟩)] w fun e w' => e = .returned (.bool true) ∧ w = w' := by
  obtain ⟨g, vW, fz, fu, h1, h2, h3, r1, r2, r3, e1, e2, e3, rest⟩ := h
  have hz : fz = false := by rw [e1]; simp; omega
  rw [hz] at h1
  have c2 : w.cell? ⟨b, 2, none⟩ = some (.bool false) := h1.cell 2
  clear h1 h2 h3 e1 e2 hz r3 rest
  go_enter Try.func63, Try.ntmps63
  go_wp2
  go_ret
  exact ⟨rfl, rfl⟩
theorem burn_out (hF : F = 0) : Calls Try.prog 63 #[.pointer (some ⟨b, 0, none⟩)] w fun e w' => e = .returned (.bool false) ∧ DAt w' R b L Q 0 true ∧ OnlyS R w w' := by
  subst hF
  obtain ⟨g, vW, fz, fu, h1, h2, h3, r1, r2, r3, e1, e2, e3, e4, e5, e6⟩ := h
  have hz : fz = true := by rw [e1]; simp
  have hu : fu = 0 := e2 (Int.le_refl _)
  rw [hz, hu] at h1
  have c2 : w.cell? ⟨b, 2, none⟩ = some (.bool true) := h1.cell 2
  have c3 : w.cell? ⟨b, 3, none⟩ = some (.int .i64 0) := h1.cell 3
  have c4 : w.cell? ⟨b, 4, none⟩ = some (.bool D) := h1.cell 4
  have f4 : w.frozen? ⟨b, 4, none⟩ = false := h1.frozen 4
  have N1 : Blk (w.setCell ⟨b, 4, none⟩ (.bool true)) b 54 (devC g L.length vW true 0 true) := h1.setd 4 _
  have HD : Hid (DAt (w.setCell ⟨b, 4, none⟩ (.bool true)) R b L Q 0 true) := DAt.turned h1 h2 h3 ⟨r1, r2, r3⟩ ⟨e4, e5, e6⟩ N1 (other_set _ _ _ _) (by simp) (fun _ => rfl) (by omega)
  have HO : Hid (OnlyS R w (w.setCell ⟨b, 4, none⟩ (.bool true))) := only_set r1 _ _
  clear h1 h2 h3 e1 e2 hz r3 e4 e5 e6 N1
  go_enter Try.func63, Try.ntmps63
  go_wp2
  go_ret
  exact ⟨rfl, HD.out, HO.out⟩
theorem burn_on (hF : 0 < F) : Calls Try.prog 63 #[.pointer (some ⟨b, 0, none⟩)] w fun e w' => e = .returned (.bool true) ∧ DAt w' R b L Q (F - 1) D ∧ OnlyS R w w' := by
  obtain ⟨g, vW, fz, fu, h1, h2, h3, r1, r2, r3, e1, e2, e3, e4, e5, e6⟩ := h
  have hz : fz = true := by rw [e1]; simp; omega
  have hu : fu = F := e2 (by omega)
  rw [hz, hu] at h1
  have c2 : w.cell? ⟨b, 2, none⟩ = some (.bool true) := h1.cell 2
  have c3 : w.cell? ⟨b, 3, none⟩ = some (.int .i64 F) := h1.cell 3
  have f4 : w.frozen? ⟨b, 3, none⟩ = false := h1.frozen 3
  have N1 : Blk (w.setCell ⟨b, 3, none⟩ (.int .i64 (F - 1))) b 54 (devC g L.length vW true (F - 1) D) := h1.setd 3 _
  have HD : Hid (DAt (w.setCell ⟨b, 3, none⟩ (.int .i64 (F - 1))) R b L Q (F - 1) D) := DAt.turned h1 h2 h3 ⟨r1, r2, r3⟩ ⟨e4, e5, e6⟩ N1 (other_set _ _ _ _) (by simp; omega) (fun _ => rfl) (by omega)
  have HO : Hid (OnlyS R w (w.setCell ⟨b, 3, none⟩ (.int .i64 (F - 1)))) := only_set r1 _ _
  have hs : IntKind.i64.wrap (F - 1) = F - 1 := IntWalk.i64_in _ (by omega)
  have hne : (F == 0) = false := by simp; omega
  have hne2 : ¬ F = 0 := by omega
  clear h1 h2 h3 e1 e2 hz r3 e4 e5 e6 N1
  go_enter Try.func63, Try.ntmps63
  go_wp2
  go_ret
  exact ⟨rfl, by simpa [hs] using HD.out, by simpa [hs] using HO.out⟩
theorem dSetFuse_at (n : Int) (hn : -9223372036854775808 ≤ n ∧ n ≤ 9223372036854775807) : Calls Try.prog 13 #[.pointer (some ⟨b, 0, none⟩), .int .i64 n] w fun e w' => e = .returned (.tuple #[]) ∧ DAt w' R b L Q (max n (-1)) D ∧ OnlyS R w w' := by
  obtain ⟨g, vW, fz, fu, h1, h2, h3, r1, r2, r3, e1, e2, e3, e4, e5, e6⟩ := h
  have c2 : w.cell? ⟨b, 2, none⟩ = some (.bool fz) := h1.cell 2
  have c3 : w.cell? ⟨b, 3, none⟩ = some (.int .i64 fu) := h1.cell 3
  have f2 : w.frozen? ⟨b, 2, none⟩ = false := h1.frozen 2
  have f3 : w.frozen? ⟨b, 3, none⟩ = false := h1.frozen 3
  have N0 : Blk (w.setCell ⟨b, 2, none⟩ (.bool (decide (0 ≤ n)))) b 54 (devC g L.length vW (decide (0 ≤ n)) fu D) := h1.setd 2 _
  have N1 : Blk ((w.setCell ⟨b, 2, none⟩ (.bool (decide (0 ≤ n)))).setCell ⟨b, 3, none⟩ (.int .i64 n)) b 54 (devC g L.length vW (decide (0 ≤ n)) n D) := N0.setd 3 _
  have HD : Hid (DAt ((w.setCell ⟨b, 2, none⟩ (.bool (decide (0 ≤ n)))).setCell ⟨b, 3, none⟩ (.int .i64 n)) R b L Q (max n (-1)) D) := DAt.turned h1 h2 h3 ⟨r1, r2, r3⟩ ⟨e4, e5, e6⟩ N1 (fun k hk => (other_set _ _ _ _ k hk).trans (other_set _ _ _ _ k hk)) (decide_eq_decide.2 (by omega)) (fun h => by omega) (by omega)
  have HO : Hid (OnlyS R w ((w.setCell ⟨b, 2, none⟩ (.bool (decide (0 ≤ n)))).setCell ⟨b, 3, none⟩ (.int .i64 n))) := (only_set r1 _ _).trans (only_set r1 _ _)
  clear h1 h2 h3 e1 e2 r3 e4 e5 e6 N1 N0 hn
  go_enter Try.func13, Try.ntmps13
  go_wp2
  go_end0
  exact ⟨rfl, HD.out, HO.out⟩
end
/-- the fuse behind an operation -/
def bn (F : Int) : Int := if 0 < F then F - 1 else F
section
variable {w : World} {R : Nat → Prop} {b : Nat} {L : List (List Int)} {Q : List Wr} {F : Int} {D : Bool} (h : DAt w R b L Q F D)
include h
theorem burn_any (hF : F ≠ 0) : Calls Try.prog 63 #[.pointer (some ⟨b, 0, none⟩)] w fun e w' => e = .returned (.bool true) ∧ DAt w' R b L Q (bn F) D ∧ OnlyS R w w' := by
  unfold bn
  by_cases h0 : 0 < F
  · rw [if_pos h0]; exact burn_on h h0
  · rw [if_neg h0]
    refine (burn_none h (by omega)).mono fun e w' ⟨he, hw⟩ => ?_
    subst hw
    exact ⟨he, h, OnlyS.refl R w⟩
/-- nothing waits any more -/
theorem DAt.flushed : ∃ u f1 f2, w.cell? ⟨b, 1, none⟩ = some u ∧ w.frozen? ⟨b, 1, none⟩ = false ∧ Hid (DAt (w.setCell ⟨b, 1, none⟩ (.slice none 0 0)) R b (pg L Q) [] F D) ∧ Hid (OnlyS R w (w.setCell ⟨b, 1, none⟩ (.slice none 0 0))) ∧ f1 = f2 + 0 := by
  obtain ⟨g, vW, fz, fu, h1, h2, h3, r1, r2, r3, e1, e2, e3, e4, e5, e6⟩ := h
  refine ⟨vW, 0, 0, h1.cell 1, h1.frozen 1, ?_, only_set r1 _ _, rfl⟩
  have N1 : Blk (w.setCell ⟨b, 1, none⟩ (.slice none 0 0)) b 54 (devC g (pg L Q).length (.slice none 0 0) fz fu D) := by
    rw [pg_length]; exact h1.setd 1 _
  refine ⟨g, .slice none 0 0, fz, fu, N1, ?_, ?_, r1, r2, ?_, e1, e2, e3, pg_ok Q L e4 e5, QOk.nil _, by rw [pg_length]; exact e6⟩
  · exact h2.same (other_set _ _ _ _ g (h1.ne h2 ne_dp).symm)
  · exact ⟨rfl, .inl ⟨rfl, rfl⟩⟩
  · intro k hk; cases hk
theorem dFlush_out (hd : D = false) (hF : F = 0) : Calls Try.prog 49 #[.pointer (some ⟨b, 0, none⟩)] w fun e w' => e = .returned (.int .i64 6) ∧ DAt w' R b L Q 0 true ∧ OnlyS R w w' := by
  subst hd
  have CD := hid (dDown_at h); have CB := hid (burn_out h hF)
  clear h hF
  go_enter Try.func49, Try.ntmps49
  go_wp2_with (first
    | (go_at_call 61; refine CD.out.mono ?_; rintro e wq ⟨rfl, rfl⟩)
    | (go_at_call 63; refine CB.out.mono ?_; rintro e w1 ⟨rfl, hd1, ho1⟩; have H1 := hid hd1; have O1 := hid ho1; clear hd1 ho1))
  go_ret
  exact ⟨rfl, H1.out, O1.out⟩
theorem dFlush_ok (hd : D = false) (hF : F ≠ 0) : Calls Try.prog 49 #[.pointer (some ⟨b, 0, none⟩)] w fun e w' => e = .returned (.int .i64 0) ∧ DAt w' R b (pg L Q) [] (bn F) false ∧ OnlyS R w w' := by
  subst hd
  have CD := hid (dDown_at h); have CB := hid (burn_any h hF)
  clear h hF
  go_enter Try.func49, Try.ntmps49
  go_wp2_with (first
    | (go_at_call 61; refine CD.out.mono ?_; rintro e wq ⟨rfl, rfl⟩)
    | (go_at_call 63; refine CB.out.mono ?_; rintro e w1 ⟨rfl, hd1, ho1⟩; have O1 := hid ho1; obtain ⟨u, _, _, c1, f1, H2, O2, _⟩ := hd1.flushed; clear hd1 ho1))
  go_ret
  exact ⟨rfl, H2.out, O1.out.trans O2.out⟩
end
theorem dFlush_down {w : World} {R : Nat → Prop} {b : Nat} {L : List (List Int)} {Q : List Wr} {F : Int} (h : DAt w R b L Q F true) : Calls Try.prog 49 #[.pointer (some ⟨b, 0, none⟩)] w fun e w' => e = .returned (.int .i64 6) ∧ w = w' := by
  have CD := hid (dDown_at h)
  clear h
  go_enter Try.func49, Try.ntmps49
  go_wp2_with (go_at_call 61; refine CD.out.mono ?_; rintro e wq ⟨rfl, rfl⟩)
  go_ret
  exact ⟨rfl, rfl⟩
theorem dFlush_nil (w : World) : Calls Try.prog 49 #[.pointer none] w fun e w' => e = .returned (.int .i64 6) ∧ w = w' := by
  have CD := hid (dDown_nil w)
  go_enter Try.func49, Try.ntmps49
  go_wp2_with (go_at_call 61; refine CD.out.mono ?_; rintro e wq ⟨rfl, rfl⟩)
  go_ret
  exact ⟨rfl, rfl⟩
theorem dSetFuse_nil (n : Int) (w : World) : Calls Try.prog 13 #[.pointer none, .int .i64 n] w fun e w' => e = .returned (.tuple #[]) ∧ w = w' := by
  go_enter Try.func13, Try.ntmps13
  go_wp2
  go_end0
  exact ⟨rfl, rfl⟩

/-! Made. -/
def zpg : List Int := List.replicate 128 0
theorem info_page : (Try.prog.info? 68).map (fun i => (i.zero, i.size, i.bytes)) = some (some (.agg (u8s zpg).toArray), 128, 128) := by kernel_rfl
theorem zpg_at (j : Nat) (hj : j < 128) : (u8s zpg)[j]? = some (.int .u8 0) := by
  have e : zpg[j]? = some 0 := by unfold zpg; rw [List.getElem?_replicate, if_pos hj]
  unfold u8s
  rw [List.getElem?_map, e]; rfl
theorem flat_rep : ∀ n j, j < 128 * n → (pcs (List.replicate n zpg))[j]? = some (.int .u8 0) := fun n j hj => by
  have hok : PgOk (List.replicate n zpg) := fun p hp => by rw [List.eq_of_mem_replicate hp]; rfl
  have hlt : j / 128 < n := by omega
  have := pcs_at hok (i := j / 128) (by rw [List.length_replicate]; exact hlt) (j % 128) (by omega)
  rw [show 128 * (j / 128) + j % 128 = j by omega] at this
  have e : (List.replicate n zpg)[j / 128]?.getD [] = zpg := by rw [List.getElem?_replicate, if_pos hlt]; rfl
  rw [this, e]
  exact zpg_at _ (by omega)
theorem make_pages (n : Nat) (hn : n ≤ 4096) (u : World) : (Instr.makeSlice 51 (.int .i64 (n : Int)) (.int .i64 (n : Int))).run Try.prog u =
      .ok (.slice (some ⟨u.heap.size, 0, none⟩) n n) (u.alloc (.cells (pcs (List.replicate n zpg)).toArray 68)) := by
  obtain ⟨i0, hi, hz0, hz1, hz2⟩ := info_parts info_page
  have h := run_make (P := Try.prog) u 51 68 i0 (.agg (u8s zpg).toArray) Try.underlying51 hi hz0 .i64 .i64 (n : Int) (n : Int) (by omega) (Int.le_refl _) (by rw [hz2]; omega) (by omega)
  have e : ((n : Int)).toNat = n := by omega
  rw [e] at h
  have e2 : madeCells (Value.agg (u8s zpg).toArray).cells (n * i0.size) = (pcs (List.replicate n zpg)).toArray := by
    rw [hz1]
    have hsz : (pcs (List.replicate n zpg)).length = 128 * n := by
      rw [pcs_len (fun p hp => by rw [List.eq_of_mem_replicate hp]; rfl), List.length_replicate]
    unfold madeCells
    refine Array.ext (by simp [hsz]; omega) (fun j h1 h2 => ?_)
    have hj : j < 128 * n := by simp [hsz] at h2; exact h2
    have hf := flat_rep n j hj
    have hr : (pcs (List.replicate n zpg)).toArray[j] = Value.int .u8 0 := by
      have : (pcs (List.replicate n zpg)).toArray[j]? = some (Value.int .u8 0) := by rw [List.getElem?_toArray]; exact hf
      rw [Array.getElem?_eq_getElem h2] at this
      exact Option.some.inj this
    rw [hr]
    have hsz2 : (Value.agg (u8s zpg).toArray).cells.size = 128 := rfl
    have hall : ∀ i, i < 128 → (Value.agg (u8s zpg).toArray).cells[i]! = Value.int .u8 0 := fun i hi => by
      show (u8s zpg).toArray[i]! = _
      rw [getElem!_def, List.getElem?_toArray, zpg_at i hi]
    simp only [Array.getElem_map, Array.getElem_range, hsz2]
    exact hall (j % 128) (Nat.mod_lt _ (by omega))
  rw [e2] at h
  exact h
theorem dev_built (g n : Nat) : Try.prog.built 54 [(0, .slice (some ⟨g, 0, none⟩) n n)] = some (devC g n (.slice none 0 0) false 0 false) := by kernel_rfl
theorem dNew_no (n : Int) (w : World) (hn : n < 0 ∨ 4096 < n) : Calls Try.prog 8 #[.int .i64 n] w fun e w' => e = .returned (.tuple #[.pointer none, .int .i64 1]) ∧ w = w' := by
  rcases hn with hn | hn
  · have h1 : decide (n < 0) = true := by simp; omega
    go_enter Try.func8, Try.ntmps8
    go_wp2
    go_ret2
    exact ⟨rfl, rfl⟩
  · have h1 : decide (n < 0) = false := by simp; omega
    have h2 : decide (4096 < n) = true := by simp; omega
    go_enter Try.func8, Try.ntmps8
    go_wp2
    go_ret2
    exact ⟨rfl, rfl⟩
set_option maxHeartbeats 1000000 in
theorem dNew_ok (n : Nat) (w : World) (hn : n ≤ 4096) : Calls Try.prog 8 #[.int .i64 n] w fun e w' => e = .returned (.tuple #[.pointer (some ⟨w.heap.size + 1, 0, none⟩), .int .i64 0]) ∧
    DAt w' (fun k => w.heap.size ≤ k ∧ k < w.heap.size + 2) (w.heap.size + 1) (List.replicate n zpg) [] (-1) false ∧ Below w.heap.size w w' ∧ w'.heap.size = w.heap.size + 2 := by
  have hmk := make_pages n hn
  have hb := dev_built w.heap.size n
  have h1 : decide ((n : Int) < 0) = false := by simp
  have h2 : decide (4096 < (n : Int)) = false := by simp; omega
  have hok : PgOk (List.replicate n zpg) := fun p hp => by rw [List.eq_of_mem_replicate hp]; rfl
  have HP : Hid (DAt ((w.alloc (.cells (pcs (List.replicate n zpg)).toArray 68)).alloc (.cells (devC w.heap.size n (.slice none 0 0) false 0 false) 54)) (fun k => w.heap.size ≤ k ∧ k < w.heap.size + 2) (w.heap.size + 1) (List.replicate n zpg) [] (-1) false) := by
    refine ⟨w.heap.size, .slice none 0 0, false, 0, ?_, (Blk.new w _ _).alloc _, ⟨rfl, .inl ⟨rfl, rfl⟩⟩, by omega, by omega, (fun k hk => by cases hk), by simp, (fun h => by omega), by omega, hok, QOk.nil _, by rw [List.length_replicate]; exact hn⟩
    rw [List.length_replicate]
    have := Blk.new (w.alloc (.cells (pcs (List.replicate n zpg)).toArray 68)) 54 (devC w.heap.size n (.slice none 0 0) false 0 false)
    simpa using this
  have HB : Hid (Below w.heap.size w ((w.alloc (.cells (pcs (List.replicate n zpg)).toArray 68)).alloc (.cells (devC w.heap.size n (.slice none 0 0) false 0 false) 54))) := ((Below.refl _ _).alloc (Nat.le_refl _) _).alloc (by simp) _
  generalize (pcs (List.replicate n zpg)).toArray = PC at hmk HP HB
  have hn' : (n : Int) ≤ 4096 := by omega
  clear hok hn
  go_enter Try.func8, Try.ntmps8
  go_wp2_with (refine wpList_build rfl 54 _ rfl (by simp [Act.eval, hb]) ?_)
  go_ret2
  exact ⟨by simp, HP.out, HB.out, by simp⟩
end Go.Proofs.Ythfkooancgkjaaa
/-
  What is proved here: a page of the code's device is read.
-/
namespace Go.Proofs.Ythfkooancgkjaaa
open Go.ChangeShapes Go.WideShapes Go.ChangeAt Go.RowKit
set_option linter.unusedVariables false
set_option maxRecDepth 20000

theorem page_rp {w : World} {g : Nat} {P : List (List Int)} (h : Blk w g 68 (pcs P).toArray) (hP : PgOk P) {i : Nat} (hi : i < P.length) : Rp w none (some ⟨g, i * 128, none⟩) (P[i]?.getD []) := fun _ => by
  refine ⟨_, rfl, (fun ⟨a, e, _⟩ => by cases e), fun j hj => ?_⟩
  have h128 := hP.at hi
  rw [Addr.add_lit, Nat.mul_comm i 128, h.cell, List.getElem?_toArray, pcs_at hP hi j (by omega), u8s_get _ _ hj]
def ReadAns (w : World) (xs : List Int) (e : Ending) (w' : World) : Prop := ∃ A c, e = .returned (.tuple #[.slice A 128 c, .int .i64 0]) ∧ Fresh w w' A xs ∧ Below w.heap.size w w'
section
variable {w : World} {R : Nat → Prop} {b : Nat} {L : List (List Int)} {Q : List Wr} {F : Int} {D : Bool} (h : DAt w R b L Q F D)
include h
theorem dRead_ok (hd : D = false) (i : Nat) (hi : i < L.length) : Calls Try.prog 51 #[.pointer (some ⟨b, 0, none⟩), .int .i64 i] w (ReadAns w ((pg L Q)[i]?.getD [])) := by
  subst hd
  have CD := hid (dDown_at h); have CH := hid (dhas_yes h i hi)
  obtain ⟨g, vW, fz, fu, h1, h2, h3, r1, r2, r3, e1, e2, e3, e4, e5, e6⟩ := h
  have hP := pg_ok Q L e4 e5
  have hl : i < (pg L Q).length := by rw [pg_length]; exact hi
  have CC : Hid (Calls Try.prog 53 #[.slice (some ⟨g, i * 128, none⟩) 128 128] w fun e w' => ∃ A' c', e = .returned (.slice A' 128 c') ∧ 128 ≤ c' ∧ Fresh w w' A' ((pg L Q)[i]?.getD []) ∧ Below w.heap.size w w') := by
    have := Clone_any (some ⟨g, i * 128, none⟩) 128 _ w (page_rp h2 hP hl) (by rw [hP.at hl]; decide)
    rw [hP.at hl] at this
    exact this
  generalize (pg L Q)[i]?.getD [] = X at CC ⊢
  generalize L.length = n at h1 hi e6
  have c0 : w.cell? ⟨b, 0, none⟩ = some (.slice (some ⟨g, 0, none⟩) n n) := h1.cell 0
  clear h1 h2 h3 r3 e1 e2 e3 e4 e5 hP hl
  go_enter Try.func51, Try.ntmps51
  go_wp2_with (first
    | (go_at_call 61; refine CD.out.mono ?_; rintro e wq ⟨rfl, rfl⟩)
    | (go_at_call 62; refine CH.out.mono ?_; rintro e wq ⟨rfl, rfl⟩)
    | (go_at_call 53; refine CC.out.mono ?_; rintro e w1 ⟨A, c, rfl, hc, hf, hb⟩; have HF := hid hf; have HB := hid hb; clear hc hf hb))
  go_ret2
  exact ⟨A, c, rfl, HF.out, HB.out⟩
theorem dRead_range (hd : D = false) (i : Int) (hi : i < 0 ∨ (L.length : Int) ≤ i) : Calls Try.prog 51 #[.pointer (some ⟨b, 0, none⟩), .int .i64 i] w fun e w' => e = .returned (.tuple #[.slice none 0 0, .int .i64 4]) ∧ w = w' := by
  subst hd
  have CD := hid (dDown_at h); have CH := hid (dhas_no h i hi)
  clear h hi
  go_enter Try.func51, Try.ntmps51
  go_wp2_with (first
    | (go_at_call 61; refine CD.out.mono ?_; rintro e wq ⟨rfl, rfl⟩)
    | (go_at_call 62; refine CH.out.mono ?_; rintro e wq ⟨rfl, rfl⟩))
  go_ret2
  exact ⟨rfl, rfl⟩
end
theorem dRead_down {w : World} {R : Nat → Prop} {b : Nat} {L : List (List Int)} {Q : List Wr} {F : Int} (h : DAt w R b L Q F true) (i : Int) : Calls Try.prog 51 #[.pointer (some ⟨b, 0, none⟩), .int .i64 i] w fun e w' => e = .returned (.tuple #[.slice none 0 0, .int .i64 6]) ∧ w = w' := by
  have CD := hid (dDown_at h)
  clear h
  go_enter Try.func51, Try.ntmps51
  go_wp2_with (go_at_call 61; refine CD.out.mono ?_; rintro e wq ⟨rfl, rfl⟩)
  go_ret2
  exact ⟨rfl, rfl⟩
theorem dRead_nil (i : Int) (w : World) : Calls Try.prog 51 #[.pointer none, .int .i64 i] w fun e w' => e = .returned (.tuple #[.slice none 0 0, .int .i64 6]) ∧ w = w' := by
  have CD := hid (dDown_nil w)
  go_enter Try.func51, Try.ntmps51
  go_wp2_with (go_at_call 61; refine CD.out.mono ?_; rintro e wq ⟨rfl, rfl⟩)
  go_ret2
  exact ⟨rfl, rfl⟩
theorem dWrite_nil (i : Int) (A : Option Addr) (n c : Nat) (w : World) : Calls Try.prog 45 #[.pointer none, .int .i64 i, .slice A n c] w fun e w' => e = .returned (.int .i64 6) ∧ w = w' := by
  have CD := hid (dDown_nil w)
  go_enter Try.func45, Try.ntmps45
  go_wp2_with (go_at_call 61; refine CD.out.mono ?_; rintro e wq ⟨rfl, rfl⟩)
  go_ret
  exact ⟨rfl, rfl⟩
theorem dWrite_down {w : World} {R : Nat → Prop} {b : Nat} {L : List (List Int)} {Q : List Wr} {F : Int} (h : DAt w R b L Q F true) (i : Int) (A : Option Addr) (n c : Nat) : Calls Try.prog 45 #[.pointer (some ⟨b, 0, none⟩), .int .i64 i, .slice A n c] w fun e w' => e = .returned (.int .i64 6) ∧ w = w' := by
  have CD := hid (dDown_at h)
  clear h
  go_enter Try.func45, Try.ntmps45
  go_wp2_with (go_at_call 61; refine CD.out.mono ?_; rintro e wq ⟨rfl, rfl⟩)
  go_ret
  exact ⟨rfl, rfl⟩
section
variable {w : World} {R : Nat → Prop} {b : Nat} {L : List (List Int)} {Q : List Wr} {F : Int} {D : Bool} (h : DAt w R b L Q F D)
include h
theorem dWrite_range (hd : D = false) (i : Int) (hi : i < 0 ∨ (L.length : Int) ≤ i) (A : Option Addr) (n c : Nat) : Calls Try.prog 45 #[.pointer (some ⟨b, 0, none⟩), .int .i64 i, .slice A n c] w fun e w' => e = .returned (.int .i64 4) ∧ w = w' := by
  subst hd
  have CD := hid (dDown_at h); have CH := hid (dhas_no h i hi)
  clear h hi
  go_enter Try.func45, Try.ntmps45
  go_wp2_with (first
    | (go_at_call 61; refine CD.out.mono ?_; rintro e wq ⟨rfl, rfl⟩)
    | (go_at_call 62; refine CH.out.mono ?_; rintro e wq ⟨rfl, rfl⟩))
  go_ret
  exact ⟨rfl, rfl⟩
theorem dWrite_arg (hd : D = false) (i : Nat) (hi : i < L.length) (A : Option Addr) (n c : Nat) (hn : n ≠ 128) (hn2 : n ≤ 9223372036854775807) : Calls Try.prog 45 #[.pointer (some ⟨b, 0, none⟩), .int .i64 i, .slice A n c] w fun e w' => e = .returned (.int .i64 1) ∧ w = w' := by
  subst hd
  have CD := hid (dDown_at h); have CH := hid (dhas_yes h i hi)
  have h1 : ((n : Int) != 128) = true := by simp; omega
  have h2 : ¬ (n : Int) = 128 := by omega
  clear h hi hn
  go_enter Try.func45, Try.ntmps45
  go_wp2_with (first
    | (go_at_call 61; refine CD.out.mono ?_; rintro e wq ⟨rfl, rfl⟩)
    | (go_at_call 62; refine CH.out.mono ?_; rintro e wq ⟨rfl, rfl⟩))
  go_ret
  exact ⟨rfl, rfl⟩
theorem dWrite_out (hd : D = false) (hF : F = 0) (i : Nat) (hi : i < L.length) (A : Option Addr) (c : Nat) : Calls Try.prog 45 #[.pointer (some ⟨b, 0, none⟩), .int .i64 i, .slice A 128 c] w fun e w' => e = .returned (.int .i64 6) ∧ DAt w' R b L Q 0 true ∧ OnlyS R w w' := by
  subst hd
  have CD := hid (dDown_at h); have CH := hid (dhas_yes h i hi); have CB := hid (burn_out h hF)
  clear h hi hF
  go_enter Try.func45, Try.ntmps45
  go_wp2_with (first
    | (go_at_call 61; refine CD.out.mono ?_; rintro e wq ⟨rfl, rfl⟩)
    | (go_at_call 62; refine CH.out.mono ?_; rintro e wq ⟨rfl, rfl⟩)
    | (go_at_call 63; refine CB.out.mono ?_; rintro e w1 ⟨rfl, hd1, ho1⟩; have H1 := hid hd1; have O1 := hid ho1; clear hd1 ho1))
  go_ret
  exact ⟨rfl, H1.out, O1.out⟩
end
end Go.Proofs.Ythfkooancgkjaaa
/-
  What this file is for: a write as a value, and as a slice of one; appending to a row, and where the row then lies. Nothing of the program is walked here.
-/
namespace Go.Proofs.Ythfkooancgkjaaa
open Go.ChangeShapes Go.WideShapes Go.ChangeAt Go.RowKit
set_option linter.unusedVariables false
set_option maxRecDepth 20000

theorem fold_put (off : Nat) : ∀ (vs : List Value) (k : Nat) (cs : Array Value), (vs.zipIdx k).foldl (fun cs x => cs.setIfInBounds (off + x.2) x.1) cs = putRow cs (off + k) vs
  | [], _, _ => rfl
  | v :: r, k, cs => by
    rw [List.zipIdx_cons, List.foldl_cons, fold_put off r (k + 1)]
    rfl
theorem fold_put_arr (off : Nat) (vs : Array Value) (cs : Array Value) : vs.zipIdx.foldl (fun cs x => cs.setIfInBounds (off + x.2) x.1) cs = putRow cs off vs.toList := by
  rw [← Array.foldl_toList, Array.toList_zipIdx]
  exact fold_put off vs.toList 0 cs
theorem info_write : (Try.prog.info? 70).map (fun i => (i.zero, i.size, i.bytes)) = some (some (.agg (Value.int .i64 0 :: u8s zpg).toArray), 129, 136) := by kernel_rfl
theorem write_places : ∃ fields, Try.prog.underlying 70 = some (.struct fields) ∧ fields.toList.mapM (fun f => (Try.prog.info? f.type).map fun i => (f.offset, i.size)) = some [(0, 1), (1, 128)] := ⟨_, Try.underlying70, by kernel_rfl⟩
theorem wc1_len {q : Wr} (h : q.2.length = 128) : (wc1 q).length = 129 := by unfold wc1; rw [List.length_cons, u8s_length, h]
theorem wc1_one (q : Wr) : ∀ v ∈ wc1 q, v.oneCell' = true := fun v hv => by
  rcases List.mem_cons.1 hv with rfl | hv
  · rfl
  · exact u8s_one _ v hv
/-- a write as a struct -/
theorem write_built (i : Nat) (p : List Int) (hp : p.length = 128) : Try.prog.built 70 [(0, .int .i64 i), (1, .agg (u8s p).toArray)] = some (wc1 (i, p)).toArray := by
  obtain ⟨i0, hi, hz0, hz1, hz2⟩ := info_parts info_write
  obtain ⟨fields, hu, hpl⟩ := write_places
  have hl : (u8s p).length = 128 := by rw [u8s_length, hp]
  unfold Program.built
  rw [hi, hu]
  simp only [hz0, hpl]
  have hzl : (Value.int .i64 0 :: u8s zpg).length = 129 := by rw [List.length_cons, u8s_length]; rfl
  generalize Value.int .i64 0 :: u8s zpg = Z at hzl
  unfold Instr.fill
  simp only [List.getElem?_toArray, List.getElem?_cons_zero]
  rw [if_neg (by simp [Value.cells, hzl]), fold_put_arr]
  unfold Instr.fill
  simp only [List.getElem?_toArray, List.getElem?_cons_succ, List.getElem?_cons_zero]
  rw [if_neg (by simp [Value.cells, hl, putRow_size, hzl]), fold_put_arr]
  unfold Instr.fill
  congr 1
  apply Array.ext_getElem?
  intro j
  have e1 : (Value.agg (u8s p).toArray).cells.toList = u8s p := rfl
  have e2 : (Value.int .i64 (i : Int)).cells.toList = [Value.int .i64 i] := rfl
  have e3 : (Value.agg Z.toArray).cells = Z.toArray := rfl
  rw [e1, e2, e3, putRow_at _ _ _ _ (by rw [putRow_size, hl]; simp; omega), putRow_at _ _ _ _ (by simp; omega), hl]
  simp only [List.getElem?_toArray]
  unfold wc1
  cases j with
  | zero => rw [if_neg (by omega), if_pos (by simp)]; rfl
  | succ j =>
    by_cases hj : j < 128
    · rw [if_pos (by omega), List.getElem?_cons_succ, Nat.add_sub_cancel]
    · rw [if_neg (by omega), if_neg (by simp), List.getElem?_cons_succ, List.getElem?_eq_none (by omega), List.getElem?_eq_none (by simp; omega)]
/-- a slice literal of one write -/
theorem wp_write_one {o : Oper} {a : Act} {w : World} {K : Act → World → Prop} {Q : Exit → Act → World → Prop} (x : Operand) (ho : o.op = .buildSlice 52 1 #[(0, x)]) (q : Wr) (hq : q.2.length = 128) (hx : a.eval x = .agg (wc1 q).toArray)
    (h : K (a.put o.dst (.slice (some ⟨w.heap.size, 0, none⟩) 1 1)) (w.alloc (.cells (wc1 q).toArray 70))) : o.wp Try.prog a w K Q := by
  obtain ⟨i0, hi, hz0, hz1, hz2⟩ := info_parts info_write
  have hl := wc1_len hq
  refine wp_buildSlice 52 70 1 #[(0, x)] ho (wc1 q).toArray i0 _ Try.underlying52 hi hz0 (by rw [hz1]; decide) (by rw [hz1]; decide) ?_ h
  have hp : (#[(0, x)].map fun ((i, x) : Nat × Operand) => (i, a.eval x)).toList = [(0, Value.agg (wc1 q).toArray)] := by simp [hx]
  rw [hp, hz1]
  have h := Great.fill_whole (s := 129) (by decide) [Value.agg (wc1 q).toArray] ((Array.range (1 * 129)).map ((Value.agg (Value.int .i64 0 :: u8s zpg).toArray).cells[· % (Value.agg (Value.int .i64 0 :: u8s zpg).toArray).cells.size]!)) (fun v hv => by
    rw [List.mem_singleton.1 hv]; exact hl) (by simp)
  simp only [List.flatMap_cons, List.flatMap_nil, List.append_nil] at h
  exact h
/-- where a row lies behind an append: where it lay, or in new memory -/
def Where (v v' : Value) (w w' : World) : Prop := ∀ k, v'.ownBlock = some k → v.ownBlock = some k ∨ (w.heap.size ≤ k ∧ k < w'.heap.size)
theorem run_append_where {P : Program} (w : World) (t ty e : TypeId) (i : TypeInfo) (z : Value) (size bytes : Nat) (ht : P.underlying t = some (.slice e)) (hi : P.info? e = some i) (hz : i.zero = some z)
    (hsize : i.size = size) (hby : i.bytes = bytes) (hzs : z.cells.size = size) (hsz : 0 < size)
    (v : Value) (n : Nat) (xs : List Value) (hown : w.ownsRow 0 e size v n xs)
    (a : Addr) (m c : Nat) (news : List Value) (hl : news.length = m * size) (hnews : ∀ j u, news[j]? = some u → w.cell? (a.add j) = some u) (h1 : ∀ u ∈ news, u.oneCell' = true)
    (h63 : n + m ≤ maxLen) (hbytes : (n + m) * bytes ≤ 140737488355328) :
    ∃ v' w', (Builtin.append_ #[t, t] ty #[v, .slice (some a) m c]).run P w = .ok v' w' ∧ w'.ownsRow 0 e size v' (n + m) (xs ++ news) ∧ w.grownBy w' v.ownBlock ∧ Where v v' w w' := by
  obtain ⟨v', w', hr, h2, h3, h4⟩ := run_append_own (P := P) w 0 t ty e i z size bytes ht hi hz hsize hby hzs hsz v n xs hown a m c news hl hnews h1 h63 hbytes (Nat.zero_le _)
  refine ⟨v', w', hr, h2, h3, fun k hk => ?_⟩
  have hlt := (h2.lt k hk).2
  rcases hown.2 with ⟨rfl, rfl⟩ | ⟨g, cap, cur, rfl, _, hg, hnc, hcm, hcs, htk⟩
  · obtain ⟨v2, w2, hr2, g2, _, _⟩ := run_append_own (P := P) w w.heap.size t ty e i z size bytes ht hi hz hsize hby hzs hsz (.slice none 0 0) 0 xs ⟨hown.1, .inl ⟨rfl, rfl⟩⟩ a m c news hl hnews h1 h63 hbytes (Nat.le_refl _)
    rw [hr] at hr2
    injection hr2 with e1 e2
    subst e1; subst e2
    exact .inr ⟨(g2.lt k hk).1, hlt⟩
  · by_cases hroom : n + m ≤ cap
    · obtain ⟨w2, hr2, _⟩ := run_append_fits (P := P) w 0 t ty e i size ht hi hsize g n cap xs hown a m c news hl hnews h1 hroom
      rw [hr] at hr2
      injection hr2 with e1 e2
      left
      rw [e1] at hk
      exact hk
    · subst hsize; subst hby
      have hr2 := run_append_grow (P := P) w t ty e i z ht hi hz ⟨g, 0, none⟩ n cap xs hown.1 (hown.cells (g := g) rfl) a m c news hl hnews (by omega) (by unfold maxLen at h63; omega) (growslice_fits (by omega) hbytes)
      rw [hr] at hr2
      injection hr2 with e1 e2
      rw [e1] at hk
      injection hk with hk
      exact .inr ⟨Nat.le_of_eq hk, hlt⟩
theorem wp_append_where {P : Program} {w : World} {o : Oper} {a : Act} {K : Act → World → Prop} {Q : Exit → Act → World → Prop} (s x : Operand) (t : TypeId)
    (ho : o.op = .call { callee := .builtin .append, args := #[s, x], argTypes := #[t, t] }) (e : TypeId) (i : TypeInfo) (z : Value) (size bytes : Nat) (ht : P.underlying t = some (.slice e)) (hi : P.info? e = some i) (hz : i.zero = some z)
    (hsize : i.size = size) (hby : i.bytes = bytes) (hzs : z.cells.size = size) (hsz : 0 < size)
    (v : Value) (n : Nat) (xs : List Value) (hs : a.eval s = v) (hown : w.ownsRow 0 e size v n xs)
    (ad : Addr) (m c : Nat) (news : List Value) (hx : a.eval x = .slice (some ad) m c) (hl : news.length = m * size) (hnews : ∀ j u, news[j]? = some u → w.cell? (ad.add j) = some u) (h1 : ∀ u ∈ news, u.oneCell' = true)
    (h63 : n + m ≤ maxLen) (hbytes : (n + m) * bytes ≤ 140737488355328)
    (h : ∀ v' w', w'.ownsRow 0 e size v' (n + m) (xs ++ news) → w.grownBy w' v.ownBlock → Where v v' w w' → K (a.put o.dst v') w') : o.wp P a w K Q := by
  obtain ⟨v', w', hr, h2, h3, h4⟩ := run_append_where (P := P) w t o.type e i z size bytes ht hi hz hsize hby hzs hsz v n xs hown ad m c news hl hnews h1 h63 hbytes
  unfold Oper.wp execOp
  simp only [ho, resolve, invoke, builtin, Sem.run_bind, Sem.run_pure, Result.andThen_ok, List.map_toArray, List.map_cons, List.map_nil, hs, hx, hr]
  exact h v' w' h2 h3 h4
theorem OnlyS.grown {S : Nat → Prop} {a w w' : World} {row : Option Nat} (h : OnlyS S a w) (hg : w.grownBy w' row) (hr : ∀ k, row = some k → S k ∨ a.heap.size ≤ k) : OnlyS S a w' :=
  ⟨hg.os.trans h.os, hg.tape.trans h.tape, hg.output.trans h.output, Nat.le_trans h.size hg.size, fun k hk hn => (hg.block k (Nat.lt_of_lt_of_le hk h.size) (fun e => by
    rcases hr k e.symm with h1 | h1
    · exact hn h1
    · omega)).trans (h.block k hk hn)⟩
/-- a write more waits -/
theorem wp_append_wr {w : World} {o : Oper} {a : Act} {K : Act → World → Prop} {Q : Exit → Act → World → Prop} (s x : Operand) (ho : o.op = .call { callee := .builtin .append, args := #[s, x], argTypes := #[52, 52] })
    (v : Value) (U : List Wr) (n : Nat) (hn : n = U.length) (hs : a.eval s = v) (hown : w.ownsRow 0 70 129 v n (wcs U)) (gq c : Nat) (q : Wr) (hx : a.eval x = .slice (some ⟨gq, 0, none⟩) 1 c) (hq : Blk w gq 70 (wc1 q).toArray) (hl : q.2.length = 128) (hlen : n < 1000000)
    (h : ∀ v' w', w'.ownsRow 0 70 129 v' (n + 1) (wcs (U ++ [q])) → w.grownBy w' v.ownBlock → Where v v' w w' → K (a.put o.dst v') w') : o.wp Try.prog a w K Q := by
  obtain ⟨i0, hi, hz0, hz1, hz2⟩ := info_parts info_write
  refine wp_append_where s x 52 ho 70 i0 _ 129 136 Try.underlying52 hi hz0 hz1 hz2 (by rfl) (by decide) v n (wcs U) hs hown ⟨gq, 0, none⟩ 1 c (wc1 q) hx (by rw [wc1_len hl]) (fun j u hu => ?_) (wc1_one q) (by unfold maxLen; omega) (by omega) (fun v' w' h1 h2 h3 => h v' w' ?_ h2 h3)
  · rw [Addr.add_lit, Nat.zero_add, hq.cell, List.getElem?_toArray]; exact hu
  · have e : wcs (U ++ [q]) = wcs U ++ wc1 q := flat_snoc U q
    rw [e]; exact h1
end Go.Proofs.Ythfkooancgkjaaa
/-
  What this file is for: what stays while a write to the code's device is done. Nothing of the program is walked here.
-/
namespace Go.Proofs.Ythfkooancgkjaaa
open Go.ChangeShapes Go.WideShapes Go.ChangeAt Go.RowKit
set_option linter.unusedVariables false
set_option maxRecDepth 20000

/-- bytes that are read lie at an address without a spot -/
theorem rp_plain {w : World} {A : Option Addr} {xs : List Int} (h : Rp w none A xs) (hx : 0 < xs.length) : ∃ b off, A = some ⟨b, off, none⟩ ∧ b < w.heap.size ∧ w.rangeAt b off (u8s xs) := by
  obtain ⟨⟨b, off, s⟩, rfl, _, hc⟩ := h hx
  have h0 := hc 0 hx
  have hs : s = none := by
    cases s with
    | none => rfl
    | some v =>
      unfold World.cell? Addr.add at h0
      simp at h0
      split at h0
      · cases h0
      · cases h0
  subst hs
  refine ⟨b, off, rfl, block_lt_of_cell h0, fun j v hv => ?_⟩
  have hj : j < xs.length := by
    rcases Nat.lt_or_ge j xs.length with h1 | h1
    · exact h1
    · rw [List.getElem?_eq_none (by rw [u8s_length]; exact h1)] at hv; cases hv
  have := hc j hj
  rw [Addr.add_mid] at this
  rw [this, ← hv, u8s_get _ _ hj]
theorem page_range {w : World} {g : Nat} {P : List (List Int)} (h : Blk w g 68 (pcs P).toArray) (hP : PgOk P) {i : Nat} (hi : i < P.length) : w.rangeAt g (i * 128) (u8s (P[i]?.getD [])) := fun j v hv => by
  have h128 := hP.at hi
  have hj : j < 128 := by
    rcases Nat.lt_or_ge j 128 with h1 | h1
    · exact h1
    · rw [List.getElem?_eq_none (by rw [u8s_length, h128]; exact h1)] at hv; cases hv
  rw [h.cell, Nat.mul_comm i 128, List.getElem?_toArray, pcs_at hP hi j hj, hv]
theorem there_page {w : World} {g : Nat} {P : List (List Int)} (h : Blk w g 68 (pcs P).toArray) (hP : PgOk P) {i : Nat} (hi : i < P.length) {X : List Int} (hX : X.length = 128) : w.there g (i * 128) (u8s X).toArray.size := fun j hj => by
  rw [List.size_toArray, u8s_length, hX] at hj
  refine ⟨?_, h.frozen _⟩
  have h128 := hP.at hi
  rw [h.cell, Nat.mul_comm i 128, List.getElem?_toArray, pcs_at hP hi j hj, u8s_get _ _ (by omega)]
  rfl
theorem page_put {w : World} {g : Nat} {P : List (List Int)} (h : Blk w g 68 (pcs P).toArray) (hP : PgOk P) {i : Nat} (hi : i < P.length) {X : List Int} (hX : X.length = 128) : Blk (w.setCells g (i * 128) (u8s X)) g 68 (pcs (P.set i X)).toArray := by
  have := h.putCells (u8s X) (i * 128)
  rwa [putRow_whole (by rw [u8s_length, hX, pcs_len hP]; omega), Nat.mul_comm i 128, pcs_put hP hi hX, ← Nat.mul_comm i 128] at this
theorem other_cells (w : World) (g o : Nat) (vs : List Value) {k : Nat} (hk : k ≠ g) : (w.setCells g o vs).heap[k]? = w.heap[k]? := by
  induction vs generalizing w o with
  | nil => rfl
  | cons v r ih => rw [World.setCells, ih]; exact other_set _ _ _ _ k hk
theorem size_setCells (w : World) (g o : Nat) (vs : List Value) : (w.setCells g o vs).heap.size = w.heap.size := by
  induction vs generalizing w o with
  | nil => rfl
  | cons v r ih => rw [World.setCells, ih]; simp [World.setCell]
theorem own_cells {w : World} {g base size n : Nat} {t : TypeId} {cs : Array Value} {v : Value} {xs : List Value} (h : w.ownsRow base 70 size v n xs) (hb : Blk w g t cs) (hne : t ≠ 70) (o : Nat) (vs : List Value) : (w.setCells g o vs).ownsRow base 70 size v n xs :=
  own_same h (fun k _ hk => other_cells w g o vs (fun e => own_ne h hb hne (by rw [hk, e])))
theorem arrayAt_page (b o c : Nat) (w : World) : (Instr.arrayAt 68 (.slice (some ⟨b, o, none⟩) 128 c)).run Try.prog w = .ok (.pointer (some ⟨b, o, none⟩)) w := by
  unfold Instr.arrayAt
  simp [Sem.run_bind, Sem.run_pure, Result.andThen]
theorem page_info {X : List Int} (h : X.length = 128) : (Try.prog.info? 68).map (·.size) = some (u8s X).length := by rw [u8s_length, h]; kernel_rfl
theorem page_info2 {X : List Int} (h : X.length = 128) : (Try.prog.info? 68).map (·.size) = some (u8s X).toArray.size := by rw [List.size_toArray]; exact page_info h
theorem u8s_all1 (X : List Int) : (u8s X).toArray.all (·.oneCell') = true := all_oneCell_toArray (u8s_one X)

theorem slice_of {w : World} {base e size n : Nat} {v : Value} {xs : List Value} (h : w.ownsRow base e size v n xs) : ∃ A c, v = .slice A n c := by
  rcases h.2 with ⟨h4, h5⟩ | ⟨g, cap, cur, hv, _⟩
  · exact ⟨none, 0, by rw [h4, h5]⟩
  · exact ⟨_, _, hv⟩
theorem exec_build {P : Program} {o : Oper} {a : Act} (t : TypeId) (parts : Array (Nat × Operand)) (ho : o.op = .build t parts) (cells : Array Value) (hb : P.built t (parts.map fun (i, x) => (i, a.eval x)).toList = some cells) (w : World) : (execOp a.eval o).run P w = .ok (.value (.agg cells)) w := by
  unfold execOp
  simp only [ho, Sem.run_bind, run_build w t _ cells hb, Result.andThen_ok]
  rfl
/-- what the loads of the first region need -/
structure WS9 (b g n off : Nat) (p : List Int) (w' : World) : Prop where
  c0 : w'.cell? ⟨b, 0, none⟩ = some (.slice (some ⟨g, 0, none⟩) n n)
  rg : w'.rangeAt g off (u8s p)
theorem ws9_of {w' : World} {b g n i : Nat} {p : List Int} {vW : Value} {fz D : Bool} {fu : Int} {P : List (List Int)} (h1 : Blk w' b 54 (devC g n vW fz fu D)) (h2 : Blk w' g 68 (pcs P).toArray) (h3 : PgOk P ∧ i < P.length ∧ p = P[i]?.getD []) : WS9 b g n (i * 128) p w' :=
  ⟨h1.cell 0, by rw [h3.2.2]; exact page_range h2 h3.1 h3.2.1⟩
theorem WS9.alloc {b g n off : Nat} {p : List Int} {w' : World} (h : WS9 b g n off p w') (o : Obj) : WS9 b g n off p (w'.alloc o) :=
  ⟨by rw [World.cell?_alloc_lt _ _ _ (block_lt_of_cell h.c0)]; exact h.c0, World.rangeAt_alloc h.rg o⟩
/-- what the loads of the second region need -/
structure WS10 (b g n ab ao : Nat) (X : List Int) (w' : World) : Prop where
  c0 : w'.cell? ⟨b, 0, none⟩ = some (.slice (some ⟨g, 0, none⟩) n n)
  rg : w'.rangeAt ab ao (u8s X)
theorem ws10_of {w' : World} {b g n ab ao : Nat} {X : List Int} {vW : Value} {fz D : Bool} {fu : Int} (h1 : Blk w' b 54 (devC g n vW fz fu D)) (h2 : w'.rangeAt ab ao (u8s X)) : WS10 b g n ab ao X w' := ⟨h1.cell 0, h2⟩
theorem xr_only {R : Nat → Prop} {w w' : World} {ab ao : Nat} {X : List Int} (h : w.rangeAt ab ao (u8s X)) (ho : OnlyS R w w') (hA : ¬ R ab) : w'.drew.rangeAt ab ao (u8s X) := fun j v hv => by
  have h1 := h j v hv
  have hlt : ab < w.heap.size := block_lt_of_cell h1
  exact (World.cell?_of_block (a := ⟨ab, ao + j, none⟩) (w := w) (w' := w') (ho.block ab hlt hA)).trans h1
theorem ws10_put {R : Nat → Prop} {w' : World} {b g n ab ao : Nat} {X : List Int} {vW : Value} {fz D : Bool} {fu : Int} (h : WS10 b g n ab ao X w') {o : Nat} {vs : List Value} (h1 : Blk (w'.setCells g o vs) b 54 (devC g n vW fz fu D)) (hA : ¬ R ab) (hg : R g) : WS10 b g n ab ao X (w'.setCells g o vs) :=
  ⟨h1.cell 0, fun j v hv => (World.cell?_of_block (a := ⟨ab, ao + j, none⟩) (other_cells w' g o vs (fun e => hA (by rw [show ab = g from e]; exact hg)))).trans (h.rg j v hv)⟩

/-- what a write that is done answers -/
def WAns (R : Nat → Prop) (b : Nat) (L : List (List Int)) (Q : List Wr) (F : Int) (w : World) (e : Ending) (w' : World) : Prop := e = .returned (.int .i64 0) ∧ DAt w' (Nw R w w') b L Q F false ∧ OnlyS R w w'
theorem wr_done {R : Nat → Prop} {w w' : World} {b g n m i : Nat} {L P : List (List Int)} {Q U : List Wr} {F : Int} {vN : Value} {fz : Bool} {fu : Int} {p X : List Int}
    (h1 : Blk w' b 54 (devC g n vN fz fu false)) (h2 : Blk w' g 68 (pcs (P.set i X)).toArray) (h3 : w'.ownsRow 0 70 129 vN (m + 1) (wcs (U ++ [(i, p)])))
    (hw : ∀ k, vN.ownBlock = some k → R k ∨ (w.heap.size ≤ k ∧ k < w'.heap.size)) (hR : R b ∧ R g) (hF : fz = decide (0 ≤ F) ∧ (0 ≤ F → fu = F) ∧ F ≤ 9223372036854775807)
    (hE : P = pg L Q ∧ U = un L Q ∧ p = (pg L Q)[i]?.getD [] ∧ n = L.length ∧ m = Q.length) (hL : PgOk L ∧ QOk L.length Q ∧ L.length ≤ 4096) (hi : i < P.length) (hX : X.length = 128) : DAt w' (Nw R w w') b L (Q ++ [(i, X)]) F false := by
  obtain ⟨rfl, rfl, rfl, rfl, rfl⟩ := hE
  rw [pg_length] at hi
  refine ⟨g, vN, fz, fu, h1, ?_, ?_, .inl hR.1, .inl hR.2, hw, hF.1, hF.2.1, hF.2.2, hL.1, hL.2.1.snoc hi hX, hL.2.2⟩
  · rw [pg_snoc]; exact h2
  · rw [un_snoc, List.length_append]; exact h3
end Go.Proofs.Ythfkooancgkjaaa
