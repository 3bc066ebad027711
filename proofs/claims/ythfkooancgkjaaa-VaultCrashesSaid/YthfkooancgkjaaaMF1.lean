/-
  What is proved here: a vault in memory; whether it is over; what it answers for its device's error; how many pages it has, and has left.
-/
import Derived.Test.YthfkooancgkjaaaMWaO
import Derived.Test.YthfkooancgkjaaaMWaC
import Derived.Test.YthfkooancgkjaaaMG1
import Derived.Test.YthfkooancgkjaaaMSlS
import Derived.Test.YthfkooancgkjaaaMWaT
import Derived.Test.YthfkooancgkjaaaMWaG
import Derived.Test.YthfkooancgkjaaaMWaP
import Derived.Test.YthfkooancgkjaaaMRowsR
set_option linter.unusedSimpArgs false
set_option linter.unusedVariables false
namespace Go.Proofs.Ythfkooancgkjaaa
open Go.ChangeShapes Go.WideShapes Go.ChangeAt Go.RowKit
set_option linter.unusedVariables false
set_option maxRecDepth 20000

/-- a vault's cells -/
def vtC (b S : Nat) (sec : Bool) (lam g : Int) (lp : Option Addr) (op : Bool) : Array Value := #[.pointer (some ⟨b, 0, none⟩), .int .i64 S, .bool sec, .int .u32 lam, .int .u32 g, .pointer lp, .bool op]
/-- a type of neither a device's blocks, nor a log's, nor a vault's -/
def NV (t : TypeId) : Prop := NX t ∧ t ≠ 62
instance (t : TypeId) : Decidable (NV t) := by unfold NV; infer_instance
/-- no block but a device's, a log's, or a vault's, has turned -/
structure Kv (w w' : World) : Prop where
  sz : w.heap.size ≤ w'.heap.size
  bl : ∀ k t cs, Blk w k t cs → NV t → w'.heap[k]? = w.heap[k]?
theorem Kv.trans {a b c : World} (h : Kv a b) (k : Kv b c) : Kv a c := ⟨Nat.le_trans h.sz k.sz, fun j t cs hb ht => (k.bl j t cs (hb.same (h.bl j t cs hb ht)) ht).trans (h.bl j t cs hb ht)⟩
theorem Kv.of {w w' : World} (h : Kx w w') : Kv w w' := ⟨h.sz, fun k t cs hb ht => h.bl k t cs hb ht.1⟩
theorem Kv.below {w w' : World} (h : Below w.heap.size w w') : Kv w w' := ⟨h.size, fun k t cs hb _ => h.block k hb.lt⟩
theorem Kv.vault {w w' : World} {vb : Nat} {cs : Array Value} (h : OnlyS (fun k => k = vb) w w') (hb : Blk w vb 62 cs) : Kv w w' := ⟨h.size, fun k t cs' hk ht => h.block k hk.lt (fun e => by subst e; exact ht.2 (hk.inj hb).1)⟩
theorem Kv.blk {w w' : World} (h : Kv w w') {k : Nat} {t : TypeId} {cs : Array Value} (hb : Blk w k t cs) (ht : NV t) : Blk w' k t cs := hb.same (h.bl k t cs hb ht)
theorem Kv.own {w w' : World} (h : Kv w w') {base e size n : Nat} {v : Value} {xs : List Value} (ho : w.ownsRow base e size v n xs) (ht : NV e) : w'.ownsRow base e size v n xs := by
  refine ⟨ho.1, ?_⟩
  rcases ho.2 with h1 | ⟨g, cap, cur, hv, hg, hh, r⟩
  · exact .inl h1
  · exact .inr ⟨g, cap, cur, hv, hg, h.blk (show Blk w g e cur from hh) ht, r⟩
theorem Kv.u8 {w w' : World} (h : Kv w w') : ∀ g cs, Blk w g 5 cs → w'.heap[g]? = w.heap[g]? := fun g cs hg => h.bl g _ cs hg (by decide)
theorem Kt.log {w w' : World} (h : Kt w w') {k : Nat} {cs : Array Value} (hb : Blk w k 90 cs) : Blk w' k 90 cs := h.blk hb (by decide)
theorem Kx.vlt {w w' : World} (h : Kx w w') {k : Nat} {cs : Array Value} (hb : Blk w k 62 cs) : Blk w' k 62 cs := h.blk hb (by decide)
theorem Kt.vlt {w w' : World} (h : Kt w w') {k : Nat} {cs : Array Value} (hb : Blk w k 62 cs) : Blk w' k 62 cs := h.blk hb (by decide)
theorem OnlyS.log {w w' : World} {vb lb : Nat} {cs cs' : Array Value} (h : OnlyS (fun k => k = vb) w w') (hv : Blk w vb 62 cs) (hb : Blk w lb 90 cs') : Blk w' lb 90 cs' := hb.same (h.block lb hb.lt (fun e => by
  subst e
  have := (hv.inj hb).1
  exact absurd this (by decide)))
theorem Dy.vlt {n0 : Nat} {w w' : World} {b vb : Nat} {s : SS} {cs : Array Value} (hd : Dy n0 w b s) (h : OnlyS (fun k => k = vb) w w') (hb : Blk w vb 62 cs) : Dy n0 w' b s :=
  hd.typed h.size fun k t cs' hk ht => h.block k hk.lt (fun e => by subst e; exact ht (by rw [(hk.inj hb).1]; decide))
theorem AllM.keepv {m n0 : Nat} {w w' : World} {M : List (List Int)} {v : Value} (h : AllM m n0 w M v) (hk : Kv w w') (hb : Below n0 w w') : AllM m n0 w' M v := by
  obtain ⟨A, c, rows, h1, h2, h3⟩ := h
  exact ⟨A, c, rows, h1, hk.own h2 (by decide), fun j hj => by
    obtain ⟨B, d, h4, h5⟩ := h3 j hj
    exact ⟨B, d, h4, h5.keep hk.u8 hb⟩⟩
section
variable {w : World} {vb b S : Nat} {sec : Bool} {lam g : Int} {lp : Option Addr} {op : Bool}
theorem vtIsOver_any (h : Blk w vb 62 (vtC b S sec lam g lp op)) : Calls Try.prog 26 #[.pointer (some ⟨vb, 0, none⟩)] w fun e w' => e = .returned (.bool (!op)) ∧ w = w' := by
  have hnil : ∀ (w : World) (a : Addr), (binOp .eql 30 (.pointer (some a)) (.pointer none)).run Try.prog w = .ok (.bool false) w := fun w a => by simp [go_sem]
  have c6 : w.cell? ⟨vb, 6, none⟩ = some (.bool op) := h.cell 6
  clear h
  go_enter Try.func26, Try.ntmps26
  go_wp2
  go_ret
  exact ⟨rfl, rfl⟩
theorem vtRefuse_any (h : Blk w vb 62 (vtC b S sec lam g lp op)) (r : Int) : Calls Try.prog 27 #[.pointer (some ⟨vb, 0, none⟩), .int .i64 r] w fun e w' => e = .returned (.int .i64 r) ∧ Blk w' vb 62 (vtC b S sec lam g lp (op && decide (r ≠ 6))) ∧ OnlyS (fun k => k = vb) w w' := by
  by_cases h6 : r = 6
  · subst h6
    have c6 : w.cell? ⟨vb, 6, none⟩ = some (.bool op) := h.cell 6
    have f6 : w.frozen? ⟨vb, 6, none⟩ = false := h.frozen 6
    have N0 : Hid (Blk (w.setCell ⟨vb, 6, none⟩ (.bool false)) vb 62 (vtC b S sec lam g lp (op && decide ((6 : Int) ≠ 6)))) := by
      show Blk _ _ _ _
      rw [show (op && decide ((6 : Int) ≠ 6)) = false by simp]
      exact h.setd 6 _
    have HO : Hid (OnlyS (fun k => k = vb) w (w.setCell ⟨vb, 6, none⟩ (.bool false))) := hid (only_set (R := fun k => k = vb) rfl _ _)
    clear h
    go_enter Try.func27, Try.ntmps27
    go_wp2
    go_ret
    exact ⟨rfl, N0.out, HO.out⟩
  · have g6 : (r == 6) = false := by simpa using h6
    have N0 : Hid (Blk w vb 62 (vtC b S sec lam g lp (op && decide (r ≠ 6)))) := by show Blk _ _ _ _; rw [decide_eq_true h6, Bool.and_true]; exact h
    clear h h6
    go_enter Try.func27, Try.ntmps27
    go_wp2
    go_ret
    exact ⟨rfl, N0.out, OnlyS.refl _ _⟩
theorem vtSpace_any (h : Blk w vb 62 (vtC b S sec lam g lp op)) : Calls Try.prog 20 #[.pointer (some ⟨vb, 0, none⟩)] w fun e w' => e = .returned (.int .i64 S) ∧ w = w' := by
  have hnil : ∀ (w : World) (a : Addr), (binOp .eql 30 (.pointer (some a)) (.pointer none)).run Try.prog w = .ok (.bool false) w := fun w a => by simp [go_sem]
  have c1 : w.cell? ⟨vb, 1, none⟩ = some (.int .i64 S) := h.cell 1
  clear h
  go_enter Try.func20, Try.ntmps20
  go_wp2
  go_ret
  exact ⟨rfl, rfl⟩
theorem vtRoom_any {lb a c : Nat} {l : LS} (h : Blk w vb 62 (vtC b S sec lam g (some ⟨lb, 0, none⟩) op)) (hl : Blk w lb 90 (lgC b a c l)) (hc : c < 100000) (hn : l.n ≤ c) : Calls Try.prog 19 #[.pointer (some ⟨vb, 0, none⟩)] w fun e w' => e = .returned (.int .i64 ((c : Int) - l.n)) ∧ ∃ q, w' = w.drewN q := by
  have hnil : ∀ (w : World) (a : Addr), (binOp .eql 30 (.pointer (some a)) (.pointer none)).run Try.prog w = .ok (.bool false) w := fun w a => by simp [go_sem]
  have c5 : w.cell? ⟨vb, 5, none⟩ = some (.pointer (some ⟨lb, 0, none⟩)) := h.cell 5
  have CR := hid (wroom_any lb b a c l w hl hc hn)
  clear h hl
  go_enter Try.func19, Try.ntmps19
  go_wp2_with (go_at_call 34; refine CR.out.mono ?_; rintro e w1 ⟨rfl, q, rfl⟩)
  go_ret
  exact ⟨rfl, q, rfl⟩
theorem vtIsOver_nil (w : World) : Calls Try.prog 26 #[.pointer none] w fun e w' => e = .returned (.bool true) ∧ w = w' := by
  go_enter Try.func26, Try.ntmps26
  go_wp2
  go_ret
  exact ⟨rfl, rfl⟩
theorem vtSpace_nil (w : World) : Calls Try.prog 20 #[.pointer none] w fun e w' => e = .returned (.int .i64 0) ∧ w = w' := by
  go_enter Try.func20, Try.ntmps20
  go_wp2
  go_ret
  exact ⟨rfl, rfl⟩
theorem vtRoom_nil (w : World) : Calls Try.prog 19 #[.pointer none] w fun e w' => e = .returned (.int .i64 0) ∧ w = w' := by
  go_enter Try.func19, Try.ntmps19
  go_wp2
  go_ret
  exact ⟨rfl, rfl⟩
theorem vtAppend_nil (A : Option Addr) (n c : Nat) (w : World) : Calls Try.prog 11 #[.pointer none, .slice A n c] w fun e w' => e = .returned (.int .i64 6) ∧ w = w' := by
  go_enter Try.func11, Try.ntmps11
  go_wp2_with (go_at_call 26; refine (vtIsOver_nil _).mono ?_; rintro e wq ⟨rfl, rfl⟩)
  go_ret
  exact ⟨rfl, rfl⟩
theorem vtFlush_nil (w : World) : Calls Try.prog 12 #[.pointer none] w fun e w' => e = .returned (.int .i64 6) ∧ w = w' := by
  go_enter Try.func12, Try.ntmps12
  go_wp2_with (go_at_call 26; refine (vtIsOver_nil _).mono ?_; rintro e wq ⟨rfl, rfl⟩)
  go_ret
  exact ⟨rfl, rfl⟩
theorem vtReplace_nil (A : Option Addr) (n c : Nat) (w : World) : Calls Try.prog 14 #[.pointer none, .slice A n c] w fun e w' => e = .returned (.int .i64 6) ∧ w = w' := by
  go_enter Try.func14, Try.ntmps14
  go_wp2_with (go_at_call 26; refine (vtIsOver_nil _).mono ?_; rintro e wq ⟨rfl, rfl⟩)
  go_ret
  exact ⟨rfl, rfl⟩
end
end Go.Proofs.Ythfkooancgkjaaa
/-
  What is proved here: a vault's standing that its slot is let tell.
-/
namespace Go.Proofs.Ythfkooancgkjaaa
open Go.ChangeShapes Go.WideShapes Go.ChangeAt Go.RowKit
set_option linter.unusedVariables false
set_option maxRecDepth 20000

/-- no block but a device's, or a vault's, has turned -/
structure Ks (w w' : World) : Prop where
  sz : w.heap.size ≤ w'.heap.size
  bl : ∀ k t cs, Blk w k t cs → NT t → t ≠ 62 → w'.heap[k]? = w.heap[k]?
theorem Ks.trans {a b c : World} (h : Ks a b) (k : Ks b c) : Ks a c := ⟨Nat.le_trans h.sz k.sz, fun j t cs hb ht h9 => (k.bl j t cs (hb.same (h.bl j t cs hb ht h9)) ht h9).trans (h.bl j t cs hb ht h9)⟩
theorem Ks.of {w w' : World} (h : Kt w w') : Ks w w' := ⟨h.sz, fun k t cs hb ht _ => h.bl k t cs hb ht⟩
theorem Ks.below {w w' : World} (h : Below w.heap.size w w') : Ks w w' := ⟨h.size, fun k t cs hb _ _ => h.block k hb.lt⟩
theorem Ks.vault {w w' : World} {vb : Nat} {cs : Array Value} (h : OnlyS (fun k => k = vb) w w') (hb : Blk w vb 62 cs) : Ks w w' := ⟨h.size, fun k t cs' hk _ ht => h.block k hk.lt (fun e => by subst e; exact ht (hk.inj hb).1)⟩
theorem Ks.kv {w w' : World} (h : Ks w w') : Kv w w' := ⟨h.sz, fun k t cs hb ht => h.bl k t cs hb ht.1.1 ht.2⟩
theorem Ks.log {w w' : World} (h : Ks w w') {k : Nat} {cs : Array Value} (hb : Blk w k 90 cs) : Blk w' k 90 cs := hb.same (h.bl k _ cs hb (by decide) (by decide))
/-- what save answers, and leaves -/
def SvV (n0 b vb : Nat) (r : Int) (s' : SS) (old new : Array Value) (w : World) (e : Ending) (w' : World) : Prop :=
  e = .returned (.int .i64 r) ∧ Dy n0 w' b s' ∧ Blk w' vb 62 (if r = 0 then new else old) ∧ Ks w w' ∧ Below n0 w w'
theorem flag_val {a : Nat} (ha : a < 2) : (if decide (a = 1) then (1 : Int) else 0) = a := by
  have : a = 0 ∨ a = 1 := by omega
  rcases this with rfl | rfl <;> rfl
/-- its standing is turned -/
theorem vt_set {w : World} {vb b S : Nat} {sec : Bool} {lam g : Int} {lp : Option Addr} {op : Bool} (h : Blk w vb 62 (vtC b S sec lam g lp op)) (f : Bool) (lam' g' : Int) :
    Blk (((w.setCell ⟨vb, 2, none⟩ (.bool f)).setCell ⟨vb, 3, none⟩ (.int .u32 lam')).setCell ⟨vb, 4, none⟩ (.int .u32 g')) vb 62 (vtC b S f lam' g' lp op) ∧
    OnlyS (fun k => k = vb) w (((w.setCell ⟨vb, 2, none⟩ (.bool f)).setCell ⟨vb, 3, none⟩ (.int .u32 lam')).setCell ⟨vb, 4, none⟩ (.int .u32 g')) :=
  ⟨((h.setd 2 (.bool f)).setd 3 (.int .u32 lam')).setd 4 (.int .u32 g'),
   ((only_set (R := fun k => k = vb) rfl _ _).trans (only_set (R := fun k => k = vb) rfl _ _)).trans (only_set (R := fun k => k = vb) rfl _ _)⟩
set_option maxHeartbeats 2000000 in
theorem vtSave_any {n0 : Nat} {w : World} {b : Nat} {s : SS} (hD : Dy n0 w b s) (hn : n0 ≤ w.heap.size) (hbs : s.bs) (hQ : s.Q.length < 1000000) (vb S : Nat) (hvb : n0 ≤ vb) {sec : Bool} {lam g : Int} {lp : Option Addr} {op : Bool} (h : Blk w vb 62 (vtC b S sec lam g lp op))
    (a' : Nat) (ha : a' < 2) (lam' g' : Int) (hl : 0 ≤ lam' ∧ lam' < 4294967296) (hg : 0 ≤ g' ∧ g' < 4294967296) (r : Int) (s' : SS) (hr : r = (s.sv 0 (val9 a' lam' g')).1) (hs' : s' = (s.sv 0 (val9 a' lam' g')).2.2) :
    Calls Try.prog 24 #[.pointer (some ⟨vb, 0, none⟩), .agg #[.bool (decide (a' = 1)), .int .u32 lam', .int .u32 g']] w (SvV n0 b vb r s' (vtC b S sec lam g lp op) (vtC b S (decide (a' = 1)) lam' g' lp op) w) := by
  obtain ⟨Z, hz, hz0, z0, z1, z2, z3, z4, hZs⟩ := zero_writer
  obtain ⟨f, hf⟩ : ∃ f, f = decide (a' = 1) := ⟨_, rfl⟩
  have hfv := flag_val ha
  rw [← hf] at hfv ⊢
  obtain ⟨u, hu⟩ : ∃ u, u = w.alloc (.cells #[.bool f, .int .u32 lam', .int .u32 g'] 57) := ⟨_, rfl⟩
  have hus : u.heap.size = w.heap.size + 1 := by rw [hu]; simp
  have hw : WAt (u.alloc (.cells Z 81)) u.heap.size [] := new_writer (Blk.new u 81 Z) hz z0.out z1.out z2.out z3.out
  have hBu : Below w.heap.size w u := by rw [hu]; exact (Below.refl _ _).alloc (Nat.le_refl _) _
  have hB0 : Below w.heap.size w (u.alloc (.cells Z 81)) := hBu.alloc hBu.size _
  have hB0s : (u.alloc (.cells Z 81)).heap.size = w.heap.size + 2 := by rw [hu]; simp
  have hK0 : Blk u w.heap.size 57 #[.bool f, .int .u32 lam', .int .u32 g'] := by rw [hu]; exact Blk.new _ _ _
  have hK1 : Blk (u.alloc (.cells Z 81)) w.heap.size 57 #[.bool f, .int .u32 lam', .int .u32 g'] := hK0.same ((Below.refl _ u).alloc (Nat.le_refl _) _ |>.block _ hK0.lt)
  have h1 := WFlag_any (some ⟨u.heap.size, 0, none⟩) (.good []) f (u.alloc (.cells Z 81)) ⟨_, rfl, hw⟩ (by simp [WS.len])
  have e1 : (WS.good []).put [if f then 1 else 0] = .good [(a' : Int)] := by rw [hfv]; rfl
  rw [e1, hus] at h1
  rw [hu] at h1 hB0 hB0s hK1
  have H1 := hid h1; have B0 := hid hB0; have S0 := hid hB0s; have K1 := hid hK1
  have HOF := hid (of_lt (Nat.le_succ w.heap.size))
  have HOG : Hid (¬ Of (some ⟨w.heap.size + 1, 0, none⟩) w.heap.size) := hid (fun ⟨a, e, e2⟩ => by injection e with e; subst e; simp only at e2; omega)
  have H2 : Hid (∀ y, WRep y (some ⟨w.heap.size + 1, 0, none⟩) (.good [(a' : Int)]) → Calls Try.prog 41 #[.pointer (some ⟨w.heap.size + 1, 0, none⟩), .int .u32 lam'] y fun e w' => e = .returned (.tuple #[]) ∧ WRep w' (some ⟨w.heap.size + 1, 0, none⟩) (.good ((a' : Int) :: be lam' 4)) ∧ OnlyS (Of (some ⟨w.heap.size + 1, 0, none⟩)) y w') := hid fun y hy => WU32_any _ _ lam' y hy hl (by simp [WS.len])
  have H3 : Hid (∀ y, WRep y (some ⟨w.heap.size + 1, 0, none⟩) (.good ((a' : Int) :: be lam' 4)) → Calls Try.prog 41 #[.pointer (some ⟨w.heap.size + 1, 0, none⟩), .int .u32 g'] y fun e w' => e = .returned (.tuple #[]) ∧ WRep w' (some ⟨w.heap.size + 1, 0, none⟩) (.good (val9 a' lam' g')) ∧ OnlyS (Of (some ⟨w.heap.size + 1, 0, none⟩)) y w') := hid fun y hy => WU32_any _ _ g' y hy hg (by simp [WS.len, be_length])
  have H4 : Hid (∀ y, WRep y (some ⟨w.heap.size + 1, 0, none⟩) (.good (val9 a' lam' g')) → Calls Try.prog 42 #[.pointer (some ⟨w.heap.size + 1, 0, none⟩)] y fun e w' => e = .returned (.tuple #[.slice (some ⟨y.heap.size, 0, none⟩) 9 9, .int .i64 0]) ∧ Blk w' y.heap.size 5 (u8s (val9 a' lam' g')).toArray ∧ Below y.heap.size y w') := hid fun y hy => by
    have := Out_good _ (val9 a' lam' g') y hy (by rw [val9_len]; decide)
    rw [val9_len] at this
    exact this
  have H5 : Hid (∀ y gb, Below w.heap.size w y → Blk y gb 5 (u8s (val9 a' lam' g')).toArray → Calls Try.prog 43 #[.pointer (some ⟨b, 0, none⟩), .int .i64 0, .slice (some ⟨gb, 0, none⟩) 9 9] y fun e w' => ∃ x, e = .returned (.tuple #[.int .u64 x, .int .i64 r]) ∧ Dy n0 w' b s' ∧ Kt w w' ∧ Below n0 w w' ∧ Blk w' vb 62 (vtC b S sec lam g lp op) ∧ ∀ k cs, Blk y k 57 cs → Blk w' k 57 cs) := hid fun y gb hy hb => by
    have := oSave_any (hD.below hy) (Nat.le_trans hn hy.size) hbs 0 (by decide) (some ⟨gb, 0, none⟩) 9 (val9 a' lam' g') hb.rp (by rw [val9_len]; decide) hQ
    rw [val9_len] at this
    refine this.mono ?_
    rintro e w' ⟨he, hd, hk, hbe⟩
    rw [← hr] at he
    rw [← hs'] at hd
    exact ⟨_, he, hd, (Kt.below hy).trans hk, (hy.mono hn).trans hbe, hk.vlt (h.below hy), fun k cs hk2 => hk.blk hk2 (by decide)⟩
  have HVB := hid hvb; have HNN := hid hn; have HV := hid h
  clear hf hfv hu hus hw hBu hB0 hB0s hK0 hK1 h1 e1 hr hs' hD hn hbs hQ hvb h hl hg ha z0 z1 z2 z3 z4
  unfold SvV
  by_cases hr0 : r = 0
  · subst hr0
    rw [if_pos rfl]
    go_enter Try.func24, Try.ntmps24
    go_wp2_with (first
      | (go_at_call 40; refine H1.out.mono ?_; rintro e w1 ⟨rfl, hw1, ho1⟩; have W1 := hid hw1; have K2 := hid (K1.out.same (ho1.block _ K1.out.lt HOG.out)); have B1 := hid (B0.out.trans (ho1.below (by rw [S0.out]; omega) (fun k hk => by have := HOF.out k hk; omega))); have q0w1 : w1.cell? ⟨w.heap.size, 0, none⟩ = some (.bool f) := K2.out.cell 0; have q1w1 : w1.cell? ⟨w.heap.size, 1, none⟩ = some (.int .u32 lam') := K2.out.cell 1; have q2w1 : w1.cell? ⟨w.heap.size, 2, none⟩ = some (.int .u32 g') := K2.out.cell 2; clear hw1 ho1)
      | (go_at_call 41; (with_reducible refine (H2.out _ W1.out).mono ?_); rintro e w2 ⟨rfl, hw2, ho2⟩; have W2 := hid hw2; have K3 := hid (K2.out.same (ho2.block _ K2.out.lt HOG.out)); have B2 := hid (B1.out.trans (ho2.below B1.out.size (fun k hk => by have := HOF.out k hk; omega))); have q0w2 : w2.cell? ⟨w.heap.size, 0, none⟩ = some (.bool f) := K3.out.cell 0; have q1w2 : w2.cell? ⟨w.heap.size, 1, none⟩ = some (.int .u32 lam') := K3.out.cell 1; have q2w2 : w2.cell? ⟨w.heap.size, 2, none⟩ = some (.int .u32 g') := K3.out.cell 2; clear hw2 ho2)
      | (go_at_call 41; refine (H3.out _ W2.out).mono ?_; rintro e w3 ⟨rfl, hw3, ho3⟩; have W3 := hid hw3; have K4 := hid (K3.out.same (ho3.block _ K3.out.lt HOG.out)); have B3 := hid (B2.out.trans (ho3.below B2.out.size (fun k hk => by have := HOF.out k hk; omega))); clear hw3 ho3)
      | (go_at_call 42; refine (H4.out _ W3.out).mono ?_; rintro e w4 ⟨rfl, hb4, ho4⟩; have G4 := hid hb4; have K5 := hid (K4.out.same (ho4.block _ K4.out.lt)); have B4 := hid (B3.out.trans (ho4.mono B3.out.size)); have q0w4 : w4.cell? ⟨vb, 0, none⟩ = some (.pointer (some ⟨b, 0, none⟩)) := (HV.out.below B4.out).cell 0; clear hb4 ho4)
      | (go_at_call 43; refine (H5.out _ _ B4.out G4.out).mono ?_; rintro e w5 ⟨x, rfl, hd5, hk5, hb5, hv5, hs5⟩; have D5 := hid hd5; have T5 := hid hk5; have B5 := hid hb5; have V5 := hid hv5; have K6 := hid (hs5 _ _ K5.out); have q0w5 : w5.cell? ⟨w.heap.size, 0, none⟩ = some (.bool f) := K6.out.cell 0; have q1w5 : w5.cell? ⟨w.heap.size, 1, none⟩ = some (.int .u32 lam') := K6.out.cell 1; have q2w5 : w5.cell? ⟨w.heap.size, 2, none⟩ = some (.int .u32 g') := K6.out.cell 2; have p2w5 : w5.cell? ⟨vb, 2, none⟩ = some (.bool sec) := V5.out.cell 2; have p3w5 : w5.cell? ⟨vb, 3, none⟩ = some (.int .u32 lam) := V5.out.cell 3; have p4w5 : w5.cell? ⟨vb, 4, none⟩ = some (.int .u32 g) := V5.out.cell 4; have fv2 : w5.frozen? ⟨vb, 2, none⟩ = false := V5.out.frozen 2; have fv3 : w5.frozen? ⟨vb, 3, none⟩ = false := V5.out.frozen 3; have fv4 : w5.frozen? ⟨vb, 4, none⟩ = false := V5.out.frozen 4; clear hd5 hk5 hb5 hv5 hs5))
    go_ret
    obtain ⟨k1, k2⟩ := vt_set V5.out f lam' g'
    exact ⟨rfl, D5.out.vlt k2 V5.out, k1, (Ks.of T5.out).trans (Ks.vault k2 V5.out), B5.out.trans (k2.below (Nat.le_trans HNN.out T5.out.sz) (fun k hk => by have := HVB.out; omega))⟩
  · rw [if_neg hr0]
    have g0 : (r != 0) = true := by simpa using hr0
    clear hr0
    go_enter Try.func24, Try.ntmps24
    go_wp2_with (first
      | (go_at_call 40; refine H1.out.mono ?_; rintro e w1 ⟨rfl, hw1, ho1⟩; have W1 := hid hw1; have K2 := hid (K1.out.same (ho1.block _ K1.out.lt HOG.out)); have B1 := hid (B0.out.trans (ho1.below (by rw [S0.out]; omega) (fun k hk => by have := HOF.out k hk; omega))); have q0w1 : w1.cell? ⟨w.heap.size, 0, none⟩ = some (.bool f) := K2.out.cell 0; have q1w1 : w1.cell? ⟨w.heap.size, 1, none⟩ = some (.int .u32 lam') := K2.out.cell 1; have q2w1 : w1.cell? ⟨w.heap.size, 2, none⟩ = some (.int .u32 g') := K2.out.cell 2; clear hw1 ho1)
      | (go_at_call 41; (with_reducible refine (H2.out _ W1.out).mono ?_); rintro e w2 ⟨rfl, hw2, ho2⟩; have W2 := hid hw2; have K3 := hid (K2.out.same (ho2.block _ K2.out.lt HOG.out)); have B2 := hid (B1.out.trans (ho2.below B1.out.size (fun k hk => by have := HOF.out k hk; omega))); have q0w2 : w2.cell? ⟨w.heap.size, 0, none⟩ = some (.bool f) := K3.out.cell 0; have q1w2 : w2.cell? ⟨w.heap.size, 1, none⟩ = some (.int .u32 lam') := K3.out.cell 1; have q2w2 : w2.cell? ⟨w.heap.size, 2, none⟩ = some (.int .u32 g') := K3.out.cell 2; clear hw2 ho2)
      | (go_at_call 41; refine (H3.out _ W2.out).mono ?_; rintro e w3 ⟨rfl, hw3, ho3⟩; have W3 := hid hw3; have K4 := hid (K3.out.same (ho3.block _ K3.out.lt HOG.out)); have B3 := hid (B2.out.trans (ho3.below B2.out.size (fun k hk => by have := HOF.out k hk; omega))); clear hw3 ho3)
      | (go_at_call 42; refine (H4.out _ W3.out).mono ?_; rintro e w4 ⟨rfl, hb4, ho4⟩; have G4 := hid hb4; have K5 := hid (K4.out.same (ho4.block _ K4.out.lt)); have B4 := hid (B3.out.trans (ho4.mono B3.out.size)); have q0w4 : w4.cell? ⟨vb, 0, none⟩ = some (.pointer (some ⟨b, 0, none⟩)) := (HV.out.below B4.out).cell 0; clear hb4 ho4)
      | (go_at_call 43; refine (H5.out _ _ B4.out G4.out).mono ?_; rintro e w5 ⟨x, rfl, hd5, hk5, hb5, hv5, hs5⟩; have D5 := hid hd5; have T5 := hid hk5; have B5 := hid hb5; have V5 := hid hv5; have K6 := hid (hs5 _ _ K5.out); have q0w5 : w5.cell? ⟨w.heap.size, 0, none⟩ = some (.bool f) := K6.out.cell 0; have q1w5 : w5.cell? ⟨w.heap.size, 1, none⟩ = some (.int .u32 lam') := K6.out.cell 1; have q2w5 : w5.cell? ⟨w.heap.size, 2, none⟩ = some (.int .u32 g') := K6.out.cell 2; have p2w5 : w5.cell? ⟨vb, 2, none⟩ = some (.bool sec) := V5.out.cell 2; have p3w5 : w5.cell? ⟨vb, 3, none⟩ = some (.int .u32 lam) := V5.out.cell 3; have p4w5 : w5.cell? ⟨vb, 4, none⟩ = some (.int .u32 g) := V5.out.cell 4; have fv2 : w5.frozen? ⟨vb, 2, none⟩ = false := V5.out.frozen 2; have fv3 : w5.frozen? ⟨vb, 3, none⟩ = false := V5.out.frozen 3; have fv4 : w5.frozen? ⟨vb, 4, none⟩ = false := V5.out.frozen 4; clear hd5 hk5 hb5 hv5 hs5))
    go_ret
    exact ⟨rfl, D5.out, V5.out, Ks.of T5.out, B5.out⟩
end Go.Proofs.Ythfkooancgkjaaa
/-
  What is proved here: the standing that a vault's slot tells.
-/
namespace Go.Proofs.Ythfkooancgkjaaa
open Go.ChangeShapes Go.WideShapes Go.ChangeAt Go.RowKit
set_option linter.unusedVariables false
set_option maxRecDepth 20000

theorem st_set {w : World} {g : Nat} {x y z : Value} (h : Blk w g 57 #[x, y, z]) (a b c : Value) :
    Blk (((w.setCell ⟨g, 0, none⟩ a).setCell ⟨g, 1, none⟩ b).setCell ⟨g, 2, none⟩ c) g 57 #[a, b, c] ∧ OnlyS (fun k => k = g) w (((w.setCell ⟨g, 0, none⟩ a).setCell ⟨g, 1, none⟩ b).setCell ⟨g, 2, none⟩ c) :=
  ⟨((h.setd 0 a).setd 1 b).setd 2 c, ((only_set (R := fun k => k = g) rfl _ _).trans (only_set (R := fun k => k = g) rfl _ _)).trans (only_set (R := fun k => k = g) rfl _ _)⟩
/-- what load answers -/
def LdV (w : World) (a : Nat) (lam gm : Int) (e : Ending) (w' : World) : Prop := e = .returned (.tuple #[.agg #[.bool (decide (a = 1)), .int .u32 lam, .int .u32 gm], .int .i64 0]) ∧ Below w.heap.size w w'
theorem fl_math {a : Nat} (ha : a < 2) (lam gm : Int) (hl : 0 ≤ lam ∧ lam < 4294967296) (hg : 0 ≤ gm ∧ gm < 4294967296) :
    (RS.got false (val9 a lam gm)).num 1 1 = ((a : Int), .got false (be lam 4 ++ be gm 4)) ∧ (RS.got false (be lam 4 ++ be gm 4)).num 4 4294967295 = (lam, .got false (be gm 4)) ∧ (RS.got false (be gm 4)).num 4 4294967295 = (gm, .got false []) ∧ (RS.got false []).done = true := by
  have l1 := be_length lam 4
  have l2 := be_length gm 4
  have t1 : (be lam 4 ++ be gm 4).take 4 = be lam 4 := List.take_left' l1
  have t2 : (be lam 4 ++ be gm 4).drop 4 = be gm 4 := List.drop_left' l1
  have t3 : (be gm 4).take 4 = be gm 4 := List.take_of_length_le (by omega)
  have t4 : (be gm 4).drop 4 = [] := List.drop_of_length_le (by omega)
  have v1 := val_be4' lam hl
  have v2 := val_be4' gm hg
  refine ⟨?_, ?_, ?_, by rfl⟩
  · have := num_ok (val9 a lam gm) 1 1 (by rw [val9_len]; decide) (by show val [(a : Int)] ≤ 1; rw [val_one]; omega)
    rw [this]
    show (val [(a : Int)], _) = _
    rw [val_one]
    rfl
  · rw [num_ok _ 4 _ (by rw [List.length_append]; omega) (by rw [t1, v1]; omega), t1, t2, v1]
  · rw [num_ok _ 4 _ (by omega) (by rw [t3, v2]; omega), t3, t4, v2]
theorem flag_is {a : Nat} (ha : a < 2) : (((a : Int)) == 1) = decide (a = 1) := by
  have : a = 0 ∨ a = 1 := by omega
  rcases this with rfl | rfl <;> rfl
set_option maxHeartbeats 4000000 in
theorem vtLoad_any {n0 : Nat} {w : World} {b : Nat} {s : SS} (hD : Dy n0 w b s) (hbs : s.bs) {n : Int} {v : List Int} (hld : s.ld 0 = (0, n, v)) {a : Nat} {lam gm : Int} (ht : Tel n v a lam gm) (ha : a < 2) (hlg : 1 ≤ lam ∧ lam < 4294967296 ∧ 0 ≤ gm ∧ gm < 4294967295) :
    Calls Try.prog 23 #[.pointer (some ⟨b, 0, none⟩)] w (LdV w a lam gm) := by
  have hi : Hid ((Try.prog.info? 57).map (·.size) = some 3) := by show _ = _; kernel_rfl
  have PB0 := hid (Blk.new w 57 #[.bool false, .int .u32 0, .int .u32 0])
  have hB0 : Below w.heap.size w (w.alloc (.cells #[.bool false, .int .u32 0, .int .u32 0] 57)) := (Below.refl _ _).alloc (Nat.le_refl _) _
  have SZ0 : Hid ((w.alloc (.cells #[.bool false, .int .u32 0, .int .u32 0] 57)).heap.size = w.heap.size + 1) := by show _ = _; simp
  have hcl := oLoad_any (hD.below hB0) hbs 0 (by decide)
  rw [hld] at hcl
  have CL := hid hcl
  have B0 := hid hB0
  unfold LdV
  unfold LdAns at CL
  simp only at CL
  clear hcl hld hD hbs hB0
  rcases ht with ⟨rfl, rfl, rfl, rfl⟩ | ⟨hn0, rfl, hle⟩
  · go_enter Try.func23, Try.ntmps23
    go_wp2_with (go_at_call 35; refine CL.out.mono ?_; rintro e w1 ⟨V, c1, rfl, hf, hb⟩; have B1 := hid (B0.out.trans (hb.mono (by rw [SZ0.out]; omega))); have PB := hid (PB0.out.below hb); have p0w1 : w1.cell? ⟨w.heap.size, 0, none⟩ = some (.bool false) := PB.out.cell 0; have p1w1 : w1.cell? ⟨w.heap.size, 1, none⟩ = some (.int .u32 0) := PB.out.cell 1; have p2w1 : w1.cell? ⟨w.heap.size, 2, none⟩ = some (.int .u32 0) := PB.out.cell 2; have f0 : w1.frozen? ⟨w.heap.size, 0, none⟩ = false := PB.out.frozen 0; have f1 : w1.frozen? ⟨w.heap.size, 1, none⟩ = false := PB.out.frozen 1; have f2 : w1.frozen? ⟨w.heap.size, 2, none⟩ = false := PB.out.frozen 2; clear hf hb)
    obtain ⟨k1, k2⟩ := st_set PB.out (.bool false) (.int .u32 1) (.int .u32 0)
    have HN := hid k1
    have B2 := hid (B1.out.trans (k2.below B1.out.size (fun k hk => by omega)))
    clear k1 k2
    try simp only [Exit.inBlock, Exit.then]
    refine bodyPost_ret (results_cell_slot Try.results23 _ _ w.heap.size 57 _ (0, 0) _ rfl HN.out Try.underlying57 rfl hi.out) rfl ?_
    exact ⟨rfl, B2.out⟩
  · obtain ⟨m1, m2, m3, m4⟩ := fl_math ha lam gm (by omega) (by omega)
    obtain ⟨f, hf⟩ : ∃ f, f = decide (a = 1) := ⟨_, rfl⟩
    have hbx := val9_bs ha lam gm
    have HFV := hid ((flag_is ha).trans hf.symm)
    have M1 := hid m1; have M2 := hid m2; have M3 := hid m3; have M4 := hid m4; have HB := hid hbx
    simp only [val9_len] at CL
    have gn : (n == 0) = false := by simpa using hn0
    have gl : (lam == 0) = false := by simp; omega
    have gg : (gm == 4294967295) = false := by simp; omega
    have gd : ¬ gm < lam := by omega
    rw [← hf]
    clear hf hbx m1 m2 m3 m4 hlg hle
    have CN : Hid (∀ y V c, Rp y none V (val9 a lam gm) → Calls Try.prog 36 #[.slice V 9 c] y fun e w' => ∃ g, e = .returned (.pointer (some ⟨g, 0, none⟩)) ∧ y.heap.size ≤ g ∧ RRep w' (some ⟨g, 0, none⟩) (.got false (val9 a lam gm)) ∧ Below y.heap.size y w') := hid fun y V c hr => by
      have := New_any V c (val9 a lam gm) y hr (by rw [val9_len]; decide) HB.out
      rw [val9_len] at this
      exact this
    have C1 : Hid (∀ y g, RRep y (some ⟨g, 0, none⟩) (.got false (val9 a lam gm)) → Calls Try.prog 37 #[.pointer (some ⟨g, 0, none⟩)] y fun e w' => e = .returned (.bool f) ∧ RRep w' (some ⟨g, 0, none⟩) (.got false (be lam 4 ++ be gm 4)) ∧ OnlyS (Of (some ⟨g, 0, none⟩)) y w') := hid fun y g hr => by
      have := RFlag_any _ _ y hr
      rw [M1.out] at this
      rw [← HFV.out]
      exact this
    have C2 : Hid (∀ y g, RRep y (some ⟨g, 0, none⟩) (.got false (be lam 4 ++ be gm 4)) → Calls Try.prog 38 #[.pointer (some ⟨g, 0, none⟩)] y fun e w' => e = .returned (.int .u32 lam) ∧ RRep w' (some ⟨g, 0, none⟩) (.got false (be gm 4)) ∧ OnlyS (Of (some ⟨g, 0, none⟩)) y w') := hid fun y g hr => by
      have := RU32_any _ _ y hr
      rw [M2.out] at this
      exact this
    have C3 : Hid (∀ y g, RRep y (some ⟨g, 0, none⟩) (.got false (be gm 4)) → Calls Try.prog 38 #[.pointer (some ⟨g, 0, none⟩)] y fun e w' => e = .returned (.int .u32 gm) ∧ RRep w' (some ⟨g, 0, none⟩) (.got false []) ∧ OnlyS (Of (some ⟨g, 0, none⟩)) y w') := hid fun y g hr => by
      have := RU32_any _ _ y hr
      rw [M3.out] at this
      exact this
    go_enter Try.func23, Try.ntmps23
    go_wp2_with (first
      | (go_at_call 35; refine CL.out.mono ?_; rintro e w1 ⟨V, c1, rfl, hf, hb⟩; have B1 := hid (B0.out.trans (hb.mono (by rw [SZ0.out]; omega))); have S1 := hid hb.size; have CN1 := hid (CN.out w1 V c1 hf.rp0); have PB := hid (PB0.out.below hb); clear hf hb)
      | (go_at_call 36; refine CN1.out.mono ?_; rintro e w2 ⟨g, rfl, hg, hrep, hb2⟩; have HG := hid (show w.heap.size + 1 ≤ g by have := S1.out; rw [SZ0.out] at this; omega); have B2 := hid (B1.out.trans (hb2.mono B1.out.size)); have PB2 := hid (PB.out.below hb2); have R2 := hid hrep; clear hg hrep hb2)
      | (go_at_call 37; refine (C1.out _ _ R2.out).mono ?_; rintro e w3 ⟨rfl, hrep, ho⟩; have R3 := hid hrep; have B3 := hid (B2.out.trans (ho.below B2.out.size (of_lt (by have := HG.out; omega)))); have PB3 := hid (PB2.out.same (ho.block _ PB2.out.lt (fun ⟨a, e1, e2⟩ => by injection e1 with e1; subst e1; simp only at e2; have := HG.out; omega))); clear hrep ho)
      | (go_at_call 38; (with_reducible refine (C2.out _ _ R3.out).mono ?_); rintro e w4 ⟨rfl, hrep, ho⟩; have R4 := hid hrep; have B4 := hid (B3.out.trans (ho.below B3.out.size (of_lt (by have := HG.out; omega)))); have PB4 := hid (PB3.out.same (ho.block _ PB3.out.lt (fun ⟨a, e1, e2⟩ => by injection e1 with e1; subst e1; simp only at e2; have := HG.out; omega))); clear hrep ho)
      | (go_at_call 38; refine (C3.out _ _ R4.out).mono ?_; rintro e w5 ⟨rfl, hrep, ho⟩; have R5 := hid hrep; have B5 := hid (B4.out.trans (ho.below B4.out.size (of_lt (by have := HG.out; omega)))); have hPB5 := PB4.out.same (ho.block _ PB4.out.lt (fun ⟨a, e1, e2⟩ => by injection e1 with e1; subst e1; simp only at e2; have := HG.out; omega)); have hb6 : Below w5.heap.size w5 (w5.alloc (.cells #[.bool f, .int .u32 lam, .int .u32 gm] 57)) := ((Below.refl _ _).alloc (Nat.le_refl _) _); have PB6 := hid (hPB5.below hb6); have B6 := hid (B5.out.trans (hb6.mono B5.out.size)); have CD := hid (Done_any _ _ _ (hrep.below hb6)); rw [M4.out] at CD; have p0 : (w5.alloc (.cells #[.bool f, .int .u32 lam, .int .u32 gm] 57)).cell? ⟨w.heap.size, 0, none⟩ = some (.bool false) := PB6.out.cell 0; have p1 : (w5.alloc (.cells #[.bool f, .int .u32 lam, .int .u32 gm] 57)).cell? ⟨w.heap.size, 1, none⟩ = some (.int .u32 0) := PB6.out.cell 1; have p2 : (w5.alloc (.cells #[.bool f, .int .u32 lam, .int .u32 gm] 57)).cell? ⟨w.heap.size, 2, none⟩ = some (.int .u32 0) := PB6.out.cell 2; have f0 : (w5.alloc (.cells #[.bool f, .int .u32 lam, .int .u32 gm] 57)).frozen? ⟨w.heap.size, 0, none⟩ = false := PB6.out.frozen 0; have f1 : (w5.alloc (.cells #[.bool f, .int .u32 lam, .int .u32 gm] 57)).frozen? ⟨w.heap.size, 1, none⟩ = false := PB6.out.frozen 1; have f2 : (w5.alloc (.cells #[.bool f, .int .u32 lam, .int .u32 gm] 57)).frozen? ⟨w.heap.size, 2, none⟩ = false := PB6.out.frozen 2; clear hrep ho hPB5 hb6)
      | (go_at_call 39; refine CD.out.mono ?_; rintro e wq ⟨rfl, rfl⟩))
    obtain ⟨k1, k2⟩ := st_set PB6.out (.bool f) (.int .u32 lam) (.int .u32 gm)
    have HN := hid k1
    have B7 := hid (B6.out.trans (k2.below B6.out.size (fun k hk => by omega)))
    clear k1 k2
    try simp only [Exit.inBlock, Exit.then]
    refine bodyPost_ret (results_cell_slot Try.results23 _ _ w.heap.size 57 _ (0, 0) _ rfl HN.out Try.underlying57 rfl hi.out) rfl ?_
    exact ⟨rfl, B7.out⟩
end Go.Proofs.Ythfkooancgkjaaa
/-
  What is proved here: the log that a vault's standing tells of, opened.
-/
namespace Go.Proofs.Ythfkooancgkjaaa
open Go.ChangeShapes Go.WideShapes Go.ChangeAt Go.RowKit
set_option linter.unusedVariables false
set_option maxRecDepth 20000

set_option maxHeartbeats 4000000 in
theorem vtOpenLog_any {n0 : Nat} {w : World} {b : Nat} {s : SS} (hD : Dy n0 w b s) (hbs : s.bs) (hdn : s.D = false) {vb S : Nat} {sec : Bool} {lam g : Int} {lp : Option Addr} {op : Bool} (h : Blk w vb 62 (vtC b S sec lam g lp op))
    (a' : Nat) (ha : a' < 2) (lam' g' : Int) (hfit : off S a' + S ≤ s.L.length) (hS : S ≤ 1000) (hl0 : 1 ≤ lam') (hg : lam' ≤ g' ∧ g' < 4294967296) :
    Calls Try.prog 25 #[.pointer (some ⟨vb, 0, none⟩), .agg #[.bool (decide (a' = 1)), .int .u32 lam', .int .u32 g']] w (OpA b (off S a') S g' (s.lp (off S a')) lam' w) := by
  obtain ⟨f, hf⟩ : ∃ f, f = decide (a' = 1) := ⟨_, rfl⟩
  rw [← hf]
  obtain ⟨u, hu⟩ : ∃ u, u = w.alloc (.cells #[.bool f, .int .u32 lam', .int .u32 g'] 57) := ⟨_, rfl⟩
  have hBu : Below w.heap.size w u := by rw [hu]; exact (Below.refl _ _).alloc (Nat.le_refl _) _
  have hK0 : Blk u w.heap.size 57 #[.bool f, .int .u32 lam', .int .u32 g'] := by rw [hu]; exact Blk.new _ _ _
  have hV0 := h.below hBu
  have CO : Hid (∀ y, Below u.heap.size u y → Calls Try.prog 44 #[.pointer (some ⟨b, 0, none⟩), .int .i64 (off S a' : Nat), .int .i64 S, .int .u32 lam', .int .u32 g'] y (OpA b (off S a') S g' (s.lp (off S a')) lam' y)) := hid fun y hy =>
    wOpen_any ((hD.below hBu).below hy) hbs hdn (off S a') S g' lam' hfit hS hl0 hg
  have V0 : Hid (u.cell? ⟨vb, 0, none⟩ = some (.pointer (some ⟨b, 0, none⟩))) := hid (hV0.cell 0)
  have V1 : Hid (u.cell? ⟨vb, 1, none⟩ = some (.int .i64 S)) := hid (hV0.cell 1)
  have T0 : Hid (u.cell? ⟨w.heap.size, 0, none⟩ = some (.bool f)) := hid (hK0.cell 0)
  have T1 : Hid (u.cell? ⟨w.heap.size, 1, none⟩ = some (.int .u32 lam')) := hid (hK0.cell 1)
  have T2 : Hid (u.cell? ⟨w.heap.size, 2, none⟩ = some (.int .u32 g')) := hid (hK0.cell 2)
  have HUS := hid hBu.size
  have BU := hid hBu
  have cS : w.cell? ⟨vb, 1, none⟩ = some (.int .i64 S) := h.cell 1
  unfold OpA at CO ⊢
  generalize scn (s.lp (off S a')) S S 0 lam' = SC at CO ⊢
  have HU := hid hu
  obtain ⟨o1, o2⟩ := off_at (S := S)
  have hS2 := hS
  clear hD hbs hdn hfit hS hl0 hg hK0 hV0 hBu h hu
  have ha' : a' = 0 ∨ a' = 1 := by omega
  rcases ha' with rfl | rfl
  · rw [o1] at CO ⊢
    obtain rfl : f = false := hf
    go_enter Try.func25, Try.ntmps25
    go_wp2
    rw [← HU.out]
    refine wp_region_held (S := fun w' => Hid ((fun w' => Below u.heap.size u w') w')) (by kernel_rfl) ?_
    change wpAnyH _ _ _ _ _ _ _ _ u.drew
    have Gx0 : Hid ((fun w' => Below u.heap.size u w') u.drew) := below_drew1 _
    generalize u.drew = x0 at Gx0  ⊢
    refine wpAnyH_take (i := 0) (oi := { dst := some 16, op := _, type := _, pos := _, after := _, guard := _ }) (v := ?_) rfl (by kernel_rfl) (by kernel_rfl) (by kernel_rfl) (fun _ _ _ h => h) (Or.inl ⟨by kernel_rfl, ?_⟩) Gx0 ?_
    rotate_left
    · (intro w hSw; go_simp; try with_reducible rfl)
    try simp only [Act.put, List.setIfInBounds_toArray, List.set_cons_zero, List.set_cons_succ]
    refine wpAnyH_take (i := 1) (oi := { dst := some 17, op := _, type := _, pos := _, after := _, guard := _ }) (v := ?_) rfl (by kernel_rfl) (by kernel_rfl) (by kernel_rfl) (fun _ _ _ h => h) (Or.inl ⟨by kernel_rfl, ?_⟩) Gx0 ?_
    rotate_left
    · (intro w hSw; go_simp; try with_reducible rfl)
    try simp only [Act.put, List.setIfInBounds_toArray, List.set_cons_zero, List.set_cons_succ]
    refine wpAnyH_take (i := 2) (oi := { dst := some 18, op := _, type := _, pos := _, after := _, guard := _ }) (v := ?_) rfl (by kernel_rfl) (by kernel_rfl) (by kernel_rfl) (fun _ _ _ h => h) (Or.inl ⟨by kernel_rfl, ?_⟩) Gx0 ?_
    rotate_left
    · (intro w hSw; go_simp; try with_reducible rfl)
    try simp only [Act.put, List.setIfInBounds_toArray, List.set_cons_zero, List.set_cons_succ]
    refine wpAnyH_take (i := 3) (oi := { dst := some 19, op := _, type := _, pos := _, after := _, guard := _ }) (v := ?_) rfl (by kernel_rfl) (by kernel_rfl) (by kernel_rfl) (fun _ _ _ h => h) (Or.inl ⟨by kernel_rfl, ?_⟩) Gx0 ?_
    rotate_left
    · (intro w hSw; have hc := cell_bl hSw.out V0.out; go_simp; try with_reducible rfl)
    try simp only [Act.put, List.setIfInBounds_toArray, List.set_cons_zero, List.set_cons_succ]
    refine wpAnyH_take (i := 4) (oi := { dst := some 20, op := _, type := _, pos := _, after := _, guard := _ }) (v := ?_) rfl (by kernel_rfl) (by kernel_rfl) (by kernel_rfl) (fun _ _ _ h => h) (Or.inl ⟨by kernel_rfl, ?_⟩) Gx0 ?_
    rotate_left
    · (intro w hSw; go_simp; try with_reducible rfl)
    try simp only [Act.put, List.setIfInBounds_toArray, List.set_cons_zero, List.set_cons_succ]
    refine wpAnyH_take (i := 5) (oi := { dst := some 21, op := _, type := _, pos := _, after := _, guard := _ }) (v := ?_) rfl (by kernel_rfl) (by kernel_rfl) (by kernel_rfl) (fun _ _ _ h => h) (Or.inl ⟨by kernel_rfl, ?_⟩) Gx0 ?_
    rotate_left
    · (intro w hSw; go_simp; try with_reducible rfl)
    try simp only [Act.put, List.setIfInBounds_toArray, List.set_cons_zero, List.set_cons_succ]
    refine wpAnyH_take (i := 6) (oi := { dst := some 22, op := _, type := _, pos := _, after := _, guard := _ }) (v := ?_) rfl (by kernel_rfl) (by kernel_rfl) (by kernel_rfl) (fun _ _ _ h => h) (Or.inl ⟨by kernel_rfl, ?_⟩) Gx0 ?_
    rotate_left
    · (intro w hSw; go_simp; try with_reducible rfl)
    try simp only [Act.put, List.setIfInBounds_toArray, List.set_cons_zero, List.set_cons_succ]
    refine wpAnyH_take (i := 7) (oi := { dst := some 23, op := _, type := _, pos := _, after := _, guard := _ }) (v := ?_) rfl (by kernel_rfl) (by kernel_rfl) (by kernel_rfl) (fun _ _ _ h => h) (Or.inl ⟨by kernel_rfl, ?_⟩) Gx0 ?_
    rotate_left
    · (intro w hSw; go_simp; try with_reducible rfl)
    try simp only [Act.put, List.setIfInBounds_toArray, List.set_cons_zero, List.set_cons_succ]
    refine wpAnyH_take (i := 8) (oi := { dst := some 24, op := _, type := _, pos := _, after := _, guard := _ }) (v := ?_) rfl (by kernel_rfl) (by kernel_rfl) (by kernel_rfl) (fun _ _ _ h => h) (Or.inl ⟨by kernel_rfl, ?_⟩) Gx0 ?_
    rotate_left
    · (intro w hSw; have hc := cell_bl hSw.out V1.out; go_simp; try with_reducible rfl)
    try simp only [Act.put, List.setIfInBounds_toArray, List.set_cons_zero, List.set_cons_succ]
    refine wpAnyH_take (i := 9) (oi := { dst := some 25, op := _, type := _, pos := _, after := _, guard := _ }) (v := ?_) rfl (by kernel_rfl) (by kernel_rfl) (by kernel_rfl) (fun _ _ _ h => h) (Or.inl ⟨by kernel_rfl, ?_⟩) Gx0 ?_
    rotate_left
    · (intro w hSw; go_simp; try with_reducible rfl)
    try simp only [Act.put, List.setIfInBounds_toArray, List.set_cons_zero, List.set_cons_succ]
    refine wpAnyH_take (i := 10) (oi := { dst := some 26, op := _, type := _, pos := _, after := _, guard := _ }) (v := ?_) rfl (by kernel_rfl) (by kernel_rfl) (by kernel_rfl) (fun _ _ _ h => h) (Or.inl ⟨by kernel_rfl, ?_⟩) Gx0 ?_
    rotate_left
    · (intro w hSw; have hc := cell_bl hSw.out T1.out; go_simp; try with_reducible rfl)
    try simp only [Act.put, List.setIfInBounds_toArray, List.set_cons_zero, List.set_cons_succ]
    refine wpAnyH_take (i := 11) (oi := { dst := some 27, op := _, type := _, pos := _, after := _, guard := _ }) (v := ?_) rfl (by kernel_rfl) (by kernel_rfl) (by kernel_rfl) (fun _ _ _ h => h) (Or.inl ⟨by kernel_rfl, ?_⟩) Gx0 ?_
    rotate_left
    · (intro w hSw; go_simp; try with_reducible rfl)
    try simp only [Act.put, List.setIfInBounds_toArray, List.set_cons_zero, List.set_cons_succ]
    refine wpAnyH_take (i := 12) (oi := { dst := some 28, op := _, type := _, pos := _, after := _, guard := _ }) (v := ?_) rfl (by kernel_rfl) (by kernel_rfl) (by kernel_rfl) (fun _ _ _ h => h) (Or.inl ⟨by kernel_rfl, ?_⟩) Gx0 ?_
    rotate_left
    · (intro w hSw; have hc := cell_bl hSw.out T2.out; go_simp; try with_reducible rfl)
    try simp only [Act.put, List.setIfInBounds_toArray, List.set_cons_zero, List.set_cons_succ]
    refine wpAnyH_ready (rs := [13]) (by kernel_rfl) (by simp) ?_
    refine (AllReadyH.cons (o := { dst := some 29, op := _, type := _, pos := _, after := _, guard := _ }) rfl (fun Qc hQc => ?_) AllReadyH.nil)
    go_simp
    go_at_call 44
    refine (CO.out _ Gx0.out).mono ?_
    rintro e x1 ⟨lb, V, rfl, q1, q2, q3, q4⟩
    have Gx1 := hid (Below.trans Gx0.out (q4.mono Gx0.out.size))
    have Q1 := hid (Nat.le_trans HUS.out (Nat.le_trans Gx0.out.size q1))
    have Q2 := hid q2
    have Q3 := hid (q3.raise (m' := w.heap.size) (n0 := 0) (Nat.le_trans HUS.out Gx0.out.size))
    clear q1 q2 q3 q4
    go_wp2_with fail
    refine hQc.out _ _ Gx1 (fun hHeld => ?_)
    clear hQc Qc hHeld
    try simp only [Act.put, List.setIfInBounds_toArray, List.set_cons_zero, List.set_cons_succ]
    refine wpAnyH_take (i := 14) (oi := { dst := some 30, op := _, type := _, pos := _, after := _, guard := _ }) (v := ?_) rfl (by kernel_rfl) (by kernel_rfl) (by kernel_rfl) (fun _ _ _ h => h) (Or.inl ⟨by kernel_rfl, ?_⟩) Gx1 ?_
    rotate_left
    · (intro w hSw; go_simp; try with_reducible rfl)
    try simp only [Act.put, List.setIfInBounds_toArray, List.set_cons_zero, List.set_cons_succ]
    refine wpAnyH_take (i := 15) (oi := { dst := some 31, op := _, type := _, pos := _, after := _, guard := _ }) (v := ?_) rfl (by kernel_rfl) (by kernel_rfl) (by kernel_rfl) (fun _ _ _ h => h) (Or.inl ⟨by kernel_rfl, ?_⟩) Gx1 ?_
    rotate_left
    · (intro w hSw; go_simp; try with_reducible rfl)
    try simp only [Act.put, List.setIfInBounds_toArray, List.set_cons_zero, List.set_cons_succ]
    refine wpAnyH_take (i := 16) (oi := { dst := some 32, op := _, type := _, pos := _, after := _, guard := _ }) (v := ?_) rfl (by kernel_rfl) (by kernel_rfl) (by kernel_rfl) (fun _ _ _ h => h) (Or.inl ⟨by kernel_rfl, ?_⟩) Gx1 ?_
    rotate_left
    · (intro w hSw; go_simp; try with_reducible rfl)
    try simp only [Act.put, List.setIfInBounds_toArray, List.set_cons_zero, List.set_cons_succ]
    refine wpAnyH_take (i := 17) (oi := { dst := some 4, op := _, type := _, pos := _, after := _, guard := _ }) (v := ?_) rfl (by kernel_rfl) (by kernel_rfl) (by kernel_rfl) (fun _ _ _ h => h) (Or.inl ⟨by kernel_rfl, ?_⟩) Gx1 ?_
    rotate_left
    · (intro w hSw; go_simp; try with_reducible rfl)
    try simp only [Act.put, List.setIfInBounds_toArray, List.set_cons_zero, List.set_cons_succ]
    refine wpAnyH_take (i := 18) (oi := { dst := some 5, op := _, type := _, pos := _, after := _, guard := _ }) (v := ?_) rfl (by kernel_rfl) (by kernel_rfl) (by kernel_rfl) (fun _ _ _ h => h) (Or.inl ⟨by kernel_rfl, ?_⟩) Gx1 ?_
    rotate_left
    · (intro w hSw; go_simp; try with_reducible rfl)
    try simp only [Act.put, List.setIfInBounds_toArray, List.set_cons_zero, List.set_cons_succ]
    refine wpAnyH_take (i := 19) (oi := { dst := some 6, op := _, type := _, pos := _, after := _, guard := _ }) (v := ?_) rfl (by kernel_rfl) (by kernel_rfl) (by kernel_rfl) (fun _ _ _ h => h) (Or.inl ⟨by kernel_rfl, ?_⟩) Gx1 ?_
    rotate_left
    · (intro w hSw; go_simp; try with_reducible rfl)
    try simp only [Act.put, List.setIfInBounds_toArray, List.set_cons_zero, List.set_cons_succ]
    refine wpAnyH_done (by kernel_rfl) ?_ _
    try simp only [Act.put, List.setIfInBounds_toArray, List.set_cons_zero, List.set_cons_succ]
    go_wp2
    go_ret3
    exact ⟨lb, V, rfl, Q1.out, Q2.out, Q3.out, BU.out.trans (Gx1.out.mono HUS.out)⟩
  · rw [o2] at CO ⊢
    obtain rfl : f = true := hf
    have e2 : (((2 + S : Nat) : Int)) = 2 + (S : Int) := by omega
    rw [e2] at CO
    have cS2 : (w.alloc (.cells #[.bool true, .int .u32 lam', .int .u32 g'] 57)).cell? ⟨vb, 1, none⟩ = some (.int .i64 S) := by rw [← HU.out]; exact V1.out
    clear cS
    go_enter Try.func25, Try.ntmps25
    go_wp2
    rw [← HU.out]
    refine wp_region_held (S := fun w' => Hid ((fun w' => Below u.heap.size u w') w')) (by kernel_rfl) ?_
    change wpAnyH _ _ _ _ _ _ _ _ u.drew
    have Gx0 : Hid ((fun w' => Below u.heap.size u w') u.drew) := below_drew1 _
    generalize u.drew = x0 at Gx0  ⊢
    refine wpAnyH_take (i := 0) (oi := { dst := some 16, op := _, type := _, pos := _, after := _, guard := _ }) (v := ?_) rfl (by kernel_rfl) (by kernel_rfl) (by kernel_rfl) (fun _ _ _ h => h) (Or.inl ⟨by kernel_rfl, ?_⟩) Gx0 ?_
    rotate_left
    · (intro w hSw; go_simp; try with_reducible rfl)
    try simp only [Act.put, List.setIfInBounds_toArray, List.set_cons_zero, List.set_cons_succ]
    refine wpAnyH_take (i := 1) (oi := { dst := some 17, op := _, type := _, pos := _, after := _, guard := _ }) (v := ?_) rfl (by kernel_rfl) (by kernel_rfl) (by kernel_rfl) (fun _ _ _ h => h) (Or.inl ⟨by kernel_rfl, ?_⟩) Gx0 ?_
    rotate_left
    · (intro w hSw; go_simp; try with_reducible rfl)
    try simp only [Act.put, List.setIfInBounds_toArray, List.set_cons_zero, List.set_cons_succ]
    refine wpAnyH_take (i := 2) (oi := { dst := some 18, op := _, type := _, pos := _, after := _, guard := _ }) (v := ?_) rfl (by kernel_rfl) (by kernel_rfl) (by kernel_rfl) (fun _ _ _ h => h) (Or.inl ⟨by kernel_rfl, ?_⟩) Gx0 ?_
    rotate_left
    · (intro w hSw; go_simp; try with_reducible rfl)
    try simp only [Act.put, List.setIfInBounds_toArray, List.set_cons_zero, List.set_cons_succ]
    refine wpAnyH_take (i := 3) (oi := { dst := some 19, op := _, type := _, pos := _, after := _, guard := _ }) (v := ?_) rfl (by kernel_rfl) (by kernel_rfl) (by kernel_rfl) (fun _ _ _ h => h) (Or.inl ⟨by kernel_rfl, ?_⟩) Gx0 ?_
    rotate_left
    · (intro w hSw; have hc := cell_bl hSw.out V0.out; go_simp; try with_reducible rfl)
    try simp only [Act.put, List.setIfInBounds_toArray, List.set_cons_zero, List.set_cons_succ]
    refine wpAnyH_take (i := 4) (oi := { dst := some 20, op := _, type := _, pos := _, after := _, guard := _ }) (v := ?_) rfl (by kernel_rfl) (by kernel_rfl) (by kernel_rfl) (fun _ _ _ h => h) (Or.inl ⟨by kernel_rfl, ?_⟩) Gx0 ?_
    rotate_left
    · (intro w hSw; go_simp; try with_reducible rfl)
    try simp only [Act.put, List.setIfInBounds_toArray, List.set_cons_zero, List.set_cons_succ]
    refine wpAnyH_take (i := 5) (oi := { dst := some 21, op := _, type := _, pos := _, after := _, guard := _ }) (v := ?_) rfl (by kernel_rfl) (by kernel_rfl) (by kernel_rfl) (fun _ _ _ h => h) (Or.inl ⟨by kernel_rfl, ?_⟩) Gx0 ?_
    rotate_left
    · (intro w hSw; go_simp; try with_reducible rfl)
    try simp only [Act.put, List.setIfInBounds_toArray, List.set_cons_zero, List.set_cons_succ]
    refine wpAnyH_take (i := 6) (oi := { dst := some 22, op := _, type := _, pos := _, after := _, guard := _ }) (v := ?_) rfl (by kernel_rfl) (by kernel_rfl) (by kernel_rfl) (fun _ _ _ h => h) (Or.inl ⟨by kernel_rfl, ?_⟩) Gx0 ?_
    rotate_left
    · (intro w hSw; go_simp; try with_reducible rfl)
    try simp only [Act.put, List.setIfInBounds_toArray, List.set_cons_zero, List.set_cons_succ]
    refine wpAnyH_take (i := 7) (oi := { dst := some 23, op := _, type := _, pos := _, after := _, guard := _ }) (v := ?_) rfl (by kernel_rfl) (by kernel_rfl) (by kernel_rfl) (fun _ _ _ h => h) (Or.inl ⟨by kernel_rfl, ?_⟩) Gx0 ?_
    rotate_left
    · (intro w hSw; go_simp; try with_reducible rfl)
    try simp only [Act.put, List.setIfInBounds_toArray, List.set_cons_zero, List.set_cons_succ]
    refine wpAnyH_take (i := 8) (oi := { dst := some 24, op := _, type := _, pos := _, after := _, guard := _ }) (v := ?_) rfl (by kernel_rfl) (by kernel_rfl) (by kernel_rfl) (fun _ _ _ h => h) (Or.inl ⟨by kernel_rfl, ?_⟩) Gx0 ?_
    rotate_left
    · (intro w hSw; have hc := cell_bl hSw.out V1.out; go_simp; try with_reducible rfl)
    try simp only [Act.put, List.setIfInBounds_toArray, List.set_cons_zero, List.set_cons_succ]
    refine wpAnyH_take (i := 9) (oi := { dst := some 25, op := _, type := _, pos := _, after := _, guard := _ }) (v := ?_) rfl (by kernel_rfl) (by kernel_rfl) (by kernel_rfl) (fun _ _ _ h => h) (Or.inl ⟨by kernel_rfl, ?_⟩) Gx0 ?_
    rotate_left
    · (intro w hSw; go_simp; try with_reducible rfl)
    try simp only [Act.put, List.setIfInBounds_toArray, List.set_cons_zero, List.set_cons_succ]
    refine wpAnyH_take (i := 10) (oi := { dst := some 26, op := _, type := _, pos := _, after := _, guard := _ }) (v := ?_) rfl (by kernel_rfl) (by kernel_rfl) (by kernel_rfl) (fun _ _ _ h => h) (Or.inl ⟨by kernel_rfl, ?_⟩) Gx0 ?_
    rotate_left
    · (intro w hSw; have hc := cell_bl hSw.out T1.out; go_simp; try with_reducible rfl)
    try simp only [Act.put, List.setIfInBounds_toArray, List.set_cons_zero, List.set_cons_succ]
    refine wpAnyH_take (i := 11) (oi := { dst := some 27, op := _, type := _, pos := _, after := _, guard := _ }) (v := ?_) rfl (by kernel_rfl) (by kernel_rfl) (by kernel_rfl) (fun _ _ _ h => h) (Or.inl ⟨by kernel_rfl, ?_⟩) Gx0 ?_
    rotate_left
    · (intro w hSw; go_simp; try with_reducible rfl)
    try simp only [Act.put, List.setIfInBounds_toArray, List.set_cons_zero, List.set_cons_succ]
    refine wpAnyH_take (i := 12) (oi := { dst := some 28, op := _, type := _, pos := _, after := _, guard := _ }) (v := ?_) rfl (by kernel_rfl) (by kernel_rfl) (by kernel_rfl) (fun _ _ _ h => h) (Or.inl ⟨by kernel_rfl, ?_⟩) Gx0 ?_
    rotate_left
    · (intro w hSw; have hc := cell_bl hSw.out T2.out; go_simp; try with_reducible rfl)
    try simp only [Act.put, List.setIfInBounds_toArray, List.set_cons_zero, List.set_cons_succ]
    refine wpAnyH_ready (rs := [13]) (by kernel_rfl) (by simp) ?_
    refine (AllReadyH.cons (o := { dst := some 29, op := _, type := _, pos := _, after := _, guard := _ }) rfl (fun Qc hQc => ?_) AllReadyH.nil)
    go_simp
    go_at_call 44
    refine (CO.out _ Gx0.out).mono ?_
    rintro e x1 ⟨lb, V, rfl, q1, q2, q3, q4⟩
    have Gx1 := hid (Below.trans Gx0.out (q4.mono Gx0.out.size))
    have Q1 := hid (Nat.le_trans HUS.out (Nat.le_trans Gx0.out.size q1))
    have Q2 := hid q2
    have Q3 := hid (q3.raise (m' := w.heap.size) (n0 := 0) (Nat.le_trans HUS.out Gx0.out.size))
    clear q1 q2 q3 q4
    go_wp2_with fail
    refine hQc.out _ _ Gx1 (fun hHeld => ?_)
    clear hQc Qc hHeld
    try simp only [Act.put, List.setIfInBounds_toArray, List.set_cons_zero, List.set_cons_succ]
    refine wpAnyH_take (i := 14) (oi := { dst := some 30, op := _, type := _, pos := _, after := _, guard := _ }) (v := ?_) rfl (by kernel_rfl) (by kernel_rfl) (by kernel_rfl) (fun _ _ _ h => h) (Or.inl ⟨by kernel_rfl, ?_⟩) Gx1 ?_
    rotate_left
    · (intro w hSw; go_simp; try with_reducible rfl)
    try simp only [Act.put, List.setIfInBounds_toArray, List.set_cons_zero, List.set_cons_succ]
    refine wpAnyH_take (i := 15) (oi := { dst := some 31, op := _, type := _, pos := _, after := _, guard := _ }) (v := ?_) rfl (by kernel_rfl) (by kernel_rfl) (by kernel_rfl) (fun _ _ _ h => h) (Or.inl ⟨by kernel_rfl, ?_⟩) Gx1 ?_
    rotate_left
    · (intro w hSw; go_simp; try with_reducible rfl)
    try simp only [Act.put, List.setIfInBounds_toArray, List.set_cons_zero, List.set_cons_succ]
    refine wpAnyH_take (i := 16) (oi := { dst := some 32, op := _, type := _, pos := _, after := _, guard := _ }) (v := ?_) rfl (by kernel_rfl) (by kernel_rfl) (by kernel_rfl) (fun _ _ _ h => h) (Or.inl ⟨by kernel_rfl, ?_⟩) Gx1 ?_
    rotate_left
    · (intro w hSw; go_simp; try with_reducible rfl)
    try simp only [Act.put, List.setIfInBounds_toArray, List.set_cons_zero, List.set_cons_succ]
    refine wpAnyH_take (i := 17) (oi := { dst := some 4, op := _, type := _, pos := _, after := _, guard := _ }) (v := ?_) rfl (by kernel_rfl) (by kernel_rfl) (by kernel_rfl) (fun _ _ _ h => h) (Or.inl ⟨by kernel_rfl, ?_⟩) Gx1 ?_
    rotate_left
    · (intro w hSw; go_simp; try with_reducible rfl)
    try simp only [Act.put, List.setIfInBounds_toArray, List.set_cons_zero, List.set_cons_succ]
    refine wpAnyH_take (i := 18) (oi := { dst := some 5, op := _, type := _, pos := _, after := _, guard := _ }) (v := ?_) rfl (by kernel_rfl) (by kernel_rfl) (by kernel_rfl) (fun _ _ _ h => h) (Or.inl ⟨by kernel_rfl, ?_⟩) Gx1 ?_
    rotate_left
    · (intro w hSw; go_simp; try with_reducible rfl)
    try simp only [Act.put, List.setIfInBounds_toArray, List.set_cons_zero, List.set_cons_succ]
    refine wpAnyH_take (i := 19) (oi := { dst := some 6, op := _, type := _, pos := _, after := _, guard := _ }) (v := ?_) rfl (by kernel_rfl) (by kernel_rfl) (by kernel_rfl) (fun _ _ _ h => h) (Or.inl ⟨by kernel_rfl, ?_⟩) Gx1 ?_
    rotate_left
    · (intro w hSw; go_simp; try with_reducible rfl)
    try simp only [Act.put, List.setIfInBounds_toArray, List.set_cons_zero, List.set_cons_succ]
    refine wpAnyH_done (by kernel_rfl) ?_ _
    try simp only [Act.put, List.setIfInBounds_toArray, List.set_cons_zero, List.set_cons_succ]
    go_wp2
    go_ret3
    exact ⟨lb, V, rfl, Q1.out, Q2.out, Q3.out, BU.out.trans (Gx1.out.mono HUS.out)⟩
end Go.Proofs.Ythfkooancgkjaaa
/-
  What is proved here: opening a vault.
-/
namespace Go.Proofs.Ythfkooancgkjaaa
open Go.ChangeShapes Go.WideShapes Go.ChangeAt Go.RowKit
set_option linter.unusedVariables false
set_option maxRecDepth 20000

/-- what Open answers, and leaves -/
def OpV (n0 b S a : Nat) (lam g : Int) (s : SS) (all : List (List Int)) (w : World) (e : Ending) (w' : World) : Prop :=
  ((s.sv 0 (val9 a lam g)).1 = 0 ∧ ∃ vb lb V, e = .returned (.tuple #[.pointer (some ⟨vb, 0, none⟩), V, .int .i64 0]) ∧ w.heap.size ≤ vb ∧ w.heap.size ≤ lb ∧ Blk w' vb 62 (vtC b S (decide (a = 1)) lam g (some ⟨lb, 0, none⟩) true) ∧
    Blk w' lb 90 (lgC b (off S a) S ⟨g, (scn ((s.sv 0 (val9 a lam g)).2.2.lp (off S a)) S S 0 lam).2.1, false⟩) ∧ AllM w.heap.size 0 w' all V ∧ Dy n0 w' b (s.sv 0 (val9 a lam g)).2.2 ∧ Ks w w' ∧ Below n0 w w') ∨
  ((s.sv 0 (val9 a lam g)).1 ≠ 0 ∧ e = .returned (.tuple #[.pointer none, .slice none 0 0, .int .i64 (s.sv 0 (val9 a lam g)).1]) ∧ Dy n0 w' b (s.sv 0 (val9 a lam g)).2.2 ∧ Ks w w' ∧ Below n0 w w')
theorem VR.ld {T S : Nat} {s : SS} {n : Int} {a : Nat} {lam gm : Int} {all : List (List Int)} (h : VR T S s n a lam gm all) : ∃ v, s.ld 0 = (0, n, v) ∧ Tel n v a lam gm := by
  obtain ⟨v, h1, h2⟩ := h.sc
  exact ⟨v, sc_ld h1 h.d, h2⟩
set_option maxHeartbeats 4000000 in
theorem vtOpen_any {n0 : Nat} {w : World} {b : Nat} {s : SS} (hD : Dy n0 w b s) (hn0 : n0 ≤ w.heap.size) (hbs : s.bs) {T S : Nat} {n : Int} {a : Nat} {lam gm : Int} {all : List (List Int)} (h : VR T S s n a lam gm all)
    (hS : (T - 2) / 2 = S) (hS0 : 1 ≤ S) (hS1 : S ≤ 1000) (hn : n + 1 < 18446744073709551616) (hg : gm + 1 < 4294967295) :
    Calls Try.prog 9 #[.pointer (some ⟨b, 0, none⟩)] w (OpV n0 b S a lam (gm + 1) s all w) := by
  obtain ⟨v, hld, ht⟩ := h.ld
  have hlg := h.lg
  have ha2 := h.a2
  have hT := h.len
  have hfit := h.fit
  have hTb : T ≤ 4096 := by have := hD.ok.2.2; omega
  have CL := hid (vtLoad_any hD hbs hld ht ha2 (by omega))
  have CP : Hid (∀ y, Below w.heap.size w y → Calls Try.prog 22 #[.pointer (some ⟨b, 0, none⟩)] y fun e w' => e = .returned (.int .i64 (T : Nat)) ∧ y = w') := hid fun y hy => by
    rw [← hT]; exact (hD.below hy).pages
  obtain ⟨g1, hg1⟩ : ∃ g1, g1 = gm + 1 := ⟨_, rfl⟩
  have eg : IntKind.u32.wrap (gm + 1) = g1 := by show (gm + 1) % 4294967296 = g1; omega
  have eq : ((T : Int) - 2).tdiv 2 = (S : Int) := by rw [Int.tdiv_eq_ediv_of_nonneg (show (0 : Int) ≤ (T : Int) - 2 by omega)]; omega
  have g4 : ¬ (T : Int) < 4 := by omega
  obtain ⟨f, hf⟩ : ∃ f, f = decide (a = 1) := ⟨_, rfl⟩
  obtain ⟨r, hr⟩ : ∃ r, r = (s.sv 0 (val9 a lam g1)).1 := ⟨_, rfl⟩
  obtain ⟨s', hs'⟩ : ∃ s', s' = (s.sv 0 (val9 a lam g1)).2.2 := ⟨_, rfl⟩
  unfold LdV at CL
  rw [← hf] at CL
  have CPW := hid (CP.out w (Below.refl _ _))
  have HF := hid hf; have HR := hid hr; have HS' := hid hs'; have HHD := hid hD; have HH := hid h; have HBS := hid hbs
  obtain ⟨k0, h0⟩ : ∃ k0 : Nat, k0 = s.Q.length := ⟨_, rfl⟩
  have CS : Hid (∀ y vb, Below w.heap.size w y → w.heap.size ≤ vb → Blk y vb 62 (vtC b S false 0 0 none true) → Calls Try.prog 24 #[.pointer (some ⟨vb, 0, none⟩), .agg #[.bool f, .int .u32 lam, .int .u32 g1]] y (SvV n0 b vb r s' (vtC b S false 0 0 none true) (vtC b S f lam g1 none true) y)) := hid fun y vb hy hvb hb => by
    have := vtSave_any (hD.below hy) (Nat.le_trans hn0 hy.size) hbs (by rw [h.q]; decide) vb S (Nat.le_trans hn0 hvb) hb a ha2 lam g1 (by omega) (by omega) r s' hr hs'
    rw [← hf] at this
    exact this
  have CO : Hid (r = 0 → ∀ y vb, Dy n0 y b s' → Blk y vb 62 (vtC b S f lam g1 none true) → Calls Try.prog 25 #[.pointer (some ⟨vb, 0, none⟩), .agg #[.bool f, .int .u32 lam, .int .u32 g1]] y (OpA b (off S a) S g1 (s'.lp (off S a)) lam y)) := hid fun h0 y vb hd hb => by
    obtain ⟨u1, u2⟩ := vr_up h hn (by omega) (by rw [← hg1, ← hr]; exact h0)
    rw [← hg1] at u1
    rw [← hs'] at u1
    have := vtOpenLog_any hd (by rw [hs']; exact SS.sv_bs hbs 0 _ (val9_bs ha2 _ _)) u1.d hb a ha2 lam g1 (by rw [u1.len]; exact off_fit hfit ha2) hS1 hlg.1 (by omega)
    rw [← hf] at this
    exact this
  have HAL : Hid (r = 0 → (scn (s'.lp (off S a)) S S 0 lam).1 = all) := hid fun h0 => by
    obtain ⟨u1, u2⟩ := vr_up h hn (by omega) (by rw [← hg1, ← hr]; exact h0)
    rw [← hg1] at u1
    rw [← hs'] at u1
    exact u1.al
  unfold OpV
  rw [← hg1, ← hr, ← hs', ← hf]
  have HN0 := hid hn0
  clear hn0 h0 hf hr hs' hD h hbs hld ht hT ha2 hfit hS hlg
  clear hg1
  by_cases hr0 : r = 0
  · have HR0 := hid hr0
    subst hr0
    go_enter Try.func9, Try.ntmps9
    go_wp2_with (first
      | (go_at_call 22; (with_reducible refine CPW.out.mono ?_); rintro e wq ⟨rfl, rfl⟩)
      | (go_at_call 23; refine CL.out.mono ?_; rintro e w1 ⟨rfl, hb⟩; have B2 := hid (hb.trans (((Below.refl _ _).alloc (Nat.le_refl _) (.cells #[.bool f, .int .u32 lam, .int .u32 g1] 57)).mono hb.size)); have CP2 := hid (CP.out _ B2.out); clear hb)
      | (go_at_call 22; refine CP2.out.mono ?_; rintro e wq ⟨rfl, hwq⟩; have hk : Blk wq w1.heap.size 57 #[.bool f, .int .u32 lam, .int .u32 g1] := (by rw [← hwq]; exact Blk.new _ _ _); have hb3 : Below wq.heap.size wq (wq.alloc (.cells #[.pointer (some ⟨b, 0, none⟩), .int .i64 S, .bool false, .int .u32 0, .int .u32 0, .pointer none, .bool true] 62)) := (Below.refl _ _).alloc (Nat.le_refl _) _; have hk3 := hk.below hb3; have z0 : (wq.alloc (.cells #[.pointer (some ⟨b, 0, none⟩), .int .i64 S, .bool false, .int .u32 0, .int .u32 0, .pointer none, .bool true] 62)).cell? ⟨w1.heap.size, 0, none⟩ = some (.bool f) := hk3.cell 0; have z1 : (wq.alloc (.cells #[.pointer (some ⟨b, 0, none⟩), .int .i64 S, .bool false, .int .u32 0, .int .u32 0, .pointer none, .bool true] 62)).cell? ⟨w1.heap.size, 1, none⟩ = some (.int .u32 lam) := hk3.cell 1; have z2 : (wq.alloc (.cells #[.pointer (some ⟨b, 0, none⟩), .int .i64 S, .bool false, .int .u32 0, .int .u32 0, .pointer none, .bool true] 62)).cell? ⟨w1.heap.size, 2, none⟩ = some (.int .u32 g1) := hk3.cell 2; have BQ : Hid (Below w.heap.size w wq) := (by show Below _ _ _; rw [← hwq]; exact B2.out); have B3 := hid (BQ.out.trans (hb3.mono BQ.out.size)); have K3 := hid hk3; have CS3 := hid (CS.out _ _ B3.out BQ.out.size (Blk.new wq 62 _)); clear hwq hk hb3 hk3)
      | (go_at_call 24; go_loud (refine CS3.out.mono ?_; rintro e w4 ⟨rfl, h4a, h4b, h4c, h4d⟩; have D4 := hid h4a; rw [if_pos rfl] at h4b; have V4 := hid h4b; have K4 := hid (K3.out.same (h4c.bl _ _ _ K3.out (by decide) (by decide))); have Z4 := hid ((Ks.below B3.out).trans h4c); have B4 := hid ((B3.out.mono HN0.out).trans h4d); have z04 : w4.cell? ⟨w1.heap.size, 0, none⟩ = some (.bool f) := K4.out.cell 0; have z14 : w4.cell? ⟨w1.heap.size, 1, none⟩ = some (.int .u32 lam) := K4.out.cell 1; have z24 : w4.cell? ⟨w1.heap.size, 2, none⟩ = some (.int .u32 g1) := K4.out.cell 2; have CO4 := hid (CO.out trivial w4 wq.heap.size h4a h4b); clear h4a h4b h4c h4d))
      | (go_at_call 25; go_loud (refine CO4.out.mono ?_; rintro e w5 ⟨lb, V, rfl, q1, q2, q3, q4⟩; have D5 := hid (D4.out.below q4); have V5 := hid (V4.out.below q4); have L5 := hid q2; have A5 := hid (q3.raise (m' := w.heap.size) (n0 := 0) Z4.out.sz); have Z5 := hid (Z4.out.trans (Ks.below q4)); have B5 := hid (B4.out.trans (q4.mono (Nat.le_trans HN0.out Z4.out.sz))); have QL := hid (Nat.le_trans Z4.out.sz q1); have v5w5 : w5.cell? ⟨wq.heap.size, 5, none⟩ = some (.pointer none) := V5.out.cell 5; have f5w5 : w5.frozen? ⟨wq.heap.size, 5, none⟩ = false := V5.out.frozen 5; clear q1 q2 q3 q4)))
    go_ret3
    have k1 := V5.out.setd 5 (.pointer (some ⟨lb, 0, none⟩))
    have k2 : OnlyS (fun k => k = wq.heap.size) w5 (w5.setCell ⟨wq.heap.size, 5, none⟩ (.pointer (some ⟨lb, 0, none⟩))) := only_set (R := fun k => k = wq.heap.size) rfl _ _
    have hb6 := k2.below (Nat.le_trans HN0.out Z5.out.sz) (fun k hk => by have := BQ.out.size; have := HN0.out; omega)
    have hb60 : Below 0 w5 (w5.setCell ⟨wq.heap.size, 5, none⟩ (.pointer (some ⟨lb, 0, none⟩))) := hb6.mono (Nat.zero_le _)
    refine .inl ⟨trivial, wq.heap.size, lb, V, rfl, BQ.out.size, QL.out, k1, k2.log V5.out L5.out, ?_, D5.out.vlt k2 V5.out, Z5.out.trans (Ks.vault k2 V5.out), B5.out.trans hb6⟩
    rw [← HAL.out trivial]
    exact A5.out.keepv (Kv.vault k2 V5.out) hb60
  · have g0 : (r != 0) = true := by simpa using hr0
    have HR0 := hid hr0
    clear hr0
    go_enter Try.func9, Try.ntmps9
    go_wp2_with (first
      | (go_at_call 22; (with_reducible refine CPW.out.mono ?_); rintro e wq ⟨rfl, rfl⟩)
      | (go_at_call 23; refine CL.out.mono ?_; rintro e w1 ⟨rfl, hb⟩; have B2 := hid (hb.trans (((Below.refl _ _).alloc (Nat.le_refl _) (.cells #[.bool f, .int .u32 lam, .int .u32 g1] 57)).mono hb.size)); have CP2 := hid (CP.out _ B2.out); clear hb)
      | (go_at_call 22; refine CP2.out.mono ?_; rintro e wq ⟨rfl, hwq⟩; have hk : Blk wq w1.heap.size 57 #[.bool f, .int .u32 lam, .int .u32 g1] := (by rw [← hwq]; exact Blk.new _ _ _); have hb3 : Below wq.heap.size wq (wq.alloc (.cells #[.pointer (some ⟨b, 0, none⟩), .int .i64 S, .bool false, .int .u32 0, .int .u32 0, .pointer none, .bool true] 62)) := (Below.refl _ _).alloc (Nat.le_refl _) _; have hk3 := hk.below hb3; have z0 : (wq.alloc (.cells #[.pointer (some ⟨b, 0, none⟩), .int .i64 S, .bool false, .int .u32 0, .int .u32 0, .pointer none, .bool true] 62)).cell? ⟨w1.heap.size, 0, none⟩ = some (.bool f) := hk3.cell 0; have z1 : (wq.alloc (.cells #[.pointer (some ⟨b, 0, none⟩), .int .i64 S, .bool false, .int .u32 0, .int .u32 0, .pointer none, .bool true] 62)).cell? ⟨w1.heap.size, 1, none⟩ = some (.int .u32 lam) := hk3.cell 1; have z2 : (wq.alloc (.cells #[.pointer (some ⟨b, 0, none⟩), .int .i64 S, .bool false, .int .u32 0, .int .u32 0, .pointer none, .bool true] 62)).cell? ⟨w1.heap.size, 2, none⟩ = some (.int .u32 g1) := hk3.cell 2; have BQ : Hid (Below w.heap.size w wq) := (by show Below _ _ _; rw [← hwq]; exact B2.out); have B3 := hid (BQ.out.trans (hb3.mono BQ.out.size)); have K3 := hid hk3; have CS3 := hid (CS.out _ _ B3.out BQ.out.size (Blk.new wq 62 _)); clear hwq hk hb3 hk3)
      | (go_at_call 24; refine CS3.out.mono ?_; rintro e w4 ⟨rfl, h4a, h4b, h4c, h4d⟩; have D4 := hid h4a; have V4 := hid h4b; have K4 := hid (K3.out.same (h4c.bl _ _ _ K3.out (by decide) (by decide))); have Z4 := hid ((Ks.below B3.out).trans h4c); have B4 := hid ((B3.out.mono HN0.out).trans h4d); have z04 : w4.cell? ⟨w1.heap.size, 0, none⟩ = some (.bool f) := K4.out.cell 0; have z14 : w4.cell? ⟨w1.heap.size, 1, none⟩ = some (.int .u32 lam) := K4.out.cell 1; have z24 : w4.cell? ⟨w1.heap.size, 2, none⟩ = some (.int .u32 g1) := K4.out.cell 2; clear h4a h4b h4c h4d))
    go_ret3
    exact .inr ⟨HR0.out, rfl, D4.out, Z4.out, B4.out⟩
end Go.Proofs.Ythfkooancgkjaaa
/-
  What is proved here: a record that is put into a vault; letting all last; where a vault isn't opened.
-/
namespace Go.Proofs.Ythfkooancgkjaaa
open Go.ChangeShapes Go.WideShapes Go.ChangeAt Go.RowKit
set_option linter.unusedVariables false
set_option maxRecDepth 20000

/-- what Append and Flush answer, and leave -/
def ApV (n0 b vb lb S a : Nat) (sec : Bool) (lam g : Int) (y : Int × SS × LS) (w : World) (e : Ending) (w' : World) : Prop :=
  e = .returned (.int .i64 y.1) ∧ Dy n0 w' b y.2.1 ∧ Blk w' lb 90 (lgC b a S y.2.2) ∧ Blk w' vb 62 (vtC b S sec lam g (some ⟨lb, 0, none⟩) (decide (y.1 ≠ 6))) ∧ Kv w w' ∧ Below n0 w w'
theorem apv_of {n0 : Nat} {w w1 w2 : World} {b vb lb S a : Nat} {sec : Bool} {lam g : Int} {y : Int × SS × LS} (hn : n0 ≤ w.heap.size) (hvb : n0 ≤ vb) (h1 : Dy n0 w1 b y.2.1) (h2 : Blk w1 lb 90 (lgC b a S y.2.2)) (h3 : Kx w w1) (h4 : Below n0 w w1)
    (hv : Blk w1 vb 62 (vtC b S sec lam g (some ⟨lb, 0, none⟩) true)) (k1 : Blk w2 vb 62 (vtC b S sec lam g (some ⟨lb, 0, none⟩) (true && decide (y.1 ≠ 6)))) (k2 : OnlyS (fun k => k = vb) w1 w2) : ApV n0 b vb lb S a sec lam g y w (.returned (.int .i64 y.1)) w2 := by
  rw [Bool.true_and] at k1
  exact ⟨rfl, h1.vlt k2 hv, k2.log hv h2, k1, (Kv.of h3).trans (Kv.vault k2 hv), h4.trans (k2.below (Nat.le_trans hn h3.sz) (fun k hk => by omega))⟩
section
variable {n0 : Nat} {w : World} {b : Nat} {s : SS} {vb lb S : Nat} {sec : Bool} {lam g : Int} {lp : Option Addr}
theorem vtAppend_over (h : Blk w vb 62 (vtC b S sec lam g lp false)) (A : Option Addr) (n c : Nat) : Calls Try.prog 11 #[.pointer (some ⟨vb, 0, none⟩), .slice A n c] w fun e w' => e = .returned (.int .i64 6) ∧ w = w' := by
  have CO := hid (vtIsOver_any h)
  clear h
  go_enter Try.func11, Try.ntmps11
  go_wp2_with (go_at_call 26; refine CO.out.mono ?_; rintro e wq ⟨rfl, rfl⟩)
  go_ret
  exact ⟨rfl, rfl⟩
theorem vtFlush_over (h : Blk w vb 62 (vtC b S sec lam g lp false)) : Calls Try.prog 12 #[.pointer (some ⟨vb, 0, none⟩)] w fun e w' => e = .returned (.int .i64 6) ∧ w = w' := by
  have CO := hid (vtIsOver_any h)
  clear h
  go_enter Try.func12, Try.ntmps12
  go_wp2_with (go_at_call 26; refine CO.out.mono ?_; rintro e wq ⟨rfl, rfl⟩)
  go_ret
  exact ⟨rfl, rfl⟩
theorem vtReplace_over (h : Blk w vb 62 (vtC b S sec lam g lp false)) (A : Option Addr) (n c : Nat) : Calls Try.prog 14 #[.pointer (some ⟨vb, 0, none⟩), .slice A n c] w fun e w' => e = .returned (.int .i64 6) ∧ w = w' := by
  have CO := hid (vtIsOver_any h)
  clear h
  go_enter Try.func14, Try.ntmps14
  go_wp2_with (go_at_call 26; refine CO.out.mono ?_; rintro e wq ⟨rfl, rfl⟩)
  go_ret
  exact ⟨rfl, rfl⟩
set_option maxHeartbeats 1000000 in
theorem vtAppend_up {a : Nat} {l : LS} (hD : Dy n0 w b s) (hn : n0 ≤ w.heap.size) (hvb : n0 ≤ vb) (hlb : n0 ≤ lb) (hv : Blk w vb 62 (vtC b S sec lam g (some ⟨lb, 0, none⟩) true)) (hl : Blk w lb 90 (lgC b a S l)) (hc : S ≤ 4096) (ha : a ≤ 4096) (hu : l.n ≤ S) (hg : 0 ≤ l.g ∧ l.g < 4294967296)
    (B : Option Addr) (m cx : Nat) (xs : List Int) (hm : m = xs.length) (hr : Rp w none B xs) (hr2 : 110 < m → Src n0 w B xs) (hmc : m ≤ cx) (hmb : m ≤ 9223372036854775807) (hQ : s.Q.length < 900000) :
    Calls Try.prog 11 #[.pointer (some ⟨vb, 0, none⟩), .slice B m cx] w (ApV n0 b vb lb S a sec lam g (s.ap a S l xs) w) := by
  have CO := hid (vtIsOver_any hv)
  have CA := hid (wAppend_any hD hn lb a S l hlb hl hc ha hu hg B m cx xs hm hr hr2 hmc hmb hQ)
  have c5 : w.cell? ⟨vb, 5, none⟩ = some (.pointer (some ⟨lb, 0, none⟩)) := hv.cell 5
  have HV := hid hv; have HN := hid hn; have HVB := hid hvb
  obtain ⟨y, hy⟩ : ∃ y, y = s.ap a S l xs := ⟨_, rfl⟩
  rw [← hy] at CA ⊢
  clear hD hn hvb hlb hv hl hc ha hu hg hm hr hr2 hmc hmb hQ hy
  obtain ⟨r, s', l'⟩ := y
  unfold ApA at CA
  simp only at CA
  go_enter Try.func11, Try.ntmps11
  go_wp2_with (first
    | (go_at_call 26; refine CO.out.mono ?_; rintro e wq ⟨rfl, rfl⟩)
    | (go_at_call 28; refine CA.out.mono ?_; rintro e w1 ⟨rfl, h1, h2, h3, h4⟩; have D1 := hid h1; have L1 := hid h2; have K1 := hid h3; have B1 := hid h4; have V1 := hid (h3.vlt HV.out); have CR := hid (vtRefuse_any V1.out r); clear h1 h2 h3 h4)
    | (go_at_call 27; refine CR.out.mono ?_; rintro e w2 ⟨rfl, k1, k2⟩; have K2 := hid k1; have O2 := hid k2; clear k1 k2))
  go_ret
  exact apv_of (y := (r, s', l')) HN.out HVB.out D1.out L1.out K1.out B1.out V1.out K2.out O2.out
set_option maxHeartbeats 1000000 in
theorem vtFlush_up {a : Nat} {l : LS} (hD : Dy n0 w b s) (hn : n0 ≤ w.heap.size) (hvb : n0 ≤ vb) (hlb : n0 ≤ lb) (hv : Blk w vb 62 (vtC b S sec lam g (some ⟨lb, 0, none⟩) true)) (hl : Blk w lb 90 (lgC b a S l)) :
    Calls Try.prog 12 #[.pointer (some ⟨vb, 0, none⟩)] w (ApV n0 b vb lb S a sec lam g (s.lf l) w) := by
  have CO := hid (vtIsOver_any hv)
  have CA := hid (wFlush_any hD hn lb a S l hlb hl)
  have c5 : w.cell? ⟨vb, 5, none⟩ = some (.pointer (some ⟨lb, 0, none⟩)) := hv.cell 5
  have HV := hid hv; have HN := hid hn; have HVB := hid hvb
  obtain ⟨y, hy⟩ : ∃ y, y = s.lf l := ⟨_, rfl⟩
  rw [← hy] at CA ⊢
  clear hD hn hvb hlb hv hl hy
  obtain ⟨r, s', l'⟩ := y
  unfold ApA at CA
  simp only at CA
  go_enter Try.func12, Try.ntmps12
  go_wp2_with (first
    | (go_at_call 26; refine CO.out.mono ?_; rintro e wq ⟨rfl, rfl⟩)
    | (go_at_call 29; refine CA.out.mono ?_; rintro e w1 ⟨rfl, h1, h2, h3, h4⟩; have D1 := hid h1; have L1 := hid h2; have K1 := hid h3; have B1 := hid h4; have V1 := hid (h3.vlt HV.out); have CR := hid (vtRefuse_any V1.out r); clear h1 h2 h3 h4)
    | (go_at_call 27; refine CR.out.mono ?_; rintro e w2 ⟨rfl, k1, k2⟩; have K2 := hid k1; have O2 := hid k2; clear k1 k2))
  go_ret
  exact apv_of (y := (r, s', l')) HN.out HVB.out D1.out L1.out K1.out B1.out V1.out K2.out O2.out
end
theorem vtOpen_few {p : Option Addr} {w : World} {n : Nat} (hn : n < 4) (h : Calls Try.prog 22 #[.pointer p] w fun e w' => e = .returned (.int .i64 n) ∧ w = w') : Calls Try.prog 9 #[.pointer p] w fun e w' => e = .returned (.tuple #[.pointer none, .slice none 0 0, .int .i64 1]) ∧ w = w' := by
  have CP := hid h
  have g1 : (n : Int) < 4 := by omega
  clear h
  go_enter Try.func9, Try.ntmps9
  go_wp2_with (go_at_call 22; refine CP.out.mono ?_; rintro e wq ⟨rfl, rfl⟩)
  go_ret3
  exact ⟨rfl, rfl⟩
end Go.Proofs.Ythfkooancgkjaaa
/-
  What is proved here: records that are put in the place of all others, behind the checks.
-/
namespace Go.Proofs.Ythfkooancgkjaaa
open Go.ChangeShapes Go.WideShapes Go.ChangeAt Go.RowKit
set_option linter.unusedVariables false
set_option maxRecDepth 20000

section
variable {s : SS} {S a : Nat} {lam : Int} {l : LS} {L : List (List Int)} {s1 : SS} {l0 : LS} {r : Int}
theorem rp_e1 (h1 : r = (s.sv 0 (val9 a lam (l.g + 1))).1) (h : r ≠ 0) (hs : s1 = (s.sv 0 (val9 a lam (l.g + 1))).2.2) : s.rp S a lam l L = (r, s1, l) := by
  subst h1 hs
  unfold SS.rp
  simp only
  rw [if_pos h]
theorem rp_e2 (h1 : (s.sv 0 (val9 a lam (l.g + 1))).1 = 0) (hs : s1 = (s.sv 0 (val9 a lam (l.g + 1))).2.2) (hl : l0 = ⟨l.g + 1, (scn (s1.lp (off S (1 - a))) S S 0 (l.g + 1)).2.1, false⟩) {y : Int × SS × LS} (hy : SS.aps (off S (1 - a)) S s1 l0 L = y) (h : y.1 ≠ 0) : s.rp S a lam l L = y := by
  subst hs hl hy
  unfold SS.rp
  simp only
  rw [if_neg (by rw [h1]; simp), if_pos h]
theorem rp_e3 (h1 : (s.sv 0 (val9 a lam (l.g + 1))).1 = 0) (hs : s1 = (s.sv 0 (val9 a lam (l.g + 1))).2.2) (hl : l0 = ⟨l.g + 1, (scn (s1.lp (off S (1 - a))) S S 0 (l.g + 1)).2.1, false⟩) {s2 : SS} {l2 : LS} (hy : SS.aps (off S (1 - a)) S s1 l0 L = (0, s2, l2)) {y : Int × SS × LS} (h3 : s2.lf l2 = y) (h : y.1 ≠ 0) : s.rp S a lam l L = y := by
  subst hs hl h3
  unfold SS.rp
  simp only
  rw [if_neg (by rw [h1]; simp), hy, if_neg (by simp), if_pos h]
theorem rp_e4 (h1 : (s.sv 0 (val9 a lam (l.g + 1))).1 = 0) (hs : s1 = (s.sv 0 (val9 a lam (l.g + 1))).2.2) (hl : l0 = ⟨l.g + 1, (scn (s1.lp (off S (1 - a))) S S 0 (l.g + 1)).2.1, false⟩) {s2 : SS} {l2 : LS} (hy : SS.aps (off S (1 - a)) S s1 l0 L = (0, s2, l2)) {s3 : SS} {l3 : LS} (h3 : s2.lf l2 = (0, s3, l3)) : s.rp S a lam l L = ((s3.sv 0 (val9 (1 - a) (l.g + 1) (l.g + 1))).1, (s3.sv 0 (val9 (1 - a) (l.g + 1) (l.g + 1))).2.2, l3) := by
  subst hs hl
  unfold SS.rp
  simp only
  rw [if_neg (by rw [h1]; simp), hy, if_neg (by simp), h3, if_neg (by simp)]
end
theorem aps_cons (o S : Nat) (s : SS) (l : LS) (b : List Int) (bs : List (List Int)) : SS.aps o S s l (b :: bs) = if (s.ap o S l b).1 ≠ 0 then s.ap o S l b else SS.aps o S (s.ap o S l b).2.1 (s.ap o S l b).2.2 bs := by
  conv => lhs; unfold SS.aps
/-- what turn answers, and leaves -/
def TnA (n0 b vb S o : Nat) (sec : Bool) (g : Int) (y : Int × SS × LS) (w : World) (e : Ending) (w' : World) : Prop :=
  e = .returned (.int .i64 y.1) ∧ Dy n0 w' b y.2.1 ∧ Kv w w' ∧ Below n0 w w' ∧ (∃ sec lam g lp, Blk w' vb 62 (vtC b S sec lam g lp true)) ∧
  (y.1 = 0 → ∃ lb, n0 ≤ lb ∧ Blk w' lb 90 (lgC b o S y.2.2) ∧ Blk w' vb 62 (vtC b S sec g g (some ⟨lb, 0, none⟩) true))
theorem Ks.far {w w4 w5 : World} (h : Ks w w4) (hb : Below w.heap.size w4 w5) : Ks w w5 := ⟨Nat.le_trans h.sz hb.size, fun k t cs hk ht h9 => (hb.block k hk.lt).trans (h.bl k t cs hk ht h9)⟩
theorem Dy.std {n0 : Nat} {w w' : World} {b g : Nat} {s : SS} {cs : Array Value} (hd : Dy n0 w b s) (h : OnlyS (fun k => k = g) w w') (hb : Blk w g 57 cs) : Dy n0 w' b s :=
  hd.typed h.size fun k t cs' hk ht => h.block k hk.lt (fun e => by subst e; exact ht (by rw [(hk.inj hb).1]; decide))
theorem st_set2 {w : World} {g : Nat} {x y z : Value} (h : Blk w g 57 #[x, y, z]) (a b : Value) :
    Blk ((w.setCell ⟨g, 0, none⟩ a).setCell ⟨g, 1, none⟩ b) g 57 #[a, b, z] ∧ OnlyS (fun k => k = g) w ((w.setCell ⟨g, 0, none⟩ a).setCell ⟨g, 1, none⟩ b) :=
  ⟨(h.setd 0 a).setd 1 b, (only_set (R := fun k => k = g) rfl _ _).trans (only_set (R := fun k => k = g) rfl _ _)⟩
/-- within the loop: k records are appended -/
structure TnI (n0 b vb lb sb S o : Nat) (VC ST : Array Value) (g : Int) (L : List (List Int)) (w : World) (s1 : SS) (l0 : LS) (k : Nat) (s2 : SS) (l2 : LS) (wr : World) : Prop where
  dy : Dy n0 wr b s2
  lg : Blk wr lb 90 (lgC b o S l2)
  vt : Blk wr vb 62 VC
  st : Blk wr sb 57 ST
  kv : Kv w wr
  be : Below n0 w wr
  ap : SS.aps o S s1 l0 L = SS.aps o S s2 l2 (L.drop k)
  ql : s2.Q.length ≤ s1.Q.length + 55 * k
  ln : l2.n ≤ S
  lq : l2.g = g
theorem TnI.step {n0 b vb lb sb S o : Nat} {VC ST : Array Value} {g : Int} {L : List (List Int)} {w : World} {s1 : SS} {l0 : LS} {k : Nat} {s2 : SS} {l2 : LS} {wr w' : World} (h : TnI n0 b vb lb sb S o VC ST g L w s1 l0 k s2 l2 wr) {x : List Int} (hx : L[k]? = some x) {y : Int × SS × LS} (hy : y = s2.ap o S l2 x)
    (h1 : Dy n0 w' b y.2.1) (h2 : Blk w' lb 90 (lgC b o S y.2.2)) (h3 : Kx wr w') (h4 : Below n0 wr w') :
    (y.1 = 0 → TnI n0 b vb lb sb S o VC ST g L w s1 l0 (k + 1) y.2.1 y.2.2 w') ∧ (y.1 ≠ 0 → SS.aps o S s1 l0 L = y) ∧ Dy n0 w' b y.2.1 ∧ Blk w' vb 62 VC ∧ Kv w w' ∧ Below n0 w w' := by
  have hk : k < L.length := by
    rcases Nat.lt_or_ge k L.length with h | h
    · exact h
    · rw [List.getElem?_eq_none h] at hx; cases hx
  have hd : L.drop k = x :: L.drop (k + 1) := by
    rw [List.drop_eq_getElem_cons hk]
    rw [List.getElem?_eq_getElem hk] at hx
    injection hx with hx
    rw [hx]
  have hlen := ap_len s2 o S l2 x
  have hlog := ap_log s2 o S l2 x h.ln
  have hkv := h.kv.trans (Kv.of h3)
  have hbe := h.be.trans h4
  have hap := h.ap
  have hql := h.ql
  rw [hd, aps_cons] at hap
  rw [← hy] at hap hlen hlog
  refine ⟨fun h0 => ⟨h1, h2, h3.vlt h.vt, h3.blk h.st (by decide), hkv, hbe, ?_, by omega, hlog.2, hlog.1.trans h.lq⟩, fun h0 => ?_, h1, h3.vlt h.vt, hkv, hbe⟩
  · rw [if_neg (by rw [h0]; simp)] at hap
    exact hap
  · rw [if_pos h0] at hap
    exact hap
end Go.Proofs.Ythfkooancgkjaaa
/-
  What is proved here: records that are put in the place of all others.
-/
namespace Go.Proofs.Ythfkooancgkjaaa
open Go.ChangeShapes Go.WideShapes Go.ChangeAt Go.RowKit
set_option linter.unusedVariables false
set_option maxRecDepth 20000

theorem flag_not {a : Nat} (ha : a < 2) : decide (1 - a = 1) = !(decide (a = 1)) := by
  have : a = 0 ∨ a = 1 := by omega
  rcases this with rfl | rfl <;> rfl
set_option maxHeartbeats 8000000 in
theorem vtTurn_any {n0 : Nat} {w0 w : World} {b : Nat} {s : SS} (hD : Dy n0 w b s) (hn : n0 ≤ w.heap.size) (hbs : s.bs) {vb S lb : Nat} (hvb : n0 ≤ vb) {n : Int} {a : Nat} {lam : Int} {l : LS} {all : List (List Int)} {sure T : Nat} (h : VU T S s n a lam l all sure)
    (hv : Blk w vb 62 (vtC b S (decide (a = 1)) lam l.g (some ⟨lb, 0, none⟩) true)) (hS : S ≤ 1000) (hnn : n + 2 < 18446744073709551616) (hg : l.g + 1 < 4294967294) (hQ : s.Q.length < 800000)
    (A : Option Addr) (m c : Nat) (L : List (List Int)) (hin : InR w0 A m L) (h0 : w0.heap.size = n0) (hw0 : Below n0 w0 w) (hm : m ≤ 100) (h6 : ∀ x ∈ L, x.length ≤ 6000) (hp : pgs L ≤ S) (r9 : Int) (s9 : SS) (l9 : LS) (hY : s.rp S a lam l L = (r9, s9, l9)) :
    Calls Try.prog 31 #[.pointer (some ⟨vb, 0, none⟩), .slice A m c] w (TnA n0 b vb S (off S (1 - a)) (decide (1 - a = 1)) (l.g + 1) (r9, s9, l9) w) := by
  have ha2 := h.a2
  have hlg := h.lg
  have hT := h.len
  have hfit := h.fit
  obtain ⟨f, hf⟩ : ∃ f, f = decide (a = 1) := ⟨_, rfl⟩
  have hf2 : decide (1 - a = 1) = !f := by rw [hf]; exact flag_not ha2
  obtain ⟨g1, hg1⟩ : ∃ g1, g1 = l.g + 1 := ⟨_, rfl⟩
  obtain ⟨g0, hg0⟩ : ∃ g0, g0 = l.g := ⟨_, rfl⟩
  have eg : IntKind.u32.wrap (g0 + 1) = g1 := by show (g0 + 1) % 4294967296 = g1; omega
  obtain ⟨r, hr⟩ : ∃ r, r = (s.sv 0 (val9 a lam g1)).1 := ⟨_, rfl⟩
  obtain ⟨s1, hs1⟩ : ∃ s1, s1 = (s.sv 0 (val9 a lam g1)).2.2 := ⟨_, rfl⟩
  obtain ⟨o, ho⟩ : ∃ o, o = off S (1 - a) := ⟨_, rfl⟩
  rw [hf2, ← ho, ← hg1]
  rw [← hf, ← hg0] at hv
  have hone := VU.one h (by omega)
  rw [← hg1, ← hr, ← hs1] at hone
  have hb1 : s1.bs := by rw [hs1]; exact SS.sv_bs hbs 0 _ (val9_bs ha2 _ _)
  have hl1 := s.sv_len 0 (val9 a lam g1)
  rw [← hs1] at hl1
  have hB0 : Below w.heap.size w (w.alloc (.cells #[.bool f, .int .u32 lam, .int .u32 g1] 57)) := (Below.refl _ _).alloc (Nat.le_refl _) _
  have hK0 : Blk (w.alloc (.cells #[.bool f, .int .u32 lam, .int .u32 g1] 57)) w.heap.size 57 #[.bool f, .int .u32 lam, .int .u32 g1] := Blk.new _ _ _
  have hcs := vtSave_any (hD.below hB0) (Nat.le_trans hn hB0.size) hbs (by omega) vb S hvb (hv.below hB0) a ha2 lam g1 (by omega) (by omega) r s1 hr hs1
  rw [← hf] at hcs
  have CS := hid hcs
  have B0 := hid hB0; have K0 := hid hK0
  have c2 : w.cell? ⟨vb, 2, none⟩ = some (.bool f) := hv.cell 2
  have c3 : w.cell? ⟨vb, 3, none⟩ = some (.int .u32 lam) := hv.cell 3
  have c4 : w.cell? ⟨vb, 4, none⟩ = some (.int .u32 g0) := hv.cell 4
  have HN := hid hn; have HVB := hid hvb; have HIN := hid hin; have H0 := hid h0; have HW0 := hid hw0
  by_cases hr0 : r = 0
  · subst hr0
    rcases hone with ⟨e, _⟩ | ⟨_, h1, _⟩
    · cases e
    obtain ⟨hsc, _⟩ := r2_begin h1 (by omega)
    rw [← ho] at hsc
    obtain ⟨l0, hl0⟩ : ∃ l0 : LS, l0 = ⟨g1, (scn (s1.lp o) S S 0 g1).2.1, false⟩ := ⟨_, rfl⟩
    have hl0n : l0.n ≤ S ∧ l0.g = g1 := by rw [hl0, hsc]; exact ⟨Nat.zero_le _, rfl⟩
    have ho4 : o + S ≤ T := by rw [ho]; exact off_fit hfit (by omega)
    have hTb : T ≤ 4096 := by have := hD.ok.2.2; omega
    have r1' : (s.sv 0 (val9 a lam (l.g + 1))).1 = 0 := by rw [← hg1]; exact hr.symm
    have r2' : s1 = (s.sv 0 (val9 a lam (l.g + 1))).2.2 := by rw [← hg1]; exact hs1
    have r3' : l0 = ⟨l.g + 1, (scn (s1.lp (off S (1 - a))) S S 0 (l.g + 1)).2.1, false⟩ := by rw [← hg1, ← ho]; exact hl0
    have E2 : Hid (∀ y : Int × SS × LS, SS.aps o S s1 l0 L = y → y.1 ≠ 0 → (r9, s9, l9) = y) := hid fun y hy h => by
      rw [← hY]; exact rp_e2 r1' r2' r3' (by rw [← ho]; exact hy) h
    have E3 : Hid (∀ (s2 : SS) (l2 : LS) (y : Int × SS × LS), SS.aps o S s1 l0 L = (0, s2, l2) → s2.lf l2 = y → y.1 ≠ 0 → (r9, s9, l9) = y) := hid fun s2 l2 y hy h3 h => by
      rw [← hY]; exact rp_e3 r1' r2' r3' (by rw [← ho]; exact hy) h3 h
    have E4 : Hid (∀ (s2 : SS) (l2 : LS) (s3 : SS) (l3 : LS), SS.aps o S s1 l0 L = (0, s2, l2) → s2.lf l2 = (0, s3, l3) → (r9, s9, l9) = ((s3.sv 0 (val9 (1 - a) g1 g1)).1, (s3.sv 0 (val9 (1 - a) g1 g1)).2.2, l3)) := hid fun s2 l2 s3 l3 hy h3 => by
      rw [← hY, hg1]; exact rp_e4 r1' r2' r3' (by rw [← ho]; exact hy) h3
    have CO : Hid (∀ y lam' g' lp op, Dy n0 y b s1 → Blk y vb 62 (vtC b S f lam' g' lp op) → Calls Try.prog 25 #[.pointer (some ⟨vb, 0, none⟩), .agg #[.bool (!f), .int .u32 g1, .int .u32 g1]] y (OpA b o S g1 (s1.lp o) g1 y)) := hid fun y lam' g' lp op hd hb => by
      have := vtOpenLog_any hd hb1 h1.vr.d hb (1 - a) (by omega) g1 g1 (by rw [← ho, hl1.1]; omega) hS (by omega) (by omega)
      rw [hf2, ← ho] at this
      exact this
    have HBS : Hid (∀ (s2 : SS) (l2 : LS), SS.aps o S s1 l0 L = (0, s2, l2) → (s2.lf l2).2.1.bs) := hid fun s2 l2 hy => by
      have hbb := aps_bs o S L s1 l0 hb1 (by rw [hl0n.2]; omega) (fun x hx => by
        obtain ⟨j, hj⟩ := List.mem_iff_getElem?.1 hx
        obtain ⟨hl, _, hat⟩ := hin
        have hjl : j < m := by
          rcases Nat.lt_or_ge j m with h | h
          · exact h
          · rw [List.getElem?_eq_none (by omega)] at hj; cases hj
        obtain ⟨b0, o0, _, _, hat⟩ := hat (by omega)
        obtain ⟨B, cc, x', h1, _, h3, _⟩ := hat j hjl
        rw [hj] at h1
        injection h1 with h1
        rw [h1]; exact h3)
      rw [hy] at hbb
      exact lf_bs hbb l2
    have HL0E := hid hl0; have HVL := hid hv.lt
    have HL0 := hid hl0n; have HL1 := hid hl1.2
    have HO4 : Hid (o ≤ 4096 ∧ S ≤ 4096) := hid (by omega)
    have HG1 : Hid (0 ≤ g1 ∧ g1 < 4294967296) := hid (by omega)
    have H6 := hid h6; have HQ := hid hQ; have HMM := hid hm
    have HSV : Hid (∀ y s3 lam' g' lp, Dy n0 y b s3 → n0 ≤ y.heap.size → s3.bs → s3.Q.length < 1000000 → Blk y vb 62 (vtC b S f lam' g' lp true) → ∀ r4 s4, r4 = (s3.sv 0 (val9 (1 - a) g1 g1)).1 → s4 = (s3.sv 0 (val9 (1 - a) g1 g1)).2.2 → Calls Try.prog 24 #[.pointer (some ⟨vb, 0, none⟩), .agg #[.bool (!f), .int .u32 g1, .int .u32 g1]] y (SvV n0 b vb r4 s4 (vtC b S f lam' g' lp true) (vtC b S (!f) g1 g1 lp true) y)) := hid fun y s3 lam' g' lp hd hy hb hq hvv r4 s4 h4 h4' => by
      have := vtSave_any hd hy hb hq vb S hvb hvv (1 - a) (by omega) g1 g1 (by omega) (by omega) r4 s4 h4 h4'
      rw [hf2] at this
      exact this
    clear hD hn hbs hvb h hv hnn hg hQ hin h0 hw0 hm h6 hp hY ha2 hlg hT hfit hf hf2 hg1 hg0 hr hs1 ho h1 hb1 hl1 hB0 hK0 hcs hl0n r1' r2' r3' ho4 hTb hsc hl0
    go_enter Try.func31, Try.ntmps31
    go_wp2_with (first
      | (go_at_call 24; go_loud (refine CS.out.mono ?_; rintro e w4 ⟨rfl, h4a, h4b, h4c, h4d⟩; rw [if_pos rfl] at h4b; have D4 := hid h4a; have V4 := hid h4b; have K4 := hid (K0.out.same (h4c.bl _ _ _ K0.out (by decide) (by decide))); have Z4 := hid ((Ks.below B0.out).trans h4c); have B4 := hid ((B0.out.mono HN.out).trans h4d); have z0w4 : w4.cell? ⟨w.heap.size, 0, none⟩ = some (.bool f) := K4.out.cell 0; have z1w4 : w4.cell? ⟨w.heap.size, 1, none⟩ = some (.int .u32 lam) := K4.out.cell 1; have z2w4 : w4.cell? ⟨w.heap.size, 2, none⟩ = some (.int .u32 g1) := K4.out.cell 2; have y0w4 : w4.frozen? ⟨w.heap.size, 0, none⟩ = false := K4.out.frozen 0; have y1w4 : w4.frozen? ⟨w.heap.size, 1, none⟩ = false := K4.out.frozen 1; have y2w4 : w4.frozen? ⟨w.heap.size, 2, none⟩ = false := K4.out.frozen 2; obtain ⟨t1, t2⟩ := st_set2 K4.out (.bool (!f)) (.int .u32 g1); have b45 : Below w.heap.size w4 _ := t2.below (show w.heap.size ≤ w4.heap.size from Z4.out.sz) (fun k hk => by omega); have K5 := hid t1; have D5 := hid (D4.out.std t2 K4.out); have V5 := hid (V4.out.same (b45.block _ HVL.out)); have Z5 := hid (Z4.out.far b45); have B5 := hid (B4.out.trans (b45.mono HN.out)); have CO5 := hid (CO.out _ _ _ _ _ D5.out V5.out); clear h4a h4b h4c h4d t1 t2 b45))
      | (go_at_call 25; refine CO5.out.mono ?_; rintro e w6 ⟨lb2, V, rfl, q1, q2, q3, q4⟩; rw [← HL0E.out] at q2; have L6 := hid q2; have Z6 := hid (Z5.out.trans (Ks.below q4)); have D6 := hid (D5.out.below q4); have V6 := hid (V5.out.below q4); have K6 := hid (K5.out.below q4); have B6 := hid (B5.out.trans (q4.mono (Nat.le_trans HN.out Z5.out.sz))); have LB6 := hid (Nat.le_trans Z5.out.sz q1); clear q1 q2 q3 q4))
    obtain ⟨VC, hVC⟩ : ∃ VC, VC = vtC b S f lam g1 (some ⟨lb, 0, none⟩) true := ⟨_, rfl⟩
    obtain ⟨ST, hST⟩ : ∃ ST : Array Value, ST = #[.bool (!f), .int .u32 g1, .int .u32 g1] := ⟨_, rfl⟩
    have HI0 : Hid (TnI n0 b vb lb2 w.heap.size S o VC ST g1 L w s1 l0 0 s1 l0 w6) := hid ⟨D6.out, L6.out, hVC ▸ V6.out, hST ▸ K6.out, Z6.out.kv, B6.out, by rw [List.drop_zero], Nat.le_refl _, HL0.out.1, HL0.out.2⟩
    have HVC := hid hVC; have HST := hid hST
    have HS6 : Hid (n0 ≤ w6.heap.size) := hid (Nat.le_trans HN.out Z6.out.sz)
    have HLB : Hid (n0 ≤ lb2) := hid (Nat.le_trans HN.out LB6.out)
    clear D6 L6 V6 K6 Z6 B6 D5 V5 K5 Z5 B5 CO5 D4 V4 K4 Z4 B4 hVC hST z0w4 z1w4 z2w4 y0w4 y1w4 y2w4 LB6
    go_loopw [48] (fun i wr => ∃ (k : Nat) (s2 : SS) (l2 : LS), k ≤ m ∧ i = .int .i64 k ∧ Hid (TnI n0 b vb lb2 w.heap.size S o VC ST g1 L w s1 l0 k s2 l2 wr)) (fun i _ => m - (intOf i).toNat)
    case atStart => exact ⟨0, s1, l0, by omega, rfl, HI0⟩
    case round =>
      obtain ⟨k, s2, l2, hk, rfl, HI⟩ := hrel
      clear HI0
      have hm9 : m ≤ 100 := HMM.out
      have SW : Hid (n0 ≤ wr.heap.size) := hid (Nat.le_trans HN.out HI.out.kv.sz)
      by_cases hlt : k < m
      · obtain ⟨gb, ob, rfl, hb0, hat⟩ := HIN.out.2.2 (by omega)
        obtain ⟨B, cc, x, h1, h2, h3, h4, h5, h6⟩ := hat k hlt
        have HB0 : Hid (gb < n0) := hid (by rw [← H0.out]; exact hb0)
        have h60 : x.length ≤ 6000 := H6.out x (List.mem_of_getElem? h1)
        obtain ⟨q, hq⟩ : ∃ q, q = x.length := ⟨_, rfl⟩
        rw [← hq] at h2 h5 h6
        have hbe : Below n0 w0 wr := HW0.out.trans HI.out.be
        have z0 : wr.cell? ⟨gb, ob + k, none⟩ = some (.slice B q cc) := (hbe.cell HB0.out).trans h2
        have hrp : Rp wr none B x := h4.same fun j hj _ => hbe.block j (by rw [← H0.out]; exact hj)
        have hca := wAppend_any HI.out.dy SW.out lb2 o S l2 HLB.out HI.out.lg HO4.out.2 HO4.out.1 HI.out.ln (by rw [HI.out.lq]; exact HG1.out) B q cc x hq hrp (fun _ hx a ha => .inl (by rw [← H0.out]; exact rp_lt h4 hx a ha)) h5 h6 (by have := HI.out.ql; have := HL1.out; have := HQ.out; have := HMM.out; omega)
        have H1 := hid h1
        obtain ⟨r2, s3, l3, hy⟩ : ∃ r2 s3 l3, (r2, s3, l3) = s2.ap o S l2 x := ⟨_, _, _, rfl⟩
        rw [← hy] at hca
        unfold ApA at hca
        simp only at hca
        have CA := hid hca; have HY := hid hy
        clear h1 h2 h3 h4 h5 h6 hat hb0 hq hbe hrp hca hy h60
        by_cases hr2 : r2 = 0
        · subst hr2
          go_wp2_with (go_at_call 28; refine CA.out.mono ?_; rintro e w7 ⟨rfl, q1, q2, q3, q4⟩; have ST7 := hid (HI.out.step H1.out HY.out q1 q2 q3 q4); clear q1 q2 q3 q4)
          go_roundw
          case measure => simp [intOf]; omega
          case rel => exact ⟨k + 1, s3, l3, by omega, by go_num, hid (ST7.out.1 trivial)⟩
        · have gr : (r2 != 0) = true := by simpa using hr2
          have HR2 := hid hr2
          clear hr2
          go_wp2_with (go_at_call 28; refine CA.out.mono ?_; rintro e w7 ⟨rfl, q1, q2, q3, q4⟩; have ST7 := hid (HI.out.step H1.out HY.out q1 q2 q3 q4); clear q1 q2 q3 q4)
          go_ret
          obtain ⟨_, t2, t3, t4, t5, t6⟩ := ST7.out
          have e := E2.out _ (t2 HR2.out) HR2.out
          injection e with e1 e2
          injection e2 with e2 e3
          subst e1 e2 e3
          rw [HVC.out] at t4
          exact ⟨rfl, t3, t5, t6, ⟨_, _, _, _, t4⟩, fun h => (HR2.out h).elim⟩
      · obtain rfl : k = m := by omega
        have hap : SS.aps o S s1 l0 L = (0, s2, l2) := by rw [HI.out.ap, List.drop_of_length_le (by rw [HIN.out.1]; exact Nat.le_refl _)]; rfl
        have hcf := wFlush_any HI.out.dy SW.out lb2 o S l2 HLB.out HI.out.lg
        obtain ⟨r3, s3, l3, hy⟩ : ∃ r3 s3 l3, s2.lf l2 = (r3, s3, l3) := ⟨_, _, _, rfl⟩
        have hbb := HBS.out s2 l2 hap
        have hql := (lf_len s2 l2).2
        have e3 := E3.out s2 l2 (r3, s3, l3) hap hy
        have e4 := E4.out s2 l2
        rw [hy] at hcf hbb hql
        simp only at hbb hql
        unfold ApA at hcf
        simp only at hcf
        have CF := hid hcf
        have HBB := hid hbb
        have HQ3 : Hid (s3.Q.length < 1000000) := hid (by have := HI.out.ql; have := HL1.out; have := HQ.out; have := HMM.out; omega)
        by_cases hr3 : r3 = 0
        · subst hr3
          obtain ⟨r4, hr4⟩ : ∃ r4, r4 = (s3.sv 0 (val9 (1 - a) g1 g1)).1 := ⟨_, rfl⟩
          obtain ⟨s4, hs4⟩ : ∃ s4, s4 = (s3.sv 0 (val9 (1 - a) g1 g1)).2.2 := ⟨_, rfl⟩
          have e := e4 s3 l3 hap hy
          rw [← hr4, ← hs4] at e
          have EE := hid e
          have HR4 := hid hr4; have HS4 := hid hs4
          clear hap hcf hy hbb hql e3 e4 e hr4 hs4
          by_cases hr0 : r4 = 0
          · subst hr0
            go_wp2_with (first
              | (go_at_call 29; go_loud (refine CF.out.mono ?_; rintro e w7 ⟨rfl, q1, q2, q3, q4⟩; have D7 := hid q1; have L7 := hid q2; have K7 := hid (HI.out.kv.trans (Kv.of q3)); have B7 := hid (HI.out.be.trans q4); have V7 := hid (show Blk w7 vb 62 (vtC b S f lam g1 (some ⟨lb, 0, none⟩) true) from (by rw [← HVC.out]; exact q3.vlt HI.out.vt)); have T7 := hid (show Blk w7 w.heap.size 57 #[.bool (!f), .int .u32 g1, .int .u32 g1] from (by rw [← HST.out]; exact q3.blk HI.out.st (by decide))); have z0w7 : w7.cell? ⟨w.heap.size, 0, none⟩ = some (.bool (!f)) := T7.out.cell 0; have z1w7 : w7.cell? ⟨w.heap.size, 1, none⟩ = some (.int .u32 g1) := T7.out.cell 1; have z2w7 : w7.cell? ⟨w.heap.size, 2, none⟩ = some (.int .u32 g1) := T7.out.cell 2; have CV7 := hid (HSV.out w7 s3 lam g1 (some ⟨lb, 0, none⟩) q1 (Nat.le_trans SW.out q3.sz) HBB.out HQ3.out V7.out _ _ HR4.out HS4.out); clear q1 q2 q3 q4))
              | (go_at_call 24; go_loud (refine CV7.out.mono ?_; rintro e w8 ⟨rfl, q1, q2, q3, q4⟩; rw [if_pos rfl] at q2; have D8 := hid q1; have V8 := hid q2; have L8 := hid (q3.log L7.out); have K8 := hid (K7.out.trans q3.kv); have B8 := hid (B7.out.trans q4); have v5w8 : w8.cell? ⟨vb, 5, none⟩ = some (.pointer (some ⟨lb, 0, none⟩)) := q2.cell 5; have f5w8 : w8.frozen? ⟨vb, 5, none⟩ = false := q2.frozen 5;  clear q1 q2 q3 q4)))
            go_ret
            have e := EE.out
            injection e with e1 e2
            injection e2 with e2 e3
            subst e1 e2 e3
            have k1 := V8.out.setd 5 (.pointer (some ⟨lb2, 0, none⟩))
            have k2 : OnlyS (fun k => k = vb) w8 (w8.setCell ⟨vb, 5, none⟩ (.pointer (some ⟨lb2, 0, none⟩))) := only_set (R := fun k => k = vb) rfl _ _
            exact ⟨rfl, D8.out.vlt k2 V8.out, K8.out.trans (Kv.vault k2 V8.out), B8.out.trans (k2.below (Nat.le_trans HN.out K8.out.sz) (fun k hk => by have := HVB.out; omega)), ⟨_, _, _, _, k1⟩, fun _ => ⟨lb2, HLB.out, k2.log V8.out L8.out, k1⟩⟩
          · have gr : (r4 != 0) = true := by simpa using hr0
            have HR0 := hid hr0
            clear hr0
            go_wp2_with (first
              | (go_at_call 29; go_loud (refine CF.out.mono ?_; rintro e w7 ⟨rfl, q1, q2, q3, q4⟩; have D7 := hid q1; have L7 := hid q2; have K7 := hid (HI.out.kv.trans (Kv.of q3)); have B7 := hid (HI.out.be.trans q4); have V7 := hid (show Blk w7 vb 62 (vtC b S f lam g1 (some ⟨lb, 0, none⟩) true) from (by rw [← HVC.out]; exact q3.vlt HI.out.vt)); have T7 := hid (show Blk w7 w.heap.size 57 #[.bool (!f), .int .u32 g1, .int .u32 g1] from (by rw [← HST.out]; exact q3.blk HI.out.st (by decide))); have z0w7 : w7.cell? ⟨w.heap.size, 0, none⟩ = some (.bool (!f)) := T7.out.cell 0; have z1w7 : w7.cell? ⟨w.heap.size, 1, none⟩ = some (.int .u32 g1) := T7.out.cell 1; have z2w7 : w7.cell? ⟨w.heap.size, 2, none⟩ = some (.int .u32 g1) := T7.out.cell 2; have CV7 := hid (HSV.out w7 s3 lam g1 (some ⟨lb, 0, none⟩) q1 (Nat.le_trans SW.out q3.sz) HBB.out HQ3.out V7.out _ _ HR4.out HS4.out); clear q1 q2 q3 q4))
              | (go_at_call 24; go_loud (refine CV7.out.mono ?_; rintro e w8 ⟨rfl, q1, q2, q3, q4⟩; rw [if_neg HR0.out] at q2; have D8 := hid q1; have V8 := hid q2; have L8 := hid (q3.log L7.out); have K8 := hid (K7.out.trans q3.kv); have B8 := hid (B7.out.trans q4);  clear q1 q2 q3 q4)))
            go_ret
            have e := EE.out
            injection e with e1 e2
            injection e2 with e2 e3
            subst e1 e2 e3
            exact ⟨rfl, D8.out, K8.out, B8.out, ⟨_, _, _, _, V8.out⟩, fun h => (HR0.out h).elim⟩
        · have gr : (r3 != 0) = true := by simpa using hr3
          have HR3 := hid hr3
          have EE := hid (e3 hr3)
          clear hap hcf hy hbb hql e3 e4 hr3
          go_wp2_with (go_at_call 29; refine CF.out.mono ?_; rintro e w7 ⟨rfl, q1, q2, q3, q4⟩; have D7 := hid q1; have K7 := hid (HI.out.kv.trans (Kv.of q3)); have B7 := hid (HI.out.be.trans q4); have V7 := hid (q3.vlt HI.out.vt); clear q1 q2 q3 q4)
          go_ret
          have e := EE.out
          injection e with e1 e2
          injection e2 with e2 e3
          subst e1 e2 e3
          have t4 := V7.out
          rw [HVC.out] at t4
          exact ⟨rfl, D7.out, K7.out, B7.out, ⟨_, _, _, _, t4⟩, fun h => (HR3.out h).elim⟩
  · have e := rp_e1 (S := S) (l := l) (L := L) (s1 := s1) (r := r) (by rw [← hg1]; exact hr) hr0 (by rw [← hg1]; exact hs1)
    rw [hY] at e
    have E := hid e
    have g0' : (r != 0) = true := by simpa using hr0
    have HR0 := hid hr0
    clear hD hn hbs hvb h hv hS hnn hg hQ hin h0 hw0 hm h6 hp hY ha2 hlg hT hfit hf hf2 hg1 hg0 hr hs1 ho hone hb1 hl1 hB0 hK0 hcs hr0 e
    go_enter Try.func31, Try.ntmps31
    go_wp2_with (go_at_call 24; refine CS.out.mono ?_; rintro e w4 ⟨rfl, h4a, h4b, h4c, h4d⟩; rw [if_neg HR0.out] at h4b; have D4 := hid h4a; have V4 := hid h4b; have Z4 := hid ((Ks.below B0.out).trans h4c); have B4 := hid ((B0.out.mono HN.out).trans h4d); clear h4a h4b h4c h4d)
    go_ret
    injection E.out with e1 e2
    injection e2 with e2 e3
    subst e1 e2
    exact ⟨rfl, D4.out, Z4.out.kv, B4.out, ⟨_, _, _, _, V4.out⟩, fun h => (HR0.out h).elim⟩
end Go.Proofs.Ythfkooancgkjaaa
/-
  What is proved here: records that are put in the place of all others, or refused.
-/
namespace Go.Proofs.Ythfkooancgkjaaa
open Go.ChangeShapes Go.WideShapes Go.ChangeAt Go.RowKit
set_option linter.unusedVariables false
set_option maxRecDepth 20000

theorem pgs_snoc (L : List (List Int)) (x : List Int) : pgs (L ++ [x]) = pgs L + np x.length := by
  rw [pgs_app]
  show _ + ((cut x).length + 0) = _
  rw [cut_len, Nat.add_zero]
theorem pgs_take {L : List (List Int)} {k : Nat} {x : List Int} (h : L[k]? = some x) : pgs (L.take (k + 1)) = pgs (L.take k) + np x.length := by
  rw [List.take_add_one, h]
  exact pgs_snoc _ _
/-- what Replace answers, and leaves -/
def RpA (n0 b vb S o : Nat) (sec : Bool) (g : Int) (L : List (List Int)) (y : Int × SS × LS) (w : World) (e : Ending) (w' : World) : Prop :=
  ((∃ x ∈ L, 6000 < x.length) ∧ e = .returned (.int .i64 3) ∧ w = w') ∨
  ((∀ x ∈ L, x.length ≤ 6000) ∧ S < pgs L ∧ e = .returned (.int .i64 5) ∧ w = w') ∨
  ((∀ x ∈ L, x.length ≤ 6000) ∧ pgs L ≤ S ∧ e = .returned (.int .i64 y.1) ∧ Dy n0 w' b y.2.1 ∧ Kv w w' ∧ Below n0 w w' ∧ (∃ sec lam g lp, Blk w' vb 62 (vtC b S sec lam g lp (decide (y.1 ≠ 6)))) ∧
    (y.1 = 0 → ∃ lb, n0 ≤ lb ∧ Blk w' lb 90 (lgC b o S y.2.2) ∧ Blk w' vb 62 (vtC b S sec g g (some ⟨lb, 0, none⟩) true)))
theorem rpa_of {n0 : Nat} {w w1 w2 : World} {b vb S o : Nat} {sec : Bool} {g : Int} {y : Int × SS × LS} (hn : n0 ≤ w.heap.size) (hvb : n0 ≤ vb) (h1 : Dy n0 w1 b y.2.1) (h2 : Kv w w1) (h3 : Below n0 w w1) {sec1 : Bool} {lam1 g1 : Int} {lp1 : Option Addr} (h4 : Blk w1 vb 62 (vtC b S sec1 lam1 g1 lp1 true))
    (h5 : y.1 = 0 → ∃ lb, n0 ≤ lb ∧ Blk w1 lb 90 (lgC b o S y.2.2) ∧ Blk w1 vb 62 (vtC b S sec g g (some ⟨lb, 0, none⟩) true)) (k1 : Blk w2 vb 62 (vtC b S sec1 lam1 g1 lp1 (true && decide (y.1 ≠ 6)))) (k2 : OnlyS (fun k => k = vb) w1 w2) :
    Dy n0 w2 b y.2.1 ∧ Kv w w2 ∧ Below n0 w w2 ∧ (∃ sec lam g lp, Blk w2 vb 62 (vtC b S sec lam g lp (decide (y.1 ≠ 6)))) ∧ (y.1 = 0 → ∃ lb, n0 ≤ lb ∧ Blk w2 lb 90 (lgC b o S y.2.2) ∧ Blk w2 vb 62 (vtC b S sec g g (some ⟨lb, 0, none⟩) true)) := by
  rw [Bool.true_and] at k1
  refine ⟨h1.vlt k2 h4, h2.trans (Kv.vault k2 h4), h3.trans (k2.below (Nat.le_trans hn h2.sz) (fun k hk => by omega)), ⟨_, _, _, _, k1⟩, fun h0 => ?_⟩
  obtain ⟨lb, q1, q2, q3⟩ := h5 h0
  have e := (h4.inj q3).2
  refine ⟨lb, q1, k2.log h4 q2, ?_⟩
  have hd : decide (y.1 ≠ 6) = true := by rw [h0]; rfl
  rw [hd] at k1
  rw [← e]
  exact k1
set_option maxHeartbeats 4000000 in
theorem vtReplace_up {n0 : Nat} {w0 w : World} {b : Nat} {s : SS} (hD : Dy n0 w b s) (hn : n0 ≤ w.heap.size) (hbs : s.bs) {vb S lb : Nat} (hvb : n0 ≤ vb) {n : Int} {a : Nat} {lam : Int} {l : LS} {all : List (List Int)} {sure T : Nat} (h : VU T S s n a lam l all sure)
    (hv : Blk w vb 62 (vtC b S (decide (a = 1)) lam l.g (some ⟨lb, 0, none⟩) true)) (hS : S ≤ 1000) (hnn : n + 2 < 18446744073709551616) (hg : l.g + 1 < 4294967294) (hQ : s.Q.length < 800000)
    (A : Option Addr) (m c : Nat) (L : List (List Int)) (hin : InR w0 A m L) (h0 : w0.heap.size = n0) (hw0 : Below n0 w0 w) (hm : m ≤ 100) (r9 : Int) (s9 : SS) (l9 : LS) (hY : s.rp S a lam l L = (r9, s9, l9)) :
    Calls Try.prog 14 #[.pointer (some ⟨vb, 0, none⟩), .slice A m c] w (RpA n0 b vb S (off S (1 - a)) (decide (1 - a = 1)) (l.g + 1) L (r9, s9, l9) w) := by
  have CO := hid (vtIsOver_any hv)
  obtain ⟨g0, hg0⟩ : ∃ g0, g0 = l.g := ⟨_, rfl⟩
  have c1 : w.cell? ⟨vb, 1, none⟩ = some (.int .i64 S) := hv.cell 1
  have c4 : w.cell? ⟨vb, 4, none⟩ = some (.int .u32 g0) := by rw [hg0]; exact hv.cell 4
  have gg : ¬ (4294967294 : Int) ≤ g0 := by omega
  have CT : Hid ((∀ x ∈ L, x.length ≤ 6000) → pgs L ≤ S → Calls Try.prog 31 #[.pointer (some ⟨vb, 0, none⟩), .slice A m c] w (TnA n0 b vb S (off S (1 - a)) (decide (1 - a = 1)) (l.g + 1) (r9, s9, l9) w)) := hid fun h6 hp =>
    vtTurn_any hD hn hbs hvb h hv hS hnn hg hQ A m c L hin h0 hw0 hm h6 hp r9 s9 l9 hY
  have HN := hid hn; have HVB := hid hvb; have HIN := hid hin; have H0 := hid h0; have HW0 := hid hw0
  clear hD hn hbs hvb h hv hnn hg hQ hin h0 hw0 hY hg0
  go_enter Try.func14, Try.ntmps14
  go_wp2_with (go_at_call 26; refine CO.out.mono ?_; rintro e wq ⟨rfl, rfl⟩)
  go_loop [5, 12] (fun p i => ∃ k : Nat, k ≤ m ∧ i = .int .i64 k ∧ p = .int .i64 (pgs (L.take k) : Nat) ∧ Hid (∀ x ∈ L.take k, x.length ≤ 6000) ∧ pgs (L.take k) ≤ 55 * k) (fun _ i => m - (intOf i).toNat)
  case atStart => exact ⟨0, by omega, rfl, by simp [pgs], hid (fun x hx => by simp at hx), by simp [pgs]⟩
  case round =>
    obtain ⟨k, hk, rfl, rfl, HA, hpk⟩ := hrel
    obtain ⟨p, hp⟩ : ∃ p, p = pgs (L.take k) := ⟨_, rfl⟩
    rw [← hp] at hpk ⊢
    have HP := hid hp
    clear hp
    by_cases hlt : k < m
    · obtain ⟨gb, ob, rfl, hb0, hat⟩ := HIN.out.2.2 (by omega)
      obtain ⟨B, cc, x, h1, h2, h3, h4, h5, h6⟩ := hat k hlt
      obtain ⟨q, hq⟩ : ∃ q, q = x.length := ⟨_, rfl⟩
      rw [← hq] at h2 h5 h6
      have z0 : w.cell? ⟨gb, ob + k, none⟩ = some (.slice B q cc) := (HW0.out.cell (by rw [← H0.out]; exact hb0)).trans h2
      have H1 := hid h1; have HQ := hid hq
      clear h1 h2 h3 h4 h5 hat hb0 hq
      by_cases hbig : 6000 < q
      · have b1 : (6000 : Int) < (q : Int) := by omega
        go_wp2
        go_ret
        exact .inl ⟨⟨x, List.mem_of_getElem? H1.out, by have := HQ.out; omega⟩, rfl, rfl⟩
      · have b1 : ¬ (6000 : Int) < (q : Int) := by omega
        have CPT := hid (wparts_any q w (by omega))
        obtain ⟨pn, hpn⟩ : ∃ p, p = np q := ⟨_, rfl⟩
        have hpb : pn ≤ 55 := by rw [hpn]; exact (np_max q (by omega)).2
        rw [← hpn] at CPT
        have HPN := hid hpn
        clear hpn
        go_wp2_with (go_at_call 30; refine CPT.out.mono ?_; rintro e wq ⟨rfl, rfl⟩)
        go_round
        case measure => simp [intOf]; omega
        case rel =>
          have e : pgs (L.take (k + 1)) = p + pn := by rw [pgs_take H1.out, ← HP.out, HPN.out, HQ.out]
          refine ⟨k + 1, by omega, by go_num, by rw [e]; go_num, hid (fun y hy => ?_), by rw [e]; omega⟩
          rw [List.take_add_one, H1.out] at hy
          rcases List.mem_append.1 hy with h9 | h9
          · exact HA.out y h9
          · have h99 : y = x := by simpa using h9
            rw [h99]; have := HQ.out; omega
    · obtain rfl : k = m := by omega
      have htk : L.take k = L := List.take_of_length_le (by rw [HIN.out.1]; exact Nat.le_refl _)
      have hp := HP.out
      rw [htk] at hp
      have HA2 : Hid (∀ x ∈ L, x.length ≤ 6000) := hid (by have := HA.out; rw [htk] at this; exact this)
      have HP2 := hid hp
      clear hp
      by_cases hful : S < p
      · have b1 : (S : Int) < (p : Int) := by omega
        go_wp2
        go_ret
        exact .inr (.inl ⟨HA2.out, by have := HP2.out; omega, rfl, rfl⟩)
      · have b1 : ¬ (S : Int) < (p : Int) := by omega
        have CT2 := hid (CT.out HA2.out (by have := HP2.out; omega))
        unfold TnA at CT2
        simp only at CT2
        go_wp2_with (first
          | (go_at_call 31; refine CT2.out.mono ?_; rintro e w1 ⟨rfl, q1, q2, q3, ⟨sec1, lam1, g1, lp1, q4⟩, q5⟩; have D1 := hid q1; have K1 := hid q2; have B1 := hid q3; have V1 := hid q4; have Q5 := hid q5; have CR := hid (vtRefuse_any q4 r9); clear q1 q2 q3 q4 q5)
          | (go_at_call 27; refine CR.out.mono ?_; rintro e w2 ⟨rfl, k1, k2⟩; have K2 := hid k1; have O2 := hid k2; clear k1 k2))
        go_ret
        exact .inr (.inr ⟨HA2.out, by have := HP2.out; omega, rfl, rpa_of (y := (r9, s9, l9)) HN.out HVB.out D1.out K1.out B1.out V1.out Q5.out K2.out O2.out⟩)
end Go.Proofs.Ythfkooancgkjaaa
