/-
  What this file is for: a vault of 30 pages while the power is on, call by call. Nothing of the program is walked here.
-/
import Derived.Test.YthfkooancgkjaaaMG1
set_option linter.unusedSimpArgs false
set_option linter.unusedVariables false
namespace Go.Proofs.Ythfkooancgkjaaa
open Go.ChangeShapes Go.WideShapes Go.ChangeAt Go.RowKit
set_option linter.unusedVariables false
set_option maxRecDepth 20000

/-- k calls behind, the power on -/
structure VQ (k : Nat) (all : List (List Int)) (sure : Nat) (s : SS) (n : Int) (a : Nat) (lam : Int) (l : LS) : Prop where
  bs : s.bs
  F : s.F = -1
  ql : s.Q.length ≤ 600 * k
  nb : n ≤ 1 + 2 * (k : Int)
  gb : l.g ≤ 1 + (k : Int)
  al : all.length ≤ 11 * k ∧ ∀ f ∈ all, f.length ≤ 6000
  vu : VU 30 14 s n a lam l all sure
section
variable {k : Nat} {all : List (List Int)} {sure : Nat} {s : SS} {n : Int} {a : Nat} {lam : Int} {l : LS}
theorem VQ.more (h : VQ k all sure s n a lam l) : VQ (k + 1) all sure s n a lam l :=
  ⟨h.bs, h.F, by have := h.ql; omega, by have := h.nb; omega, by have := h.gb; omega, ⟨by have := h.al.1; omega, h.al.2⟩, h.vu⟩
theorem VQ.app (h : VQ k all sure s n a lam l) (hk : k ≤ 100) {b : List Int} (hb : Bs b) (h6 : b.length ≤ 6000) :
    ((s.ap (off 14 a) 14 l b).1 = 5 ∧ VQ (k + 1) all sure (s.ap (off 14 a) 14 l b).2.1 n a lam (s.ap (off 14 a) 14 l b).2.2) ∨
    ((s.ap (off 14 a) 14 l b).1 = 0 ∧ VQ (k + 1) (all ++ [b]) sure (s.ap (off 14 a) 14 l b).2.1 n a lam (s.ap (off 14 a) 14 l b).2.2) := by
  have m := h.more
  have h1 := ap_len s (off 14 a) 14 l b
  have hgb := h.gb
  have hlg := h.vu.lg
  have h2 := ap_bs h.bs (off 14 a) 14 (l := l) (by omega) hb
  have h3 := ap_log s (off 14 a) 14 l b h.vu.n2
  have h4 := ap_on h.F h.vu.d (off 14 a) 14 l b
  have hql := h.ql
  rcases h.vu.app (by omega) hb h6 with ⟨e1, e2⟩ | ⟨e1, e2⟩ | ⟨e1, e2⟩
  · left
    refine ⟨e1, ?_⟩
    rw [e2]
    exact m
  · right
    refine ⟨e1, ⟨h2, h4.1, by omega, m.nb, by rw [h3.1]; exact m.gb, ⟨by rw [List.length_append, List.length_singleton]; have := h.al.1; omega, fun f hf => ?_⟩, e2⟩⟩
    rcases List.mem_append.1 hf with h9 | h9
    · exact h.al.2 f h9
    · rw [List.mem_singleton.1 h9]; exact h6
  · exfalso
    have := e2.1
    rw [h4.2] at this
    cases this
theorem VQ.rep (h : VQ k all sure s n a lam l) (hk : k ≤ 100) {rs : List (List Int)} (hb : ∀ r ∈ rs, Bs r ∧ r.length ≤ 6000) (hp : pgs rs ≤ 14) (h10 : rs.length ≤ 10) :
    (s.rp 14 a lam l rs).1 = 0 ∧ VQ (k + 1) rs rs.length (s.rp 14 a lam l rs).2.1 (n + 2) (1 - a) (l.g + 1) (s.rp 14 a lam l rs).2.2 := by
  have h1 := rp_len s 14 a lam l rs
  have hgb := h.gb
  have hnb := h.nb
  have hlg := h.vu.lg
  have h2 := rp_bs h.bs 14 a h.vu.a2 lam (l := l) (by omega) (rs := rs) (fun r hr => (hb r hr).1)
  have h4 := rp_on h.F h.vu.d 14 a lam l rs
  have hql := h.ql
  rcases h.vu.rp (by omega) (by omega) hb hp with ⟨e1, e2, e3⟩ | ⟨e1, e2⟩
  · exact ⟨e1, ⟨h2, h4.1, by omega, by omega, by rw [e3]; omega, ⟨by omega, fun f hf => (hb f hf).2⟩, e2⟩⟩
  · exfalso
    have := e2.1
    rw [h4.2] at this
    cases this
theorem VQ.flu (h : VQ k all sure s n a lam l) : (s.lf l).1 = 0 ∧ VQ (k + 1) all all.length (s.lf l).2.1 n a lam (s.lf l).2.2 := by
  have m := h.more
  have h1 := lf_len s l
  have h3 := lf_log s l
  have h4 := lf_on h.F h.vu.d l
  have hql := h.ql
  rcases h.vu.flu with ⟨e1, e2⟩ | ⟨e1, e2⟩
  · exact ⟨e1, ⟨lf_bs h.bs l, h4.1, by omega, m.nb, by rw [h3.1]; exact m.gb, m.al, e2⟩⟩
  · exfalso
    have := e2.1
    rw [h4.2] at this
    cases this
/-- behind a flush and a restart all is there -/
theorem VQ.rst (h : VQ k all all.length s n a lam l) (ls : List Int) : VR 30 14 (s.rs ls) n a lam l.g all ∧ (s.rs ls).bs ∧ (s.rs ls).F = -1 := by
  obtain ⟨y, y1, y2, mm, y3⟩ := h.vu.rest ls
  have e : y = all := by
    rw [y3, List.length_take] at y2
    rw [y3, List.take_of_length_le (by omega)]
  rw [e] at y1
  exact ⟨y1, SS.rs_bs h.bs ls, rfl⟩
end
/-- the vault of a new device -/
theorem vq_new : let s : SS := ⟨List.replicate 30 zpg, [], -1, false⟩
    VR 30 14 s 0 0 1 0 [] ∧ s.bs ∧ (s.sv 0 (val9 0 1 1)).1 = 0 ∧ VQ 0 [] 0 (s.sv 0 (val9 0 1 1)).2.2 1 0 1 ⟨1, (scn ((s.sv 0 (val9 0 1 1)).2.2.lp (off 14 0)) 14 14 0 1).2.1, false⟩ := by
  have h := vr_new (T := 30) (S := 14) (by decide) (by decide)
  have hbs : (⟨List.replicate 30 zpg, [], -1, false⟩ : SS).bs := ⟨fun p hp => by rw [List.eq_of_mem_replicate hp]; exact zpg_bs, fun q hq => by simp at hq⟩
  have h0 := vr_on h (by decide) rfl
  obtain ⟨u1, u2⟩ := vr_up h (by decide) (by decide) h0
  exact ⟨h, hbs, h0, ⟨SS.sv_bs hbs 0 _ (val9_bs (by decide) _ _), (sv_on rfl rfl 0 _).1, by have := u1.q; rw [show (0 : Int) + 1 = 1 from rfl] at this; rw [this]; simp, by decide, by simp, by simp, u2⟩⟩
end Go.Proofs.Ythfkooancgkjaaa
