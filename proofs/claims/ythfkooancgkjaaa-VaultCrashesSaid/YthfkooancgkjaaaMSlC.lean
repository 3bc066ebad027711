/-
  What this file is for: what Save makes of a device whose power stays on and of which nothing waits. Nothing of the program is walked here.
-/
import Derived.Test.YthfkooancgkjaaaMSlS
set_option linter.unusedSimpArgs false
set_option linter.unusedVariables false
namespace Go.Proofs.Ythfkooancgkjaaa
open Go.ChangeShapes Go.WideShapes Go.ChangeAt Go.RowKit
set_option linter.unusedVariables false
set_option maxRecDepth 20000

theorem tk_zpg (i : Int) : tk zpg i = (0, []) := by
  unfold tk
  rw [if_neg]
  rintro ⟨_, h, _⟩
  exact h (by decide)
theorem slv_zpg : slv zpg zpg = (0, []) := by unfold slv; rw [tk_zpg, tk_zpg]; rfl
theorem slv_ge (X Y : List Int) : (tk X 0).1 ≤ (slv X Y).1 ∧ (tk Y 1).1 ≤ (slv X Y).1 := by
  unfold slv
  split <;> omega
theorem slv_even {n : Int} {v Y : List Int} (h0 : 0 ≤ n) (h1 : n + 1 < 18446744073709551616) (hp : (n + 1) % 2 = 0) (hv : v.length ≤ 110) (hY : (tk Y 1).1 ≤ n) : slv (pgl (n + 1) v) Y = (n + 1, v) := by
  have := tk_pgl (n + 1) v hv (by omega)
  rw [hp] at this
  unfold slv
  rw [this, if_neg]
  simp only
  omega
theorem slv_odd {n : Int} {v X : List Int} (h0 : 0 ≤ n) (h1 : n + 1 < 18446744073709551616) (hp : (n + 1) % 2 = 1) (hv : v.length ≤ 110) (hX : (tk X 0).1 ≤ n) : slv X (pgl (n + 1) v) = (n + 1, v) := by
  have := tk_pgl (n + 1) v hv (by omega)
  rw [hp] at this
  unfold slv
  rw [this, if_pos]
  simp only
  omega
/-- the power is on, nothing waits; the slot at t has this serial and value -/
structure Cln (s : SS) (t : Nat) (n : Int) (v : List Int) : Prop where
  q : s.Q = []
  f : s.F = -1
  d : s.D = false
  lt : t + 1 < s.L.length
  sl : slv (s.L[t]?.getD []) (s.L[t + 1]?.getD []) = (n, v)
  ok : PgOk s.L
  bs : s.bs
theorem rd_cln {s : SS} (q : s.Q = []) (d : s.D = false) (i : Nat) (hi : i < s.L.length) : s.rd i = (0, s.L[i]?.getD []) := by
  unfold SS.rd
  rw [if_neg (by rw [d]; simp), if_neg (by omega), q]
  rfl
theorem ld_cln {s : SS} {t : Nat} {n : Int} {v : List Int} (h : Cln s t n v) : s.ld t = (0, n, v) := by
  have h1 := rd_cln h.q h.d t (by have := h.lt; omega)
  have h2 := rd_cln h.q h.d (t + 1) h.lt
  have h2' : s.rd ((t : Int) + 1) = (0, s.L[t + 1]?.getD []) := h2
  rw [ld_ok (by rw [h1]) (by rw [h2']), h1, h2']
  simp only
  rw [h.sl]
theorem Cln.n0 {s : SS} {t : Nat} {n : Int} {v : List Int} (h : Cln s t n v) : 0 ≤ n ∧ n < 18446744073709551616 ∧ v.length ≤ 110 ∧ Bs v := by
  have h1 := h.ok.at (i := t) (by have := h.lt; omega)
  have h2 := h.ok.at h.lt
  have b1 := bs_at h.bs.1 t
  have b2 := bs_at h.bs.1 (t + 1)
  have h3 := slv_bound h1 h2 b1 b2
  have h4 := slv_len (s.L[t]?.getD []) (s.L[t + 1]?.getD [])
  have h5 := slv_bs b1 b2
  rw [h.sl] at h3 h4 h5
  exact ⟨h3.1, h3.2, h4, h5⟩
/-- where the next value goes -/
def sd (n : Int) : Nat := ((n + 1) % 2).toNat
theorem sv_cln {s : SS} {t : Nat} {n : Int} {v u : List Int} (h : Cln s t n v) (hn : n + 1 < 18446744073709551616) (hu : u.length ≤ 110) (hb : Bs u) :
    s.sv t u = (0, n + 1, ⟨s.L.set (t + sd n) (pgl (n + 1) u), [], -1, false⟩) ∧ Cln ⟨s.L.set (t + sd n) (pgl (n + 1) u), [], -1, false⟩ t (n + 1) u := by
  have hl := ld_cln h
  obtain ⟨hn0, _, _, _⟩ := h.n0
  have hp : (n + 1) % 2 = 0 ∨ (n + 1) % 2 = 1 := by omega
  have hsd : ((t : Int) + (n + 1) % 2) = ((t + sd n : Nat) : Int) := by unfold sd; omega
  have hsl : t + sd n < s.L.length := by have := h.lt; unfold sd; omega
  have hw : s.wr ((t : Int) + (n + 1) % 2) (pgl (n + 1) u) = (0, ⟨s.L, [(t + sd n, pgl (n + 1) u)], -1, false⟩) := by
    unfold SS.wr
    rw [if_neg (by rw [h.d]; simp), hsd, if_neg (by omega), if_neg (by rw [pgl_len _ _ hu]; simp), if_neg (by rw [h.f]; decide), h.q, h.f, Int.toNat_natCast]
    rfl
  have hf : (⟨s.L, [(t + sd n, pgl (n + 1) u)], -1, false⟩ : SS).fl = (0, ⟨s.L.set (t + sd n) (pgl (n + 1) u), [], -1, false⟩) := by
    unfold SS.fl
    rw [if_neg (by simp), if_neg (by simp)]
    rfl
  refine ⟨?_, ?_⟩
  · rw [sv_ok (x := n) hu (by rw [hl]) (by rw [hl]) (by omega) (by rw [hw]) (by rw [hw]; simp only; rw [hf]), hw]
    simp only
    rw [hf]
  · have hge := slv_ge (s.L[t]?.getD []) (s.L[t + 1]?.getD [])
    rw [h.sl] at hge
    simp only at hge
    refine ⟨rfl, rfl, rfl, by simp only [List.length_set]; exact h.lt, ?_, h.ok.set _ (pgl_len _ _ hu), ⟨fun p hp => ?_, fun q hq => by simp at hq⟩⟩
    · simp only
      rcases hp with hp | hp
      · have e : t + sd n = t := by unfold sd; omega
        rw [e, List.getElem?_set_self (by have := h.lt; omega), List.getElem?_set_ne (by omega), Option.getD_some]
        exact slv_even hn0 hn hp hu hge.2
      · have e : t + sd n = t + 1 := by unfold sd; omega
        rw [e, List.getElem?_set_self h.lt, List.getElem?_set_ne (by omega), Option.getD_some]
        exact slv_odd hn0 hn hp hu hge.1
    · rcases List.mem_or_eq_of_mem_set hp with h1 | h1
      · exact h.bs.1 p h1
      · rw [h1]; exact pgl_bs _ _ hb
theorem cln_new (n t : Nat) (h : t + 1 < n) : Cln ⟨List.replicate n zpg, [], -1, false⟩ t 0 [] := by
  refine ⟨rfl, rfl, rfl, by simpa using h, ?_, fun p hp => by rw [List.eq_of_mem_replicate hp]; rfl, ⟨fun p hp => ?_, fun q hq => by simp at hq⟩⟩
  · simp only
    rw [List.getElem?_replicate, if_pos (by omega), List.getElem?_replicate, if_pos h]
    exact slv_zpg
  · rw [List.eq_of_mem_replicate hp]
    intro y hy
    unfold zpg at hy
    rw [List.eq_of_mem_replicate hy]; decide
end Go.Proofs.Ythfkooancgkjaaa
