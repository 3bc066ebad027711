/-
  What is proved here: all that waits lasts, on the document's device.
-/
import Derived.Test.YtjdojnbpchommaaMVeM
import Derived.StillTailTactics
set_option linter.unusedSimpArgs false
set_option linter.unusedVariables false
namespace Go.Proofs.Ytjdojnbpchommaa
open Go.ChangeShapes Go.WideShapes Go.ChangeAt Go.RowKit
set_option linter.unusedVariables false
set_option linter.unusedSimpArgs false
set_option maxRecDepth 20000

theorem own_set {w : World} {base e n c g i : Nat} {xs : List Value} {u : Value} (h : w.ownsRow base e 1 (.slice (some ⟨g, 0, none⟩) n c) n xs) (hi : i < n) : (w.setCell ⟨g, i, none⟩ u).ownsRow base e 1 (.slice (some ⟨g, 0, none⟩) n c) n (xs.set i u) := by
  refine ⟨by rw [List.length_set]; exact h.1, ?_⟩
  rcases h.2 with ⟨h1, h2⟩ | ⟨g', cap, cur, hv, hb, hh, hnc, hcm, hcs, htk⟩
  · omega
  · injection hv with hv1 _ hv3
    injection hv1 with hv1
    have e1 : g = g' := congrArg Addr.block hv1
    subst e1; subst hv3
    refine .inr ⟨g, c, cur.setIfInBounds i u, rfl, hb, (show Blk w g e cur from hh).setd i u, hnc, hcm, by rw [Array.size_setIfInBounds]; exact hcs, ?_⟩
    rw [← htk]
    apply List.ext_getElem?
    intro j
    rw [List.getElem?_take, List.getElem?_set, List.getElem?_take]
    by_cases hj : j < n * 1
    · rw [if_pos hj, if_pos hj, Array.getElem?_toList, Array.getElem?_setIfInBounds]
      by_cases hij : i = j
      · rw [if_pos hij, if_pos hij, if_pos (by omega), if_pos (by rw [List.length_take, Array.length_toList]; omega)]
      · rw [if_neg hij, if_neg hij, Array.getElem?_toList]
    · rw [if_neg hj, if_neg hj]
      split
      · omega
      · rfl
theorem rows_set {w : World} {rows : List Value} {P : List (List Int)} (h : RowsP w rows P) (hl : rows.length = P.length) {i : Nat} {X : List Int} {B : Option Addr} {d : Nat} (hB : Pb w B X) : RowsP w (rows.set i (.slice B 128 (128 + d))) (P.set i X) := fun j hj => by
  rw [List.length_set] at hj
  by_cases hij : i = j
  · subst hij
    exact ⟨B, d, List.getElem?_set_self (by omega), by rw [List.getElem?_set_self hj]; exact hB⟩
  · obtain ⟨B', d', h1, h2⟩ := h j hj
    exact ⟨B', d', by rw [List.getElem?_set_ne hij]; exact h1, by rw [List.getElem?_set_ne hij]; exact h2⟩
/-- while writes are laid into the pages -/
structure VfI (n0 b n c m c' : Nat) (A A' : Option Addr) (F : Int) (D : Bool) (qr : List Value) (Q : List Wr) (P : List (List Int)) (w w' : World) : Prop where
  kb : Blk w' b 44 (devV A n c A' m c' F D)
  rows : ∃ rows, w'.ownsRow n0 31 1 (.slice A n c) n rows ∧ RowsP w' rows P
  q : w'.ownsRow n0 71 2 (.slice A' m c') m qr
  qp : QrP w' qr Q
  vt : Vt w w'
  bl : Below n0 w w'
theorem VfI.same {n0 b n c m c' : Nat} {A A' : Option Addr} {F : Int} {D : Bool} {qr : List Value} {Q : List Wr} {P : List (List Int)} {w w1 w' : World} (h : VfI n0 b n c m c' A A' F D qr Q P w w1) (hb : Below w1.heap.size w1 w') (hn : n0 ≤ w1.heap.size) : VfI n0 b n c m c' A A' F D qr Q P w w' := by
  obtain ⟨h1, ⟨rows, h2, h3⟩, h4, h5, h6, h7⟩ := h
  exact ⟨h1.same (hb.block _ h1.lt), ⟨rows, own_below h2 hb, h3.same (fun k cs hk => hb.block k hk.lt)⟩, own_below h4 hb, h5.same (fun k cs hk => hb.block k hk.lt), h6.trans (Vt.below hb), h7.trans (hb.mono hn)⟩
/-- one write is laid into its page -/
theorem VfI.put {n0 b n c m c' g i : Nat} {A' : Option Addr} {F : Int} {D : Bool} {qr : List Value} {Q : List Wr} {P : List (List Int)} {w w' : World} {B : Option Addr} {d : Nat} {X : List Int} (h : VfI n0 b n c m c' (some ⟨g, 0, none⟩) A' F D qr Q P w w')
    (hi : i < n) (hP : P.length = n) (hB : Pb w' B X) (hg : n0 ≤ g) : VfI n0 b n c m c' (some ⟨g, 0, none⟩) A' F D qr Q (P.set i X) w (w'.setCell ⟨g, i, none⟩ (.slice B 128 (128 + d))) := by
  obtain ⟨h1, ⟨rows, h2, h3⟩, h4, h5, h6, h7⟩ := h
  obtain ⟨g', e, _, ⟨cur, hcur⟩, _⟩ := own_cell h2 (by omega)
  injection e with e
  have e1 : g = g' := congrArg Addr.block e
  subst e1
  have ho : ∀ k t cs, Blk w' k t cs → t ≠ 31 → (w'.setCell ⟨g, i, none⟩ (.slice B 128 (128 + d))).heap[k]? = w'.heap[k]? := fun k t cs hk ht => other_set _ _ _ _ k (hk.ne hcur ht)
  refine ⟨h1.same (ho _ _ _ h1 (by decide)), ⟨_, own_set h2 hi, (rows_set h3 (by have := h2.1; omega) hB).same (fun k cs hk => ho k _ cs hk (by decide))⟩, own_t h4 (fun k cs hk => ho k _ cs hk (by decide)), h5.same (fun k cs hk => ho k _ cs hk (by decide)), h6.trans ⟨by simp [World.setCell], fun k t cs hk ht => ho k t cs hk ht.2.1⟩, h7.setCell hg _⟩
set_option maxHeartbeats 8000000 in
theorem vf_ok {n0 : Nat} {w : World} {b : Nat} {L : List (List Int)} {Q : List Wr} {F : Int} (h : VAt n0 w b ⟨L, Q, F, false⟩) (hn : n0 ≤ w.heap.size) (hF : F ≠ 0) (hQ : Q.length < 1000) :
    Calls Try.prog 20 #[.pointer (some ⟨b, 0, none⟩)] w fun e w' => e = .returned (.int .i64 0) ∧ Lv n0 b ⟨pg L Q, [], bn F, false⟩ w w' := by
  have CO := hid (voper_ok h hF)
  obtain ⟨A, c, A', c', rows, qr, h1, _, _, h4, _⟩ := h
  have c3 : w.cell? ⟨b, 3, none⟩ = some (.bool false) := h1.cell 3
  have HQ := hid hQ; have HN := hid hn; have H4 := hid h4
  clear h1 hF hQ hn h4
  go_enter Try.func20, Try.ntmps20
  go_wp2_with (go_at_call 32; refine CO.out.mono ?_; rintro e w1 ⟨rfl, hlv⟩; have HLV := hid hlv; clear hlv)
  obtain ⟨A3, c5, A4, c6, rows3, qr3, k1, k2, k3, k4, k5, k6, k7, k8, k9, k10⟩ := HLV.out.1
  simp only at k1 k2 k3 k5 k6 k7 k8 k9 k10
  obtain ⟨m, hm⟩ : ∃ m, m = Q.length := ⟨_, rfl⟩
  obtain ⟨n, hn⟩ : ∃ n, n = L.length := ⟨_, rfl⟩
  rw [← hm, ← hn] at k1
  rw [← hn] at k2
  rw [← hm] at k3
  have HM := hid hm; have HNL := hid hn
  have I0 : Hid (VfI n0 b n c5 m c6 A3 A4 (bn F) false qr3 Q (pg L (Q.take 0)) w w1) := ⟨k1, ⟨rows3, k2, k5⟩, k3, k6, HLV.out.2.1, HLV.out.2.2⟩
  have K7 := hid k7; have K8 : Hid (PgOk L ∧ QOk L.length Q ∧ L.length ≤ 4096) := ⟨k8, k9, k10⟩
  have hm2 : (m : Int) < 1000 := by have := HQ.out; omega
  have hn2 : (n : Int) ≤ 4096 := by omega
  clear k1 k2 k3 k4 k5 k6 k7 k8 k9 k10 HLV CO hm hn
  go_loopw [3] (fun i wr => ∃ k : Nat, k ≤ m ∧ i = .int .i64 k ∧ Hid (VfI n0 b n c5 m c6 A3 A4 (bn F) false qr3 Q (pg L (Q.take k)) w wr)) (fun i _ => m - (intOf i).toNat)
  case atStart => exact ⟨0, Nat.zero_le _, rfl, I0.out⟩
  case round =>
    obtain ⟨k, hk, rfl, HI⟩ := hrel
    clear I0
    have y1 : wr.cell? ⟨b, 1, none⟩ = some (.slice A4 m c6) := HI.out.kb.cell 1
    have S4 : Hid (n0 ≤ wr.heap.size) := Nat.le_trans HN.out HI.out.vt.sz
    by_cases hlt : k < m
    · have hkQ : k < Q.length := by have := HM.out; omega
      have hkq : Q[k]? = some Q[k] := List.getElem?_eq_getElem hkQ
      obtain ⟨q, hq⟩ : ∃ q, q = Q[k] := ⟨_, rfl⟩
      rw [← hq] at hkq
      obtain ⟨a, X⟩ := q
      have hqok := K8.out.2.1 _ (List.mem_of_getElem? hkq)
      obtain ⟨h', B, d, rfl, z0, z1, hpb⟩ := q_cells HI.out.q HI.out.qp hkq (by omega)
      have han : a < n := by have := HNL.out; have := hqok.1; omega
      obtain ⟨rows4, hro, hrp⟩ := HI.out.rows
      have hPn : (pg L (Q.take k)).length = n := by rw [pg_length]; exact HNL.out.symm
      obtain ⟨g, B5, d5, hA, l0, _⟩ := l_cells hro hrp (by rw [hPn]; exact han) (by omega)
      subst hA
      obtain ⟨g', e, hg0, ⟨cur, hcur⟩, _⟩ := own_cell hro (by omega)
      injection e with e
      have e1 : g = g' := congrArg Addr.block e
      subst e1
      have lf := hcur.frozen a
      have y0 : wr.cell? ⟨b, 0, none⟩ = some (.slice (some ⟨g, 0, none⟩) n c5) := HI.out.kb.cell 0
      have HPB := hid hpb; have HAN := hid han; have HPN := hid hPn; have HG := hid hg0
      have HPG : Hid (pg L (Q.take (k + 1)) = (pg L (Q.take k)).set a X) := by
        show _ = _
        rw [List.take_add_one, hkq]
        exact pg_snoc (a, X) _ _
      have han2 : (a : Int) < n := by omega
      have hk2 : (k : Int) < m := by omega
      have HK := hid hlt
      clear hkQ hkq hq hqok hro hrp hPn hcur e hg0 hpb han hlt hk
      go_wp2
      refine wp_region_still_tail 21 (by kernel_rfl) (by kernel_rfl) ?_
      simp only [List.take_succ_cons, List.take_zero, List.drop_succ_cons, List.drop_zero]
      repeat still_step
      refine wpStill_nil ?_
      change wpList _ _ _ _ _ wr.drew
      have HID : Hid (VfI n0 b n c5 m c6 (some ⟨g, 0, none⟩) (some ⟨h', 0, none⟩) (bn F) false qr3 Q (pg L (Q.take k)) w wr.drew) := HI.out.same ((Below.refl _ _).drew) S4.out
      have HPB2 : Hid (Pb wr.drew B X) := HPB.out
      have l1 : wr.drew.cell? ⟨g, a, none⟩ = some (.slice B5 128 (128 + d5)) := l0
      have lf1 : wr.drew.frozen? ⟨g, a, none⟩ = false := lf
      clear l0 lf y0 y1 z0 z1 HI
      generalize wr.drew = w5 at HID HPB2 l1 lf1 ⊢
      have HI6 : Hid (VfI n0 b n c5 m c6 (some ⟨g, 0, none⟩) (some ⟨h', 0, none⟩) (bn F) false qr3 Q (pg L (Q.take (k + 1))) w (w5.setCell ⟨g, a, none⟩ (.slice B 128 (128 + d)))) := by
        show VfI _ _ _ _ _ _ _ _ _ _ _ _ _ _ _
        rw [HPG.out]
        exact HID.out.put HAN.out HPN.out HPB2.out HG.out
      clear HID HPB2
      go_wp2
      go_roundw
      case rel => exact ⟨k + 1, by have := HK.out; omega, by go_num, HI6.out⟩
      case measure => simp [intOf]; omega
    · obtain rfl : k = m := by omega
      have fy1 : wr.frozen? ⟨b, 1, none⟩ = false := HI.out.kb.frozen 1
      have HLW : Hid (Lv n0 b ⟨pg L Q, [], bn F, false⟩ wr (wr.setCell ⟨b, 1, none⟩ (.slice none 0 0))) := by
        obtain ⟨rows4, hro, hrp⟩ := HI.out.rows
        have hkb := HI.out.kb
        have e1 : Q.take k = Q := by rw [HM.out]; exact List.take_length
        rw [e1] at hrp
        have ho : ∀ j t cs, Blk wr j t cs → t ≠ 44 → (wr.setCell ⟨b, 1, none⟩ (.slice none 0 0)).heap[j]? = wr.heap[j]? := fun j t cs hj ht => other_set _ _ _ _ _ (hj.ne hkb ht)
        have hpl : (pg L Q).length = n := by rw [pg_length]; exact HNL.out.symm
        refine ⟨⟨A3, c5, none, 0, rows4, [], ?_, ?_, ⟨rfl, .inl ⟨rfl, rfl⟩⟩, H4.out, hrp.same (fun j cs hj => ho j _ cs hj (by decide)), fun i q hq => by simp at hq, K7.out, pg_ok _ _ K8.out.1 K8.out.2.1, QOk.nil _, by rw [pg_length]; exact K8.out.2.2⟩, ⟨by simp [World.setCell], fun j t cs hj ht => ho j t cs hj ht.1⟩, (Below.refl _ _).setCell H4.out _⟩
        · rw [hpl]; exact hkb.setd 1 _
        · rw [hpl]; exact own_t hro (fun j cs hj => ho j _ cs hj (by decide))
      clear hm2 hn2
      go_wp2
      go_ret
      exact ⟨rfl, HLW.out.1, HI.out.vt.trans HLW.out.2.1, HI.out.bl.trans HLW.out.2.2⟩
theorem vf_any {n0 : Nat} {w : World} {b : Nat} {s : SS} (h : VAt n0 w b s) (hn : n0 ≤ w.heap.size) (hQ : s.Q.length < 1000) :
    Calls Try.prog 20 #[.pointer (some ⟨b, 0, none⟩)] w fun e w' => e = .returned (.int .i64 s.fl.1) ∧ Lv n0 b s.fl.2 w w' := by
  have hh := h
  obtain ⟨A, c, A', c', rows, qr, h1, _⟩ := h
  obtain ⟨L, Q, F, D⟩ := s
  simp only at h1 hQ
  have c3 : w.cell? ⟨b, 3, none⟩ = some (.bool D) := h1.cell 3
  unfold SS.fl
  simp only
  have HV := hid hh
  cases D with
  | true =>
    rw [if_pos rfl]
    clear h1 hQ hh hn
    go_enter Try.func20, Try.ntmps20
    go_wp2
    go_ret
    exact ⟨rfl, Lv.refl HV.out⟩
  | false =>
    rw [if_neg (by simp)]
    by_cases hF : F = 0
    · rw [if_pos hF]
      have CO := hid (voper_out hh hF)
      clear h1 hQ hh hn hF
      go_enter Try.func20, Try.ntmps20
      go_wp2_with (go_at_call 32; refine CO.out.mono ?_; rintro e w1 ⟨rfl, hlv⟩; have HLV := hid hlv; clear hlv)
      go_ret
      exact ⟨rfl, HLV.out⟩
    · rw [if_neg hF]
      exact vf_ok hh hn hF hQ
end Go.Proofs.Ytjdojnbpchommaa
