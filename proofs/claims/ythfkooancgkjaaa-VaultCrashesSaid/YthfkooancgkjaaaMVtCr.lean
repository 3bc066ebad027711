/-
  What is proved here: wherever the power goes, whatever of what waits is kept, also within openings: the records that a vault has are the first ones of those that were there and were appended since, at least those that were flushed; or those of a Replace within which the power went.
-/
import Derived.Test.YthfkooancgkjaaaMVtCm
import Derived.Deep.DeepCutAuto
import Derived.Deep.RegionLaw
import Derived.OrdersHeld
set_option linter.unusedSimpArgs false
set_option linter.unusedVariables false
namespace Go.Proofs.Ythfkooancgkjaaa
open Go.ChangeShapes Go.WideShapes Go.ChangeAt Go.RowKit
set_option linter.unusedVariables false
set_option linter.unusedSimpArgs false
set_option maxRecDepth 20000

/-- what a round of the statement has -/
structure CrS (n0 b : Nat) (w : World) (k vb : Nat) (all : List (List Int)) (sure : Nat) (other : List (List (List Int))) (s : SS) (n : Int) (a : Nat) (lam : Int) (l : LS) (ov : Bool) (va vo : Value) (wr : World) : Prop where
  vc : VC k all sure other s n a lam l ov
  mm : CrM n0 b vb w s a lam l ov wr
  al : AllX n0 w wr all va
  ot : OthX n0 w wr other vo
  ob : ∀ x ∈ other, x.length ≤ 10 ∧ ∀ f ∈ x, f.length ≤ 7000
  ol : other.length ≤ k
/-- the world and what lies in it beside the vault -/
structure CrW (n0 pw : Nat) (w : World) (cs : Array Value) (all : List (List Int)) (other : List (List (List Int))) (va vo : Value) (wr : World) : Prop where
  be : Below n0 w wr
  op : Blk wr pw 37 cs
  al : AllX n0 w wr all va
  ot : OthX n0 w wr other vo
theorem CrW.keep {n0 pw : Nat} {w : World} {cs : Array Value} {all : List (List Int)} {other : List (List (List Int))} {va vo : Value} {wr w' : World} (h : CrW n0 pw w cs all other va vo wr) (hk : Kv wr w') (hb : Below n0 wr w') : CrW n0 pw w cs all other va vo w' :=
  ⟨h.be.trans hb, hk.blk h.op (by decide), h.al.keep hk hb, h.ot.keep hk⟩
theorem CrW.below {n0 pw : Nat} {w : World} {cs : Array Value} {all : List (List Int)} {other : List (List (List Int))} {va vo : Value} {wr w' : World} (h : CrW n0 pw w cs all other va vo wr) (hb : Below wr.heap.size wr w') (hn : n0 ≤ wr.heap.size) : CrW n0 pw w cs all other va vo w' := h.keep (Kv.below hb) (hb.mono hn)
theorem Ko.own {t0 : TypeId} {w w' : World} (h : Ko t0 w w') {base e size n : Nat} {v : Value} {xs : List Value} (ho : w.ownsRow base e size v n xs) (ht : e ≠ t0) : w'.ownsRow base e size v n xs := by
  refine ⟨ho.1, ?_⟩
  rcases ho.2 with h1 | ⟨g, cap, cur, hv, hg, hh, r⟩
  · exact .inl h1
  · exact .inr ⟨g, cap, cur, hv, hg, (show Blk w g e cur from hh).same (h.2 g e cur hh ht), r⟩
theorem AllM.ko {m n0 : Nat} {t0 : TypeId} {w w' : World} {M : List (List Int)} {v : Value} (h : AllM m n0 w M v) (hk : Ko t0 w w') (h1 : 23 ≠ t0 ∧ 5 ≠ t0) (hb : Below n0 w w') : AllM m n0 w' M v := by
  obtain ⟨A, c, rows, k1, k2, k3⟩ := h
  exact ⟨A, c, rows, k1, hk.own k2 h1.1, fun j hj => by
    obtain ⟨B, d, h4, h5⟩ := k3 j hj
    exact ⟨B, d, h4, h5.keep (fun g cs hg => hk.2 g _ cs hg h1.2) hb⟩⟩
theorem AllX.ko {n0 : Nat} {t0 : TypeId} {w0 w w' : World} {M : List (List Int)} {v : Value} (h : AllX n0 w0 w M v) (hk : Ko t0 w w') (h1 : 23 ≠ t0 ∧ 5 ≠ t0) (hb : Below n0 w w') : AllX n0 w0 w' M v := h.imp (fun h => h.ko hk h1 hb) id
/-- what a round keeps while lists of records turn -/
structure CrT (n0 b vb pw : Nat) (w : World) (cs : Array Value) (other : List (List (List Int))) (vo : Value) (s : SS) (a : Nat) (lam : Int) (l : LS) (ov : Bool) (x : World) : Prop where
  mm : CrM n0 b vb w s a lam l ov x
  op : Blk x pw 37 cs
  ot : OthX n0 w x other vo
section
variable {n0 b vb pw : Nat} {w : World} {cs : Array Value} {other : List (List (List Int))} {vo : Value} {s : SS} {a : Nat} {lam : Int} {l : LS} {ov : Bool} {x y : World}
theorem CrT.below (h : CrT n0 b vb pw w cs other vo s a lam l ov x) (hb : Below x.heap.size x y) (hn : n0 ≤ x.heap.size) : CrT n0 b vb pw w cs other vo s a lam l ov y := ⟨h.mm.below hb hn, h.op.below hb, h.ot.keep (Kv.below hb)⟩
theorem OthX.ko {t0 : TypeId} {O : List (List (List Int))} {v : Value} (h : OthX n0 w x O v) (hk : Ko t0 x y) (h1 : 31 ≠ t0) : OthX n0 w y O v := by
  obtain ⟨A, c, rows, k1, k2, k3⟩ := h
  exact ⟨A, c, rows, k1, hk.own k2 h1, k3⟩
theorem CrT.kb (h : CrT n0 b vb pw w cs other vo s a lam l ov x) (hk : Kb x y) (hb : Below n0 x y) : CrT n0 b vb pw w cs other vo s a lam l ov y := ⟨h.mm.ko hk.ko (by decide) (by decide) hb, hk.blk h.op (by decide), h.ot.ko hk.ko (by decide)⟩
end
theorem rp_placev {w : World} {A : Option Addr} {xs : List Int} (h : Rp w none A xs) (hx : 0 < xs.length) : ∃ g off, A = some ⟨g, off, none⟩ ∧ g < w.heap.size ∧ ∀ j, j < xs.length → w.cell? ⟨g, off + j, none⟩ = some (.int .u8 (xs[j]?.getD 0)) := by
  obtain ⟨⟨g, off, s⟩, rfl, hc⟩ := h.get hx
  have h0 := hc 0 hx
  have hs : s = none := by simpa [Addr.add] using World.cell?_spot h0
  subst hs
  have hlt := block_lt_of_cell h0
  rw [add_block] at hlt
  exact ⟨g, off, rfl, hlt, fun j hj => by have := hc j hj; rw [Addr.add_mid] at this; exact this⟩
theorem Lf.kv {n0 b : Nat} {s : SS} {w w' : World} (h : Lf n0 b s w w') : Kv w w' := Kv.of (Kx.of h.2.1)
/-- the vault of a new device -/
theorem vc_open0 {s : SS} (h : VR 120 59 s 0 0 1 0 []) (hbs : s.bs) (hF : s.F = -1) : (s.sv 0 (val9 0 1 1)).1 = 0 ∧ VC 0 [] 0 [] (s.sv 0 (val9 0 1 1)).2.2 1 0 1 ⟨1, (scn ((s.sv 0 (val9 0 1 1)).2.2.lp (off 59 0)) 59 59 0 1).2.1, false⟩ false := by
  have h0 := vr_on h (by decide) hF
  obtain ⟨u1, u2⟩ := vr_up h (by decide) (by decide) h0
  exact ⟨h0, ⟨SS.sv_bs hbs 0 _ (val9_bs (by decide) _ _), u1.len, by have := u1.q; rw [show (0 : Int) + 1 = 1 from rfl] at this; rw [this]; simp, by decide, u2.n2, by decide, by simp only; omega, ⟨by simp, by simp⟩, fun _ => ⟨u2, rfl⟩, fun ho => by cases ho⟩⟩
set_option maxHeartbeats 16000000 in
theorem vcrash_30 (A1 : Option Addr) (n1 d1 : Nat) (ol : List Ov) (A2 : Option Addr) (n2 d2 : Nat) (wl : List Int) (w : World) (hin : InOps w A1 n1 ol) (h30 : n1 ≤ 30) (hsm : SmallV ol ol.length) (hwi : InB w A2 n2 d2 wl) (h8 : n2 ≤ 8)
    (CF : Hid (∀ w', Below w.heap.size w w' → Calls Try.prog 7 #[.slice A1 n1 d1, .int .i64 30] w' fun e w2 => e = .returned (.bool true) ∧ w' = w2)) :
    Calls Try.prog 3 #[.slice A1 n1 d1, .slice A2 n2 d2] w fun e w' => e = .returned (.bool true) ∧ Below w.heap.size w w' := by
  obtain ⟨n0, hn0⟩ : ∃ n0, n0 = w.heap.size := ⟨_, rfl⟩
  have HN0 := hid hn0
  have HOPS := hid hin; have H30 := hid h30; have HSM := hid hsm; have HWI := hid hwi
  have HOL : Hid (ol.length = n1) := hin.1
  have g8 : ¬ (8 : Int) < (n2 : Int) := by omega
  have CW := hid (fun w => vtawake_any w)
  have CN := hid (fun (u : World) => Dy.new 120 u (by decide))
  obtain ⟨s0, hs0⟩ : ∃ s0, s0 = (⟨List.replicate 120 zpg, [], -1, false⟩ : SS) := ⟨_, rfl⟩
  have a1 := vr_new (T := 120) (S := 59) (by decide) (by decide)
  have a2 := new_bs 120
  rw [← hs0] at CN a1 a2
  obtain ⟨a3, a4⟩ := vc_open0 a1 a2 (by rw [hs0])
  obtain ⟨s1, hs1⟩ : ∃ s1, s1 = (s0.sv 0 (val9 0 1 1)).2.2 := ⟨_, rfl⟩
  rw [← hs1] at a4
  obtain ⟨l1, hl1⟩ : ∃ l1 : LS, l1 = ⟨1, (scn (s1.lp (off 59 0)) 59 59 0 1).2.1, false⟩ := ⟨_, rfl⟩
  rw [← hl1] at a4
  have CO : Hid (∀ b w1, Dy n0 w1 b s0 → Below n0 w w1 → Calls Try.prog 9 #[.pointer (some ⟨b, 0, none⟩)] w1 fun e w' => ∃ vb V, e = .returned (.tuple #[.pointer (some ⟨vb, 0, none⟩), V, .int .i64 0]) ∧ CrM n0 b vb w s1 0 1 l1 false w') := hid fun b w1 h hb => by
    have hs : n0 ≤ w1.heap.size := by have := hb.size; omega
    have := vtOpen_any h hs a2 a1 (by decide) (by decide) (by decide) (by decide) (by decide)
    unfold OpV at this
    refine this.mono ?_
    rintro e w' (⟨_, vb, lb, V, q1, q2, q3, q4, q5, _, q7, q8, q9⟩ | ⟨q, _⟩)
    · have hd : Dy n0 w' b s1 := by rw [hs1]; exact q7
      refine ⟨vb, V, q1, ⟨hd, Nat.le_trans hs q2, hb.trans q9, fun _ => ⟨lb, ⟨hd, ?_, ?_, Nat.le_trans hs q3, Nat.le_trans hs q2, hb.trans q9⟩⟩, fun ho => by cases ho⟩⟩
      · rw [hl1]; exact q4
      · rw [hl1, hs1]; exact q5
    · exact (q a3).elim
  have HVC0 := hid a4
  have BW0 : Hid (∀ w', Below w.heap.size w w' → Below n0 w w') := hid fun w' h => by rw [hn0]; exact h
  rw [← hn0]
  clear hin h30 hsm hwi hn0 hs0 hs1 hl1 a1 a2 a3 a4
  have h30 : n1 ≤ 30 := H30.out
  go_enter Try.func3, Try.ntmps3
  go_wp2_with (first
    | (go_at_call 6; (with_reducible refine (CW.out w).mono ?_); rintro e w1 ⟨rfl, hb1⟩; have B1 := hid hb1; clear hb1)
    | (go_at_call 7; refine (CF.out _ B1.out).mono ?_; rintro e w2 ⟨rfl, rfl⟩)
    | (go_at_call 8; refine (CN.out _).mono ?_; rintro e w2 ⟨b, rfl, hd, hb2⟩; have B2 : Hid (Below n0 w w2) := hid (BW0.out _ (B1.out.trans (hb2.mono B1.out.size))); have HD := hid (hd.mono2 (show n0 ≤ w1.heap.size by rw [HN0.out]; exact B1.out.size)); have CO1 := hid (CO.out b w2 HD.out B2.out); clear hd hb2)
    | (go_at_call 9; refine CO1.out.mono ?_; rintro e w3 ⟨vb, V, rfl, hm3⟩; have CS3 : Hid (CrS n0 b w 0 vb [] 0 [] s1 1 0 1 l1 false (.slice none 0 0) (.slice none 0 0) w3) := hid ⟨HVC0.out, hm3, .inl (AllM.nil _ _ _), OthX.nil _ _ _, (fun x hx => by simp at hx), Nat.le_refl _⟩; have BE3 := hid hm3.be; clear hm3))
  clear CO CO1 CN CW CF B1 B2 HD BW0 HVC0
  go_loopw [7, 10, 11, 12, 13] (fun vv va vo su i wr => ∃ (k vb sure : Nat) (all : List (List Int)) (other : List (List (List Int))) (s : SS) (n : Int) (a : Nat) (lam : Int) (l : LS) (ov : Bool), k ≤ n1 ∧ i = .int .i64 k ∧ vv = .pointer (some ⟨vb, 0, none⟩) ∧ su = .int .i64 sure ∧ Hid (k ≤ 29 → CrS n0 b w k vb all sure other s n a lam l ov va vo wr) ∧ Hid (Below n0 w wr)) (fun _ _ _ _ i _ => n1 - (intOf i).toNat)
  case atStart => exact ⟨0, vb, 0, [], [], s1, 1, 0, 1, l1, false, by omega, rfl, rfl, rfl, hid (fun _ => CS3.out), BE3⟩
  case round =>
    clear CS3 BE3
    obtain ⟨k, vb, sure, all, other, s, n, a, lam, l, ov, hk, rfl, rfl, rfl, CSK, BE⟩ := hrel
    have S4 : Hid (n0 ≤ wr.heap.size) := hid (by have := BE.out.size; rw [← HN0.out] at this; exact this)
    by_cases hlt : k < n1
    · have hk29 : k ≤ 29 := by omega
      have CK := hid (CSK.out hk29)
      clear CSK
      obtain ⟨ga, off', rfl, hg, hat⟩ := opV_at HOPS.out (by omega)
      obtain ⟨o, B, c1, E, d, h1, h2, h3⟩ := hat k hlt
      have hsmo := HSM.out k (by rw [HOL.out]; exact hlt) o h1
      obtain ⟨hm10, h7000⟩ := fewR_all hsmo.1 (by decide)
      have key : ∀ j v, (opC o B c1 E d)[j]? = some v → wr.cell? ⟨ga, off' + k * 4 + j, none⟩ = some v := fun j v hv => (BE.out.cell (by rw [HN0.out]; exact hg)).trans (h3 j v hv)
      have z0 : wr.cell? ⟨ga, off' + k * 4, none⟩ = some (.int .i64 o.k) := key 0 _ rfl
      have z1 : wr.cell? ⟨ga, off' + k * 4 + 1, none⟩ = some (.int .i64 o.i) := key 1 _ rfl
      have z2 : wr.cell? ⟨ga, off' + k * 4 + 2, none⟩ = some (.slice B o.b.length c1) := key 2 _ rfl
      have z3 : wr.cell? ⟨ga, off' + k * 4 + 3, none⟩ = some (.slice E o.l.length d) := key 3 _ rfl
      have HQ9 : Hid (∀ s' : SS, s'.Q.length ≤ s.Q.length → s'.Q.length < 900000) := hid (fun s' hs' => by have := CK.out.vc.ql; omega)
      have CFs : Hid (∀ w', Dy n0 w' b s → n0 ≤ w'.heap.size → Calls Try.prog 13 #[.pointer (some ⟨b, 0, none⟩), .int .i64 o.i] w' fun e w2 => e = .returned (.tuple #[]) ∧ Lf n0 b (s.sf o.i) w' w2) := hid fun w' hd hb => ds_any hd hb o.i h2.i
      have CX : Hid (∀ (s' : SS) w', Dy n0 w' b s' → Below n0 w w' → s'.Q.length < 900000 → Calls Try.prog 15 #[.pointer (some ⟨b, 0, none⟩), .slice E o.l.length d] w' fun e w2 => e = .returned (.tuple #[]) ∧ Lf n0 b (s'.rs o.l) w' w2) := hid fun s' w' hd hb hq =>
        dx_any hd (Nat.le_trans (Nat.le_of_eq HN0.out) hb.size) E d o.l (h2.l.2.2.below (bel_of hb HN0.out)) (fun hx a ha => by rw [HN0.out]; exact ip_lt h2.l.2.2 hx a ha) (by omega) (by omega)
      obtain ⟨L, hL⟩ : ∃ L, L = o.b := ⟨_, rfl⟩
      obtain ⟨ll, hll⟩ : ∃ m, m = o.l := ⟨_, rfl⟩
      have hib := h2.b
      rw [← hL] at hib hm10 h7000 z2
      rw [← hll] at z3 CX
      obtain ⟨m1, hm1⟩ : ∃ m, m = L.length := ⟨_, rfl⟩
      obtain ⟨m2, hm2⟩ : ∃ m, m = ll.length := ⟨_, rfl⟩
      obtain ⟨kd, hkd⟩ : ∃ m, m = o.k := ⟨_, rfl⟩
      obtain ⟨iv, hiv⟩ : ∃ m, m = o.i := ⟨_, rfl⟩
      rw [← hkd] at z0
      rw [← hiv] at z1 CFs
      rw [← hm1] at z2 hib hm10
      rw [← hm2] at z3 CX
      have HM1 := hid hm1; have HIB := hid hib; have H7 : Hid (∀ x ∈ L, x.length ≤ 7000) := hid h7000
      have hm9 : m1 ≤ 10 := hm10
      obtain ⟨Rb, rm, rc, x, x1, x2, x3, x4, x5, x6, x7⟩ := rec_at (B := B) (c1 := c1) hib HN0.out.symm h7000 kd iv E m2 d
      have HX1 := hid x1; have HX3 := hid x3; have HX4 := hid x4; have HX5 := hid x5; have HX6 := hid x6; have CRc := hid x7
      have hrm7 : rm ≤ 7000 := by omega
      have hk2 : (k : Int) < n1 := by omega
      clear key h1 h2 h3 hat hg hsmo hkd hiv hm1 hm2 hL hll hlt hib h7000 hm10 x1 x2 x3 x4 x5 x6 x7
      go_upto_region 12 with (fail)
      have hb5 : Below wr.heap.size wr (wr.alloc (.cells #[.int .i64 kd, .int .i64 iv, .slice B m1 c1, .slice E m2 d] 37)) := (Below.refl _ _).alloc (Nat.le_refl _) _
      have HBK := Blk.new wr 37 #[.int .i64 kd, .int .i64 iv, .slice B m1 c1, .slice E m2 d]
      obtain ⟨va, hva⟩ : ∃ v, v = u10 := ⟨_, rfl⟩
      obtain ⟨vo, hvo⟩ : ∃ v, v = u11 := ⟨_, rfl⟩
      have MM5 := hid (CK.out.mm.below hb5 S4.out)
      have W5 : Hid (CrW n0 wr.heap.size w #[.int .i64 kd, .int .i64 iv, .slice B m1 c1, .slice E m2 d] all other u10 u11 (wr.alloc (.cells #[.int .i64 kd, .int .i64 iv, .slice B m1 c1, .slice E m2 d] 37))) := hid ⟨BE.out.trans (hb5.mono S4.out), HBK, CK.out.al.keepKb hb5 S4.out, CK.out.ot.keep (Kv.below hb5)⟩
      have VCK := hid CK.out.vc; have HOB := hid CK.out.ob; have HOO := hid CK.out.ol
      clear hb5 HBK z0 z1 z2 z3 CK BE
      obtain ⟨pw, hpw⟩ : ∃ pw, pw = wr.heap.size := ⟨_, rfl⟩
      rw [← hpw] at W5 ⊢
      generalize wr.alloc (.cells #[.int .i64 kd, .int .i64 iv, .slice B m1 c1, .slice E m2 d] 37) = w5 at MM5 W5 ⊢
      clear hpw S4
      have S5 : Hid (n0 ≤ w5.heap.size) := hid (by have := W5.out.be.size; rw [← HN0.out] at this; exact this)
      have y0 : w5.cell? ⟨pw, 0, none⟩ = some (.int .i64 kd) := W5.out.op.cell 0
      have y1 : w5.cell? ⟨pw, 1, none⟩ = some (.int .i64 iv) := W5.out.op.cell 1
      have y2 : w5.cell? ⟨pw, 2, none⟩ = some (.slice B m1 c1) := W5.out.op.cell 2
      have y3 : w5.cell? ⟨pw, 3, none⟩ = some (.slice E m2 d) := W5.out.op.cell 3
      by_cases k1 : kd = 1
      · subst k1
        have CR5 := hid (CRc.out w5 W5.out.be)
        by_cases h6 : rm ≤ 6000
        · have g6 : (rm : Int) ≤ 6000 := by omega
          obtain ⟨r9, s9, l9, ov9, hvc, hcall⟩ := CrM.app (n0 := n0) (b := b) (vb := vb) (w := w) VCK.out hk29 HX3.out (by have := HX1.out; omega)
          have CA : Hid (∀ y, CrM n0 b vb w s a lam l ov y → n0 ≤ y.heap.size → Rp y none Rb x → Src n0 y Rb x → Calls Try.prog 11 #[.pointer (some ⟨vb, 0, none⟩), .slice Rb rm rc] y fun e w' => e = .returned (.int .i64 r9) ∧ CrM n0 b vb w s9 a lam l9 ov9 w' ∧ Kv y w' ∧ Below n0 y w') := hid fun y h1 h2 h3 h4 => hcall y Rb rm rc h1 h2 HX1.out h3 h4 HX4.out (by omega)
          have HVC := hid hvc
          clear hvc hcall h6
          by_cases h5 : r9 = 5
          · subst h5
            have HV : Hid (k + 1 ≤ 29 → VC (k + 1) all sure other s9 n a lam l9 ov9) := hid (fun h => by have := HVC.out (by omega); rw [if_pos rfl] at this; exact this)
            clear HVC
            go_wp2_with (first
            | (go_at_call 10; (with_reducible refine CR5.out.mono ?_); rintro e w6 ⟨rfl, hb⟩; have MM6 := hid (MM5.out.below hb S5.out); have W6 := hid (W5.out.below hb S5.out); have S6 : Hid (n0 ≤ w6.heap.size) := hid (Nat.le_trans S5.out hb.size); have CR6 := hid (CRc.out w6 W6.out.be); have q0w6 : w6.cell? ⟨pw, 0, none⟩ = some (.int .i64 1) := W6.out.op.cell 0; have q1w6 : w6.cell? ⟨pw, 1, none⟩ = some (.int .i64 iv) := W6.out.op.cell 1; have q2w6 : w6.cell? ⟨pw, 2, none⟩ = some (.slice B m1 c1) := W6.out.op.cell 2; have q3w6 : w6.cell? ⟨pw, 3, none⟩ = some (.slice E m2 d) := W6.out.op.cell 3; clear hb)
            | (go_at_call 10; refine CR6.out.mono ?_; rintro e w7 ⟨rfl, hb⟩; have MM7 := hid (MM6.out.below hb S6.out); have W7 := hid (W6.out.below hb S6.out); have S7 : Hid (n0 ≤ w7.heap.size) := hid (Nat.le_trans S6.out hb.size); have q0w7 : w7.cell? ⟨pw, 0, none⟩ = some (.int .i64 1) := W7.out.op.cell 0; have q1w7 : w7.cell? ⟨pw, 1, none⟩ = some (.int .i64 iv) := W7.out.op.cell 1; have q2w7 : w7.cell? ⟨pw, 2, none⟩ = some (.slice B m1 c1) := W7.out.op.cell 2; have q3w7 : w7.cell? ⟨pw, 3, none⟩ = some (.slice E m2 d) := W7.out.op.cell 3; clear hb)
            | (go_at_call 11; refine (CA.out w7 MM7.out S7.out (HX5.out _ W7.out.be) (HX6.out _)).mono ?_; rintro e w8 ⟨rfl, h2, h3, h4⟩; have MM8 := hid h2; have W8 := hid (W7.out.keep h3 h4); have S8 : Hid (n0 ≤ w8.heap.size) := hid (Nat.le_trans S7.out h3.sz); have q0w8 : w8.cell? ⟨pw, 0, none⟩ = some (.int .i64 1) := W8.out.op.cell 0; have q1w8 : w8.cell? ⟨pw, 1, none⟩ = some (.int .i64 iv) := W8.out.op.cell 1; have q2w8 : w8.cell? ⟨pw, 2, none⟩ = some (.slice B m1 c1) := W8.out.op.cell 2; have q3w8 : w8.cell? ⟨pw, 3, none⟩ = some (.slice E m2 d) := W8.out.op.cell 3; clear h2 h3 h4))
            go_roundw
            case rel => exact ⟨k + 1, vb, sure, all, other, s9, n, a, lam, l9, ov9, by omega, by go_num, rfl, rfl, hid (fun h29 => ⟨HV.out h29, MM8.out, W8.out.al, W8.out.ot, HOB.out, by have := HOO.out; omega⟩), hid W8.out.be⟩
            case measure => simp [intOf]; omega
          · have g5 : (r9 != 5) = true := by simpa using h5
            have HV : Hid (k + 1 ≤ 29 → VC (k + 1) (all ++ [x]) sure other s9 n a lam l9 ov9) := hid (fun h => by have := HVC.out (by omega); rw [if_neg h5] at this; exact this)
            clear HVC h5
            go_wp2_with (first
            | (go_at_call 10; (with_reducible refine CR5.out.mono ?_); rintro e w6 ⟨rfl, hb⟩; have MM6 := hid (MM5.out.below hb S5.out); have W6 := hid (W5.out.below hb S5.out); have S6 : Hid (n0 ≤ w6.heap.size) := hid (Nat.le_trans S5.out hb.size); have CR6 := hid (CRc.out w6 W6.out.be); have q0w6 : w6.cell? ⟨pw, 0, none⟩ = some (.int .i64 1) := W6.out.op.cell 0; have q1w6 : w6.cell? ⟨pw, 1, none⟩ = some (.int .i64 iv) := W6.out.op.cell 1; have q2w6 : w6.cell? ⟨pw, 2, none⟩ = some (.slice B m1 c1) := W6.out.op.cell 2; have q3w6 : w6.cell? ⟨pw, 3, none⟩ = some (.slice E m2 d) := W6.out.op.cell 3; clear hb)
            | (go_at_call 10; refine CR6.out.mono ?_; rintro e w7 ⟨rfl, hb⟩; have MM7 := hid (MM6.out.below hb S6.out); have W7 := hid (W6.out.below hb S6.out); have S7 : Hid (n0 ≤ w7.heap.size) := hid (Nat.le_trans S6.out hb.size); have q0w7 : w7.cell? ⟨pw, 0, none⟩ = some (.int .i64 1) := W7.out.op.cell 0; have q1w7 : w7.cell? ⟨pw, 1, none⟩ = some (.int .i64 iv) := W7.out.op.cell 1; have q2w7 : w7.cell? ⟨pw, 2, none⟩ = some (.slice B m1 c1) := W7.out.op.cell 2; have q3w7 : w7.cell? ⟨pw, 3, none⟩ = some (.slice E m2 d) := W7.out.op.cell 3; clear hb)
            | (go_at_call 11; refine (CA.out w7 MM7.out S7.out (HX5.out _ W7.out.be) (HX6.out _)).mono ?_; rintro e w8 ⟨rfl, h2, h3, h4⟩; have MM8 := hid h2; have W8 := hid (W7.out.keep h3 h4); have S8 : Hid (n0 ≤ w8.heap.size) := hid (Nat.le_trans S7.out h3.sz); have q0w8 : w8.cell? ⟨pw, 0, none⟩ = some (.int .i64 1) := W8.out.op.cell 0; have q1w8 : w8.cell? ⟨pw, 1, none⟩ = some (.int .i64 iv) := W8.out.op.cell 1; have q2w8 : w8.cell? ⟨pw, 2, none⟩ = some (.slice B m1 c1) := W8.out.op.cell 2; have q3w8 : w8.cell? ⟨pw, 3, none⟩ = some (.slice E m2 d) := W8.out.op.cell 3; clear h2 h3 h4))
            have HC8 : Hid (CrT n0 b vb pw w #[.int .i64 1, .int .i64 iv, .slice B m1 c1, .slice E m2 d] other u11 s9 a lam l9 ov9 w8) := hid ⟨MM8.out, W8.out.op, W8.out.ot⟩
            obtain ⟨A9, c9, hv9⟩ := W8.out.al.len
            obtain ⟨lm, hlm⟩ : ∃ lm, lm = all.length := ⟨_, rfl⟩
            have AX := hid W8.out.al
            rw [← hlm] at hv9
            have HLM := hid hlm
            have HAL : Hid (all.length ≤ 1000) := hid (by have := VCK.out.al.1; omega)
            have IOP : Hid ((Try.prog.info? 37).map (·.size) = some 4) := by show _ = _; kernel_rfl
            clear hlm
            subst hv9
            refine wp_region_held (S := fun w' => Hid (CrT n0 b vb pw w #[.int .i64 1, .int .i64 iv, .slice B m1 c1, .slice E m2 d] other u11 s9 a lam l9 ov9 w')) (by kernel_rfl) ?_
            change wpAnyH _ _ _ _ _ _ _ _ w8.drew
            have Gx0 : Hid (CrT n0 b vb pw w #[.int .i64 1, .int .i64 iv, .slice B m1 c1, .slice E m2 d] other u11 s9 a lam l9 ov9 w8.drew) := HC8.out.below (below_drew1 _) S8.out
            have AX' : Hid (AllX n0 w w8.drew all (.slice A9 lm c9)) := AX.out.keepKb (below_drew1 _) S8.out
            clear AX
            have AX := AX'
            clear AX'
            generalize w8.drew = x0 at Gx0 AX ⊢
            refine wpAnyH_take (i := 1) (oi := { dst := some 72, op := _, type := _, pos := _, after := _, guard := _ }) (v := ?_) rfl (by kernel_rfl) (by kernel_rfl) (by kernel_rfl) (fun _ _ _ h => h) (Or.inl ⟨by kernel_rfl, ?_⟩) Gx0 ?_
            rotate_left
            · (intro w hSw; go_simp; try with_reducible rfl)
            try simp only [Act.put, List.setIfInBounds_toArray, List.set_cons_zero, List.set_cons_succ]
            refine wpAnyH_take (i := 3) (oi := { dst := some 74, op := _, type := _, pos := _, after := _, guard := _ }) (v := .agg (#[.int .i64 1, .int .i64 iv, .slice B m1 c1, .slice E m2 d])) rfl (by kernel_rfl) (by kernel_rfl) (by kernel_rfl) (fun _ _ _ h => h) (yieldsIf_load_mid (cs := [.int .i64 1, .int .i64 iv, .slice B m1 c1, .slice E m2 d]) (by rfl) _ _ rfl _ _ rfl _ (fun w' hSw => blk_rng hSw.out.op) Try.underlying37 rfl IOP.out) Gx0 ?_
            try simp only [Act.put, List.setIfInBounds_toArray, List.set_cons_zero, List.set_cons_succ]
            refine wpAnyH_ready (rs := [0]) (by kernel_rfl) (by simp) ?_
            refine (AllReadyH.cons (o := { dst := some 71, op := _, type := _, pos := _, after := _, guard := _ }) rfl (fun Qc hQc => ?_) AllReadyH.nil)
            go_simp
            have hbe : Below x0.heap.size x0 (x0.alloc (.cells #[] 23)) := (Below.refl _ _).alloc (Nat.le_refl _) _
            have SX : n0 ≤ x0.heap.size := by have := Gx0.out.mm.be.size; rw [← HN0.out] at this; exact this
            have Gx1 := hid (Gx0.out.below hbe SX)
            have E0 := hid (Blk.new x0 23 #[])
            have LE0 := hid SX
            have AX' := hid (AX.out.keepKb hbe SX)
            clear AX
            have AX := AX'
            clear AX'
            refine hQc.out _ _ Gx1 (fun hHeld => ?_)
            clear hQc Qc hHeld Gx0 hbe SX
            generalize x0.heap.size = g0 at E0 LE0 ⊢
            generalize x0.alloc (.cells #[] 23) = x1 at Gx1 E0 AX ⊢
            try simp only [Act.put, List.setIfInBounds_toArray, List.set_cons_zero, List.set_cons_succ]
            refine wpAnyH_ready (rs := [2]) (by kernel_rfl) (by simp) ?_
            refine (AllReadyH.cons (o := { dst := some 73, op := _, type := _, pos := _, after := _, guard := _ }) rfl (fun Qc hQc => ?_) AllReadyH.nil)
            have SX : n0 ≤ x1.heap.size := by have := Gx1.out.mm.be.size; rw [← HN0.out] at this; exact this
            refine copy_qo (.tmp 71) (.tmp 72) rfl n0 n0 g0 all A9 lm c9 rfl rfl HLM.out E0.out LE0.out (AX.out.raq HN0.out.symm Gx1.out.mm.be) HAL.out SX (Nat.le_refl _) ?_
            intro v2 x2 am2 kb2 be2 fr2
            have Gx2 := hid (Gx1.out.kb kb2 be2)
            clear AX E0 LE0
            have AX := hid am2
            clear am2 kb2 be2 fr2 SX
            refine hQc.out _ _ Gx2 (fun hHeld => ?_)
            clear hQc Qc hHeld Gx1
            try simp only [Act.put, List.setIfInBounds_toArray, List.set_cons_zero, List.set_cons_succ]
            refine wpAnyH_ready (rs := [4]) (by kernel_rfl) (by simp) ?_
            refine (AllReadyH.cons (o := { dst := some 75, op := _, type := _, pos := _, after := _, guard := _ }) rfl (fun Qc hQc => ?_) AllReadyH.nil)
            go_simp
            go_at_call 10
            refine (CRc.out _ Gx2.out.mm.be).mono ?_
            rintro e x3 ⟨rfl, hbe⟩
            have SX : n0 ≤ x2.heap.size := by have := Gx2.out.mm.be.size; rw [← HN0.out] at this; exact this
            have Gx3 := hid (Gx2.out.below hbe SX)
            have AX' := hid (AX.out.below hbe SX)
            clear AX
            have AX := AX'
            clear AX'
            go_wp2_with fail
            refine hQc.out _ _ Gx3 (fun hHeld => ?_)
            clear hQc Qc hHeld Gx2 hbe SX
            try simp only [Act.put, List.setIfInBounds_toArray, List.set_cons_zero, List.set_cons_succ]
            refine wpAnyH_ready (rs := [5]) (by kernel_rfl) (by simp) ?_
            refine (AllReadyH.cons (o := { dst := some 76, op := _, type := _, pos := _, after := _, guard := _ }) rfl (fun Qc hQc => ?_) AllReadyH.nil)
            go_simp
            have hbe : Below x3.heap.size x3 (x3.alloc (.cells #[.slice Rb rm rc] 23)) := (Below.refl _ _).alloc (Nat.le_refl _) _
            have SX : n0 ≤ x3.heap.size := by have := Gx3.out.mm.be.size; rw [← HN0.out] at this; exact this
            have Gx4 := hid (Gx3.out.below hbe SX)
            have ON := hid (Blk.new x3 23 #[.slice Rb rm rc])
            have AX' := hid (AX.out.below hbe SX)
            clear AX
            have AX := AX'
            clear AX'
            refine hQc.out _ _ Gx4 (fun hHeld => ?_)
            clear hQc Qc hHeld Gx3 hbe SX
            generalize x3.heap.size = g5 at ON ⊢
            generalize x3.alloc (.cells #[.slice Rb rm rc] 23) = x4 at Gx4 AX ON ⊢
            try simp only [Act.put, List.setIfInBounds_toArray, List.set_cons_zero, List.set_cons_succ]
            refine wpAnyH_ready (rs := [6]) (by kernel_rfl) (by simp) ?_
            refine (AllReadyH.cons (o := { dst := some 77, op := _, type := _, pos := _, after := _, guard := _ }) rfl (fun Qc hQc => ?_) AllReadyH.nil)
            have SX : n0 ≤ x4.heap.size := by have := Gx4.out.mm.be.size; rw [← HN0.out] at this; exact this
            refine push_m (.tmp 73) (.tmp 76) rfl n0 g5 all _ Rb rm rc x rfl rfl AX.out ON.out HAL.out ⟨HX5.out _ Gx4.out.mm.be, HX6.out _⟩ HX1.out SX ?_
            intro v3 x5 am3 kb3 be3
            have Gx5 := hid (Gx4.out.kb kb3 be3)
            clear AX ON
            have AX := hid am3
            clear am3 kb3 be3 SX
            refine hQc.out _ _ Gx5 (fun hHeld => ?_)
            clear hQc Qc hHeld Gx4
            try simp only [Act.put, List.setIfInBounds_toArray, List.set_cons_zero, List.set_cons_succ]
            refine wpAnyH_take (i := 7) (oi := { dst := some 10, op := _, type := _, pos := _, after := _, guard := _ }) (v := ?_) rfl (by kernel_rfl) (by kernel_rfl) (by kernel_rfl) (fun _ _ _ h => h) (Or.inl ⟨by kernel_rfl, ?_⟩) Gx5 ?_
            rotate_left
            · (intro w hSw; go_simp; try with_reducible rfl)
            try simp only [Act.put, List.setIfInBounds_toArray, List.set_cons_zero, List.set_cons_succ]
            refine wpAnyH_done (by kernel_rfl) ?_ _
            try simp only [Act.put, List.setIfInBounds_toArray, List.set_cons_zero, List.set_cons_succ]
            have q0x : x5.cell? ⟨pw, 0, none⟩ = some (.int .i64 1) := Gx5.out.op.cell 0
            have q1x : x5.cell? ⟨pw, 1, none⟩ = some (.int .i64 iv) := Gx5.out.op.cell 1
            have q2x : x5.cell? ⟨pw, 2, none⟩ = some (.slice B m1 c1) := Gx5.out.op.cell 2
            have q3x : x5.cell? ⟨pw, 3, none⟩ = some (.slice E m2 d) := Gx5.out.op.cell 3
            have MX := hid Gx5.out.mm
            have TX := hid Gx5.out.ot
            go_wp2
            go_roundw
            case rel => exact ⟨k + 1, vb, sure, (all ++ [x]), other, s9, n, a, lam, l9, ov9, by omega, by go_num, rfl, rfl, hid (fun h29 => ⟨HV.out h29, MX.out, .inl AX.out, TX.out, HOB.out, by have := HOO.out; omega⟩), hid Gx5.out.mm.be⟩
            case measure => simp [intOf]; omega
        · have g6 : ¬ (rm : Int) ≤ 6000 := by omega
          have HV := hid VCK.out.more
          clear h6
          go_wp2_with (go_at_call 10; (with_reducible refine CR5.out.mono ?_); rintro e w6 ⟨rfl, hb⟩; have MM6 := hid (MM5.out.below hb S5.out); have W6 := hid (W5.out.below hb S5.out); have S6 : Hid (n0 ≤ w6.heap.size) := hid (Nat.le_trans S5.out hb.size); have CR6 := hid (CRc.out w6 W6.out.be); have q0w6 : w6.cell? ⟨pw, 0, none⟩ = some (.int .i64 1) := W6.out.op.cell 0; have q1w6 : w6.cell? ⟨pw, 1, none⟩ = some (.int .i64 iv) := W6.out.op.cell 1; have q2w6 : w6.cell? ⟨pw, 2, none⟩ = some (.slice B m1 c1) := W6.out.op.cell 2; have q3w6 : w6.cell? ⟨pw, 3, none⟩ = some (.slice E m2 d) := W6.out.op.cell 3; clear hb)
          go_roundw
          case rel => exact ⟨k + 1, vb, sure, all, other, s, n, a, lam, l, ov, by omega, by go_num, rfl, rfl, hid (fun h29 => ⟨HV.out, MM6.out, W6.out.al, W6.out.ot, HOB.out, by have := HOO.out; omega⟩), hid W6.out.be⟩
          case measure => simp [intOf]; omega
      · have a1 : (kd == 1) = false := by simpa using k1
        by_cases k2 : kd = 2
        · subst k2
          obtain ⟨r9, s9, l9, ov9, hvc, hcall⟩ := CrM.flu (n0 := n0) (b := b) (vb := vb) (w := w) VCK.out
          have CF2 := hid hcall
          have HVC := hid hvc
          clear hvc hcall
          obtain ⟨A9, c9, hv9⟩ := W5.out.al.len
          subst hv9
          by_cases h5 : r9 = 0
          · subst h5
            have HV : Hid (VC (k + 1) all all.length other s9 n a lam l9 ov9) := hid (by have := HVC.out; rw [if_pos rfl] at this; exact this)
            clear HVC
            go_wp2_with (go_at_call 12; refine (CF2.out w5 MM5.out S5.out).mono ?_; rintro e w6 ⟨rfl, h2, h3, h4⟩; have MM6 := hid h2; have W6 := hid (W5.out.keep h3 h4); have q0w6 : w6.cell? ⟨pw, 0, none⟩ = some (.int .i64 2) := W6.out.op.cell 0; have q1w6 : w6.cell? ⟨pw, 1, none⟩ = some (.int .i64 iv) := W6.out.op.cell 1; have q2w6 : w6.cell? ⟨pw, 2, none⟩ = some (.slice B m1 c1) := W6.out.op.cell 2; have q3w6 : w6.cell? ⟨pw, 3, none⟩ = some (.slice E m2 d) := W6.out.op.cell 3; clear h2 h3 h4)
            go_roundw
            case rel => exact ⟨k + 1, vb, all.length, all, other, s9, n, a, lam, l9, ov9, by omega, by go_num, rfl, rfl, hid (fun h29 => ⟨HV.out, MM6.out, W6.out.al, W6.out.ot, HOB.out, by have := HOO.out; omega⟩), hid W6.out.be⟩
            case measure => simp [intOf]; omega
          · have g5 : (r9 == 0) = false := by simpa using h5
            have HV : Hid (VC (k + 1) all sure other s9 n a lam l9 ov9) := hid (by have := HVC.out; rw [if_neg h5] at this; exact this)
            clear HVC h5
            go_wp2_with (go_at_call 12; refine (CF2.out w5 MM5.out S5.out).mono ?_; rintro e w6 ⟨rfl, h2, h3, h4⟩; have MM6 := hid h2; have W6 := hid (W5.out.keep h3 h4); have q0w6 : w6.cell? ⟨pw, 0, none⟩ = some (.int .i64 2) := W6.out.op.cell 0; have q1w6 : w6.cell? ⟨pw, 1, none⟩ = some (.int .i64 iv) := W6.out.op.cell 1; have q2w6 : w6.cell? ⟨pw, 2, none⟩ = some (.slice B m1 c1) := W6.out.op.cell 2; have q3w6 : w6.cell? ⟨pw, 3, none⟩ = some (.slice E m2 d) := W6.out.op.cell 3; clear h2 h3 h4)
            go_roundw
            case rel => exact ⟨k + 1, vb, sure, all, other, s9, n, a, lam, l9, ov9, by omega, by go_num, rfl, rfl, hid (fun h29 => ⟨HV.out, MM6.out, W6.out.al, W6.out.ot, HOB.out, by have := HOO.out; omega⟩), hid W6.out.be⟩
            case measure => simp [intOf]; omega
        · have a2 : (kd == 2) = false := by simpa using k2
          by_cases k3 : kd = 3
          · subst k3
            have HV := hid (VCK.out.fus iv)
            go_wp2_with (go_at_call 13; refine (CFs.out w5 MM5.out.dy S5.out).mono ?_; rintro e w6 ⟨rfl, hlf⟩; have MM6 := hid (MM5.out.dev hlf); have W6 := hid (W5.out.keep hlf.kv hlf.2.2); have q0w6 : w6.cell? ⟨pw, 0, none⟩ = some (.int .i64 3) := W6.out.op.cell 0; have q1w6 : w6.cell? ⟨pw, 1, none⟩ = some (.int .i64 iv) := W6.out.op.cell 1; have q2w6 : w6.cell? ⟨pw, 2, none⟩ = some (.slice B m1 c1) := W6.out.op.cell 2; have q3w6 : w6.cell? ⟨pw, 3, none⟩ = some (.slice E m2 d) := W6.out.op.cell 3; clear hlf)
            go_roundw
            case rel => exact ⟨k + 1, vb, sure, all, other, (s.sf iv), n, a, lam, l, ov, by omega, by go_num, rfl, rfl, hid (fun h29 => ⟨HV.out, MM6.out, W6.out.al, W6.out.ot, HOB.out, by have := HOO.out; omega⟩), hid W6.out.be⟩
            case measure => simp [intOf]; omega
          · have a3 : (kd == 3) = false := by simpa using k3
            by_cases k6 : kd = 6
            · subst k6
              obtain ⟨r9, s9, n9, a9, lam9, l9, ov9, hvc, hcall⟩ := CrM.rep (n0 := n0) (b := b) (vb := vb) (w := w) (c := c1) VCK.out hk29 HIB.out HN0.out.symm hm9
              have CR6 := hid hcall
              have HVC := hid hvc
              clear hvc hcall
              by_cases h0 : r9 = 0
              · subst h0
                have HV : Hid (k + 1 ≤ 29 → VC (k + 1) L m1 [] s9 n9 a9 lam9 l9 ov9) := hid (fun h => by have := HVC.out (by omega); rw [if_pos rfl, if_pos rfl, if_pos rfl, ← HM1.out] at this; exact this)
                clear HVC
                go_wp2_with (go_at_call 14; refine (CR6.out w5 MM5.out S5.out).mono ?_; rintro e w6 ⟨rfl, h2, h3, h4⟩; have MM6 := hid h2; have W6 := hid (W5.out.keep h3 h4); have S6 : Hid (n0 ≤ w6.heap.size) := hid (Nat.le_trans S5.out h3.sz); have q0w6 : w6.cell? ⟨pw, 0, none⟩ = some (.int .i64 6) := W6.out.op.cell 0; have q1w6 : w6.cell? ⟨pw, 1, none⟩ = some (.int .i64 iv) := W6.out.op.cell 1; have q2w6 : w6.cell? ⟨pw, 2, none⟩ = some (.slice B m1 c1) := W6.out.op.cell 2; have q3w6 : w6.cell? ⟨pw, 3, none⟩ = some (.slice E m2 d) := W6.out.op.cell 3; clear h2 h3 h4)
                go_roundw
                case rel => exact ⟨k + 1, vb, m1, L, [], s9, n9, a9, lam9, l9, ov9, by omega, by go_num, rfl, rfl, hid (fun h29 => ⟨HV.out h29, (hid (MM6.out (by omega))).out, .inr ⟨B, c1, by rw [← HM1.out], by rw [← HM1.out]; exact HIB.out⟩, OthX.nil _ _ _, (fun x hx => by simp at hx), by simp⟩), hid W6.out.be⟩
                case measure => simp [intOf]; omega
              · have g0 : (r9 == 0) = false := by simpa using h0
                by_cases h6 : r9 = 6
                · subst h6
                  have HV : Hid (k + 1 ≤ 29 → VC (k + 1) all sure (other ++ [L]) s9 n9 a9 lam9 l9 ov9) := hid (fun h => by have := HVC.out (by omega); rw [if_neg h0, if_neg h0, if_neg h0, if_pos rfl] at this; exact this)
                  clear HVC h0
                  go_wp2_with (first
                    | (go_at_call 14; refine (CR6.out w5 MM5.out S5.out).mono ?_; rintro e w6 ⟨rfl, h2, h3, h4⟩; have MM6 := hid h2; have W6 := hid (W5.out.keep h3 h4); have S6 : Hid (n0 ≤ w6.heap.size) := hid (Nat.le_trans S5.out h3.sz); have q0w6 : w6.cell? ⟨pw, 0, none⟩ = some (.int .i64 6) := W6.out.op.cell 0; have q1w6 : w6.cell? ⟨pw, 1, none⟩ = some (.int .i64 iv) := W6.out.op.cell 1; have q2w6 : w6.cell? ⟨pw, 2, none⟩ = some (.slice B m1 c1) := W6.out.op.cell 2; have q3w6 : w6.cell? ⟨pw, 3, none⟩ = some (.slice E m2 d) := W6.out.op.cell 3; clear h2 h3 h4)
                    | (at_builtin; refine append_3 rfl (.tmp 110) (.tmp 113) rfl n0 other _ rfl W6.out.ot B m1 c1 L rfl (by have := HOO.out; omega) (by rw [← HM1.out]; exact HIB.out) HM1.out S6.out ?_; intro v8 w8 ho8 hk8 hb8; have O8 := hid ho8; have K8 : Hid (Ko 31 w6 w8) := hid hk8; have B8 := hid hb8; have OP8 := hid (W6.out.op.same (hk8.2 _ _ _ W6.out.op (by decide))); have q0w8 : w8.cell? ⟨pw, 0, none⟩ = some (.int .i64 6) := OP8.out.cell 0; have q1w8 : w8.cell? ⟨pw, 1, none⟩ = some (.int .i64 iv) := OP8.out.cell 1; have q2w8 : w8.cell? ⟨pw, 2, none⟩ = some (.slice B m1 c1) := OP8.out.cell 2; have q3w8 : w8.cell? ⟨pw, 3, none⟩ = some (.slice E m2 d) := OP8.out.cell 3; clear ho8 hk8 hb8))
                  go_roundw
                  case rel => exact ⟨k + 1, vb, sure, all, (other ++ [L]), s9, n9, a9, lam9, l9, ov9, by omega, by go_num, rfl, rfl, hid (fun h29 => ⟨HV.out h29, (hid ((MM6.out (by omega)).ko K8.out (by decide) (by decide) B8.out)).out, W6.out.al.ko K8.out (by decide) B8.out, O8.out, (fun x hx => by rcases List.mem_append.1 hx with h9 | h9; exact HOB.out x h9; rw [List.mem_singleton.1 h9]; exact ⟨by have := HM1.out; omega, H7.out⟩), by rw [List.length_append, List.length_singleton]; have := HOO.out; omega⟩), hid (W6.out.be.trans B8.out)⟩
                  case measure => simp [intOf]; omega
                · have g6 : (r9 == 6) = false := by simpa using h6
                  have HV : Hid (k + 1 ≤ 29 → VC (k + 1) all sure other s9 n9 a9 lam9 l9 ov9) := hid (fun h => by have := HVC.out (by omega); rw [if_neg h0, if_neg h0, if_neg h0, if_neg h6] at this; exact this)
                  clear HVC h0 h6
                  go_wp2_with (go_at_call 14; refine (CR6.out w5 MM5.out S5.out).mono ?_; rintro e w6 ⟨rfl, h2, h3, h4⟩; have MM6 := hid h2; have W6 := hid (W5.out.keep h3 h4); have S6 : Hid (n0 ≤ w6.heap.size) := hid (Nat.le_trans S5.out h3.sz); have q0w6 : w6.cell? ⟨pw, 0, none⟩ = some (.int .i64 6) := W6.out.op.cell 0; have q1w6 : w6.cell? ⟨pw, 1, none⟩ = some (.int .i64 iv) := W6.out.op.cell 1; have q2w6 : w6.cell? ⟨pw, 2, none⟩ = some (.slice B m1 c1) := W6.out.op.cell 2; have q3w6 : w6.cell? ⟨pw, 3, none⟩ = some (.slice E m2 d) := W6.out.op.cell 3; clear h2 h3 h4)
                  go_roundw
                  case rel => exact ⟨k + 1, vb, sure, all, other, s9, n9, a9, lam9, l9, ov9, by omega, by go_num, rfl, rfl, hid (fun h29 => ⟨HV.out h29, (hid (MM6.out (by omega))).out, W6.out.al, W6.out.ot, HOB.out, by have := HOO.out; omega⟩), hid W6.out.be⟩
                  case measure => simp [intOf]; omega
            · have a6 : (kd == 6) = false := by simpa using k6
              by_cases k4 : kd = 4
              · subst k4
                obtain ⟨n4, a4, lam4, g4, y, r1, r2, r3, r4, r5⟩ := VCK.out.rst ll
                have HY5 := hid r5
                have HAK := hid VCK.out.al
                have HYL : Hid (y.length ≤ 10 * (k + 1)) := hid (by
                  rcases r5 with ⟨_, mm, e⟩ | h
                  · rw [e, List.length_take]; have := HAK.out.1; omega
                  · have := (HOB.out y h).1; omega)
                have HY6 := hid r1.len6
                have hV0 : Hid (VR 120 59 (s.rs ll) n4 a4 lam4 g4 y ∧ n4 ≤ 1 + 9 * (k : Int) + ((0 : Nat) : Int) ∧ g4 ≤ 1 + 9 * (k : Int) + ((0 : Nat) : Int) ∧ (s.rs ll).bs ∧ (s.rs ll).F = -1) := hid ⟨r1, by omega, by omega, r4, rfl⟩
                clear r1 r2 r3 r4 r5
                go_wp2_with (go_at_call 15; refine (CX.out s w5 MM5.out.dy W5.out.be (HQ9.out s (Nat.le_refl _))).mono ?_; rintro e w6 ⟨rfl, hlf⟩; have D6 := hid hlf.1; have W6 := hid (W5.out.keep hlf.kv hlf.2.2); have q0w6 : w6.cell? ⟨pw, 0, none⟩ = some (.int .i64 4) := W6.out.op.cell 0; have q1w6 : w6.cell? ⟨pw, 1, none⟩ = some (.int .i64 iv) := W6.out.op.cell 1; have q2w6 : w6.cell? ⟨pw, 2, none⟩ = some (.slice B m1 c1) := W6.out.op.cell 2; have q3w6 : w6.cell? ⟨pw, 3, none⟩ = some (.slice E m2 d) := W6.out.op.cell 3; clear hlf)
                have HN2 : Hid (wl.length = n2) := HWI.out.1
                clear MM5 W5 S5 y0 y1 y2 y3 q0w6 q1w6 q2w6 q3w6 CRc VCK
                try clear wr
                go_loopw [16] (fun j wr => ∃ (i : Nat) (sj : SS) (nj gj : Int), i ≤ n2 ∧ j = .int .i64 i ∧ Hid (VR 120 59 sj nj a4 lam4 gj y ∧ nj ≤ 1 + 9 * (k : Int) + (i : Int) ∧ gj ≤ 1 + 9 * (k : Int) + (i : Int) ∧ sj.bs ∧ sj.F = -1) ∧ Hid (Dy n0 wr b sj) ∧ Hid (CrW n0 pw w #[.int .i64 4, .int .i64 iv, .slice B m1 c1, .slice E m2 d] all other u10 u11 wr)) (fun j _ => n2 - (intOf j).toNat)
                case atStart => exact ⟨0, s.rs ll, n4, g4, by omega, rfl, hV0, D6, W6⟩
                case round =>
                  clear hV0 D6 W6
                  obtain ⟨i, sj, nj, gj, hi, rfl, HVJ, DJ, WJ⟩ := hrel
                  have SJ : Hid (n0 ≤ wr.heap.size) := hid (by have := WJ.out.be.size; rw [← HN0.out] at this; exact this)
                  by_cases hin2 : i < n2
                  · obtain ⟨gw, ow, hAw, hgw, hcw⟩ := rp_placev HWI.out.2.2.2 (by have := HN2.out; omega)
                    subst hAw
                    obtain ⟨bt, hbt⟩ : ∃ bt, bt = wl[i]?.getD 0 := ⟨_, rfl⟩
                    have zb : wr.cell? ⟨gw, ow + i, none⟩ = some (.int .u8 bt) := by rw [hbt]; exact (WJ.out.be.cell (by rw [HN0.out]; exact hgw)).trans (hcw i (by have := HN2.out; omega))
                    have hbb : 0 ≤ bt ∧ bt < 256 := by
                      rw [hbt, List.getElem?_eq_getElem (show i < wl.length by have := HN2.out; omega)]
                      exact HWI.out.2.2.1 _ (List.getElem_mem _)
                    obtain ⟨F4, hF4⟩ : ∃ F : Nat, bt % 4 = F := ⟨(bt % 4).toNat, by omega⟩
                    have hF9 : F4 < 4 := by omega
                    have e4 : bt.tmod 4 = (F4 : Int) := by rw [Int.tmod_eq_emod_of_nonneg hbb.1]; exact hF4
                    obtain ⟨v1, v2, v3, v4, v5⟩ := HVJ.out
                    have hn9 : nj + 1 < 18446744073709551616 := by omega
                    have CFJ := hid (ds_any DJ.out SJ.out (F4 : Int) (by omega))
                    obtain ⟨s7, hs7⟩ : ∃ s7, s7 = ((sj.sf F4).sv 0 (val9 a4 lam4 (gj + 1))).2.2 := ⟨_, rfl⟩
                    have CO7 : Hid (∀ z, Dy n0 z b (sj.sf F4) → n0 ≤ z.heap.size → Calls Try.prog 9 #[.pointer (some ⟨b, 0, none⟩)] z fun e w' => ∃ V, e = .returned V ∧ Dy n0 w' b s7 ∧ Ks z w' ∧ Below n0 z w') := hid fun z hd hz => by
                      have := vtOpen_any hd hz (SS.sf_bs v4 F4) (v1.fuse F4) (by decide) (by decide) (by decide) hn9 (by omega)
                      unfold OpV at this
                      refine this.mono ?_
                      rw [← hs7]
                      rintro e w' (⟨_, vb2, lb2, V, q1, _, _, _, _, _, q7, q8, q9⟩ | ⟨_, q1, q2, q3, q4⟩)
                      · exact ⟨_, q1, q7, q8, q9⟩
                      · exact ⟨_, q1, q2, q3, q4⟩
                    have hq7 : s7.Q.length < 900000 := by
                      have := (sj.sf F4).sv_len 0 (val9 a4 lam4 (gj + 1))
                      rw [← hs7] at this
                      have hq : (sj.sf F4).Q = [] := v1.q
                      rw [hq] at this
                      have := this.2
                      simp at this
                      omega
                    have CX7 := hid (fun z hd hb => CX.out s7 z hd hb hq7)
                    have HVN : Hid (∃ n7 g7, VR 120 59 (s7.rs ll) n7 a4 lam4 g7 y ∧ n7 ≤ 1 + 9 * (k : Int) + ((i + 1 : Nat) : Int) ∧ g7 ≤ 1 + 9 * (k : Int) + ((i + 1 : Nat) : Int) ∧ (s7.rs ll).bs ∧ (s7.rs ll).F = -1) := hid (by
                      have hb7 : (s7.rs ll).bs := by rw [hs7]; exact SS.rs_bs (SS.sv_bs (SS.sf_bs v4 F4) 0 _ (val9_bs v1.a2 _ _)) ll
                      rcases vr_try v1 hn9 (F4 : Int) ll with h | h
                      · rw [← hs7] at h; exact ⟨nj, gj, h, by omega, by omega, hb7, rfl⟩
                      · rw [← hs7] at h; exact ⟨nj + 1, gj + 1, h, by omega, by omega, hb7, rfl⟩)
                    clear v1 v2 v3 v4 v5 hn9 hq7 hs7 hbt hF4 hcw hgw
                    go_wp2_with (first
                      | (go_at_call 13; refine CFJ.out.mono ?_; rintro e w7 ⟨rfl, hlf⟩; have D7 := hid hlf.1; have W7 := hid (WJ.out.keep hlf.kv hlf.2.2); have S7 : Hid (n0 ≤ w7.heap.size) := hid (Nat.le_trans SJ.out hlf.2.1.sz); have q0w7 : w7.cell? ⟨pw, 0, none⟩ = some (.int .i64 4) := W7.out.op.cell 0; have q1w7 : w7.cell? ⟨pw, 1, none⟩ = some (.int .i64 iv) := W7.out.op.cell 1; have q2w7 : w7.cell? ⟨pw, 2, none⟩ = some (.slice B m1 c1) := W7.out.op.cell 2; have q3w7 : w7.cell? ⟨pw, 3, none⟩ = some (.slice E m2 d) := W7.out.op.cell 3; clear hlf)
                      | (go_at_call 9; refine (CO7.out w7 D7.out S7.out).mono ?_; rintro e w8 ⟨V8, rfl, h1, h2, h3⟩; have W8 := hid (W7.out.keep h2.kv h3); have CX8 := hid (CX7.out w8 h1 W8.out.be); have q0w8 : w8.cell? ⟨pw, 0, none⟩ = some (.int .i64 4) := W8.out.op.cell 0; have q1w8 : w8.cell? ⟨pw, 1, none⟩ = some (.int .i64 iv) := W8.out.op.cell 1; have q2w8 : w8.cell? ⟨pw, 2, none⟩ = some (.slice B m1 c1) := W8.out.op.cell 2; have q3w8 : w8.cell? ⟨pw, 3, none⟩ = some (.slice E m2 d) := W8.out.op.cell 3; clear h1 h2 h3)
                      | (go_at_call 15; refine CX8.out.mono ?_; rintro e w9 ⟨rfl, hlf⟩; have D9 := hid hlf.1; have W9 := hid (W8.out.keep hlf.kv hlf.2.2); clear hlf))
                    go_roundw
                    case measure => simp [intOf]; omega
                    case rel =>
                      obtain ⟨n7, g7, hh⟩ := HVN.out
                      exact ⟨i + 1, s7.rs ll, n7, g7, by omega, by go_num, hid hh, D9, W9⟩
                  · obtain rfl : i = n2 := by omega
                    obtain ⟨v1, v2, v3, v4, v5⟩ := HVJ.out
                    obtain ⟨hr0, hvc⟩ := vc_open (k := k) v1 v4 v5 (by omega) (by omega) (by omega) HYL.out HY6.out
                    obtain ⟨s2, hs2⟩ : ∃ s2, s2 = (sj.sv 0 (val9 a4 lam4 (gj + 1))).2.2 := ⟨_, rfl⟩
                    rw [← hs2] at hvc
                    obtain ⟨l2, hl2⟩ : ∃ l2 : LS, l2 = ⟨gj + 1, (scn (s2.lp (off 59 a4)) 59 59 0 lam4).2.1, false⟩ := ⟨_, rfl⟩
                    rw [← hl2] at hvc
                    obtain ⟨ly, hly⟩ : ∃ ly, ly = y.length := ⟨_, rfl⟩
                    have CO9 : Hid (Calls Try.prog 9 #[.pointer (some ⟨b, 0, none⟩)] wr fun e w' => ∃ vb2 A c, e = .returned (.tuple #[.pointer (some ⟨vb2, 0, none⟩), .slice A ly c, .int .i64 0]) ∧ CrM n0 b vb2 w s2 a4 lam4 l2 false w' ∧ AllM n0 n0 w' y (.slice A ly c) ∧ Ks wr w' ∧ Below n0 wr w') := hid (by
                      have := vtOpen_any DJ.out SJ.out v4 v1 (by decide) (by decide) (by decide) (by omega) (by omega)
                      unfold OpV at this
                      refine this.mono ?_
                      rintro e w' (⟨_, vb2, lb2, V, q1, q2, q3, q4, q5, q6, q7, q8, q9⟩ | ⟨q, _⟩)
                      · obtain ⟨A, c, hV⟩ := q6.len
                        rw [← hly] at hV
                        rw [hV] at q1 q6
                        have hd : Dy n0 w' b s2 := by rw [hs2]; exact q7
                        have hbe := WJ.out.be.trans q9
                        refine ⟨vb2, A, c, q1, ⟨hd, Nat.le_trans SJ.out q2, hbe, fun _ => ⟨lb2, ⟨hd, ?_, ?_, Nat.le_trans SJ.out q3, Nat.le_trans SJ.out q2, hbe⟩⟩, fun ho => by cases ho⟩, q6.raise SJ.out, q8, q9⟩
                        · rw [hl2]; exact q4
                        · rw [hl2, hs2]; exact q5
                      · exact (q hr0).elim)
                    have HVC := hid hvc
                    have HLY := hid hly
                    clear v1 v2 v3 v4 v5 hr0 hvc hs2 hl2 hly HVJ
                    obtain ⟨A9, c9, hv9⟩ := WJ.out.al.len
                    obtain ⟨la, hla⟩ : ∃ la, la = all.length := ⟨_, rfl⟩
                    have HLA := hid hla
                    rw [← hla] at hv9
                    obtain ⟨A7, c7, hv7⟩ := WJ.out.ot.len
                    obtain ⟨lo, hlo⟩ : ∃ lo, lo = other.length := ⟨_, rfl⟩
                    have HLO := hid hlo
                    rw [← hlo] at hv7
                    clear hla hlo
                    subst hv9
                    subst hv7
                    have CAh : Hid (∀ z A c, Below n0 w z → AllX n0 w z all (.slice A9 la c9) → AllM n0 n0 z y (.slice A ly c) → Calls Try.prog 16 #[.slice A ly c, .slice A9 la c9] z (AhA y all z)) := hid fun z A c hb h1 h2 => xAhead_gen A A9 ly la c c9 y all z HLY.out HLA.out (by have := HYL.out; have := HLY.out; omega) (by have := HAK.out.1; have := HLA.out; omega) h2.ral_at (h1.raq HN0.out.symm hb).ral (fun f hf => by have := HY6.out f hf; omega) (fun f hf => by have := HAK.out.2 f hf; omega)
                    have hly9 : ly ≤ 1000 := by have := HYL.out; have := HLY.out; omega
                    by_cases hsl : sure ≤ ly
                    · have gs : (sure : Int) ≤ (ly : Int) := by omega
                      go_upto_region 36 with (first
                        | (go_at_call 9; refine CO9.out.mono ?_; rintro e w7 ⟨vb2, A8, c8, rfl, h1, h2, h3, h4⟩; have MM7 := hid h1; have Y7 := hid h2; have W7 := hid (WJ.out.keep h3.kv h4); have CH := hid (CAh.out w7 A8 c8 W7.out.be W7.out.al h2); clear h1 h2 h3 h4)
                        | (go_at_call 16; refine CH.out.mono ?_; rintro e w8 ⟨f8, rfl, hf8, q8, rfl⟩; have HF8 := hid hf8; clear hf8))
                      have HFB : Hid ((sure ≤ y.length ∧ ∃ m, y = all.take m) → f8 = true) := hid (fun h => HF8.out h.2)
                      clear CO9 DJ WJ
                      try clear SJ
                      try clear wr
                      have S7 : Hid (n0 ≤ w7.heap.size) := hid (by have := W7.out.be.size; rw [← HN0.out] at this; exact this)
                      have hlo9 : lo ≤ 100 := by have := HOO.out; have := HLO.out; omega
                      go_wp2
                      go_loopw [20, 21] (fun fv j wr => ∃ (t : Nat) (fb : Bool) (q : Nat), t ≤ lo ∧ j = .int .i64 t ∧ fv = .bool fb ∧ wr = w7.drewN q ∧ Hid ((sure ≤ y.length ∧ ∃ m, y = all.take m) → fb = true) ∧ Hid (∀ u, u < t → other[u]? = some y → fb = true)) (fun _ j _ => lo - (intOf j).toNat)
                      case atStart => exact ⟨0, f8, q8, by omega, rfl, rfl, rfl, HFB, hid (fun t ht => by omega)⟩
                      case round =>
                        obtain ⟨t, fb, q, ht, rfl, rfl, rfl, HF1, HF2⟩ := hrel
                        by_cases htl : t < lo
                        · cases fb with
                          | true =>
                            go_wp2
                            go_roundw
                            case rel => exact ⟨t + 1, true, q, by omega, by go_num, rfl, rfl, hid (fun _ => rfl), hid (fun _ _ _ => rfl)⟩
                            case measure => simp [intOf]; omega
                          | false =>
                            obtain ⟨g7, B7, d7, e7, hc7, hi7⟩ := W7.out.ot.at (j := t) (by have := HLO.out; omega)
                            subst e7
                            obtain ⟨M, hM⟩ : ∃ M, M = other[t]?.getD [] := ⟨_, rfl⟩
                            rw [← hM] at hc7 hi7
                            have hMo : M ∈ other := by
                              rw [hM, List.getElem?_eq_getElem (show t < other.length by have := HLO.out; omega)]
                              exact List.getElem_mem _
                            obtain ⟨lM, hlM⟩ : ∃ l, l = M.length := ⟨_, rfl⟩
                            rw [← hlM] at hc7
                            have zc : (w7.drewN q).cell? ⟨g7, t, none⟩ = some (.slice B7 lM d7) := hc7
                            have hob := HOB.out M hMo
                            have CS := hid (RSame_gen A8 B7 ly lM c8 d7 y M (w7.drewN q) HLY.out hlM (by omega) (by omega) (Y7.out.below (below_dn q) S7.out).ral_at (hi7.raq HN0.out.symm (W7.out.be.trans ((below_dn q).mono S7.out))).ral (fun f hf => by have := HY6.out f hf; omega) (fun f hf => by have := hob.2 f hf; omega))
                            have HMM := hid hM
                            have hlM9 : lM ≤ 10 := by omega
                            clear hc7 hi7 hM hMo hlM hob
                            go_wp2_with (go_at_call 17; refine CS.out.mono ?_; rintro e w8 ⟨f9, rfl, hf9, q9, rfl⟩; have HF9 := hid hf9; clear hf9)
                            go_roundw
                            case rel =>
                              refine ⟨t + 1, f9, q + q9, by omega, by go_num, rfl, (by first | rfl | rw [World.drewN_drewN]), hid (fun h => by have := HF1.out h; cases this), hid (fun u hu hy => ?_)⟩
                              by_cases hut : u = t
                              · subst hut
                                refine HF9.out ?_
                                rw [HMM.out, hy]; rfl
                              · have := HF2.out u (by omega) hy
                                cases this
                            case measure => simp [intOf]; omega
                        · obtain rfl : t = lo := by omega
                          have hfb : fb = true := by
                            rcases HY5.out with h | h
                            · exact HF1.out h
                            · obtain ⟨u, hu⟩ := List.mem_iff_getElem?.1 h
                              have hul : u < other.length := by
                                rcases Nat.lt_or_ge u other.length with h9 | h9
                                · exact h9
                                · rw [List.getElem?_eq_none h9] at hu; cases hu
                              exact HF2.out u (by have := HLO.out; omega) hu
                          subst hfb
                          go_wp2
                          go_roundw
                          case rel => exact ⟨k + 1, vb2, ly, y, [], s2, nj + 1, a4, lam4, l2, false, by omega, by go_num, rfl, rfl, hid (fun h29 => ⟨by rw [HLY.out]; exact HVC.out, MM7.out.below (below_dn q) S7.out, .inl (Y7.out.below (below_dn q) S7.out), OthX.nil _ _ _, (fun x hx => by simp at hx), by simp⟩), hid (W7.out.be.trans ((below_dn q).mono S7.out))⟩
                          case measure => simp [intOf]; omega
                    · have gs : ¬ (sure : Int) ≤ (ly : Int) := by omega
                      go_upto_region 36 with (first
                        | (go_at_call 9; refine CO9.out.mono ?_; rintro e w7 ⟨vb2, A8, c8, rfl, h1, h2, h3, h4⟩; have MM7 := hid h1; have Y7 := hid h2; have W7 := hid (WJ.out.keep h3.kv h4); clear h1 h2 h3 h4))
                      obtain ⟨f8, hf8⟩ : ∃ f8, f8 = false := ⟨_, rfl⟩
                      have HFB : Hid ((sure ≤ y.length ∧ ∃ m, y = all.take m) → f8 = true) := hid (fun h => by have := h.1; have := HLY.out; omega)
                      clear CO9 DJ WJ
                      try clear SJ
                      try clear wr
                      have S7 : Hid (n0 ≤ w7.heap.size) := hid (by have := W7.out.be.size; rw [← HN0.out] at this; exact this)
                      have hlo9 : lo ≤ 100 := by have := HOO.out; have := HLO.out; omega
                      go_wp2
                      go_loopw [20, 21] (fun fv j wr => ∃ (t : Nat) (fb : Bool) (q : Nat), t ≤ lo ∧ j = .int .i64 t ∧ fv = .bool fb ∧ wr = w7.drewN q ∧ Hid ((sure ≤ y.length ∧ ∃ m, y = all.take m) → fb = true) ∧ Hid (∀ u, u < t → other[u]? = some y → fb = true)) (fun _ j _ => lo - (intOf j).toNat)
                      case atStart => exact ⟨0, false, 0, by omega, rfl, rfl, rfl, hid (fun h => by have := h.1; have := HLY.out; omega), hid (fun t ht => by omega)⟩
                      case round =>
                        obtain ⟨t, fb, q, ht, rfl, rfl, rfl, HF1, HF2⟩ := hrel
                        by_cases htl : t < lo
                        · cases fb with
                          | true =>
                            go_wp2
                            go_roundw
                            case rel => exact ⟨t + 1, true, q, by omega, by go_num, rfl, rfl, hid (fun _ => rfl), hid (fun _ _ _ => rfl)⟩
                            case measure => simp [intOf]; omega
                          | false =>
                            obtain ⟨g7, B7, d7, e7, hc7, hi7⟩ := W7.out.ot.at (j := t) (by have := HLO.out; omega)
                            subst e7
                            obtain ⟨M, hM⟩ : ∃ M, M = other[t]?.getD [] := ⟨_, rfl⟩
                            rw [← hM] at hc7 hi7
                            have hMo : M ∈ other := by
                              rw [hM, List.getElem?_eq_getElem (show t < other.length by have := HLO.out; omega)]
                              exact List.getElem_mem _
                            obtain ⟨lM, hlM⟩ : ∃ l, l = M.length := ⟨_, rfl⟩
                            rw [← hlM] at hc7
                            have zc : (w7.drewN q).cell? ⟨g7, t, none⟩ = some (.slice B7 lM d7) := hc7
                            have hob := HOB.out M hMo
                            have CS := hid (RSame_gen A8 B7 ly lM c8 d7 y M (w7.drewN q) HLY.out hlM (by omega) (by omega) (Y7.out.below (below_dn q) S7.out).ral_at (hi7.raq HN0.out.symm (W7.out.be.trans ((below_dn q).mono S7.out))).ral (fun f hf => by have := HY6.out f hf; omega) (fun f hf => by have := hob.2 f hf; omega))
                            have HMM := hid hM
                            have hlM9 : lM ≤ 10 := by omega
                            clear hc7 hi7 hM hMo hlM hob
                            go_wp2_with (go_at_call 17; refine CS.out.mono ?_; rintro e w8 ⟨f9, rfl, hf9, q9, rfl⟩; have HF9 := hid hf9; clear hf9)
                            go_roundw
                            case rel =>
                              refine ⟨t + 1, f9, q + q9, by omega, by go_num, rfl, (by first | rfl | rw [World.drewN_drewN]), hid (fun h => by have := HF1.out h; cases this), hid (fun u hu hy => ?_)⟩
                              by_cases hut : u = t
                              · subst hut
                                refine HF9.out ?_
                                rw [HMM.out, hy]; rfl
                              · have := HF2.out u (by omega) hy
                                cases this
                            case measure => simp [intOf]; omega
                        · obtain rfl : t = lo := by omega
                          have hfb : fb = true := by
                            rcases HY5.out with h | h
                            · exact HF1.out h
                            · obtain ⟨u, hu⟩ := List.mem_iff_getElem?.1 h
                              have hul : u < other.length := by
                                rcases Nat.lt_or_ge u other.length with h9 | h9
                                · exact h9
                                · rw [List.getElem?_eq_none h9] at hu; cases hu
                              exact HF2.out u (by have := HLO.out; omega) hu
                          subst hfb
                          go_wp2
                          go_roundw
                          case rel => exact ⟨k + 1, vb2, ly, y, [], s2, nj + 1, a4, lam4, l2, false, by omega, by go_num, rfl, rfl, hid (fun h29 => ⟨by rw [HLY.out]; exact HVC.out, MM7.out.below (below_dn q) S7.out, .inl (Y7.out.below (below_dn q) S7.out), OthX.nil _ _ _, (fun x hx => by simp at hx), by simp⟩), hid (W7.out.be.trans ((below_dn q).mono S7.out))⟩
                          case measure => simp [intOf]; omega
              · have a4 : (kd != 4) = true := by simpa using k4
                clear k1 k2 k3 k6 k4
                have HV := hid VCK.out.more
                go_wp2
                go_roundw
                case rel => exact ⟨k + 1, vb, sure, all, other, s, n, a, lam, l, ov, by omega, by go_num, rfl, rfl, hid (fun h29 => ⟨HV.out, MM5.out, W5.out.al, W5.out.ot, HOB.out, by have := HOO.out; omega⟩), hid W5.out.be⟩
                case measure => simp [intOf]; omega
    · obtain rfl : k = n1 := by omega
      go_wp2
      go_ret
      exact ⟨rfl, BE.out⟩
theorem vcrash_walk (A1 : Option Addr) (n1 d1 : Nat) (ol : List Ov) (A2 : Option Addr) (n2 d2 : Nat) (wl : List Int) (w : World) (hin : InOps w A1 n1 ol) (hwi : InB w A2 n2 d2 wl) (hnc : n2 ≤ d2) : Calls Try.prog 3 #[.slice A1 n1 d1, .slice A2 n2 d2] w fun e w' => e = .returned (.bool true) ∧ Below w.heap.size w w' := by
  have CF := fun w' (hb : Below w.heap.size w w') => vtFew_any A1 n1 d1 30 ol w' (hin.belowv hb) (by decide)
  by_cases h : ol.length ≤ 30 ∧ SmallV ol ol.length
  · have CF1 := hid fun w' hb => vtFew_yes (hin.belowv hb) (by decide) (by rw [← hin.1]; exact h.1) h.2 (CF w' hb)
    by_cases h8 : n2 ≤ 8
    · exact vcrash_30 A1 n1 d1 ol A2 n2 d2 wl w hin (by rw [← hin.1]; exact h.1) h.2 hwi h8 CF1
    · have g8 : (8 : Int) < (n2 : Int) := by omega
      have CW := hid (fun w => vtawake_any w)
      have hmx := hwi.2.1
      clear CF h hin hwi hnc h8
      go_enter Try.func3, Try.ntmps3
      go_wp2_with (first
        | (go_at_call 6; (with_reducible refine (CW.out w).mono ?_); rintro e w1 ⟨rfl, hb1⟩; have B1 := hid hb1; clear hb1)
        | (go_at_call 7; refine (CF1.out _ B1.out).mono ?_; rintro e w2 ⟨rfl, rfl⟩)
        | (go_at_call 6; refine (CW.out _).mono ?_; rintro e w3 ⟨rfl, hb3⟩; have B3 := hid (B1.out.trans (hb3.mono B1.out.size)); clear hb3))
      go_ret
      exact ⟨rfl, B3.out⟩
  · have CF2 := hid (fun w' hb => vtFew_no h (CF w' hb))
    have CW := hid (fun w => vtawake_any w)
    clear CF h hin hwi hnc
    go_enter Try.func3, Try.ntmps3
    go_wp2_with (first
      | (go_at_call 6; (with_reducible refine (CW.out w).mono ?_); rintro e w1 ⟨rfl, hb1⟩; have B1 := hid hb1; clear hb1)
      | (go_at_call 7; refine (CF2.out _ B1.out).mono ?_; rintro e w2 ⟨rfl, rfl⟩)
      | (go_at_call 6; refine (CW.out _).mono ?_; rintro e w3 ⟨rfl, hb3⟩; have B3 := hid (B1.out.trans (hb3.mono B1.out.size)); clear hb3))
    go_ret
    exact ⟨rfl, B3.out⟩
end Go.Proofs.Ythfkooancgkjaaa
