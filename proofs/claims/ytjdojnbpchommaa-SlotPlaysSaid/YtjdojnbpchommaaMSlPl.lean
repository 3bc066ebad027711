/-
  What is proved here: whatever is saved, on whatever pages, with restarts, all answers are the chapter's.
-/
import Derived.Test.YtjdojnbpchommaaMSlVs
import Derived.Test.YtjdojnbpchommaaMSlF
import Derived.Test.YtjdojnbpchommaaMSameQ
import Derived.Deep.DeepCutAuto
import Derived.Deep.RegionLaw
import Derived.OrdersHeld
set_option linter.unusedSimpArgs false
set_option linter.unusedVariables false
namespace Go.Proofs.Ytjdojnbpchommaa
open Go.ChangeShapes Go.WideShapes Go.ChangeAt Go.RowKit
set_option linter.unusedVariables false
set_option linter.unusedSimpArgs false
set_option maxRecDepth 20000

theorem VAt.mono {n0 n1 : Nat} {w : World} {b : Nat} {s : SS} (h : VAt n1 w b s) (hn : n0 ≤ n1) : VAt n0 w b s := by
  obtain ⟨A, c, A', c', rows, qr, h1, h2, h3, h4, rest⟩ := h
  exact ⟨A, c, A', c', rows, qr, h1, own_mono h2 hn, own_mono h3 hn, Nat.le_trans hn h4, rest⟩
theorem maxm_runO (v : Int) (w : World) : Sem.run Try.prog (Builtin.max_ #[3, 3] 3 #[.int .i64 v, .int .i64 (-1)]) w = .ok (.int .i64 (max v (-1))) w := by
  have e : max v (-1) = if v < -1 then -1 else v := by split <;> omega
  rw [e]
  simp [Builtin.max_, Builtin.max2, Sem.run_bind, Sem.run_pure, Result.andThen_ok]
theorem bel_drewN (w : World) (n : Nat) : Below w.heap.size w (w.drewN n) := ⟨rfl, rfl, rfl, Nat.le_refl _, fun _ _ => rfl⟩
/-- the call's own cells, and what is older -/
structure OpK (n0 pw : Nat) (cs : Array Value) (w w' : World) : Prop where
  blk : Blk w' pw 34 cs
  bel : Below n0 w w'
theorem same_qy {w : World} {X Y : Option Addr} {xs : List Int} {n c d : Nat} (hx : Rp w none X xs) (hy : Rp w none Y xs) (hl : xs.length ≤ 300) (hn : n = xs.length) (q : Nat) : Calls Try.prog 23 #[.slice X n c, .slice Y n d] (w.drewN q) fun e w' => e = .returned (.bool true) ∧ ∃ m, w' = w.drewN m := by
  subst hn
  have := Same_quiet X Y c d xs xs (w.drewN q) hx hy (by omega) (by omega)
  rw [show decide (xs = xs) = true from decide_eq_true rfl] at this
  exact Calls.quiet_of this
theorem down_q {n0 : Nat} {w : World} {b : Nat} {s : SS} (h : Dy n0 w b s) {D : Bool} (hD : D = s.D) (q : Nat) : Calls Try.prog 24 #[.pointer (some ⟨b, 0, none⟩)] (w.drewN q) fun e w' => e = .returned (.bool D) ∧ ∃ m, w' = w.drewN m := by
  subst hD
  exact ((h.below (bel_drewN w q)).down).mono fun e w' ⟨h1, h2⟩ => ⟨h1, q, h2.symm⟩
theorem ld_lenO {s : SS} (t : Int) : (s.ld t).2.2.length ≤ 110 := by
  unfold SS.ld
  split
  · simp
  · split
    · simp
    · exact slv_len _ _
set_option maxHeartbeats 32000000 in
theorem splays_50 (A1 : Option Addr) (n1 d1 : Nat) (ol : List Oq) (w : World) (hin : InOps w A1 n1 ol) (h50 : n1 ≤ 50) (hsm : SmallO ol ol.length)
    (CF : Hid (∀ w', Below w.heap.size w w' → Calls Try.prog 9 #[.slice A1 n1 d1, .int .i64 50] w' fun e w2 => e = .returned (.bool true) ∧ w' = w2)) :
    Calls Try.prog 3 #[.slice A1 n1 d1] w fun e w' => e = .returned (.bool true) ∧ Below w.heap.size w w' := by
  obtain ⟨n0, hn0⟩ : ∃ n0, n0 = w.heap.size := ⟨_, rfl⟩
  have HN0 := hid hn0
  have HOPS := hid hin; have H50 := hid h50; have HSM := hid hsm
  have HOL : Hid (ol.length = n1) := hin.1
  have hn1 : (n1 : Int) ≤ 50 := by omega
  rw [← hn0]
  clear hin h50 hsm hn0
  go_enter Try.func3, Try.ntmps3
  go_wp2_with (first
    | (go_at_call 8; refine (oawake_any _).mono ?_; rintro e w1 ⟨rfl, hb⟩; have B0 := hid hb; have B1 := hid (hb.mono (Nat.le_of_eq HN0.out)); have S1 : Hid (n0 ≤ w1.heap.size) := Nat.le_trans (Nat.le_of_eq HN0.out) hb.size; clear hb)
    | (go_at_call 9; refine (CF.out _ B0.out).mono ?_; rintro e wq ⟨rfl, rfl⟩)
    | (go_at_call 10; refine (Dy.new 8 _ (by decide)).mono ?_; rintro e w3 ⟨b, rfl, hd, hb⟩; have HY3 := hid (hd.mono S1.out); have B3 := hid (B1.out.trans (hb.mono S1.out)); have S3 : Hid (n0 ≤ w3.heap.size) := Nat.le_trans S1.out hb.size; clear hb hd)
    | (go_at_call 11; refine (vn_any 8 _ (by decide)).mono ?_; rintro e w4 ⟨vb, rfl, hd, hb⟩; have HV4 := hid (hd.mono S3.out); have HY4 := hid (HY3.out.below hb); have BL4 := hid (B3.out.trans (hb.mono S3.out)); clear hb hd))
  clear B0 B1 S1 HY3 B3 S3
  go_loopw [6] (fun i wr => ∃ (k : Nat) (s : SS), k ≤ n1 ∧ i = .int .i64 k ∧ Hid (Dy n0 wr b s) ∧ Hid (VAt n0 wr vb s) ∧ Hid (s.bs ∧ s.Q.length ≤ k) ∧ Hid (Below n0 w wr)) (fun i _ => n1 - (intOf i).toNat)
  case atStart => exact ⟨0, _, Nat.zero_le _, rfl, HY4.out, HV4.out, ⟨(cln_new 8 2 (by decide)).bs, Nat.le_refl _⟩, BL4.out⟩
  case round =>
    obtain ⟨k, s, hk, rfl, HY, HV, HI, BL⟩ := hrel
    clear HY4 HV4 BL4
    by_cases hlt : k < n1
    · have S4 : Hid (n0 ≤ wr.heap.size) := Nat.le_trans (Nat.le_of_eq HN0.out) BL.out.size
      obtain ⟨g, off, rfl, hg, hat⟩ := opC_at HOPS.out (by omega)
      obtain ⟨o, B, c1, E, d, h1, h2, h3⟩ := hat k hlt
      have hsmo := HSM.out k (by rw [HOL.out]; exact hlt) o h1
      have key : ∀ j v, (opC o B c1 E d)[j]? = some v → wr.cell? ⟨g, off + k * 5 + j, none⟩ = some v := fun j v hv => (BL.out.cell (by rw [HN0.out]; exact hg)).trans (h3 j v hv)
      have z0 : wr.cell? ⟨g, off + k * 5, none⟩ = some (.int .i64 o.k) := key 0 _ rfl
      have z1 : wr.cell? ⟨g, off + k * 5 + 1, none⟩ = some (.int .i64 o.i) := key 1 _ rfl
      have z2 : wr.cell? ⟨g, off + k * 5 + 2, none⟩ = some (.int .i64 o.t) := key 2 _ rfl
      have z3 : wr.cell? ⟨g, off + k * 5 + 3, none⟩ = some (.slice B o.b.length c1) := key 3 _ rfl
      have z4 : wr.cell? ⟨g, off + k * 5 + 4, none⟩ = some (.slice E o.l.length d) := key 4 _ rfl
      have RB := hid h2.b.2.2.2
      have BB : Hid (Bs o.b) := h2.b.2.2.1
      have SRC : Hid (∀ w', Src n0 w' B o.b) := fun w' hx a ha => .inl (by rw [HN0.out]; exact rp_lt h2.b.2.2.2 hx a ha)
      have HQ9 : Hid (s.Q.length < 900) := by show _ < _; have := HI.out.2; have := H50.out; omega
      have sz : ∀ {w'}, Below n0 w w' → n0 ≤ w'.heap.size := fun hb => Nat.le_trans (Nat.le_of_eq HN0.out) hb.size
      have CWd : Hid (∀ w', Dy n0 w' b s → Below n0 w w' → Calls Try.prog 14 #[.pointer (some ⟨b, 0, none⟩), .int .i64 o.i, .slice B o.b.length c1] w' fun e w2 => e = .returned (.int .i64 (s.wr o.i o.b).1) ∧ Lf n0 b (s.wr o.i o.b).2 w' w2) := fun w' hd hb =>
        dw_src hd (sz hb) o.i B c1 o.b (RB.out.belowN (bel_of hb HN0.out)) (SRC.out w') hsmo.1 (by have := HQ9.out; omega)
      have CWv : Hid (∀ w', VAt n0 w' vb s → Below n0 w w' → Calls Try.prog 15 #[.pointer (some ⟨vb, 0, none⟩), .int .i64 o.i, .slice B o.b.length c1] w' fun e w2 => e = .returned (.int .i64 (s.wr o.i o.b).1) ∧ Lv n0 vb (s.wr o.i o.b).2 w' w2) := fun w' hd hb =>
        vw_src hd (sz hb) o.i B c1 o.b (RB.out.belowN (bel_of hb HN0.out)) (SRC.out w') hsmo.1 (by have := HQ9.out; omega)
      have CFs : Hid (∀ w', Dy n0 w' b s → Below n0 w w' → Calls Try.prog 16 #[.pointer (some ⟨b, 0, none⟩), .int .i64 o.i] w' fun e w2 => e = .returned (.tuple #[]) ∧ Lf n0 b (s.sf o.i) w' w2) := fun w' hd hb =>
        ds_any hd (sz hb) o.i h2.i
      have CXd : Hid (∀ w', Dy n0 w' b s → Below n0 w w' → Calls Try.prog 17 #[.pointer (some ⟨b, 0, none⟩), .slice E o.l.length d] w' fun e w2 => e = .returned (.tuple #[]) ∧ Lf n0 b (s.rs o.l) w' w2) := fun w' hd hb =>
        dx_any hd (sz hb) E d o.l (h2.l.2.2.below (bel_of hb HN0.out)) (fun hx a ha => by rw [HN0.out]; exact ip_lt h2.l.2.2 hx a ha) (by omega) (by have := HQ9.out; omega)
      have CXv : Hid (∀ w', VAt n0 w' vb s → Below n0 w w' → Calls Try.prog 18 #[.pointer (some ⟨vb, 0, none⟩), .slice E o.l.length d] w' fun e w2 => e = .returned (.tuple #[]) ∧ Lv n0 vb (s.rs o.l) w' w2) := fun w' hd hb =>
        vx_any hd (sz hb) E o.l.length d o.l rfl (h2.l.2.2.below (bel_of hb HN0.out)) (fun hx a ha => by rw [HN0.out]; exact ip_lt h2.l.2.2 hx a ha) h2.lb (by omega) (by have := HQ9.out; omega)
      have CLd : Hid (∀ w', Dy n0 w' b s → Below n0 w w' → Calls Try.prog 19 #[.pointer (some ⟨b, 0, none⟩)] w' fun e w2 => e = .returned (.int .i64 s.fl.1) ∧ Lf n0 b s.fl.2 w' w2) := fun w' hd hb => df_any hd (sz hb)
      have CLv : Hid (∀ w', VAt n0 w' vb s → Below n0 w w' → Calls Try.prog 20 #[.pointer (some ⟨vb, 0, none⟩)] w' fun e w2 => e = .returned (.int .i64 s.fl.1) ∧ Lv n0 vb s.fl.2 w' w2) := fun w' hd hb => vf_any hd (sz hb) (by have := HQ9.out; omega)
      have CSo : Hid (-1000 ≤ o.t ∧ o.t ≤ 1000 → ∀ w', Dy n0 w' b s → Below n0 w w' → Calls Try.prog 12 #[.pointer (some ⟨b, 0, none⟩), .int .i64 o.t, .slice B o.b.length c1] w' (SvAns n0 b (s.sv o.t o.b) w')) := fun ht w' hd hb =>
        oSave_any hd (sz hb) HI.out.1 o.t ht B c1 o.b (RB.out.belowN (bel_of hb HN0.out)) (by omega) (by have := HQ9.out; omega)
      have CSq : Hid (-1000 ≤ o.t ∧ o.t ≤ 1000 → ∀ w', VAt n0 w' vb s → Below n0 w w' → Calls Try.prog 13 #[.pointer (some ⟨vb, 0, none⟩), .int .i64 o.t, .slice B o.b.length c1] w' (VsAns n0 vb (s.sv o.t o.b) w')) := fun ht w' hd hb =>
        qSave_any hd (sz hb) HI.out.1 o.t ht B c1 o.b (RB.out.belowN (bel_of hb HN0.out)) (by omega) HQ9.out
      have IB := hid h2.i
      obtain ⟨xs, hxs⟩ : ∃ m, m = o.b := ⟨_, rfl⟩
      obtain ⟨ll, hll⟩ : ∃ m, m = o.l := ⟨_, rfl⟩
      rw [← hxs] at z3 hsmo
      rw [← hll] at z4 hsmo
      rw [← hxs] at BB CWd CWv CSo CSq
      rw [← hll] at CXd CXv
      obtain ⟨m1, hm1⟩ : ∃ m, m = xs.length := ⟨_, rfl⟩
      obtain ⟨m2, hm2⟩ : ∃ m, m = ll.length := ⟨_, rfl⟩
      obtain ⟨kd, hkd⟩ : ∃ m, m = o.k := ⟨_, rfl⟩
      obtain ⟨iv, hiv⟩ : ∃ m, m = o.i := ⟨_, rfl⟩
      obtain ⟨tv, htv⟩ : ∃ m, m = o.t := ⟨_, rfl⟩
      rw [← hkd] at z0
      rw [← hiv] at z1 CWd CWv CFs IB
      rw [← htv] at z2 CSo CSq
      rw [← hm1] at z3 CWd CWv CSo CSq
      rw [← hm2] at z4 CXd CXv
      have hk2 : (k : Int) < n1 := by omega
      clear key h1 h2 h3 hat hg hsmo hkd hiv htv hm1 hm2 hxs hll hlt sz RB SRC
      go_upto_region 9 with (fail)
      have hb5 : Below wr.heap.size wr (wr.alloc (.cells #[.int .i64 kd, .int .i64 iv, .int .i64 tv, .slice B m1 c1, .slice E m2 d] 34)) := (Below.refl _ _).alloc (Nat.le_refl _) _
      have HBK := hid (Blk.new wr 34 #[.int .i64 kd, .int .i64 iv, .int .i64 tv, .slice B m1 c1, .slice E m2 d])
      have HY5 := hid (HY.out.below hb5)
      have HV5 := hid (HV.out.below hb5)
      have BL5 := hid (BL.out.trans (hb5.mono S4.out))
      clear hb5 z0 z1 z2 z3 z4 HY HV BL
      obtain ⟨pw, hpw⟩ : ∃ pw, pw = wr.heap.size := ⟨_, rfl⟩
      rw [← hpw] at HBK ⊢
      generalize wr.alloc (.cells #[.int .i64 kd, .int .i64 iv, .int .i64 tv, .slice B m1 c1, .slice E m2 d] 34) = w5 at HBK HY5 HV5 BL5 ⊢
      clear hpw S4
      have S5 : Hid (n0 ≤ w5.heap.size) := Nat.le_trans (Nat.le_of_eq HN0.out) BL5.out.size
      have y0 : w5.cell? ⟨pw, 0, none⟩ = some (.int .i64 kd) := HBK.out.cell 0
      have y1 : w5.cell? ⟨pw, 1, none⟩ = some (.int .i64 iv) := HBK.out.cell 1
      have y2 : w5.cell? ⟨pw, 2, none⟩ = some (.int .i64 tv) := HBK.out.cell 2
      have y3 : w5.cell? ⟨pw, 3, none⟩ = some (.slice B m1 c1) := HBK.out.cell 3
      have y4 : w5.cell? ⟨pw, 4, none⟩ = some (.slice E m2 d) := HBK.out.cell 4
      by_cases t1 : tv < -4
      · have gt1 : decide (tv < -4) = true := decide_eq_true t1
        go_wp2
        go_roundw
        case rel => exact ⟨k + 1, s, by omega, by go_num, HY5.out, HV5.out, ⟨HI.out.1, Nat.le_succ_of_le HI.out.2⟩, BL5.out⟩
        case measure => simp [intOf]; omega
      · have gt1 : decide (tv < -4) = false := decide_eq_false t1
        by_cases t2 : 10 < tv
        · have gt2 : decide (10 < tv) = true := decide_eq_true t2
          go_wp2
          go_roundw
          case rel => exact ⟨k + 1, s, by omega, by go_num, HY5.out, HV5.out, ⟨HI.out.1, Nat.le_succ_of_le HI.out.2⟩, BL5.out⟩
          case measure => simp [intOf]; omega
        · have gt2 : decide (10 < tv) = false := decide_eq_false t2
          have HT : Hid (-1000 ≤ tv ∧ tv ≤ 1000) := by show _ ∧ _; omega
          by_cases k1 : kd = 1
          · subst k1
            have CS1 := hid (CSo.out HT.out)
            have CS2 := hid (CSq.out HT.out)
            obtain ⟨er9, sr9, s2, hsv⟩ : ∃ er sr s9, s.sv tv xs = (er, sr, s9) := ⟨_, _, _, rfl⟩
            have HB2 : Hid s2.bs := by
              have := s.sv_bs HI.out.1 tv xs BB.out
              rw [hsv] at this
              exact this
            have HQ2 : Hid (s2.Q.length ≤ k + 1) := by
              have := (s.sv_len tv xs).2
              rw [hsv] at this
              exact Nat.le_trans this (Nat.succ_le_succ HI.out.2)
            rw [hsv] at CS1 CS2
            unfold SvAns at CS1
            unfold VsAns at CS2
            simp only at CS1 CS2
            clear hsv CSo CSq
            go_upto_region 28 with (first
              | (go_at_call 12; refine (CS1.out _ HY5.out BL5.out).mono ?_; rintro e w6 ⟨rfl, hlf⟩; have HY6 := hid hlf.1; have HV6 := hid (HV5.out.kt hlf.2.1); have BL6 := hid (BL5.out.trans hlf.2.2); have HBK6 := hid (hlf.2.1.blk HBK.out (by decide)); have q0w6 : w6.cell? ⟨pw, 0, none⟩ = some (.int .i64 1) := HBK6.out.cell 0; have q1w6 : w6.cell? ⟨pw, 1, none⟩ = some (.int .i64 iv) := HBK6.out.cell 1; have q2w6 : w6.cell? ⟨pw, 2, none⟩ = some (.int .i64 tv) := HBK6.out.cell 2; have q3w6 : w6.cell? ⟨pw, 3, none⟩ = some (.slice B m1 c1) := HBK6.out.cell 3; have q4w6 : w6.cell? ⟨pw, 4, none⟩ = some (.slice E m2 d) := HBK6.out.cell 4; clear hlf)
              | (go_at_call 13; refine (CS2.out _ HV6.out BL6.out).mono ?_; rintro e w8 ⟨rfl, hlv⟩; have HV8 := hid hlv.1; have HY8 := hid (HY6.out.vt hlv.2.1); have BL8 := hid (BL6.out.trans hlv.2.2); have HBK8 := hid (hlv.2.1.blk HBK6.out (by decide)); have q0w8 : w8.cell? ⟨pw, 0, none⟩ = some (.int .i64 1) := HBK8.out.cell 0; have q1w8 : w8.cell? ⟨pw, 1, none⟩ = some (.int .i64 iv) := HBK8.out.cell 1; have q2w8 : w8.cell? ⟨pw, 2, none⟩ = some (.int .i64 tv) := HBK8.out.cell 2; have q3w8 : w8.cell? ⟨pw, 3, none⟩ = some (.slice B m1 c1) := HBK8.out.cell 3; have q4w8 : w8.cell? ⟨pw, 4, none⟩ = some (.slice E m2 d) := HBK8.out.cell 4; clear hlv))
            have S8 : Hid (n0 ≤ w8.heap.size) := Nat.le_trans (Nat.le_of_eq HN0.out) BL8.out.size
            have x2 : w8.cell? ⟨pw, 2, none⟩ = some (.int .i64 tv) := HBK8.out.cell 2
            obtain ⟨er, x, V, hy⟩ : ∃ er x V, s2.ld tv = (er, x, V) := ⟨_, _, _, rfl⟩
            have CO : Hid (∀ w', Dy n0 w' b s2 → Calls Try.prog 21 #[.pointer (some ⟨b, 0, none⟩), .int .i64 tv] w' (LdAns w' (er, x, V))) := fun w' hd => by
              have := oLoad_any hd HB2.out tv HT.out
              rwa [hy] at this
            have CQ : Hid (∀ w', VAt n0 w' vb s2 → Calls Try.prog 22 #[.pointer (some ⟨vb, 0, none⟩), .int .i64 tv] w' (LqAns w' (er, x, V))) := fun w' hd => by
              have := qLoad_any hd HB2.out (by have := HQ2.out; have := H50.out; omega) tv HT.out
              rwa [hy] at this
            have hvl : V.length ≤ 110 := by
              have := ld_lenO (s := s2) tv
              rw [hy] at this
              exact this
            have HVL := hid hvl
            unfold LdAns at CO
            unfold LqAns at CQ
            simp only at CO CQ
            obtain ⟨nv, hnv⟩ : ∃ m, m = V.length := ⟨_, rfl⟩
            rw [← hnv] at CO CQ
            have HNV := hid hnv
            clear hy hvl hnv
            go_upto_region 30 with (first
              | (go_at_call 21; refine (CO.out _ HY8.out).mono ?_; rintro e wa ⟨V1, e1, rfl, hf, hb⟩; have RVa := hid hf.rp0; have HYa := hid (HY8.out.below hb); have HVa := hid (HV8.out.below hb); have BLa := hid (BL8.out.trans (hb.mono S8.out)); have Sa : Hid (n0 ≤ wa.heap.size) := Nat.le_trans S8.out hb.size; have x2a : wa.cell? ⟨pw, 2, none⟩ = some (.int .i64 tv) := (hb.cell HBK8.out.lt).trans (HBK8.out.cell 2); clear hf hb)
              | (go_at_call 22; refine (CQ.out _ HVa.out).mono ?_; rintro e wb ⟨V2, e2, rfl, hr, hb⟩; have RVb := hid (RVa.out.belowN hb); have RWb := hid hr; have HYb := hid (HYa.out.below hb); have HVb := hid (HVa.out.below hb); have BLb := hid (BLa.out.trans (hb.mono Sa.out)); have Sb : Hid (n0 ≤ wb.heap.size) := Nat.le_trans Sa.out hb.size; clear hr hb))
            obtain ⟨VA, vc, VA', vc', vrows, vqr, hvb, _⟩ := HVb.out
            obtain ⟨DD, hDD⟩ : ∃ m, m = s2.D := ⟨_, rfl⟩
            rw [← hDD] at hvb
            have C3 : wb.cell? ⟨vb, 3, none⟩ = some (.bool DD) := hvb.cell 3
            have CDN := hid (fun q => down_q HYb.out hDD q)
            have CSM := hid (fun q => same_qy (c := e1) (d := e2) RVb.out RWb.out (by have := HVL.out; omega) HNV.out q)
            clear hvb hDD
            go_quiet ((first | (with_reducible exact CSM.out _) | (with_reducible exact CDN.out _)))
            have bq := bel_drewN wb nq
            have HYc := hid (HYb.out.below bq)
            have HVc := hid (HVb.out.below bq)
            have BLc := hid (BLb.out.trans (bq.mono Sb.out))
            clear bq
            go_wp2
            go_roundw
            case rel => exact ⟨k + 1, s2, by omega, by go_num, HYc.out, HVc.out, ⟨HB2.out, HQ2.out⟩, BLc.out⟩
            case measure => simp [intOf]; omega
          · have a1 : (kd == 1) = false := by simpa using k1
            by_cases k2 : kd = 2
            · subst k2
              obtain ⟨er9, s2, hwr⟩ : ∃ er s9, s.wr iv xs = (er, s9) := ⟨_, _, rfl⟩
              have HB2 : Hid s2.bs := by
                have := s.wr_bs HI.out.1 iv xs BB.out
                rw [hwr] at this
                exact this
              have HQ2 : Hid (s2.Q.length ≤ k + 1) := by
                have := (s.wr_len iv xs).2
                rw [hwr] at this
                exact Nat.le_trans this (Nat.succ_le_succ HI.out.2)
              rw [hwr] at CWd CWv
              simp only at CWd CWv
              clear hwr
              go_upto_region 17 with (fail)
              refine wp_region_held (S := fun w' => Hid (OpK n0 pw #[.int .i64 2, .int .i64 iv, .int .i64 tv, .slice B m1 c1, .slice E m2 d] w w')) (by kernel_rfl) ?_
              change wpAnyH _ _ _ _ _ _ _ _ w5.drew
              have Gx0 : Hid (OpK n0 pw #[.int .i64 2, .int .i64 iv, .int .i64 tv, .slice B m1 c1, .slice E m2 d] w w5.drew) := ⟨HBK.out, BL5.out.trans ((Below.refl _ _).drew.mono S5.out)⟩
              have HYx' : Hid (Dy n0 w5.drew b s) := HY5.out.below (Below.refl _ _).drew
              have HVx' : Hid (VAt n0 w5.drew vb s) := HV5.out.below (Below.refl _ _).drew
              have HYx := HYx'
              have HVx := HVx'
              clear HYx' HVx'
              generalize w5.drew = x0 at Gx0 HYx HVx ⊢
              refine wpAnyH_take (i := 0) (oi := { dst := some 81, op := _, type := _, pos := _, after := _, guard := _ }) (v := ?_) rfl (by kernel_rfl) (by kernel_rfl) (by kernel_rfl) (fun _ _ _ h => h) (Or.inl ⟨by kernel_rfl, ?_⟩) Gx0 ?_
              rotate_left
              · (intro w hSw; go_simp; try with_reducible rfl)
              try simp only [Act.put, List.setIfInBounds_toArray, List.set_cons_zero, List.set_cons_succ]
              refine wpAnyH_take (i := 1) (oi := { dst := some 82, op := _, type := _, pos := _, after := _, guard := _ }) (v := ?_) rfl (by kernel_rfl) (by kernel_rfl) (by kernel_rfl) (fun _ _ _ h => h) (Or.inl ⟨by kernel_rfl, ?_⟩) Gx0 ?_
              rotate_left
              · (intro w hSw; go_simp; try with_reducible rfl)
              try simp only [Act.put, List.setIfInBounds_toArray, List.set_cons_zero, List.set_cons_succ]
              refine wpAnyH_take (i := 2) (oi := { dst := some 83, op := _, type := _, pos := _, after := _, guard := _ }) (v := ?_) rfl (by kernel_rfl) (by kernel_rfl) (by kernel_rfl) (fun _ _ _ h => h) (Or.inl ⟨by kernel_rfl, ?_⟩) Gx0 ?_
              rotate_left
              · (intro w hSw; have hc := hSw.out.blk.cell 1; have hc2 : w.cell? ⟨pw, 1, none⟩ = some (.int .i64 iv) := hc; clear hc; go_simp; try with_reducible rfl)
              try simp only [Act.put, List.setIfInBounds_toArray, List.set_cons_zero, List.set_cons_succ]
              refine wpAnyH_take (i := 3) (oi := { dst := some 84, op := _, type := _, pos := _, after := _, guard := _ }) (v := ?_) rfl (by kernel_rfl) (by kernel_rfl) (by kernel_rfl) (fun _ _ _ h => h) (Or.inl ⟨by kernel_rfl, ?_⟩) Gx0 ?_
              rotate_left
              · (intro w hSw; go_simp; try with_reducible rfl)
              try simp only [Act.put, List.setIfInBounds_toArray, List.set_cons_zero, List.set_cons_succ]
              refine wpAnyH_take (i := 4) (oi := { dst := some 85, op := _, type := _, pos := _, after := _, guard := _ }) (v := ?_) rfl (by kernel_rfl) (by kernel_rfl) (by kernel_rfl) (fun _ _ _ h => h) (Or.inl ⟨by kernel_rfl, ?_⟩) Gx0 ?_
              rotate_left
              · (intro w hSw; have hc := hSw.out.blk.cell 3; have hc2 : w.cell? ⟨pw, 3, none⟩ = some (.slice B m1 c1) := hc; clear hc; go_simp; try with_reducible rfl)
              try simp only [Act.put, List.setIfInBounds_toArray, List.set_cons_zero, List.set_cons_succ]
              refine wpAnyH_take (i := 6) (oi := { dst := some 87, op := _, type := _, pos := _, after := _, guard := _ }) (v := ?_) rfl (by kernel_rfl) (by kernel_rfl) (by kernel_rfl) (fun _ _ _ h => h) (Or.inl ⟨by kernel_rfl, ?_⟩) Gx0 ?_
              rotate_left
              · (intro w hSw; go_simp; try with_reducible rfl)
              try simp only [Act.put, List.setIfInBounds_toArray, List.set_cons_zero, List.set_cons_succ]
              refine wpAnyH_take (i := 7) (oi := { dst := some 88, op := _, type := _, pos := _, after := _, guard := _ }) (v := ?_) rfl (by kernel_rfl) (by kernel_rfl) (by kernel_rfl) (fun _ _ _ h => h) (Or.inl ⟨by kernel_rfl, ?_⟩) Gx0 ?_
              rotate_left
              · (intro w hSw; go_simp; try with_reducible rfl)
              try simp only [Act.put, List.setIfInBounds_toArray, List.set_cons_zero, List.set_cons_succ]
              refine wpAnyH_take (i := 8) (oi := { dst := some 89, op := _, type := _, pos := _, after := _, guard := _ }) (v := ?_) rfl (by kernel_rfl) (by kernel_rfl) (by kernel_rfl) (fun _ _ _ h => h) (Or.inl ⟨by kernel_rfl, ?_⟩) Gx0 ?_
              rotate_left
              · (intro w hSw; have hc := hSw.out.blk.cell 1; have hc2 : w.cell? ⟨pw, 1, none⟩ = some (.int .i64 iv) := hc; clear hc; go_simp; try with_reducible rfl)
              try simp only [Act.put, List.setIfInBounds_toArray, List.set_cons_zero, List.set_cons_succ]
              refine wpAnyH_take (i := 9) (oi := { dst := some 90, op := _, type := _, pos := _, after := _, guard := _ }) (v := ?_) rfl (by kernel_rfl) (by kernel_rfl) (by kernel_rfl) (fun _ _ _ h => h) (Or.inl ⟨by kernel_rfl, ?_⟩) Gx0 ?_
              rotate_left
              · (intro w hSw; go_simp; try with_reducible rfl)
              try simp only [Act.put, List.setIfInBounds_toArray, List.set_cons_zero, List.set_cons_succ]
              refine wpAnyH_take (i := 10) (oi := { dst := some 91, op := _, type := _, pos := _, after := _, guard := _ }) (v := ?_) rfl (by kernel_rfl) (by kernel_rfl) (by kernel_rfl) (fun _ _ _ h => h) (Or.inl ⟨by kernel_rfl, ?_⟩) Gx0 ?_
              rotate_left
              · (intro w hSw; have hc := hSw.out.blk.cell 3; have hc2 : w.cell? ⟨pw, 3, none⟩ = some (.slice B m1 c1) := hc; clear hc; go_simp; try with_reducible rfl)
              try simp only [Act.put, List.setIfInBounds_toArray, List.set_cons_zero, List.set_cons_succ]
              refine wpAnyH_ready (rs := [5]) (by kernel_rfl) (by simp) ?_
              refine (AllReadyH.cons (o := { dst := some 86, op := _, type := _, pos := _, after := _, guard := _ }) rfl (fun Qc hQc => ?_) AllReadyH.nil)
              go_simp
              go_at_call 14
              refine (CWd.out _ HYx.out Gx0.out.bel).mono ?_
              rintro e x1 ⟨rfl, hlf⟩
              have Gx1 : Hid (OpK n0 pw #[.int .i64 2, .int .i64 iv, .int .i64 tv, .slice B m1 c1, .slice E m2 d] w x1) := ⟨hlf.2.1.blk Gx0.out.blk (by decide), Gx0.out.bel.trans hlf.2.2⟩
              have HY6 := hid hlf.1
              have HV6 := hid (HVx.out.kt hlf.2.1)
              clear hlf HYx HVx
              go_wp2_with fail
              refine hQc.out _ _ Gx1 (fun hHeld => ?_)
              clear hQc Qc hHeld Gx0
              try simp only [Act.put, List.setIfInBounds_toArray, List.set_cons_zero, List.set_cons_succ]
              refine wpAnyH_ready (rs := [11]) (by kernel_rfl) (by simp) ?_
              refine (AllReadyH.cons (o := { dst := some 92, op := _, type := _, pos := _, after := _, guard := _ }) rfl (fun Qc hQc => ?_) AllReadyH.nil)
              go_simp
              go_at_call 15
              refine (CWv.out _ HV6.out Gx1.out.bel).mono ?_
              rintro e x2 ⟨rfl, hlv⟩
              have Gx2 : Hid (OpK n0 pw #[.int .i64 2, .int .i64 iv, .int .i64 tv, .slice B m1 c1, .slice E m2 d] w x2) := ⟨hlv.2.1.blk Gx1.out.blk (by decide), Gx1.out.bel.trans hlv.2.2⟩
              have HV8 := hid hlv.1
              have HY8 := hid (HY6.out.vt hlv.2.1)
              clear hlv HY6 HV6
              go_wp2_with fail
              refine hQc.out _ _ Gx2 (fun hHeld => ?_)
              clear hQc Qc hHeld Gx1
              try simp only [Act.put, List.setIfInBounds_toArray, List.set_cons_zero, List.set_cons_succ]
              refine wpAnyH_take (i := 12) (oi := { dst := some 93, op := _, type := _, pos := _, after := _, guard := _ }) (v := ?_) rfl (by kernel_rfl) (by kernel_rfl) (by kernel_rfl) (fun _ _ _ h => h) (Or.inl ⟨by kernel_rfl, ?_⟩) Gx2 ?_
              rotate_left
              · (intro w hSw; go_simp; try with_reducible rfl)
              try simp only [Act.put, List.setIfInBounds_toArray, List.set_cons_zero, List.set_cons_succ]
              refine wpAnyH_done (by kernel_rfl) ?_ _
              try simp only [Act.put, List.setIfInBounds_toArray, List.set_cons_zero, List.set_cons_succ]
              have BL8 := hid Gx2.out.bel
              have HBK8 := hid Gx2.out.blk
              generalize x2 = w8 at HV8 HY8 BL8 HBK8 ⊢
              clear Gx2
              go_upto_region 28 with (fail)
              have S8 : Hid (n0 ≤ w8.heap.size) := Nat.le_trans (Nat.le_of_eq HN0.out) BL8.out.size
              have x2 : w8.cell? ⟨pw, 2, none⟩ = some (.int .i64 tv) := HBK8.out.cell 2
              obtain ⟨er, x, V, hy⟩ : ∃ er x V, s2.ld tv = (er, x, V) := ⟨_, _, _, rfl⟩
              have CO : Hid (∀ w', Dy n0 w' b s2 → Calls Try.prog 21 #[.pointer (some ⟨b, 0, none⟩), .int .i64 tv] w' (LdAns w' (er, x, V))) := fun w' hd => by
                have := oLoad_any hd HB2.out tv HT.out
                rwa [hy] at this
              have CQ : Hid (∀ w', VAt n0 w' vb s2 → Calls Try.prog 22 #[.pointer (some ⟨vb, 0, none⟩), .int .i64 tv] w' (LqAns w' (er, x, V))) := fun w' hd => by
                have := qLoad_any hd HB2.out (by have := HQ2.out; have := H50.out; omega) tv HT.out
                rwa [hy] at this
              have hvl : V.length ≤ 110 := by
                have := ld_lenO (s := s2) tv
                rw [hy] at this
                exact this
              have HVL := hid hvl
              unfold LdAns at CO
              unfold LqAns at CQ
              simp only at CO CQ
              obtain ⟨nv, hnv⟩ : ∃ m, m = V.length := ⟨_, rfl⟩
              rw [← hnv] at CO CQ
              have HNV := hid hnv
              clear hy hvl hnv
              go_upto_region 30 with (first
                | (go_at_call 21; refine (CO.out _ HY8.out).mono ?_; rintro e wa ⟨V1, e1, rfl, hf, hb⟩; have RVa := hid hf.rp0; have HYa := hid (HY8.out.below hb); have HVa := hid (HV8.out.below hb); have BLa := hid (BL8.out.trans (hb.mono S8.out)); have Sa : Hid (n0 ≤ wa.heap.size) := Nat.le_trans S8.out hb.size; have x2a : wa.cell? ⟨pw, 2, none⟩ = some (.int .i64 tv) := (hb.cell HBK8.out.lt).trans (HBK8.out.cell 2); clear hf hb)
                | (go_at_call 22; refine (CQ.out _ HVa.out).mono ?_; rintro e wb ⟨V2, e2, rfl, hr, hb⟩; have RVb := hid (RVa.out.belowN hb); have RWb := hid hr; have HYb := hid (HYa.out.below hb); have HVb := hid (HVa.out.below hb); have BLb := hid (BLa.out.trans (hb.mono Sa.out)); have Sb : Hid (n0 ≤ wb.heap.size) := Nat.le_trans Sa.out hb.size; clear hr hb))
              obtain ⟨VA, vc, VA', vc', vrows, vqr, hvb, _⟩ := HVb.out
              obtain ⟨DD, hDD⟩ : ∃ m, m = s2.D := ⟨_, rfl⟩
              rw [← hDD] at hvb
              have C3 : wb.cell? ⟨vb, 3, none⟩ = some (.bool DD) := hvb.cell 3
              have CDN := hid (fun q => down_q HYb.out hDD q)
              have CSM := hid (fun q => same_qy (c := e1) (d := e2) RVb.out RWb.out (by have := HVL.out; omega) HNV.out q)
              clear hvb hDD
              go_quiet ((first | (with_reducible exact CSM.out _) | (with_reducible exact CDN.out _)))
              have bq := bel_drewN wb nq
              have HYc := hid (HYb.out.below bq)
              have HVc := hid (HVb.out.below bq)
              have BLc := hid (BLb.out.trans (bq.mono Sb.out))
              clear bq
              go_wp2
              go_roundw
              case rel => exact ⟨k + 1, s2, by omega, by go_num, HYc.out, HVc.out, ⟨HB2.out, HQ2.out⟩, BLc.out⟩
              case measure => simp [intOf]; omega
            · have a2 : (kd == 2) = false := by simpa using k2
              by_cases k3 : kd = 3
              · subst k3
                have hmx := maxm_runO iv
                obtain ⟨MX, hMX⟩ : ∃ m, m = max iv (-1) := ⟨_, rfl⟩
                rw [← hMX] at hmx
                have HMX := hid hMX
                clear hMX
                have HB2 : Hid (s.sf iv).bs := s.sf_bs HI.out.1 iv
                have HQ2 : Hid ((s.sf iv).Q.length ≤ k + 1) := Nat.le_succ_of_le HI.out.2
                go_upto_region 28 with (go_at_call 16; refine (CFs.out _ HY5.out BL5.out).mono ?_; rintro e w6 ⟨rfl, hlf⟩; have HY6 := hid hlf.1; have HV6 := hid (HV5.out.kt hlf.2.1); have BL6 := hid (BL5.out.trans hlf.2.2); have HBK6 := hid (hlf.2.1.blk HBK.out (by decide)); have q0w6 : w6.cell? ⟨pw, 0, none⟩ = some (.int .i64 3) := HBK6.out.cell 0; have q1w6 : w6.cell? ⟨pw, 1, none⟩ = some (.int .i64 iv) := HBK6.out.cell 1; have q2w6 : w6.cell? ⟨pw, 2, none⟩ = some (.int .i64 tv) := HBK6.out.cell 2; have q3w6 : w6.cell? ⟨pw, 3, none⟩ = some (.slice B m1 c1) := HBK6.out.cell 3; have q4w6 : w6.cell? ⟨pw, 4, none⟩ = some (.slice E m2 d) := HBK6.out.cell 4; obtain ⟨VA, vc, VA', vc', vrows, vqr, hvb, _⟩ := HV6.out; have x2f : w6.cell? ⟨vb, 2, none⟩ = some (.int .i64 s.F) := hvb.cell 2; have f2f : w6.frozen? ⟨vb, 2, none⟩ = false := hvb.frozen 2; clear hvb hlf)
                have LV : Hid (Lv n0 vb (s.sf iv) w6 (w6.setCell ⟨vb, 2, none⟩ (.int .i64 MX))) := by
                  obtain ⟨A3, c5, A4, c6, rows3, qr3, k1, k2, k3, k4, k5, k6, k7, k8, k9, k10⟩ := HV6.out
                  rw [HMX.out]
                  exact Lv.cell (s := s) (s' := s.sf iv) k1 rfl rfl rfl rfl k2 k3 k4 k5 k6 (by show -1 ≤ max iv (-1) ∧ max iv (-1) ≤ 9223372036854775807; have := IB.out; omega) ⟨k8, k9, k10⟩ rfl
                have HV8 := hid LV.out.1
                have HY8 := hid (HY6.out.vt LV.out.2.1)
                have BL8 := hid (BL6.out.trans LV.out.2.2)
                have HBK8 := hid (LV.out.2.1.blk HBK6.out (by decide))
                generalize w6.setCell ⟨vb, 2, none⟩ (.int .i64 MX) = w8 at HV8 HY8 BL8 HBK8 ⊢
                obtain ⟨s2, hs2⟩ : ∃ m, m = s.sf iv := ⟨_, rfl⟩
                rw [← hs2] at HB2 HQ2 HY8 HV8
                clear hs2 LV x2f f2f hmx
                have S8 : Hid (n0 ≤ w8.heap.size) := Nat.le_trans (Nat.le_of_eq HN0.out) BL8.out.size
                have x2 : w8.cell? ⟨pw, 2, none⟩ = some (.int .i64 tv) := HBK8.out.cell 2
                obtain ⟨er, x, V, hy⟩ : ∃ er x V, s2.ld tv = (er, x, V) := ⟨_, _, _, rfl⟩
                have CO : Hid (∀ w', Dy n0 w' b s2 → Calls Try.prog 21 #[.pointer (some ⟨b, 0, none⟩), .int .i64 tv] w' (LdAns w' (er, x, V))) := fun w' hd => by
                  have := oLoad_any hd HB2.out tv HT.out
                  rwa [hy] at this
                have CQ : Hid (∀ w', VAt n0 w' vb s2 → Calls Try.prog 22 #[.pointer (some ⟨vb, 0, none⟩), .int .i64 tv] w' (LqAns w' (er, x, V))) := fun w' hd => by
                  have := qLoad_any hd HB2.out (by have := HQ2.out; have := H50.out; omega) tv HT.out
                  rwa [hy] at this
                have hvl : V.length ≤ 110 := by
                  have := ld_lenO (s := s2) tv
                  rw [hy] at this
                  exact this
                have HVL := hid hvl
                unfold LdAns at CO
                unfold LqAns at CQ
                simp only at CO CQ
                obtain ⟨nv, hnv⟩ : ∃ m, m = V.length := ⟨_, rfl⟩
                rw [← hnv] at CO CQ
                have HNV := hid hnv
                clear hy hvl hnv
                go_upto_region 30 with (first
                  | (go_at_call 21; refine (CO.out _ HY8.out).mono ?_; rintro e wa ⟨V1, e1, rfl, hf, hb⟩; have RVa := hid hf.rp0; have HYa := hid (HY8.out.below hb); have HVa := hid (HV8.out.below hb); have BLa := hid (BL8.out.trans (hb.mono S8.out)); have Sa : Hid (n0 ≤ wa.heap.size) := Nat.le_trans S8.out hb.size; have x2a : wa.cell? ⟨pw, 2, none⟩ = some (.int .i64 tv) := (hb.cell HBK8.out.lt).trans (HBK8.out.cell 2); clear hf hb)
                  | (go_at_call 22; refine (CQ.out _ HVa.out).mono ?_; rintro e wb ⟨V2, e2, rfl, hr, hb⟩; have RVb := hid (RVa.out.belowN hb); have RWb := hid hr; have HYb := hid (HYa.out.below hb); have HVb := hid (HVa.out.below hb); have BLb := hid (BLa.out.trans (hb.mono Sa.out)); have Sb : Hid (n0 ≤ wb.heap.size) := Nat.le_trans Sa.out hb.size; clear hr hb))
                obtain ⟨VA, vc, VA', vc', vrows, vqr, hvb, _⟩ := HVb.out
                obtain ⟨DD, hDD⟩ : ∃ m, m = s2.D := ⟨_, rfl⟩
                rw [← hDD] at hvb
                have C3 : wb.cell? ⟨vb, 3, none⟩ = some (.bool DD) := hvb.cell 3
                have CDN := hid (fun q => down_q HYb.out hDD q)
                have CSM := hid (fun q => same_qy (c := e1) (d := e2) RVb.out RWb.out (by have := HVL.out; omega) HNV.out q)
                clear hvb hDD
                go_quiet ((first | (with_reducible exact CSM.out _) | (with_reducible exact CDN.out _)))
                have bq := bel_drewN wb nq
                have HYc := hid (HYb.out.below bq)
                have HVc := hid (HVb.out.below bq)
                have BLc := hid (BLb.out.trans (bq.mono Sb.out))
                clear bq
                go_wp2
                go_roundw
                case rel => exact ⟨k + 1, s2, by omega, by go_num, HYc.out, HVc.out, ⟨HB2.out, HQ2.out⟩, BLc.out⟩
                case measure => simp [intOf]; omega
              · have a3 : (kd == 3) = false := by simpa using k3
                by_cases k4 : kd = 4
                · subst k4
                  obtain ⟨s2, hs2⟩ : ∃ m, m = s.rs ll := ⟨_, rfl⟩
                  have HB2 : Hid s2.bs := by show SS.bs s2; rw [hs2]; exact s.rs_bs HI.out.1 ll
                  have HQ2 : Hid (s2.Q.length ≤ k + 1) := by show _ ≤ _; rw [hs2]; exact Nat.zero_le _
                  rw [← hs2] at CXd CXv
                  clear hs2
                  go_upto_region 28 with (first
                    | (go_at_call 17; refine (CXd.out _ HY5.out BL5.out).mono ?_; rintro e w6 ⟨rfl, hlf⟩; have HY6 := hid hlf.1; have HV6 := hid (HV5.out.kt hlf.2.1); have BL6 := hid (BL5.out.trans hlf.2.2); have HBK6 := hid (hlf.2.1.blk HBK.out (by decide)); have q0w6 : w6.cell? ⟨pw, 0, none⟩ = some (.int .i64 4) := HBK6.out.cell 0; have q1w6 : w6.cell? ⟨pw, 1, none⟩ = some (.int .i64 iv) := HBK6.out.cell 1; have q2w6 : w6.cell? ⟨pw, 2, none⟩ = some (.int .i64 tv) := HBK6.out.cell 2; have q3w6 : w6.cell? ⟨pw, 3, none⟩ = some (.slice B m1 c1) := HBK6.out.cell 3; have q4w6 : w6.cell? ⟨pw, 4, none⟩ = some (.slice E m2 d) := HBK6.out.cell 4; clear hlf)
                    | (go_at_call 18; refine (CXv.out _ HV6.out BL6.out).mono ?_; rintro e w8 ⟨rfl, hlv⟩; have HV8 := hid hlv.1; have HY8 := hid (HY6.out.vt hlv.2.1); have BL8 := hid (BL6.out.trans hlv.2.2); have HBK8 := hid (hlv.2.1.blk HBK6.out (by decide)); have q0w8 : w8.cell? ⟨pw, 0, none⟩ = some (.int .i64 4) := HBK8.out.cell 0; have q1w8 : w8.cell? ⟨pw, 1, none⟩ = some (.int .i64 iv) := HBK8.out.cell 1; have q2w8 : w8.cell? ⟨pw, 2, none⟩ = some (.int .i64 tv) := HBK8.out.cell 2; have q3w8 : w8.cell? ⟨pw, 3, none⟩ = some (.slice B m1 c1) := HBK8.out.cell 3; have q4w8 : w8.cell? ⟨pw, 4, none⟩ = some (.slice E m2 d) := HBK8.out.cell 4; clear hlv))
                  have S8 : Hid (n0 ≤ w8.heap.size) := Nat.le_trans (Nat.le_of_eq HN0.out) BL8.out.size
                  have x2 : w8.cell? ⟨pw, 2, none⟩ = some (.int .i64 tv) := HBK8.out.cell 2
                  obtain ⟨er, x, V, hy⟩ : ∃ er x V, s2.ld tv = (er, x, V) := ⟨_, _, _, rfl⟩
                  have CO : Hid (∀ w', Dy n0 w' b s2 → Calls Try.prog 21 #[.pointer (some ⟨b, 0, none⟩), .int .i64 tv] w' (LdAns w' (er, x, V))) := fun w' hd => by
                    have := oLoad_any hd HB2.out tv HT.out
                    rwa [hy] at this
                  have CQ : Hid (∀ w', VAt n0 w' vb s2 → Calls Try.prog 22 #[.pointer (some ⟨vb, 0, none⟩), .int .i64 tv] w' (LqAns w' (er, x, V))) := fun w' hd => by
                    have := qLoad_any hd HB2.out (by have := HQ2.out; have := H50.out; omega) tv HT.out
                    rwa [hy] at this
                  have hvl : V.length ≤ 110 := by
                    have := ld_lenO (s := s2) tv
                    rw [hy] at this
                    exact this
                  have HVL := hid hvl
                  unfold LdAns at CO
                  unfold LqAns at CQ
                  simp only at CO CQ
                  obtain ⟨nv, hnv⟩ : ∃ m, m = V.length := ⟨_, rfl⟩
                  rw [← hnv] at CO CQ
                  have HNV := hid hnv
                  clear hy hvl hnv
                  go_upto_region 30 with (first
                    | (go_at_call 21; refine (CO.out _ HY8.out).mono ?_; rintro e wa ⟨V1, e1, rfl, hf, hb⟩; have RVa := hid hf.rp0; have HYa := hid (HY8.out.below hb); have HVa := hid (HV8.out.below hb); have BLa := hid (BL8.out.trans (hb.mono S8.out)); have Sa : Hid (n0 ≤ wa.heap.size) := Nat.le_trans S8.out hb.size; have x2a : wa.cell? ⟨pw, 2, none⟩ = some (.int .i64 tv) := (hb.cell HBK8.out.lt).trans (HBK8.out.cell 2); clear hf hb)
                    | (go_at_call 22; refine (CQ.out _ HVa.out).mono ?_; rintro e wb ⟨V2, e2, rfl, hr, hb⟩; have RVb := hid (RVa.out.belowN hb); have RWb := hid hr; have HYb := hid (HYa.out.below hb); have HVb := hid (HVa.out.below hb); have BLb := hid (BLa.out.trans (hb.mono Sa.out)); have Sb : Hid (n0 ≤ wb.heap.size) := Nat.le_trans Sa.out hb.size; clear hr hb))
                  obtain ⟨VA, vc, VA', vc', vrows, vqr, hvb, _⟩ := HVb.out
                  obtain ⟨DD, hDD⟩ : ∃ m, m = s2.D := ⟨_, rfl⟩
                  rw [← hDD] at hvb
                  have C3 : wb.cell? ⟨vb, 3, none⟩ = some (.bool DD) := hvb.cell 3
                  have CDN := hid (fun q => down_q HYb.out hDD q)
                  have CSM := hid (fun q => same_qy (c := e1) (d := e2) RVb.out RWb.out (by have := HVL.out; omega) HNV.out q)
                  clear hvb hDD
                  go_quiet ((first | (with_reducible exact CSM.out _) | (with_reducible exact CDN.out _)))
                  have bq := bel_drewN wb nq
                  have HYc := hid (HYb.out.below bq)
                  have HVc := hid (HVb.out.below bq)
                  have BLc := hid (BLb.out.trans (bq.mono Sb.out))
                  clear bq
                  go_wp2
                  go_roundw
                  case rel => exact ⟨k + 1, s2, by omega, by go_num, HYc.out, HVc.out, ⟨HB2.out, HQ2.out⟩, BLc.out⟩
                  case measure => simp [intOf]; omega
                · have a4 : (kd == 4) = false := by simpa using k4
                  by_cases k5 : kd = 5
                  · subst k5
                    have HB2 : Hid s.fl.2.bs := SS.fl_bs HI.out.1
                    have HQ2 : Hid (s.fl.2.Q.length ≤ k + 1) := Nat.le_trans s.fl_len.2 (Nat.succ_le_succ HI.out.2)
                    obtain ⟨er9, s2, hfl⟩ : ∃ er s9, s.fl = (er, s9) := ⟨_, _, rfl⟩
                    rw [hfl] at CLd CLv HB2 HQ2
                    simp only at CLd CLv HB2 HQ2
                    clear hfl
                    go_upto_region 28 with (first
                      | (go_at_call 19; refine (CLd.out _ HY5.out BL5.out).mono ?_; rintro e w6 ⟨rfl, hlf⟩; have HY6 := hid hlf.1; have HV6 := hid (HV5.out.kt hlf.2.1); have BL6 := hid (BL5.out.trans hlf.2.2); have HBK6 := hid (hlf.2.1.blk HBK.out (by decide)); have q0w6 : w6.cell? ⟨pw, 0, none⟩ = some (.int .i64 5) := HBK6.out.cell 0; have q1w6 : w6.cell? ⟨pw, 1, none⟩ = some (.int .i64 iv) := HBK6.out.cell 1; have q2w6 : w6.cell? ⟨pw, 2, none⟩ = some (.int .i64 tv) := HBK6.out.cell 2; have q3w6 : w6.cell? ⟨pw, 3, none⟩ = some (.slice B m1 c1) := HBK6.out.cell 3; have q4w6 : w6.cell? ⟨pw, 4, none⟩ = some (.slice E m2 d) := HBK6.out.cell 4; clear hlf)
                      | (go_at_call 20; refine (CLv.out _ HV6.out BL6.out).mono ?_; rintro e w8 ⟨rfl, hlv⟩; have HV8 := hid hlv.1; have HY8 := hid (HY6.out.vt hlv.2.1); have BL8 := hid (BL6.out.trans hlv.2.2); have HBK8 := hid (hlv.2.1.blk HBK6.out (by decide)); have q0w8 : w8.cell? ⟨pw, 0, none⟩ = some (.int .i64 5) := HBK8.out.cell 0; have q1w8 : w8.cell? ⟨pw, 1, none⟩ = some (.int .i64 iv) := HBK8.out.cell 1; have q2w8 : w8.cell? ⟨pw, 2, none⟩ = some (.int .i64 tv) := HBK8.out.cell 2; have q3w8 : w8.cell? ⟨pw, 3, none⟩ = some (.slice B m1 c1) := HBK8.out.cell 3; have q4w8 : w8.cell? ⟨pw, 4, none⟩ = some (.slice E m2 d) := HBK8.out.cell 4; clear hlv))
                    have S8 : Hid (n0 ≤ w8.heap.size) := Nat.le_trans (Nat.le_of_eq HN0.out) BL8.out.size
                    have x2 : w8.cell? ⟨pw, 2, none⟩ = some (.int .i64 tv) := HBK8.out.cell 2
                    obtain ⟨er, x, V, hy⟩ : ∃ er x V, s2.ld tv = (er, x, V) := ⟨_, _, _, rfl⟩
                    have CO : Hid (∀ w', Dy n0 w' b s2 → Calls Try.prog 21 #[.pointer (some ⟨b, 0, none⟩), .int .i64 tv] w' (LdAns w' (er, x, V))) := fun w' hd => by
                      have := oLoad_any hd HB2.out tv HT.out
                      rwa [hy] at this
                    have CQ : Hid (∀ w', VAt n0 w' vb s2 → Calls Try.prog 22 #[.pointer (some ⟨vb, 0, none⟩), .int .i64 tv] w' (LqAns w' (er, x, V))) := fun w' hd => by
                      have := qLoad_any hd HB2.out (by have := HQ2.out; have := H50.out; omega) tv HT.out
                      rwa [hy] at this
                    have hvl : V.length ≤ 110 := by
                      have := ld_lenO (s := s2) tv
                      rw [hy] at this
                      exact this
                    have HVL := hid hvl
                    unfold LdAns at CO
                    unfold LqAns at CQ
                    simp only at CO CQ
                    obtain ⟨nv, hnv⟩ : ∃ m, m = V.length := ⟨_, rfl⟩
                    rw [← hnv] at CO CQ
                    have HNV := hid hnv
                    clear hy hvl hnv
                    go_upto_region 30 with (first
                      | (go_at_call 21; refine (CO.out _ HY8.out).mono ?_; rintro e wa ⟨V1, e1, rfl, hf, hb⟩; have RVa := hid hf.rp0; have HYa := hid (HY8.out.below hb); have HVa := hid (HV8.out.below hb); have BLa := hid (BL8.out.trans (hb.mono S8.out)); have Sa : Hid (n0 ≤ wa.heap.size) := Nat.le_trans S8.out hb.size; have x2a : wa.cell? ⟨pw, 2, none⟩ = some (.int .i64 tv) := (hb.cell HBK8.out.lt).trans (HBK8.out.cell 2); clear hf hb)
                      | (go_at_call 22; refine (CQ.out _ HVa.out).mono ?_; rintro e wb ⟨V2, e2, rfl, hr, hb⟩; have RVb := hid (RVa.out.belowN hb); have RWb := hid hr; have HYb := hid (HYa.out.below hb); have HVb := hid (HVa.out.below hb); have BLb := hid (BLa.out.trans (hb.mono Sa.out)); have Sb : Hid (n0 ≤ wb.heap.size) := Nat.le_trans Sa.out hb.size; clear hr hb))
                    obtain ⟨VA, vc, VA', vc', vrows, vqr, hvb, _⟩ := HVb.out
                    obtain ⟨DD, hDD⟩ : ∃ m, m = s2.D := ⟨_, rfl⟩
                    rw [← hDD] at hvb
                    have C3 : wb.cell? ⟨vb, 3, none⟩ = some (.bool DD) := hvb.cell 3
                    have CDN := hid (fun q => down_q HYb.out hDD q)
                    have CSM := hid (fun q => same_qy (c := e1) (d := e2) RVb.out RWb.out (by have := HVL.out; omega) HNV.out q)
                    clear hvb hDD
                    go_quiet ((first | (with_reducible exact CSM.out _) | (with_reducible exact CDN.out _)))
                    have bq := bel_drewN wb nq
                    have HYc := hid (HYb.out.below bq)
                    have HVc := hid (HVb.out.below bq)
                    have BLc := hid (BLb.out.trans (bq.mono Sb.out))
                    clear bq
                    go_wp2
                    go_roundw
                    case rel => exact ⟨k + 1, s2, by omega, by go_num, HYc.out, HVc.out, ⟨HB2.out, HQ2.out⟩, BLc.out⟩
                    case measure => simp [intOf]; omega
                  · have a5 : (kd == 5) = false := by simpa using k5
                    have HY8 := HY5; have HV8 := HV5; have BL8 := BL5; have HBK8 := HBK
                    have HB2 : Hid s.bs := HI.out.1
                    have HQ2 : Hid (s.Q.length ≤ k + 1) := Nat.le_succ_of_le HI.out.2
                    obtain ⟨s2, rfl⟩ : ∃ s2, s2 = s := ⟨_, rfl⟩
                    obtain ⟨w8, rfl⟩ : ∃ w8 : World, w8 = w5 := ⟨_, rfl⟩
                    go_upto_region 28 with (fail)
                    have S8 : Hid (n0 ≤ w8.heap.size) := Nat.le_trans (Nat.le_of_eq HN0.out) BL8.out.size
                    have x2 : w8.cell? ⟨pw, 2, none⟩ = some (.int .i64 tv) := HBK8.out.cell 2
                    obtain ⟨er, x, V, hy⟩ : ∃ er x V, s2.ld tv = (er, x, V) := ⟨_, _, _, rfl⟩
                    have CO : Hid (∀ w', Dy n0 w' b s2 → Calls Try.prog 21 #[.pointer (some ⟨b, 0, none⟩), .int .i64 tv] w' (LdAns w' (er, x, V))) := fun w' hd => by
                      have := oLoad_any hd HB2.out tv HT.out
                      rwa [hy] at this
                    have CQ : Hid (∀ w', VAt n0 w' vb s2 → Calls Try.prog 22 #[.pointer (some ⟨vb, 0, none⟩), .int .i64 tv] w' (LqAns w' (er, x, V))) := fun w' hd => by
                      have := qLoad_any hd HB2.out (by have := HQ2.out; have := H50.out; omega) tv HT.out
                      rwa [hy] at this
                    have hvl : V.length ≤ 110 := by
                      have := ld_lenO (s := s2) tv
                      rw [hy] at this
                      exact this
                    have HVL := hid hvl
                    unfold LdAns at CO
                    unfold LqAns at CQ
                    simp only at CO CQ
                    obtain ⟨nv, hnv⟩ : ∃ m, m = V.length := ⟨_, rfl⟩
                    rw [← hnv] at CO CQ
                    have HNV := hid hnv
                    clear hy hvl hnv
                    go_upto_region 30 with (first
                      | (go_at_call 21; refine (CO.out _ HY8.out).mono ?_; rintro e wa ⟨V1, e1, rfl, hf, hb⟩; have RVa := hid hf.rp0; have HYa := hid (HY8.out.below hb); have HVa := hid (HV8.out.below hb); have BLa := hid (BL8.out.trans (hb.mono S8.out)); have Sa : Hid (n0 ≤ wa.heap.size) := Nat.le_trans S8.out hb.size; have x2a : wa.cell? ⟨pw, 2, none⟩ = some (.int .i64 tv) := (hb.cell HBK8.out.lt).trans (HBK8.out.cell 2); clear hf hb)
                      | (go_at_call 22; refine (CQ.out _ HVa.out).mono ?_; rintro e wb ⟨V2, e2, rfl, hr, hb⟩; have RVb := hid (RVa.out.belowN hb); have RWb := hid hr; have HYb := hid (HYa.out.below hb); have HVb := hid (HVa.out.below hb); have BLb := hid (BLa.out.trans (hb.mono Sa.out)); have Sb : Hid (n0 ≤ wb.heap.size) := Nat.le_trans Sa.out hb.size; clear hr hb))
                    obtain ⟨VA, vc, VA', vc', vrows, vqr, hvb, _⟩ := HVb.out
                    obtain ⟨DD, hDD⟩ : ∃ m, m = s2.D := ⟨_, rfl⟩
                    rw [← hDD] at hvb
                    have C3 : wb.cell? ⟨vb, 3, none⟩ = some (.bool DD) := hvb.cell 3
                    have CDN := hid (fun q => down_q HYb.out hDD q)
                    have CSM := hid (fun q => same_qy (c := e1) (d := e2) RVb.out RWb.out (by have := HVL.out; omega) HNV.out q)
                    clear hvb hDD
                    go_quiet ((first | (with_reducible exact CSM.out _) | (with_reducible exact CDN.out _)))
                    have bq := bel_drewN wb nq
                    have HYc := hid (HYb.out.below bq)
                    have HVc := hid (HVb.out.below bq)
                    have BLc := hid (BLb.out.trans (bq.mono Sb.out))
                    clear bq
                    go_wp2
                    go_roundw
                    case rel => exact ⟨k + 1, s2, by omega, by go_num, HYc.out, HVc.out, ⟨HB2.out, HQ2.out⟩, BLc.out⟩
                    case measure => simp [intOf]; omega
    · obtain rfl : k = n1 := by omega
      go_wp2
      go_ret
      exact ⟨rfl, BL.out⟩
theorem splays_walk (A1 : Option Addr) (n1 d1 : Nat) (ol : List Oq) (w : World) (hin : InOps w A1 n1 ol) :
    Calls Try.prog 3 #[.slice A1 n1 d1] w fun e w' => e = .returned (.bool true) ∧ Below w.heap.size w w' := by
  by_cases hf : ol.length ≤ 50 ∧ SmallO ol ol.length
  · have CF := hid (fun w' (hb : Below w.heap.size w w') => oFew_yes (c := d1) (hin.below hb) hf)
    exact splays_50 A1 n1 d1 ol w hin (by rw [← hin.1]; exact hf.1) hf.2 CF
  · have CF := hid (fun w' (hb : Below w.heap.size w w') => oFew_no (c := d1) (hin.below hb) hf)
    clear hin hf
    go_enter Try.func3, Try.ntmps3
    go_wp2_with (first
      | (go_at_call 8; (with_reducible refine (oawake_any w).mono ?_); rintro e w1 ⟨rfl, hb⟩; have B1 := hid hb; clear hb)
      | (go_at_call 9; refine (CF.out _ B1.out).mono ?_; rintro e wq ⟨rfl, rfl⟩)
      | (go_at_call 8; refine (oawake_any _).mono ?_; rintro e w2 ⟨rfl, hb⟩; have B2 := hid (B1.out.trans (hb.mono B1.out.size)); clear hb))
    go_ret
    exact ⟨rfl, B2.out⟩
end Go.Proofs.Ytjdojnbpchommaa
