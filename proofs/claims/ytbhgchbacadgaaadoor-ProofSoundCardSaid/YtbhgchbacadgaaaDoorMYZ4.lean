/-
  What is proved here: the texts of a proof, as the document tells them.
-/
import Derived.Test.YtbhgchbacadgaaaDoorMTk
import Derived.Test.YtbhgchbacadgaaaDoorMYZ1
set_option linter.unusedSimpArgs false
set_option linter.unusedVariables false
namespace Go.Proofs.YtbhgchbacadgaaaDoor
open Go.ChangeShapes Go.WideShapes Go.ChangeAt Go.RowKit
set_option linter.unusedVariables false
set_option linter.unusedSimpArgs false
set_option maxRecDepth 20000

theorem zero_zstep : ∃ Z : Array Value, Hid (Z = (stc stZ).toArray) ∧ (¬ Z = #[]) ∧ ∀ w : World, Sem.run Tryd.prog (zeroValue 130) w = Result.ok (.agg Z) w := by
  refine ⟨(stc stZ).toArray, rfl, fun h => ?_, fun w => by kernel_rfl⟩
  have := congrArg Array.size h
  rw [List.size_toArray, stZ_ok.len] at this
  exact absurd this (by decide)
theorem zstep_info2 {s : QS} (h : s.Ok) : (Tryd.prog.info? 130).map (·.size) = some (stc s).toArray.size := by rw [List.size_toArray, h.len]; kernel_rfl
theorem zblk_st {x : World} {g8 : Nat} {s : QS} (h : Blk x g8 130 (stc s).toArray) (hs : s.Ok) : StAt x g8 0 s := st_at (fun j v hv => by rw [h.cell, Nat.zero_add, List.getElem?_toArray]; exact hv) hs
theorem zblk_oth {x : World} {g8 : Nat} {s : QS} (h : Blk x g8 130 (stc s).toArray) (hs : s.Ok) : x.rangeAt g8 33 (u8s s.o) := by have := (zblk_st h hs).oth; rwa [Nat.zero_add] at this
theorem st_one {s : QS} : (stc s).toArray.all (·.oneCell') = true := by
  rw [Array.all_eq_true']
  intro v hv
  exact stc_one s v (by simpa using hv)
theorem wpList_append_tx {x : World} {ops : Array Oper} {rest : List Oper} {o : Oper} {a : Act} {Q : Exit → Act → World → Prop} (hgd : o.guard = none) (s y : Operand)
    (ho : o.op = .call { callee := .builtin .append, args := #[s, y], argTypes := #[79, 79] }) (n0 : Nat) (M : List (List Int)) (v : Value) (hs : a.eval s = v) (hM : Txs n0 x M v) (g5 : Nat) (B : Option Addr) (d m : Nat) (xs : List Int) (hm : m = xs.length) (hx : a.eval y = .slice (some ⟨g5, 0, none⟩) 1 1)
    (hO : Blk x g5 49 #[.slice B m d]) (hd : xs.length ≤ d) (hB : Byt x B xs) (hlen : M.length ≤ 1000) (hn : n0 ≤ x.heap.size)
    (h : ∀ v' w', Txs n0 w' (M ++ [xs]) v' → But v x w' → wpList Tryd.prog ops Q rest (a.put o.dst v') w') : wpList Tryd.prog ops Q (o :: rest) a x :=
  wpList_plain hgd fun _ hK => wp_append_tx s y ho n0 M v hs hM g5 B d m xs hm hx hO hd hB hlen hn (fun v' w' h1 h2 => hK _ _ (h v' w' h1 h2))
/-- a proof whose lengths are such -/
def RngP (q : QP) : Prop := (q.e = 0 ∨ q.e = 1 ∨ q.e = 2) ∧ (0 ≤ q.n ∧ q.n ≤ 256) ∧ ∀ s ∈ q.ss, 0 ≤ s.n ∧ s.n ≤ 256
theorem shS_rng {K : List Int} : ∀ {t : Tr}, t.ok → ∀ s ∈ shS K t, 0 ≤ s.n ∧ s.n ≤ 256
  | .leaf k v, _, s, hs => by simp [shS] at hs
  | .inner n b l r, h, s, hs => by
    have hn : n < 256 := h.2.2.1
    unfold shS at hs
    by_cases hc : cut K n = b
    · rw [if_pos hc] at hs
      by_cases hb : bit K n = 0
      · rw [if_pos hb] at hs
        rcases List.mem_cons.1 hs with rfl | hs
        · show 0 ≤ (n : Int) ∧ (n : Int) ≤ 256; omega
        · exact shS_rng h.1 s hs
      · rw [if_neg hb] at hs
        rcases List.mem_cons.1 hs with rfl | hs
        · show 0 ≤ (n : Int) ∧ (n : Int) ≤ 256; omega
        · exact shS_rng h.2.1 s hs
    · rw [if_neg hc] at hs; simp at hs
theorem showP_rng {K : List Int} {T : Option Tr} (h : TOk T) : RngP (showP K T) := by
  cases T with
  | none => exact ⟨.inl rfl, by show 0 ≤ (0 : Int) ∧ (0 : Int) ≤ 256; decide, fun s hs => by simp [showP, qZ] at hs⟩
  | some t =>
    have hok : t.ok := h
    have h1 := shS_rng (K := K) hok
    have h2 := shE_ok (K := K) hok
    show RngP (endP (shS K t) (shE K t))
    cases hE : shE K t with
    | leaf k v => exact ⟨.inr (.inl rfl), by show 0 ≤ (0 : Int) ∧ (0 : Int) ≤ 256; decide, h1⟩
    | inner n b l r =>
      rw [hE] at h2
      have hn : n < 256 := h2.2.2.1
      exact ⟨.inr (.inr rfl), by show 0 ≤ (n : Int) ∧ (n : Int) ≤ 256; omega, h1⟩
theorem innX_rng {n : Int} (h : 0 ≤ n ∧ n ≤ 256) (b l r : List Int) : innX n b l r = innerT n b l r := if_pos (by omega)
theorem byt_but {n0 : Nat} {x y : World} {M : List (List Int)} {v : Value} {B : Option Addr} {xs : List Int} (hM : Txs n0 x M v) (hb : But v x y) (h : Byt x B xs) : Byt y B xs := h.same (fun g cs hg => hb.at g hg.lt (fun e => by
  obtain ⟨_, C, hC⟩ := hM.ty g e
  exact hg.ne hC (by decide) rfl))
theorem sum_call {w : World} {B : Option Addr} {d : Nat} {tl : List Int} (h : Byt w B tl) (hb : Bs tl) (hl : tl.length < 20000) : Calls Tryd.prog 24 #[.slice B tl.length d] w fun e w' => e = .returned (.agg (kc (sum tl))) ∧ Below w.heap.size w w' := RSum_any B d tl w h.1 hb (by omega)
theorem stepX0 {key x : List Int} {s : QS} (h : bitI key s.n = 0) (hr : 0 ≤ s.n ∧ s.n ≤ 256) : stepX key s x = innerT s.n s.b (sum x) s.o := by
  unfold stepX; rw [if_neg (by rw [h]; decide)]; exact innX_rng hr _ _ _
theorem stepX1 {key x : List Int} {s : QS} (h : bitI key s.n = 1) (hr : 0 ≤ s.n ∧ s.n ≤ 256) : stepX key s x = innerT s.n s.b s.o (sum x) := by
  unfold stepX; rw [if_pos h]; exact innX_rng hr _ _ _
theorem stepX_bs {key x : List Int} {s : QS} (hs : s.Ok) : Bs (stepX key s x) := by rw [stepX_sd]; exact innX_bs hs.b (sdV_ky (sum_ky _) hs.o).1 (sdV_ky (sum_ky _) hs.o).2
/-- what stands in Texts -/
structure ZtF (w : World) (A : Option Addr) (n c : Nat) (q : QP) (key : List Int) (M : List (List Int)) (v : Value) (x : World) : Prop where
  pr : Blk x w.heap.size 72 (prc (.slice A n c) q).toArray
  kk : Blk x (w.heap.size + 1) 24 (kc key)
  tx : Txs w.heap.size x M v
  bl : Below w.heap.size w x
section
variable {w x y : World} {A : Option Addr} {n c : Nat} {q : QP} {key : List Int} {M : List (List Int)} {v : Value}
theorem ZtF.below (h : ZtF w A n c q key M v x) (hb : Below x.heap.size x y) : ZtF w A n c q key M v y :=
  ⟨h.pr.below hb, h.kk.below hb, h.tx.below hb, h.bl.trans (hb.mono h.bl.size)⟩
theorem ZtF.push {v' : Value} {xs : List Int} (h : ZtF w A n c q key M v x) (ht : Txs w.heap.size y (M ++ [xs]) v') (hb : But v x y) : ZtF w A n c q key (M ++ [xs]) v' y :=
  ⟨hb.blkt h.tx h.pr (by decide), hb.blkt h.tx h.kk (by decide), ht, h.bl.trans (hb.bel h.bl.size (fun k hk => (h.tx.ty k hk).1))⟩
end
structure ZsF (w4 : World) (g8 : Nat) (s : QS) (x : World) : Prop where
  b : Blk x g8 130 (stc s).toArray
  bl : Below w4.heap.size w4 x
theorem ZsF.below {w4 x y : World} {g8 : Nat} {s : QS} (h : ZsF w4 g8 s x) (hb : Below x.heap.size x y) : ZsF w4 g8 s y := ⟨h.b.below hb, h.bl.trans (hb.mono h.bl.size)⟩
set_option maxHeartbeats 16000000 in
theorem ztexts_any {A : Option Addr} {n c : Nat} {q : QP} {key : List Int} (w : World) (hin : InS w A n q.ss) (hq : q.Ok) (hr : RngP q) (hK : Ky key) (hn : n ≤ 100) :
    Calls Tryd.prog 35 #[.agg (prc (.slice A n c) q).toArray, .agg (kc key)] w (TxsA w (txsX key q)) := by
  obtain ⟨hk1, hk2, hb0⟩ := two_blks w (prc (.slice A n c) q).toArray (kc key) 72 24
  obtain ⟨Y, HY, hY0, hYs⟩ := zero_zstep
  have K1 := hid hk1; have K2 := hid hk2; have B0 := hid hb0
  have HIN := hid hin; have HQ := hid hq; have HR := hid hr; have HK := hid hK
  have HKI := hid (u8s_info hK)
  have HN := hid hn; have HQL := hid hin.len
  have CT := hid (fun w1 => RText_any 101 none 0 0 [] w1 (inR_0 _) (by decide) (fun f hf => by simp at hf) (by decide))
  have HE3 := hr.1
  obtain ⟨ev, hev⟩ : ∃ ev, ev = q.e := ⟨_, rfl⟩
  rw [← hev] at HE3
  have HEV := hid hev
  have HTX : Hid (txsX key q = (allX key (endX q) q.ss).reverse) := txs_in (by unfold isEnd; rcases hr.1 with e | e | e <;> rw [e] <;> rfl)
  clear hk1 hk2 hb0 hin hq hr hK hn hev
  unfold TxsA
  go_enter Tryd.func35, Tryd.ntmps35
  go_upto_region 3 with (go_at_call 73; refine (CT.out _).mono ?_; rintro e w1 ⟨B1, d1, rfl, hd, hf, hb⟩; have HD1 := hid hd; have FB1 := hid hf.byt; have B1w := hid (B0.out.trans (hb.mono B0.out.size)); have K11 := hid (K1.out.below hb); have K21 := hid (K2.out.below hb); clear hd hf hb)
  clear CT K1 K2 B0
  have PA := hid (K11.out.pr HQ.out)
  have c1 : w1.cell? ⟨w.heap.size, 1, none⟩ = some (.int .i64 ev) := by rw [HEV.out]; exact PA.out.«end»
  rcases HE3 with rfl | rfl | rfl
  · have HX : Hid (textL 101 [] = endX q) := by show _ = _; unfold endX; rw [if_pos HEV.out.symm]; rfl
    go_upto_region 9 with (fail)
    rw [HX.out] at HD1 FB1 ⊢
    have ZF0 : Hid (ZtF w A n c q key [] (.slice none 0 0) w1) := ⟨K11.out, K21.out, Txs.nil _ _, B1w.out⟩
    have BA : Hid (Below w1.heap.size w1 (w1.alloc (.cells #[.slice B1 (endX q).length d1] 49))) := (Below.refl _ _).alloc (Nat.le_refl _) _
    have KA : Hid (Blk (w1.alloc (.cells #[.slice B1 (endX q).length d1] 49)) w1.heap.size 49 #[.slice B1 (endX q).length d1]) := Blk.new w1 49 _
    have ZFA := hid (ZF0.out.below BA.out); have FBA := hid (FB1.out.below BA.out)
    have HL0 : Hid (([] : List (List Int)).length ≤ 1000) := Nat.zero_le _
    clear c1 K11 K21 B1w
    go_upto_region 10 with (at_builtin; refine wpList_append_tx rfl (.tmp 37) (.tmp 39) rfl w.heap.size [] (.slice none 0 0) rfl ZFA.out.tx w1.heap.size B1 d1 (endX q).length (endX q) rfl rfl KA.out HD1.out FBA.out HL0.out ZFA.out.bl.size ?_; intro v9 w9 ht hb; have ZF9 := hid (ZFA.out.push ht hb); have FB9 := hid (byt_but ZFA.out.tx hb FBA.out); obtain ⟨A9, c9, hv9⟩ := ht.len; replace hv9 : v9 = .slice A9 1 c9 := hv9; subst hv9; clear ht hb)
    clear ZF0 BA KA ZFA FBA
    have c0 : w9.cell? ⟨w.heap.size, 0, none⟩ = some (.slice A n c) := (ZF9.out.pr.pr HQ.out).steps
    have hn2 : n ≤ 100 := HN.out
    have HST : Hid (([] ++ [endX q] : List (List Int)) = (allX key (endX q) (q.ss.drop n)).reverse ∧ endX q = topX key (endX q) (q.ss.drop n)) := by
      have e : q.ss.drop n = [] := List.drop_of_length_le (by rw [HQL.out]; exact Nat.le_refl _)
      rw [e]; exact ⟨rfl, rfl⟩
    have HEB : Hid (Bs (endX q) ∧ (endX q).length < 20000) := ⟨endX_bs HQ.out, endX_len HQ.out⟩
    obtain ⟨l6, hl6⟩ : ∃ l6, l6 = (endX q).length := ⟨_, rfl⟩
    rw [← hl6]
    have HL6 := hid hl6
    clear hl6
    go_wp2
    clear c0
    go_loopw [5, 6, 7] (fun s5 s6 s7 wr => ∃ (r : Nat) (M : List (List Int)) (tl : List Int) (A1 : Option Addr) (m1 c1 : Nat) (B : Option Addr) (l6 d : Nat), r ≤ n ∧ s5 = .slice A1 m1 c1 ∧ s6 = .slice B l6 d ∧ s7 = .int .i64 ((r : Int) - 1) ∧ Hid (M = (allX key (endX q) (q.ss.drop r)).reverse ∧ tl = topX key (endX q) (q.ss.drop r)) ∧ Hid (m1 = M.length) ∧ Hid (l6 = tl.length) ∧ Hid (ZtF w A n c q key M (.slice A1 m1 c1) wr) ∧ Hid (Byt wr B tl) ∧ Hid (tl.length ≤ d) ∧ Hid (Bs tl ∧ tl.length < 20000)) (fun _ _ s7 _ => (intOf s7 + 1).toNat)
    case atStart => exact ⟨n, _, endX q, A9, 1, c9, B1, l6, d1, Nat.le_refl _, rfl, rfl, rfl, HST, rfl, HL6, ZF9, FB9, HD1, HEB⟩
    case round =>
      obtain ⟨r, M, tl, A1, m1, c1, B, l7, d, hr, rfl, rfl, rfl, HMT, HM1, HL7, ZF, FB, HDD, HTB⟩ := hrel
      clear ZF9 FB9 HST HEB HL6 HD1 HL0
      cases r with
      | zero =>
        have e0 : ((0 : Nat) : Int) - 1 = -1 := by simp
        rw [e0]
        have HM0 : Hid (M = txsX key q) := by show _ = _; rw [HTX.out, HMT.out.1, List.drop_zero]
        go_wp2
        first | go_ret | go_ret2
        exact ⟨_, rfl, by have := ZF.out.tx; rwa [HM0.out] at this, ZF.out.bl⟩
      | succ k =>
        have e0 : ((k + 1 : Nat) : Int) - 1 = (k : Int) := by omega
        rw [e0]
        obtain ⟨b, oo, s, rfl, hs, hok, hrng⟩ := (HIN.out.below ZF.out.bl).at (show k < n by omega)
        have c0 : wr.cell? ⟨w.heap.size, 0, none⟩ = some (.slice (some ⟨b, oo, none⟩) n c) := (ZF.out.pr.pr HQ.out).steps
        have HS := hid hs; have SOK := hid hok; have RNG := hid hrng
        have HSR : Hid (0 ≤ s.n ∧ s.n ≤ 256) := HR.out.2.2 s (List.mem_of_getElem? hs)
        have HSI := hid (zstep_info hok); have HSI2 := hid (zstep_info2 hok)
        have HSY : Hid (Y.size = (stc s).toArray.size) := by show _ = _; rw [HY.out, List.size_toArray, List.size_toArray, stZ_ok.len, hok.len]
        have HPS := hid (pcl_info s.n hok.b); have HOI := hid (u8s_info hok.o)
        have CB0 := fun w => rBit_any key HK.out s.n w
        have hkn : (k : Int) < (n : Int) := by omega
        have hk0 : ¬ ((k : Int) < 0) := by omega
        have hk1 : (0 : Int) ≤ (k : Int) := by omega
        clear hs hok hrng
        go_upto_region 14 with (first
          | (refine load_at rfl 130 (.tmp 52) rfl b (oo + k * 65) rfl (stc s) _ RNG.out Tryd.underlying130 rfl HSI.out (stc s).toArray rfl ?_)
          | (refine wpList_store_row rfl 130 (.tmp 8) (.tmp 53) rfl wr.heap.size (stc s).toArray rfl rfl 130 Y (Blk.new wr 130 Y) HSI2.out HSY.out st_one ?_))
        have BX : Hid (Below wr.heap.size wr ((wr.alloc (.cells Y 130)).setRow wr.heap.size (stc s).toArray)) := below_setRow ((Below.refl _ _).alloc (Nat.le_refl _) _) (Nat.le_refl _) _
        have N8 : Hid (Blk ((wr.alloc (.cells Y 130)).setRow wr.heap.size (stc s).toArray) wr.heap.size 130 (stc s).toArray) := (Blk.new wr 130 Y).row _
        have ZF1 := hid (ZF.out.below BX.out); have FB1 := hid (FB.out.below BX.out)
        clear BX ZF FB c0 RNG
        generalize (wr.alloc (.cells Y 130)).setRow wr.heap.size (stc s).toArray = w2 at N8 ZF1 FB1 ⊢
        generalize wr.heap.size = g8 at N8 ⊢
        have c8 : w2.cell? ⟨g8, 0, none⟩ = some (.int .i64 s.n) := (zblk_st N8.out SOK.out).len
        have HSUM := hid (sum_ky tl)
        rcases bitI01 key s.n with hbit | hbit
        · have HX : Hid (stepX key s tl = innerT s.n s.b (sum tl) s.o) := stepX0 hbit HSR.out
          rw [hbit] at CB0
          have CB := hid CB0
          have CI := hid (fun w => yInner_any s.n s.b (sum tl) s.o w (by have := HSR.out; omega) SOK.out.b HSUM.out SOK.out.o)
          clear CB0 hbit
          go_upto_region 15 with (first
            | (refine load_at rfl 24 (.tmp 3) rfl (w.heap.size + 1) 0 rfl (u8s key) _ (blk_key ZF1.out.kk) Tryd.underlying24 rfl HKI.out (kc key) rfl ?_)
            | (go_at_call 67; refine (CB.out _).mono ?_; clear CB; rintro e w3 ⟨rfl, hb⟩; have ZF3 := hid (ZF1.out.below hb); have FB3 := hid (FB1.out.below hb); have N83 := hid (N8.out.below hb); clear hb))
          clear c8 ZF1 FB1 N8
          refine wp_region_held (S := fun w' => Hid (ZsF w3 g8 s w')) (by kernel_rfl) ?_
          change wpAnyH _ _ _ _ _ _ _ _ w3.drew
          have Gx0 : Hid (ZsF w3 g8 s w3.drew) := ⟨N83.out.below (Below.refl _ _).drew, (Below.refl _ _).drew⟩
          generalize w3.drew = x0 at Gx0  ⊢
          refine tk 0 (some 60) ?_
          refine tkv 1 (some 61) (.agg (pc s.n s.b)) rfl (yieldsIf_load_mid (cs := (.int .i64 s.n :: u8s s.b)) (by rfl) _ _ rfl _ _ rfl _ (fun w' hSw => ((zblk_st hSw.out.b SOK.out).pre)) Tryd.underlying55 rfl HPS.out) ?_
          refine tk 2 (some 62) ?_
          refine tk 4 (some 64) ?_
          refine tkv 5 (some 65) (.agg (kc s.o)) rfl (yieldsIf_load_mid (cs := u8s s.o) (by rfl) _ _ rfl _ _ rfl _ (fun w' hSw => (zblk_oth hSw.out.b SOK.out)) Tryd.underlying24 rfl HOI.out) ?_
          refine rd1 3 (some 63) (fun Qc hQc => ?_)
          go_simp
          go_at_call 24
          have CSM := sum_call (d := d) (FB3.out.below Gx0.out.bl) HTB.out.1 HTB.out.2
          rw [← HL7.out] at CSM
          refine CSM.mono ?_
          clear CSM
          rintro e x1 ⟨rfl, hb⟩
          have Gx1 := hid (Gx0.out.below hb)
          clear hb
          go_wp2_with fail
          refine hQc.out _ _ Gx1 (fun hHeld => ?_)
          clear hQc Qc hHeld
          try simp only [Act.put, List.setIfInBounds_toArray, List.set_cons_zero, List.set_cons_succ]
          refine rd1 6 (some 66) (fun Qc hQc => ?_)
          go_simp
          go_at_call 75
          refine (CI.out x1).mono ?_
          rintro e x2 ⟨B5, d5, rfl, hd, hf, hb⟩
          have Gx2 := hid (Gx1.out.below hb)
          rw [← HX.out] at hd hf
          have HD5 := hid hd; have FB5 := hid hf.byt
          rw [← HX.out]
          clear hd hf hb
          go_wp2_with fail
          refine hQc.out _ _ Gx2 (fun hHeld => ?_)
          clear hQc Qc hHeld
          try simp only [Act.put, List.setIfInBounds_toArray, List.set_cons_zero, List.set_cons_succ]
          refine tk 7 (some 6) ?_
          refine wpAnyH_done (by kernel_rfl) ?_ _
          try simp only [Act.put, List.setIfInBounds_toArray, List.set_cons_zero, List.set_cons_succ]
          have ZF6 := hid (ZF3.out.below Gx2.out.bl)
          clear ZF3 FB3 N83 CI
          obtain ⟨xl, hxl⟩ : ∃ xl, xl = stepX key s tl := ⟨_, rfl⟩
          rw [← hxl] at HD5 FB5 ⊢
          obtain ⟨lx, hlx⟩ : ∃ lx, lx = xl.length := ⟨_, rfl⟩
          rw [← hlx]
          have HLX := hid hlx; have HXL := hid hxl
          clear hlx hxl HX
          have BA : Hid (Below x2.heap.size x2 (x2.alloc (.cells #[.slice B5 lx d5] 49))) := (Below.refl _ _).alloc (Nat.le_refl _) _
          have KA : Hid (Blk (x2.alloc (.cells #[.slice B5 lx d5] 49)) x2.heap.size 49 #[.slice B5 lx d5]) := Blk.new x2 49 _
          have ZFA := hid (ZF6.out.below BA.out); have FBA := hid (FB5.out.below BA.out)
          have HL9 : Hid (M.length ≤ 1000) := by
            show _ ≤ _
            rw [HMT.out.1, List.length_reverse, all_len, List.length_drop, HQL.out]; have := HN.out; omega
          go_wp2_with (at_builtin; refine wpList_append_tx rfl (.tmp 74) (.tmp 76) rfl w.heap.size M (.slice A1 m1 c1) rfl ZFA.out.tx x2.heap.size B5 d5 lx xl HLX.out rfl KA.out HD5.out FBA.out HL9.out ZFA.out.bl.size ?_; intro v9 w9 ht hb; have ZF9 := hid (ZFA.out.push ht hb); have FB9 := hid (byt_but ZFA.out.tx hb FBA.out); obtain ⟨A9', c9', hv9⟩ := ht.len; replace hv9 : v9 = .slice A9' (m1 + 1) c9' := (by rw [hv9, List.length_append, ← HM1.out]; rfl); subst hv9; clear ht hb)
          have HMT2 : Hid (M ++ [xl] = (allX key (endX q) (q.ss.drop k)).reverse ∧ xl = topX key (endX q) (q.ss.drop k)) := by
            have e1 := all_step key (endX q) HS.out
            have e2 : q.ss.drop k = s :: q.ss.drop (k + 1) := by
              obtain ⟨hl, e⟩ := List.getElem?_eq_some_iff.1 HS.out
              rw [← e, List.drop_eq_getElem_cons hl]
            show _ ∧ _
            rw [e1, List.reverse_cons, ← HMT.out.1, ← HMT.out.2, ← HXL.out]
            refine ⟨rfl, ?_⟩
            rw [e2, HXL.out, HMT.out.2]; rfl
          have HM2 : Hid (m1 + 1 = (M ++ [xl]).length) := by show _ = _; rw [List.length_append, ← HM1.out]; rfl
          have HTB2 : Hid (Bs xl ∧ xl.length < 20000) := by show _ ∧ _; rw [HXL.out]; exact ⟨stepX_bs SOK.out, stepX_len SOK.out⟩
          go_roundw
          case rel => exact ⟨k, _, xl, A9', m1 + 1, c9', B5, lx, d5, by omega, rfl, rfl, by go_num, HMT2, HM2, HLX, ZF9, FB9, HD5, HTB2⟩
          case measure => simp [intOf]
        · have HX : Hid (stepX key s tl = innerT s.n s.b s.o (sum tl)) := stepX1 hbit HSR.out
          rw [hbit] at CB0
          have CB := hid CB0
          have CI := hid (fun w => yInner_any s.n s.b s.o (sum tl) w (by have := HSR.out; omega) SOK.out.b SOK.out.o HSUM.out)
          clear CB0 hbit
          go_upto_region 16 with (first
            | (refine load_at rfl 24 (.tmp 3) rfl (w.heap.size + 1) 0 rfl (u8s key) _ (blk_key ZF1.out.kk) Tryd.underlying24 rfl HKI.out (kc key) rfl ?_)
            | (go_at_call 67; refine (CB.out _).mono ?_; clear CB; rintro e w3 ⟨rfl, hb⟩; have ZF3 := hid (ZF1.out.below hb); have FB3 := hid (FB1.out.below hb); have N83 := hid (N8.out.below hb); clear hb))
          clear c8 ZF1 FB1 N8
          refine wp_region_held (S := fun w' => Hid (ZsF w3 g8 s w')) (by kernel_rfl) ?_
          change wpAnyH _ _ _ _ _ _ _ _ w3.drew
          have Gx0 : Hid (ZsF w3 g8 s w3.drew) := ⟨N83.out.below (Below.refl _ _).drew, (Below.refl _ _).drew⟩
          generalize w3.drew = x0 at Gx0  ⊢
          refine tk 0 (some 67) ?_
          refine tkv 1 (some 68) (.agg (pc s.n s.b)) rfl (yieldsIf_load_mid (cs := (.int .i64 s.n :: u8s s.b)) (by rfl) _ _ rfl _ _ rfl _ (fun w' hSw => ((zblk_st hSw.out.b SOK.out).pre)) Tryd.underlying55 rfl HPS.out) ?_
          refine tk 2 (some 69) ?_
          refine tkv 3 (some 70) (.agg (kc s.o)) rfl (yieldsIf_load_mid (cs := u8s s.o) (by rfl) _ _ rfl _ _ rfl _ (fun w' hSw => (zblk_oth hSw.out.b SOK.out)) Tryd.underlying24 rfl HOI.out) ?_
          refine tk 4 (some 71) ?_
          refine rd1 5 (some 72) (fun Qc hQc => ?_)
          go_simp
          go_at_call 24
          have CSM := sum_call (d := d) (FB3.out.below Gx0.out.bl) HTB.out.1 HTB.out.2
          rw [← HL7.out] at CSM
          refine CSM.mono ?_
          clear CSM
          rintro e x1 ⟨rfl, hb⟩
          have Gx1 := hid (Gx0.out.below hb)
          clear hb
          go_wp2_with fail
          refine hQc.out _ _ Gx1 (fun hHeld => ?_)
          clear hQc Qc hHeld
          try simp only [Act.put, List.setIfInBounds_toArray, List.set_cons_zero, List.set_cons_succ]
          refine rd1 6 (some 73) (fun Qc hQc => ?_)
          go_simp
          go_at_call 75
          refine (CI.out x1).mono ?_
          rintro e x2 ⟨B5, d5, rfl, hd, hf, hb⟩
          have Gx2 := hid (Gx1.out.below hb)
          rw [← HX.out] at hd hf
          have HD5 := hid hd; have FB5 := hid hf.byt
          rw [← HX.out]
          clear hd hf hb
          go_wp2_with fail
          refine hQc.out _ _ Gx2 (fun hHeld => ?_)
          clear hQc Qc hHeld
          try simp only [Act.put, List.setIfInBounds_toArray, List.set_cons_zero, List.set_cons_succ]
          refine tk 7 (some 6) ?_
          refine wpAnyH_done (by kernel_rfl) ?_ _
          try simp only [Act.put, List.setIfInBounds_toArray, List.set_cons_zero, List.set_cons_succ]
          have ZF6 := hid (ZF3.out.below Gx2.out.bl)
          clear ZF3 FB3 N83 CI
          obtain ⟨xl, hxl⟩ : ∃ xl, xl = stepX key s tl := ⟨_, rfl⟩
          rw [← hxl] at HD5 FB5 ⊢
          obtain ⟨lx, hlx⟩ : ∃ lx, lx = xl.length := ⟨_, rfl⟩
          rw [← hlx]
          have HLX := hid hlx; have HXL := hid hxl
          clear hlx hxl HX
          have BA : Hid (Below x2.heap.size x2 (x2.alloc (.cells #[.slice B5 lx d5] 49))) := (Below.refl _ _).alloc (Nat.le_refl _) _
          have KA : Hid (Blk (x2.alloc (.cells #[.slice B5 lx d5] 49)) x2.heap.size 49 #[.slice B5 lx d5]) := Blk.new x2 49 _
          have ZFA := hid (ZF6.out.below BA.out); have FBA := hid (FB5.out.below BA.out)
          have HL9 : Hid (M.length ≤ 1000) := by
            show _ ≤ _
            rw [HMT.out.1, List.length_reverse, all_len, List.length_drop, HQL.out]; have := HN.out; omega
          go_wp2_with (at_builtin; refine wpList_append_tx rfl (.tmp 74) (.tmp 76) rfl w.heap.size M (.slice A1 m1 c1) rfl ZFA.out.tx x2.heap.size B5 d5 lx xl HLX.out rfl KA.out HD5.out FBA.out HL9.out ZFA.out.bl.size ?_; intro v9 w9 ht hb; have ZF9 := hid (ZFA.out.push ht hb); have FB9 := hid (byt_but ZFA.out.tx hb FBA.out); obtain ⟨A9', c9', hv9⟩ := ht.len; replace hv9 : v9 = .slice A9' (m1 + 1) c9' := (by rw [hv9, List.length_append, ← HM1.out]; rfl); subst hv9; clear ht hb)
          have HMT2 : Hid (M ++ [xl] = (allX key (endX q) (q.ss.drop k)).reverse ∧ xl = topX key (endX q) (q.ss.drop k)) := by
            have e1 := all_step key (endX q) HS.out
            have e2 : q.ss.drop k = s :: q.ss.drop (k + 1) := by
              obtain ⟨hl, e⟩ := List.getElem?_eq_some_iff.1 HS.out
              rw [← e, List.drop_eq_getElem_cons hl]
            show _ ∧ _
            rw [e1, List.reverse_cons, ← HMT.out.1, ← HMT.out.2, ← HXL.out]
            refine ⟨rfl, ?_⟩
            rw [e2, HXL.out, HMT.out.2]; rfl
          have HM2 : Hid (m1 + 1 = (M ++ [xl]).length) := by show _ = _; rw [List.length_append, ← HM1.out]; rfl
          have HTB2 : Hid (Bs xl ∧ xl.length < 20000) := by show _ ∧ _; rw [HXL.out]; exact ⟨stepX_bs SOK.out, stepX_len SOK.out⟩
          go_roundw
          case rel => exact ⟨k, _, xl, A9', m1 + 1, c9', B5, lx, d5, by omega, rfl, rfl, by go_num, HMT2, HM2, HLX, ZF9, FB9, HD5, HTB2⟩
          case measure => simp [intOf]
  · have HkI := hid (u8s_info HQ.out.k); have HvI := hid (u8s_info HQ.out.v)
    have HX : Hid (leafT q.k q.v = endX q) := by show _ = _; unfold endX; rw [if_neg (by rw [← HEV.out]; decide), if_pos HEV.out.symm]
    have HPB := pair_built HQ.out.k HQ.out.v
    have CY := hid (fun w => yLeaf_any q.k q.v w HQ.out.k HQ.out.v)
    have RK := hid PA.out.key; have RV := hid PA.out.val
    clear FB1 HD1
    go_upto_region 5 with (first
      | (refine load_at rfl 24 (.tmp 13) rfl w.heap.size 2 rfl (u8s q.k) _ RK.out Tryd.underlying24 rfl HkI.out (kc q.k) rfl ?_)
      | (refine load_at rfl 24 (.tmp 15) rfl w.heap.size 34 rfl (u8s q.v) _ RV.out Tryd.underlying24 rfl HvI.out (kc q.v) rfl ?_)
      | (refine wpList_buildC rfl 36 _ rfl (kvc (q.k, q.v)).toArray ?hc ?_; case hc => (simp only [List.map_toArray, List.map_cons, List.map_nil, Act.eval]; exact HPB))
      | (go_at_call 74; refine (CY.out _).mono ?_; clear CY; rintro e w2 ⟨B2, d2, rfl, hd, hf, hb⟩; have HD2 := hid hd; have FB2 := hid hf.byt; have B2w := hid (B1w.out.trans (hb.mono B1w.out.size)); have K12 := hid (K11.out.below hb); have K22 := hid (K21.out.below hb); clear hd hf hb))
    clear HPB
    have PA2 := hid (K12.out.pr HQ.out)
    clear c1
    have c1 : w2.cell? ⟨w.heap.size, 1, none⟩ = some (.int .i64 1) := by have := PA2.out.«end»; rwa [← HEV.out] at this
    clear K11 K21 B1w PA RK RV
    have K11 := K12; have K21 := K22; have B1w := B2w; have HD1 := HD2; have FB1 := FB2
    clear K12 K22 B2w HD2 FB2 PA2
    generalize w2 = w1' at K11 K21 B1w FB1 c1 ⊢
    go_upto_region 9 with (fail)
    rw [HX.out] at HD1 FB1 ⊢
    have ZF0 : Hid (ZtF w A n c q key [] (.slice none 0 0) w1') := ⟨K11.out, K21.out, Txs.nil _ _, B1w.out⟩
    have BA : Hid (Below w1'.heap.size w1' (w1'.alloc (.cells #[.slice B2 (endX q).length d2] 49))) := (Below.refl _ _).alloc (Nat.le_refl _) _
    have KA : Hid (Blk (w1'.alloc (.cells #[.slice B2 (endX q).length d2] 49)) w1'.heap.size 49 #[.slice B2 (endX q).length d2]) := Blk.new w1' 49 _
    have ZFA := hid (ZF0.out.below BA.out); have FBA := hid (FB1.out.below BA.out)
    have HL0 : Hid (([] : List (List Int)).length ≤ 1000) := Nat.zero_le _
    clear c1 K11 K21 B1w
    go_upto_region 10 with (at_builtin; refine wpList_append_tx rfl (.tmp 37) (.tmp 39) rfl w.heap.size [] (.slice none 0 0) rfl ZFA.out.tx w1'.heap.size B2 d2 (endX q).length (endX q) rfl rfl KA.out HD1.out FBA.out HL0.out ZFA.out.bl.size ?_; intro v9 w9 ht hb; have ZF9 := hid (ZFA.out.push ht hb); have FB9 := hid (byt_but ZFA.out.tx hb FBA.out); obtain ⟨A9, c9, hv9⟩ := ht.len; replace hv9 : v9 = .slice A9 1 c9 := hv9; subst hv9; clear ht hb)
    clear ZF0 BA KA ZFA FBA
    have c0 : w9.cell? ⟨w.heap.size, 0, none⟩ = some (.slice A n c) := (ZF9.out.pr.pr HQ.out).steps
    have hn2 : n ≤ 100 := HN.out
    have HST : Hid (([] ++ [endX q] : List (List Int)) = (allX key (endX q) (q.ss.drop n)).reverse ∧ endX q = topX key (endX q) (q.ss.drop n)) := by
      have e : q.ss.drop n = [] := List.drop_of_length_le (by rw [HQL.out]; exact Nat.le_refl _)
      rw [e]; exact ⟨rfl, rfl⟩
    have HEB : Hid (Bs (endX q) ∧ (endX q).length < 20000) := ⟨endX_bs HQ.out, endX_len HQ.out⟩
    obtain ⟨l6, hl6⟩ : ∃ l6, l6 = (endX q).length := ⟨_, rfl⟩
    rw [← hl6]
    have HL6 := hid hl6
    clear hl6
    go_wp2
    clear c0
    go_loopw [5, 6, 7] (fun s5 s6 s7 wr => ∃ (r : Nat) (M : List (List Int)) (tl : List Int) (A1 : Option Addr) (m1 c1 : Nat) (B : Option Addr) (l6 d : Nat), r ≤ n ∧ s5 = .slice A1 m1 c1 ∧ s6 = .slice B l6 d ∧ s7 = .int .i64 ((r : Int) - 1) ∧ Hid (M = (allX key (endX q) (q.ss.drop r)).reverse ∧ tl = topX key (endX q) (q.ss.drop r)) ∧ Hid (m1 = M.length) ∧ Hid (l6 = tl.length) ∧ Hid (ZtF w A n c q key M (.slice A1 m1 c1) wr) ∧ Hid (Byt wr B tl) ∧ Hid (tl.length ≤ d) ∧ Hid (Bs tl ∧ tl.length < 20000)) (fun _ _ s7 _ => (intOf s7 + 1).toNat)
    case atStart => exact ⟨n, _, endX q, A9, 1, c9, B2, l6, d2, Nat.le_refl _, rfl, rfl, rfl, HST, rfl, HL6, ZF9, FB9, HD1, HEB⟩
    case round =>
      obtain ⟨r, M, tl, A1, m1, c1, B, l7, d, hr, rfl, rfl, rfl, HMT, HM1, HL7, ZF, FB, HDD, HTB⟩ := hrel
      clear ZF9 FB9 HST HEB HL6 HD1 HL0
      cases r with
      | zero =>
        have e0 : ((0 : Nat) : Int) - 1 = -1 := by simp
        rw [e0]
        have HM0 : Hid (M = txsX key q) := by show _ = _; rw [HTX.out, HMT.out.1, List.drop_zero]
        go_wp2
        first | go_ret | go_ret2
        exact ⟨_, rfl, by have := ZF.out.tx; rwa [HM0.out] at this, ZF.out.bl⟩
      | succ k =>
        have e0 : ((k + 1 : Nat) : Int) - 1 = (k : Int) := by omega
        rw [e0]
        obtain ⟨b, oo, s, rfl, hs, hok, hrng⟩ := (HIN.out.below ZF.out.bl).at (show k < n by omega)
        have c0 : wr.cell? ⟨w.heap.size, 0, none⟩ = some (.slice (some ⟨b, oo, none⟩) n c) := (ZF.out.pr.pr HQ.out).steps
        have HS := hid hs; have SOK := hid hok; have RNG := hid hrng
        have HSR : Hid (0 ≤ s.n ∧ s.n ≤ 256) := HR.out.2.2 s (List.mem_of_getElem? hs)
        have HSI := hid (zstep_info hok); have HSI2 := hid (zstep_info2 hok)
        have HSY : Hid (Y.size = (stc s).toArray.size) := by show _ = _; rw [HY.out, List.size_toArray, List.size_toArray, stZ_ok.len, hok.len]
        have HPS := hid (pcl_info s.n hok.b); have HOI := hid (u8s_info hok.o)
        have CB0 := fun w => rBit_any key HK.out s.n w
        have hkn : (k : Int) < (n : Int) := by omega
        have hk0 : ¬ ((k : Int) < 0) := by omega
        have hk1 : (0 : Int) ≤ (k : Int) := by omega
        clear hs hok hrng
        go_upto_region 14 with (first
          | (refine load_at rfl 130 (.tmp 52) rfl b (oo + k * 65) rfl (stc s) _ RNG.out Tryd.underlying130 rfl HSI.out (stc s).toArray rfl ?_)
          | (refine wpList_store_row rfl 130 (.tmp 8) (.tmp 53) rfl wr.heap.size (stc s).toArray rfl rfl 130 Y (Blk.new wr 130 Y) HSI2.out HSY.out st_one ?_))
        have BX : Hid (Below wr.heap.size wr ((wr.alloc (.cells Y 130)).setRow wr.heap.size (stc s).toArray)) := below_setRow ((Below.refl _ _).alloc (Nat.le_refl _) _) (Nat.le_refl _) _
        have N8 : Hid (Blk ((wr.alloc (.cells Y 130)).setRow wr.heap.size (stc s).toArray) wr.heap.size 130 (stc s).toArray) := (Blk.new wr 130 Y).row _
        have ZF1 := hid (ZF.out.below BX.out); have FB1 := hid (FB.out.below BX.out)
        clear BX ZF FB c0 RNG
        generalize (wr.alloc (.cells Y 130)).setRow wr.heap.size (stc s).toArray = w2 at N8 ZF1 FB1 ⊢
        generalize wr.heap.size = g8 at N8 ⊢
        have c8 : w2.cell? ⟨g8, 0, none⟩ = some (.int .i64 s.n) := (zblk_st N8.out SOK.out).len
        have HSUM := hid (sum_ky tl)
        rcases bitI01 key s.n with hbit | hbit
        · have HX : Hid (stepX key s tl = innerT s.n s.b (sum tl) s.o) := stepX0 hbit HSR.out
          rw [hbit] at CB0
          have CB := hid CB0
          have CI := hid (fun w => yInner_any s.n s.b (sum tl) s.o w (by have := HSR.out; omega) SOK.out.b HSUM.out SOK.out.o)
          clear CB0 hbit
          go_upto_region 15 with (first
            | (refine load_at rfl 24 (.tmp 3) rfl (w.heap.size + 1) 0 rfl (u8s key) _ (blk_key ZF1.out.kk) Tryd.underlying24 rfl HKI.out (kc key) rfl ?_)
            | (go_at_call 67; refine (CB.out _).mono ?_; clear CB; rintro e w3 ⟨rfl, hb⟩; have ZF3 := hid (ZF1.out.below hb); have FB3 := hid (FB1.out.below hb); have N83 := hid (N8.out.below hb); clear hb))
          clear c8 ZF1 FB1 N8
          refine wp_region_held (S := fun w' => Hid (ZsF w3 g8 s w')) (by kernel_rfl) ?_
          change wpAnyH _ _ _ _ _ _ _ _ w3.drew
          have Gx0 : Hid (ZsF w3 g8 s w3.drew) := ⟨N83.out.below (Below.refl _ _).drew, (Below.refl _ _).drew⟩
          generalize w3.drew = x0 at Gx0  ⊢
          refine tk 0 (some 60) ?_
          refine tkv 1 (some 61) (.agg (pc s.n s.b)) rfl (yieldsIf_load_mid (cs := (.int .i64 s.n :: u8s s.b)) (by rfl) _ _ rfl _ _ rfl _ (fun w' hSw => ((zblk_st hSw.out.b SOK.out).pre)) Tryd.underlying55 rfl HPS.out) ?_
          refine tk 2 (some 62) ?_
          refine tk 4 (some 64) ?_
          refine tkv 5 (some 65) (.agg (kc s.o)) rfl (yieldsIf_load_mid (cs := u8s s.o) (by rfl) _ _ rfl _ _ rfl _ (fun w' hSw => (zblk_oth hSw.out.b SOK.out)) Tryd.underlying24 rfl HOI.out) ?_
          refine rd1 3 (some 63) (fun Qc hQc => ?_)
          go_simp
          go_at_call 24
          have CSM := sum_call (d := d) (FB3.out.below Gx0.out.bl) HTB.out.1 HTB.out.2
          rw [← HL7.out] at CSM
          refine CSM.mono ?_
          clear CSM
          rintro e x1 ⟨rfl, hb⟩
          have Gx1 := hid (Gx0.out.below hb)
          clear hb
          go_wp2_with fail
          refine hQc.out _ _ Gx1 (fun hHeld => ?_)
          clear hQc Qc hHeld
          try simp only [Act.put, List.setIfInBounds_toArray, List.set_cons_zero, List.set_cons_succ]
          refine rd1 6 (some 66) (fun Qc hQc => ?_)
          go_simp
          go_at_call 75
          refine (CI.out x1).mono ?_
          rintro e x2 ⟨B5, d5, rfl, hd, hf, hb⟩
          have Gx2 := hid (Gx1.out.below hb)
          rw [← HX.out] at hd hf
          have HD5 := hid hd; have FB5 := hid hf.byt
          rw [← HX.out]
          clear hd hf hb
          go_wp2_with fail
          refine hQc.out _ _ Gx2 (fun hHeld => ?_)
          clear hQc Qc hHeld
          try simp only [Act.put, List.setIfInBounds_toArray, List.set_cons_zero, List.set_cons_succ]
          refine tk 7 (some 6) ?_
          refine wpAnyH_done (by kernel_rfl) ?_ _
          try simp only [Act.put, List.setIfInBounds_toArray, List.set_cons_zero, List.set_cons_succ]
          have ZF6 := hid (ZF3.out.below Gx2.out.bl)
          clear ZF3 FB3 N83 CI
          obtain ⟨xl, hxl⟩ : ∃ xl, xl = stepX key s tl := ⟨_, rfl⟩
          rw [← hxl] at HD5 FB5 ⊢
          obtain ⟨lx, hlx⟩ : ∃ lx, lx = xl.length := ⟨_, rfl⟩
          rw [← hlx]
          have HLX := hid hlx; have HXL := hid hxl
          clear hlx hxl HX
          have BA : Hid (Below x2.heap.size x2 (x2.alloc (.cells #[.slice B5 lx d5] 49))) := (Below.refl _ _).alloc (Nat.le_refl _) _
          have KA : Hid (Blk (x2.alloc (.cells #[.slice B5 lx d5] 49)) x2.heap.size 49 #[.slice B5 lx d5]) := Blk.new x2 49 _
          have ZFA := hid (ZF6.out.below BA.out); have FBA := hid (FB5.out.below BA.out)
          have HL9 : Hid (M.length ≤ 1000) := by
            show _ ≤ _
            rw [HMT.out.1, List.length_reverse, all_len, List.length_drop, HQL.out]; have := HN.out; omega
          go_wp2_with (at_builtin; refine wpList_append_tx rfl (.tmp 74) (.tmp 76) rfl w.heap.size M (.slice A1 m1 c1) rfl ZFA.out.tx x2.heap.size B5 d5 lx xl HLX.out rfl KA.out HD5.out FBA.out HL9.out ZFA.out.bl.size ?_; intro v9 w9 ht hb; have ZF9 := hid (ZFA.out.push ht hb); have FB9 := hid (byt_but ZFA.out.tx hb FBA.out); obtain ⟨A9', c9', hv9⟩ := ht.len; replace hv9 : v9 = .slice A9' (m1 + 1) c9' := (by rw [hv9, List.length_append, ← HM1.out]; rfl); subst hv9; clear ht hb)
          have HMT2 : Hid (M ++ [xl] = (allX key (endX q) (q.ss.drop k)).reverse ∧ xl = topX key (endX q) (q.ss.drop k)) := by
            have e1 := all_step key (endX q) HS.out
            have e2 : q.ss.drop k = s :: q.ss.drop (k + 1) := by
              obtain ⟨hl, e⟩ := List.getElem?_eq_some_iff.1 HS.out
              rw [← e, List.drop_eq_getElem_cons hl]
            show _ ∧ _
            rw [e1, List.reverse_cons, ← HMT.out.1, ← HMT.out.2, ← HXL.out]
            refine ⟨rfl, ?_⟩
            rw [e2, HXL.out, HMT.out.2]; rfl
          have HM2 : Hid (m1 + 1 = (M ++ [xl]).length) := by show _ = _; rw [List.length_append, ← HM1.out]; rfl
          have HTB2 : Hid (Bs xl ∧ xl.length < 20000) := by show _ ∧ _; rw [HXL.out]; exact ⟨stepX_bs SOK.out, stepX_len SOK.out⟩
          go_roundw
          case rel => exact ⟨k, _, xl, A9', m1 + 1, c9', B5, lx, d5, by omega, rfl, rfl, by go_num, HMT2, HM2, HLX, ZF9, FB9, HD5, HTB2⟩
          case measure => simp [intOf]
        · have HX : Hid (stepX key s tl = innerT s.n s.b s.o (sum tl)) := stepX1 hbit HSR.out
          rw [hbit] at CB0
          have CB := hid CB0
          have CI := hid (fun w => yInner_any s.n s.b s.o (sum tl) w (by have := HSR.out; omega) SOK.out.b SOK.out.o HSUM.out)
          clear CB0 hbit
          go_upto_region 16 with (first
            | (refine load_at rfl 24 (.tmp 3) rfl (w.heap.size + 1) 0 rfl (u8s key) _ (blk_key ZF1.out.kk) Tryd.underlying24 rfl HKI.out (kc key) rfl ?_)
            | (go_at_call 67; refine (CB.out _).mono ?_; clear CB; rintro e w3 ⟨rfl, hb⟩; have ZF3 := hid (ZF1.out.below hb); have FB3 := hid (FB1.out.below hb); have N83 := hid (N8.out.below hb); clear hb))
          clear c8 ZF1 FB1 N8
          refine wp_region_held (S := fun w' => Hid (ZsF w3 g8 s w')) (by kernel_rfl) ?_
          change wpAnyH _ _ _ _ _ _ _ _ w3.drew
          have Gx0 : Hid (ZsF w3 g8 s w3.drew) := ⟨N83.out.below (Below.refl _ _).drew, (Below.refl _ _).drew⟩
          generalize w3.drew = x0 at Gx0  ⊢
          refine tk 0 (some 67) ?_
          refine tkv 1 (some 68) (.agg (pc s.n s.b)) rfl (yieldsIf_load_mid (cs := (.int .i64 s.n :: u8s s.b)) (by rfl) _ _ rfl _ _ rfl _ (fun w' hSw => ((zblk_st hSw.out.b SOK.out).pre)) Tryd.underlying55 rfl HPS.out) ?_
          refine tk 2 (some 69) ?_
          refine tkv 3 (some 70) (.agg (kc s.o)) rfl (yieldsIf_load_mid (cs := u8s s.o) (by rfl) _ _ rfl _ _ rfl _ (fun w' hSw => (zblk_oth hSw.out.b SOK.out)) Tryd.underlying24 rfl HOI.out) ?_
          refine tk 4 (some 71) ?_
          refine rd1 5 (some 72) (fun Qc hQc => ?_)
          go_simp
          go_at_call 24
          have CSM := sum_call (d := d) (FB3.out.below Gx0.out.bl) HTB.out.1 HTB.out.2
          rw [← HL7.out] at CSM
          refine CSM.mono ?_
          clear CSM
          rintro e x1 ⟨rfl, hb⟩
          have Gx1 := hid (Gx0.out.below hb)
          clear hb
          go_wp2_with fail
          refine hQc.out _ _ Gx1 (fun hHeld => ?_)
          clear hQc Qc hHeld
          try simp only [Act.put, List.setIfInBounds_toArray, List.set_cons_zero, List.set_cons_succ]
          refine rd1 6 (some 73) (fun Qc hQc => ?_)
          go_simp
          go_at_call 75
          refine (CI.out x1).mono ?_
          rintro e x2 ⟨B5, d5, rfl, hd, hf, hb⟩
          have Gx2 := hid (Gx1.out.below hb)
          rw [← HX.out] at hd hf
          have HD5 := hid hd; have FB5 := hid hf.byt
          rw [← HX.out]
          clear hd hf hb
          go_wp2_with fail
          refine hQc.out _ _ Gx2 (fun hHeld => ?_)
          clear hQc Qc hHeld
          try simp only [Act.put, List.setIfInBounds_toArray, List.set_cons_zero, List.set_cons_succ]
          refine tk 7 (some 6) ?_
          refine wpAnyH_done (by kernel_rfl) ?_ _
          try simp only [Act.put, List.setIfInBounds_toArray, List.set_cons_zero, List.set_cons_succ]
          have ZF6 := hid (ZF3.out.below Gx2.out.bl)
          clear ZF3 FB3 N83 CI
          obtain ⟨xl, hxl⟩ : ∃ xl, xl = stepX key s tl := ⟨_, rfl⟩
          rw [← hxl] at HD5 FB5 ⊢
          obtain ⟨lx, hlx⟩ : ∃ lx, lx = xl.length := ⟨_, rfl⟩
          rw [← hlx]
          have HLX := hid hlx; have HXL := hid hxl
          clear hlx hxl HX
          have BA : Hid (Below x2.heap.size x2 (x2.alloc (.cells #[.slice B5 lx d5] 49))) := (Below.refl _ _).alloc (Nat.le_refl _) _
          have KA : Hid (Blk (x2.alloc (.cells #[.slice B5 lx d5] 49)) x2.heap.size 49 #[.slice B5 lx d5]) := Blk.new x2 49 _
          have ZFA := hid (ZF6.out.below BA.out); have FBA := hid (FB5.out.below BA.out)
          have HL9 : Hid (M.length ≤ 1000) := by
            show _ ≤ _
            rw [HMT.out.1, List.length_reverse, all_len, List.length_drop, HQL.out]; have := HN.out; omega
          go_wp2_with (at_builtin; refine wpList_append_tx rfl (.tmp 74) (.tmp 76) rfl w.heap.size M (.slice A1 m1 c1) rfl ZFA.out.tx x2.heap.size B5 d5 lx xl HLX.out rfl KA.out HD5.out FBA.out HL9.out ZFA.out.bl.size ?_; intro v9 w9 ht hb; have ZF9 := hid (ZFA.out.push ht hb); have FB9 := hid (byt_but ZFA.out.tx hb FBA.out); obtain ⟨A9', c9', hv9⟩ := ht.len; replace hv9 : v9 = .slice A9' (m1 + 1) c9' := (by rw [hv9, List.length_append, ← HM1.out]; rfl); subst hv9; clear ht hb)
          have HMT2 : Hid (M ++ [xl] = (allX key (endX q) (q.ss.drop k)).reverse ∧ xl = topX key (endX q) (q.ss.drop k)) := by
            have e1 := all_step key (endX q) HS.out
            have e2 : q.ss.drop k = s :: q.ss.drop (k + 1) := by
              obtain ⟨hl, e⟩ := List.getElem?_eq_some_iff.1 HS.out
              rw [← e, List.drop_eq_getElem_cons hl]
            show _ ∧ _
            rw [e1, List.reverse_cons, ← HMT.out.1, ← HMT.out.2, ← HXL.out]
            refine ⟨rfl, ?_⟩
            rw [e2, HXL.out, HMT.out.2]; rfl
          have HM2 : Hid (m1 + 1 = (M ++ [xl]).length) := by show _ = _; rw [List.length_append, ← HM1.out]; rfl
          have HTB2 : Hid (Bs xl ∧ xl.length < 20000) := by show _ ∧ _; rw [HXL.out]; exact ⟨stepX_bs SOK.out, stepX_len SOK.out⟩
          go_roundw
          case rel => exact ⟨k, _, xl, A9', m1 + 1, c9', B5, lx, d5, by omega, rfl, rfl, by go_num, HMT2, HM2, HLX, ZF9, FB9, HD5, HTB2⟩
          case measure => simp [intOf]
  · have HPI := hid (pcl_info q.n HQ.out.b); have HlI := hid (u8s_info HQ.out.l); have HrI := hid (u8s_info HQ.out.r)
    have HX : Hid (innerT q.n q.b q.l q.r = endX q) := by show _ = _; unfold endX; rw [if_neg (by rw [← HEV.out]; decide), if_neg (by rw [← HEV.out]; decide), innX_rng HR.out.2.1]
    have CY := hid (fun w => yInner_any q.n q.b q.l q.r w (by have := HR.out.2.1; omega) HQ.out.b HQ.out.l HQ.out.r)
    have RK := hid PA.out.pre; have RL := hid PA.out.left; have RR := hid PA.out.right
    clear FB1 HD1
    go_upto_region 7 with (first
      | (refine load_at rfl 55 (.tmp 22) rfl w.heap.size 66 rfl (.int .i64 q.n :: u8s q.b) _ RK.out Tryd.underlying55 rfl HPI.out (pc q.n q.b) rfl ?_)
      | (refine load_at rfl 24 (.tmp 24) rfl w.heap.size 99 rfl (u8s q.l) _ RL.out Tryd.underlying24 rfl HlI.out (kc q.l) rfl ?_)
      | (refine load_at rfl 24 (.tmp 26) rfl w.heap.size 131 rfl (u8s q.r) _ RR.out Tryd.underlying24 rfl HrI.out (kc q.r) rfl ?_)
      | (go_at_call 75; refine (CY.out _).mono ?_; clear CY; rintro e w2 ⟨B2, d2, rfl, hd, hf, hb⟩; have HD2 := hid hd; have FB2 := hid hf.byt; have B2w := hid (B1w.out.trans (hb.mono B1w.out.size)); have K12 := hid (K11.out.below hb); have K22 := hid (K21.out.below hb); clear hd hf hb))
    have PA2 := hid (K12.out.pr HQ.out)
    clear c1
    have c1 : w2.cell? ⟨w.heap.size, 1, none⟩ = some (.int .i64 2) := by have := PA2.out.«end»; rwa [← HEV.out] at this
    clear K11 K21 B1w PA RK RL RR
    have K11 := K12; have K21 := K22; have B1w := B2w; have HD1 := HD2; have FB1 := FB2
    clear K12 K22 B2w HD2 FB2 PA2
    generalize w2 = w1' at K11 K21 B1w FB1 c1 ⊢
    go_upto_region 9 with (fail)
    rw [HX.out] at HD1 FB1 ⊢
    have ZF0 : Hid (ZtF w A n c q key [] (.slice none 0 0) w1') := ⟨K11.out, K21.out, Txs.nil _ _, B1w.out⟩
    have BA : Hid (Below w1'.heap.size w1' (w1'.alloc (.cells #[.slice B2 (endX q).length d2] 49))) := (Below.refl _ _).alloc (Nat.le_refl _) _
    have KA : Hid (Blk (w1'.alloc (.cells #[.slice B2 (endX q).length d2] 49)) w1'.heap.size 49 #[.slice B2 (endX q).length d2]) := Blk.new w1' 49 _
    have ZFA := hid (ZF0.out.below BA.out); have FBA := hid (FB1.out.below BA.out)
    have HL0 : Hid (([] : List (List Int)).length ≤ 1000) := Nat.zero_le _
    clear c1 K11 K21 B1w
    go_upto_region 10 with (at_builtin; refine wpList_append_tx rfl (.tmp 37) (.tmp 39) rfl w.heap.size [] (.slice none 0 0) rfl ZFA.out.tx w1'.heap.size B2 d2 (endX q).length (endX q) rfl rfl KA.out HD1.out FBA.out HL0.out ZFA.out.bl.size ?_; intro v9 w9 ht hb; have ZF9 := hid (ZFA.out.push ht hb); have FB9 := hid (byt_but ZFA.out.tx hb FBA.out); obtain ⟨A9, c9, hv9⟩ := ht.len; replace hv9 : v9 = .slice A9 1 c9 := hv9; subst hv9; clear ht hb)
    clear ZF0 BA KA ZFA FBA
    have c0 : w9.cell? ⟨w.heap.size, 0, none⟩ = some (.slice A n c) := (ZF9.out.pr.pr HQ.out).steps
    have hn2 : n ≤ 100 := HN.out
    have HST : Hid (([] ++ [endX q] : List (List Int)) = (allX key (endX q) (q.ss.drop n)).reverse ∧ endX q = topX key (endX q) (q.ss.drop n)) := by
      have e : q.ss.drop n = [] := List.drop_of_length_le (by rw [HQL.out]; exact Nat.le_refl _)
      rw [e]; exact ⟨rfl, rfl⟩
    have HEB : Hid (Bs (endX q) ∧ (endX q).length < 20000) := ⟨endX_bs HQ.out, endX_len HQ.out⟩
    obtain ⟨l6, hl6⟩ : ∃ l6, l6 = (endX q).length := ⟨_, rfl⟩
    rw [← hl6]
    have HL6 := hid hl6
    clear hl6
    go_wp2
    clear c0
    go_loopw [5, 6, 7] (fun s5 s6 s7 wr => ∃ (r : Nat) (M : List (List Int)) (tl : List Int) (A1 : Option Addr) (m1 c1 : Nat) (B : Option Addr) (l6 d : Nat), r ≤ n ∧ s5 = .slice A1 m1 c1 ∧ s6 = .slice B l6 d ∧ s7 = .int .i64 ((r : Int) - 1) ∧ Hid (M = (allX key (endX q) (q.ss.drop r)).reverse ∧ tl = topX key (endX q) (q.ss.drop r)) ∧ Hid (m1 = M.length) ∧ Hid (l6 = tl.length) ∧ Hid (ZtF w A n c q key M (.slice A1 m1 c1) wr) ∧ Hid (Byt wr B tl) ∧ Hid (tl.length ≤ d) ∧ Hid (Bs tl ∧ tl.length < 20000)) (fun _ _ s7 _ => (intOf s7 + 1).toNat)
    case atStart => exact ⟨n, _, endX q, A9, 1, c9, B2, l6, d2, Nat.le_refl _, rfl, rfl, rfl, HST, rfl, HL6, ZF9, FB9, HD1, HEB⟩
    case round =>
      obtain ⟨r, M, tl, A1, m1, c1, B, l7, d, hr, rfl, rfl, rfl, HMT, HM1, HL7, ZF, FB, HDD, HTB⟩ := hrel
      clear ZF9 FB9 HST HEB HL6 HD1 HL0
      cases r with
      | zero =>
        have e0 : ((0 : Nat) : Int) - 1 = -1 := by simp
        rw [e0]
        have HM0 : Hid (M = txsX key q) := by show _ = _; rw [HTX.out, HMT.out.1, List.drop_zero]
        go_wp2
        first | go_ret | go_ret2
        exact ⟨_, rfl, by have := ZF.out.tx; rwa [HM0.out] at this, ZF.out.bl⟩
      | succ k =>
        have e0 : ((k + 1 : Nat) : Int) - 1 = (k : Int) := by omega
        rw [e0]
        obtain ⟨b, oo, s, rfl, hs, hok, hrng⟩ := (HIN.out.below ZF.out.bl).at (show k < n by omega)
        have c0 : wr.cell? ⟨w.heap.size, 0, none⟩ = some (.slice (some ⟨b, oo, none⟩) n c) := (ZF.out.pr.pr HQ.out).steps
        have HS := hid hs; have SOK := hid hok; have RNG := hid hrng
        have HSR : Hid (0 ≤ s.n ∧ s.n ≤ 256) := HR.out.2.2 s (List.mem_of_getElem? hs)
        have HSI := hid (zstep_info hok); have HSI2 := hid (zstep_info2 hok)
        have HSY : Hid (Y.size = (stc s).toArray.size) := by show _ = _; rw [HY.out, List.size_toArray, List.size_toArray, stZ_ok.len, hok.len]
        have HPS := hid (pcl_info s.n hok.b); have HOI := hid (u8s_info hok.o)
        have CB0 := fun w => rBit_any key HK.out s.n w
        have hkn : (k : Int) < (n : Int) := by omega
        have hk0 : ¬ ((k : Int) < 0) := by omega
        have hk1 : (0 : Int) ≤ (k : Int) := by omega
        clear hs hok hrng
        go_upto_region 14 with (first
          | (refine load_at rfl 130 (.tmp 52) rfl b (oo + k * 65) rfl (stc s) _ RNG.out Tryd.underlying130 rfl HSI.out (stc s).toArray rfl ?_)
          | (refine wpList_store_row rfl 130 (.tmp 8) (.tmp 53) rfl wr.heap.size (stc s).toArray rfl rfl 130 Y (Blk.new wr 130 Y) HSI2.out HSY.out st_one ?_))
        have BX : Hid (Below wr.heap.size wr ((wr.alloc (.cells Y 130)).setRow wr.heap.size (stc s).toArray)) := below_setRow ((Below.refl _ _).alloc (Nat.le_refl _) _) (Nat.le_refl _) _
        have N8 : Hid (Blk ((wr.alloc (.cells Y 130)).setRow wr.heap.size (stc s).toArray) wr.heap.size 130 (stc s).toArray) := (Blk.new wr 130 Y).row _
        have ZF1 := hid (ZF.out.below BX.out); have FB1 := hid (FB.out.below BX.out)
        clear BX ZF FB c0 RNG
        generalize (wr.alloc (.cells Y 130)).setRow wr.heap.size (stc s).toArray = w2 at N8 ZF1 FB1 ⊢
        generalize wr.heap.size = g8 at N8 ⊢
        have c8 : w2.cell? ⟨g8, 0, none⟩ = some (.int .i64 s.n) := (zblk_st N8.out SOK.out).len
        have HSUM := hid (sum_ky tl)
        rcases bitI01 key s.n with hbit | hbit
        · have HX : Hid (stepX key s tl = innerT s.n s.b (sum tl) s.o) := stepX0 hbit HSR.out
          rw [hbit] at CB0
          have CB := hid CB0
          have CI := hid (fun w => yInner_any s.n s.b (sum tl) s.o w (by have := HSR.out; omega) SOK.out.b HSUM.out SOK.out.o)
          clear CB0 hbit
          go_upto_region 15 with (first
            | (refine load_at rfl 24 (.tmp 3) rfl (w.heap.size + 1) 0 rfl (u8s key) _ (blk_key ZF1.out.kk) Tryd.underlying24 rfl HKI.out (kc key) rfl ?_)
            | (go_at_call 67; refine (CB.out _).mono ?_; clear CB; rintro e w3 ⟨rfl, hb⟩; have ZF3 := hid (ZF1.out.below hb); have FB3 := hid (FB1.out.below hb); have N83 := hid (N8.out.below hb); clear hb))
          clear c8 ZF1 FB1 N8
          refine wp_region_held (S := fun w' => Hid (ZsF w3 g8 s w')) (by kernel_rfl) ?_
          change wpAnyH _ _ _ _ _ _ _ _ w3.drew
          have Gx0 : Hid (ZsF w3 g8 s w3.drew) := ⟨N83.out.below (Below.refl _ _).drew, (Below.refl _ _).drew⟩
          generalize w3.drew = x0 at Gx0  ⊢
          refine tk 0 (some 60) ?_
          refine tkv 1 (some 61) (.agg (pc s.n s.b)) rfl (yieldsIf_load_mid (cs := (.int .i64 s.n :: u8s s.b)) (by rfl) _ _ rfl _ _ rfl _ (fun w' hSw => ((zblk_st hSw.out.b SOK.out).pre)) Tryd.underlying55 rfl HPS.out) ?_
          refine tk 2 (some 62) ?_
          refine tk 4 (some 64) ?_
          refine tkv 5 (some 65) (.agg (kc s.o)) rfl (yieldsIf_load_mid (cs := u8s s.o) (by rfl) _ _ rfl _ _ rfl _ (fun w' hSw => (zblk_oth hSw.out.b SOK.out)) Tryd.underlying24 rfl HOI.out) ?_
          refine rd1 3 (some 63) (fun Qc hQc => ?_)
          go_simp
          go_at_call 24
          have CSM := sum_call (d := d) (FB3.out.below Gx0.out.bl) HTB.out.1 HTB.out.2
          rw [← HL7.out] at CSM
          refine CSM.mono ?_
          clear CSM
          rintro e x1 ⟨rfl, hb⟩
          have Gx1 := hid (Gx0.out.below hb)
          clear hb
          go_wp2_with fail
          refine hQc.out _ _ Gx1 (fun hHeld => ?_)
          clear hQc Qc hHeld
          try simp only [Act.put, List.setIfInBounds_toArray, List.set_cons_zero, List.set_cons_succ]
          refine rd1 6 (some 66) (fun Qc hQc => ?_)
          go_simp
          go_at_call 75
          refine (CI.out x1).mono ?_
          rintro e x2 ⟨B5, d5, rfl, hd, hf, hb⟩
          have Gx2 := hid (Gx1.out.below hb)
          rw [← HX.out] at hd hf
          have HD5 := hid hd; have FB5 := hid hf.byt
          rw [← HX.out]
          clear hd hf hb
          go_wp2_with fail
          refine hQc.out _ _ Gx2 (fun hHeld => ?_)
          clear hQc Qc hHeld
          try simp only [Act.put, List.setIfInBounds_toArray, List.set_cons_zero, List.set_cons_succ]
          refine tk 7 (some 6) ?_
          refine wpAnyH_done (by kernel_rfl) ?_ _
          try simp only [Act.put, List.setIfInBounds_toArray, List.set_cons_zero, List.set_cons_succ]
          have ZF6 := hid (ZF3.out.below Gx2.out.bl)
          clear ZF3 FB3 N83 CI
          obtain ⟨xl, hxl⟩ : ∃ xl, xl = stepX key s tl := ⟨_, rfl⟩
          rw [← hxl] at HD5 FB5 ⊢
          obtain ⟨lx, hlx⟩ : ∃ lx, lx = xl.length := ⟨_, rfl⟩
          rw [← hlx]
          have HLX := hid hlx; have HXL := hid hxl
          clear hlx hxl HX
          have BA : Hid (Below x2.heap.size x2 (x2.alloc (.cells #[.slice B5 lx d5] 49))) := (Below.refl _ _).alloc (Nat.le_refl _) _
          have KA : Hid (Blk (x2.alloc (.cells #[.slice B5 lx d5] 49)) x2.heap.size 49 #[.slice B5 lx d5]) := Blk.new x2 49 _
          have ZFA := hid (ZF6.out.below BA.out); have FBA := hid (FB5.out.below BA.out)
          have HL9 : Hid (M.length ≤ 1000) := by
            show _ ≤ _
            rw [HMT.out.1, List.length_reverse, all_len, List.length_drop, HQL.out]; have := HN.out; omega
          go_wp2_with (at_builtin; refine wpList_append_tx rfl (.tmp 74) (.tmp 76) rfl w.heap.size M (.slice A1 m1 c1) rfl ZFA.out.tx x2.heap.size B5 d5 lx xl HLX.out rfl KA.out HD5.out FBA.out HL9.out ZFA.out.bl.size ?_; intro v9 w9 ht hb; have ZF9 := hid (ZFA.out.push ht hb); have FB9 := hid (byt_but ZFA.out.tx hb FBA.out); obtain ⟨A9', c9', hv9⟩ := ht.len; replace hv9 : v9 = .slice A9' (m1 + 1) c9' := (by rw [hv9, List.length_append, ← HM1.out]; rfl); subst hv9; clear ht hb)
          have HMT2 : Hid (M ++ [xl] = (allX key (endX q) (q.ss.drop k)).reverse ∧ xl = topX key (endX q) (q.ss.drop k)) := by
            have e1 := all_step key (endX q) HS.out
            have e2 : q.ss.drop k = s :: q.ss.drop (k + 1) := by
              obtain ⟨hl, e⟩ := List.getElem?_eq_some_iff.1 HS.out
              rw [← e, List.drop_eq_getElem_cons hl]
            show _ ∧ _
            rw [e1, List.reverse_cons, ← HMT.out.1, ← HMT.out.2, ← HXL.out]
            refine ⟨rfl, ?_⟩
            rw [e2, HXL.out, HMT.out.2]; rfl
          have HM2 : Hid (m1 + 1 = (M ++ [xl]).length) := by show _ = _; rw [List.length_append, ← HM1.out]; rfl
          have HTB2 : Hid (Bs xl ∧ xl.length < 20000) := by show _ ∧ _; rw [HXL.out]; exact ⟨stepX_bs SOK.out, stepX_len SOK.out⟩
          go_roundw
          case rel => exact ⟨k, _, xl, A9', m1 + 1, c9', B5, lx, d5, by omega, rfl, rfl, by go_num, HMT2, HM2, HLX, ZF9, FB9, HD5, HTB2⟩
          case measure => simp [intOf]
        · have HX : Hid (stepX key s tl = innerT s.n s.b s.o (sum tl)) := stepX1 hbit HSR.out
          rw [hbit] at CB0
          have CB := hid CB0
          have CI := hid (fun w => yInner_any s.n s.b s.o (sum tl) w (by have := HSR.out; omega) SOK.out.b SOK.out.o HSUM.out)
          clear CB0 hbit
          go_upto_region 16 with (first
            | (refine load_at rfl 24 (.tmp 3) rfl (w.heap.size + 1) 0 rfl (u8s key) _ (blk_key ZF1.out.kk) Tryd.underlying24 rfl HKI.out (kc key) rfl ?_)
            | (go_at_call 67; refine (CB.out _).mono ?_; clear CB; rintro e w3 ⟨rfl, hb⟩; have ZF3 := hid (ZF1.out.below hb); have FB3 := hid (FB1.out.below hb); have N83 := hid (N8.out.below hb); clear hb))
          clear c8 ZF1 FB1 N8
          refine wp_region_held (S := fun w' => Hid (ZsF w3 g8 s w')) (by kernel_rfl) ?_
          change wpAnyH _ _ _ _ _ _ _ _ w3.drew
          have Gx0 : Hid (ZsF w3 g8 s w3.drew) := ⟨N83.out.below (Below.refl _ _).drew, (Below.refl _ _).drew⟩
          generalize w3.drew = x0 at Gx0  ⊢
          refine tk 0 (some 67) ?_
          refine tkv 1 (some 68) (.agg (pc s.n s.b)) rfl (yieldsIf_load_mid (cs := (.int .i64 s.n :: u8s s.b)) (by rfl) _ _ rfl _ _ rfl _ (fun w' hSw => ((zblk_st hSw.out.b SOK.out).pre)) Tryd.underlying55 rfl HPS.out) ?_
          refine tk 2 (some 69) ?_
          refine tkv 3 (some 70) (.agg (kc s.o)) rfl (yieldsIf_load_mid (cs := u8s s.o) (by rfl) _ _ rfl _ _ rfl _ (fun w' hSw => (zblk_oth hSw.out.b SOK.out)) Tryd.underlying24 rfl HOI.out) ?_
          refine tk 4 (some 71) ?_
          refine rd1 5 (some 72) (fun Qc hQc => ?_)
          go_simp
          go_at_call 24
          have CSM := sum_call (d := d) (FB3.out.below Gx0.out.bl) HTB.out.1 HTB.out.2
          rw [← HL7.out] at CSM
          refine CSM.mono ?_
          clear CSM
          rintro e x1 ⟨rfl, hb⟩
          have Gx1 := hid (Gx0.out.below hb)
          clear hb
          go_wp2_with fail
          refine hQc.out _ _ Gx1 (fun hHeld => ?_)
          clear hQc Qc hHeld
          try simp only [Act.put, List.setIfInBounds_toArray, List.set_cons_zero, List.set_cons_succ]
          refine rd1 6 (some 73) (fun Qc hQc => ?_)
          go_simp
          go_at_call 75
          refine (CI.out x1).mono ?_
          rintro e x2 ⟨B5, d5, rfl, hd, hf, hb⟩
          have Gx2 := hid (Gx1.out.below hb)
          rw [← HX.out] at hd hf
          have HD5 := hid hd; have FB5 := hid hf.byt
          rw [← HX.out]
          clear hd hf hb
          go_wp2_with fail
          refine hQc.out _ _ Gx2 (fun hHeld => ?_)
          clear hQc Qc hHeld
          try simp only [Act.put, List.setIfInBounds_toArray, List.set_cons_zero, List.set_cons_succ]
          refine tk 7 (some 6) ?_
          refine wpAnyH_done (by kernel_rfl) ?_ _
          try simp only [Act.put, List.setIfInBounds_toArray, List.set_cons_zero, List.set_cons_succ]
          have ZF6 := hid (ZF3.out.below Gx2.out.bl)
          clear ZF3 FB3 N83 CI
          obtain ⟨xl, hxl⟩ : ∃ xl, xl = stepX key s tl := ⟨_, rfl⟩
          rw [← hxl] at HD5 FB5 ⊢
          obtain ⟨lx, hlx⟩ : ∃ lx, lx = xl.length := ⟨_, rfl⟩
          rw [← hlx]
          have HLX := hid hlx; have HXL := hid hxl
          clear hlx hxl HX
          have BA : Hid (Below x2.heap.size x2 (x2.alloc (.cells #[.slice B5 lx d5] 49))) := (Below.refl _ _).alloc (Nat.le_refl _) _
          have KA : Hid (Blk (x2.alloc (.cells #[.slice B5 lx d5] 49)) x2.heap.size 49 #[.slice B5 lx d5]) := Blk.new x2 49 _
          have ZFA := hid (ZF6.out.below BA.out); have FBA := hid (FB5.out.below BA.out)
          have HL9 : Hid (M.length ≤ 1000) := by
            show _ ≤ _
            rw [HMT.out.1, List.length_reverse, all_len, List.length_drop, HQL.out]; have := HN.out; omega
          go_wp2_with (at_builtin; refine wpList_append_tx rfl (.tmp 74) (.tmp 76) rfl w.heap.size M (.slice A1 m1 c1) rfl ZFA.out.tx x2.heap.size B5 d5 lx xl HLX.out rfl KA.out HD5.out FBA.out HL9.out ZFA.out.bl.size ?_; intro v9 w9 ht hb; have ZF9 := hid (ZFA.out.push ht hb); have FB9 := hid (byt_but ZFA.out.tx hb FBA.out); obtain ⟨A9', c9', hv9⟩ := ht.len; replace hv9 : v9 = .slice A9' (m1 + 1) c9' := (by rw [hv9, List.length_append, ← HM1.out]; rfl); subst hv9; clear ht hb)
          have HMT2 : Hid (M ++ [xl] = (allX key (endX q) (q.ss.drop k)).reverse ∧ xl = topX key (endX q) (q.ss.drop k)) := by
            have e1 := all_step key (endX q) HS.out
            have e2 : q.ss.drop k = s :: q.ss.drop (k + 1) := by
              obtain ⟨hl, e⟩ := List.getElem?_eq_some_iff.1 HS.out
              rw [← e, List.drop_eq_getElem_cons hl]
            show _ ∧ _
            rw [e1, List.reverse_cons, ← HMT.out.1, ← HMT.out.2, ← HXL.out]
            refine ⟨rfl, ?_⟩
            rw [e2, HXL.out, HMT.out.2]; rfl
          have HM2 : Hid (m1 + 1 = (M ++ [xl]).length) := by show _ = _; rw [List.length_append, ← HM1.out]; rfl
          have HTB2 : Hid (Bs xl ∧ xl.length < 20000) := by show _ ∧ _; rw [HXL.out]; exact ⟨stepX_bs SOK.out, stepX_len SOK.out⟩
          go_roundw
          case rel => exact ⟨k, _, xl, A9', m1 + 1, c9', B5, lx, d5, by omega, rfl, rfl, by go_num, HMT2, HM2, HLX, ZF9, FB9, HD5, HTB2⟩
          case measure => simp [intOf]
end Go.Proofs.YtbhgchbacadgaaaDoor
