/-
  What is proved here: a list cut in three, the parts' ranges joined, in either order, is the list's range: the walk of the statement.
-/
import Derived.Test.YtpeldkadpnoeiaaDoorMF4
import Derived.Test.YtpeldkadpnoeiaaDoorMF5
set_option linter.unusedSimpArgs false
set_option linter.unusedVariables false
namespace Go.Proofs.YtpeldkadpnoeiaaDoor
open Go.ChangeShapes Go.WideShapes Go.ChangeAt Go.RowKit
set_option linter.unusedVariables false
set_option linter.unusedSimpArgs false
set_option maxRecDepth 20000

theorem load_pl {ops : Array Oper} {rest : List Oper} {o : Oper} {a : Act} {w : World} {Q : Exit → Act → World → Prop} (ty : TypeId) (x : Operand) (ho : o.op = .load ty x) (hgd : o.guard = none)
    (b off : Nat) (hx : a.eval x = .pointer (some ⟨b, off, none⟩)) (cs : List Value) (d : TypeDesc) (hc : w.rangeAt b off cs) (hu : Tryd.prog.underlying ty = some d) (hd : d.isRow = true) (hi : (Tryd.prog.info? ty).map (·.size) = some cs.length)
    (A : Array Value) (hA : cs.toArray = A) (h : wpList Tryd.prog ops Q rest (a.put o.dst (.agg A)) w) : wpList Tryd.prog ops Q (o :: rest) a w := by
  subst hA
  exact wpList_plain hgd fun _ hK => wp_load_mid ty x ho b off hx cs d hc hu hd hi (hK _ _ h)
theorem load_g {ops : Array Oper} {rest : List Oper} {o : Oper} {a : Act} {w : World} {Q : Exit → Act → World → Prop} (ty : TypeId) (x : Operand) (ho : o.op = .load ty x) (h : wpList Tryd.prog ops Q (o :: rest) a w) : wpList Tryd.prog ops Q (o :: rest) a w := h
/-- a range of a list, its hashes in memory -/
structure Rg (F : Nat → List Int) (w : World) (x y : Nat) (A : Option Addr) (n : Nat) : Prop where
  h : InH w A n (hsT (tw ndF F) x (seg x y))
  n : n = (seg x y).length
theorem Rg.below {F : Nat → List Int} {w w' : World} {x y : Nat} {A : Option Addr} {n : Nat} (H : Rg F w x y A n) (hb : Below w.heap.size w w') : Rg F w' x y A n := ⟨H.h.below hb, H.n⟩
/-- a call that answers a range of a list -/
def RgIn (F : Nat → List Int) (w : World) (x y : Nat) (e : Ending) (w' : World) : Prop := ∃ A n c, e = .returned (.tuple #[.agg (rgc (x : Int) (y : Int) (.slice A n c)), .int .i64 0]) ∧ Rg F w' x y A n ∧ Below w.heap.size w w'
theorem rgin_of {F : Nat → List Int} {w : World} {x y : Nat} {e : Ending} {w' : World} (h : RgYes w (x : Int) (y : Int) (hsT (tw ndF F) x (seg x y)) e w') : RgIn F w x y e w' := by
  obtain ⟨v, he, ho, hb⟩ := h
  obtain ⟨A, c, hv, _, _⟩ := ho.len
  subst hv
  exact ⟨A, _, c, he, ⟨ho.in, hs_len _ _ _⟩, hb⟩
theorem of_at {F : Nat → List Int} {w : World} {x y n c : Nat} {A : Option Addr} {a : Int} (ha : a = (x : Int)) (hy : y = x + n) (hIn : InH w A n (lst F x n)) (hn : n ≤ 800) (hy2 : y ≤ 2147483647) (hT : Tab w) :
    Calls Tryd.prog 18 #[.int .i64 a, .slice A n c] w (RgIn F w x y) := by
  subst ha; subst hy
  exact (fOf_yes hIn hn hy2 hT).mono fun e w' h => rgin_of h
theorem join_at {F : Nat → List Int} {w : World} {x y z n m c d : Nat} {A B : Option Addr} (h1 : Rg F w x y A n) (h2 : Rg F w y z B m) (hxy : x ≤ y) (hyz : y ≤ z) (hz : z ≤ 2147483647) (hTb : Tab w) (hTd : TabD w) :
    Calls Tryd.prog 25 #[.agg (rgc (x : Int) (y : Int) (.slice A n c)), .agg (rgc (y : Int) (z : Int) (.slice B m d))] w (RgIn F w x z) :=
  (fJoin_yes h1.h h2.h hxy hyz hz h1.n h2.n hTb hTd (two_of ndF (fun p j => tw_cn ndF F p j) hxy hyz)).mono fun e w' h => rgin_of h
theorem rg_few {F : Nat → List Int} {w : World} {x y : Nat} {A : Option Addr} {n : Nat} (H : Rg F w x y A n) (hy : y ≤ 2147483647) : n < 1000000 := by
  have := seg_few (a := x) (b := y) (by omega)
  have := H.n
  omega
theorem ranges_at {F : Nat → List Int} {w : World} {x y n m c d : Nat} {A B : Option Addr} (h1 : Rg F w x y A n) (h2 : Rg F w x y B m) (hy : y ≤ 2147483647) :
    Calls Tryd.prog 21 #[.agg (rgc (x : Int) (y : Int) (.slice A n c)), .agg (rgc (x : Int) (y : Int) (.slice B m d))] w fun e w' => e = .returned (.bool true) ∧ Below w.heap.size w w' := by
  have h := gRanges_any (a := (x : Int)) (b := (y : Int)) (a' := (x : Int)) (b' := (y : Int)) (c := c) (d := d) h1.h h2.h (rg_few h1 hy) (rg_few h2 hy)
  rw [decide_eq_true ⟨rfl, rfl, rfl⟩] at h
  exact h
set_option maxHeartbeats 16000000 in
theorem fparts_walk {x0 : Int} {A : Option Addr} {n c : Nat} {L : List (List Int)} {K2 : List Int} {w : World} (hx : 0 ≤ x0 ∧ x0 ≤ 65535) (hin : InH w A n L) (hc : n ≤ c) (hk : K2.length = 2) (hbs : Bs K2) (hTb0 : Tab w) (hTd0 : TabD w) :
    Calls Tryd.prog 7 #[.int .u16 x0, .slice A n c, .agg (u8s K2).toArray] w fun e w' => e = .returned (.bool true) ∧ Below w.heap.size w w' := by
  obtain ⟨y0, y1, rfl⟩ : ∃ y0 y1 : Int, K2 = [y0, y1] := by
    match K2, hk with
    | [a, b], _ => exact ⟨a, b, rfl⟩
  have hb0 := hbs y0 (by simp)
  have hb1 := hbs y1 (by simp)
  obtain ⟨t0, rfl⟩ : ∃ t0 : Nat, y0 = (t0 : Int) := ⟨y0.toNat, by omega⟩
  obtain ⟨t1, rfl⟩ : ∃ t1 : Nat, y1 = (t1 : Int) := ⟨y1.toNat, by omega⟩
  obtain ⟨X, rfl⟩ : ∃ X : Nat, x0 = (X : Int) := ⟨x0.toNat, by omega⟩
  have hX : X ≤ 65535 := by omega
  have hB0 := (Below.refl w.heap.size w).alloc (Nat.le_refl _) (.cells (u8s [(t0 : Int), (t1 : Int)]).toArray 54)
  have KT := hid (Blk.new w 54 (u8s [(t0 : Int), (t1 : Int)]).toArray)
  have CA := hid (fun (w' : World) (hb : Below w.heap.size w w') => fawake_any w' (hTb0.below hb))
  have HTb := hid hTb0; have HTd := hid hTd0
  have BB := hid hB0
  by_cases h60 : n ≤ 60
  · have h60' : ¬ ((60 : Int) < (n : Int)) := by omega
    obtain ⟨i, hi⟩ : ∃ i, i = t0 % (n + 1) := ⟨_, rfl⟩
    obtain ⟨k, hk'⟩ : ∃ k, k = i + t1 % (n - i + 1) := ⟨_, rfl⟩
    have hin' : i ≤ n := by have := Nat.mod_lt t0 (show 0 < n + 1 by omega); omega
    have hik : i ≤ k := by omega
    have hkn : k ≤ n := by have := Nat.mod_lt t1 (show 0 < n - i + 1 by omega); omega
    obtain ⟨Xi, hXi⟩ : ∃ Xi, Xi = X + i := ⟨_, rfl⟩
    obtain ⟨Xk, hXk⟩ : ∃ Xk, Xk = X + k := ⟨_, rfl⟩
    obtain ⟨Xn, hXn⟩ : ∃ Xn, Xn = X + n := ⟨_, rfl⟩
    obtain ⟨F, hF⟩ : ∃ F : Nat → List Int, F = fun p => L[p - X]?.getD [] := ⟨_, rfl⟩
    have hL : L = lst F X n := by rw [hF, ← hin.1]; exact lst_of [] X L
    have e1 : (L.drop 0).take i = lst F X i := by rw [List.drop_zero, hL, lst_take F X hin']
    have e2 : (L.drop i).take (k - i) = lst F Xi (k - i) := by rw [hL, lst_drop F X hin', lst_take F (X + i) (by omega), hXi]
    have e3 : (L.drop k).take (n - k) = lst F Xk (n - k) := by rw [hL, lst_drop F X hkn, lst_take F (X + k) (by omega), hXk]
    have i1 := hin.cut (l := 0) (m := i) (by omega) hc
    have i2 := hin.cut (l := i) (m := k - i) (by omega) hc
    have i3 := hin.cut (l := k) (m := n - k) (by omega) hc
    rw [e1] at i1; rw [e2] at i2; rw [e3] at i3
    rw [hL] at hin
    have COL := hid (fun (w' : World) (hb : Below w.heap.size w w') => of_at (c := c) (a := (X : Int)) rfl hXn (hin.below hb) (by omega) (by omega) (hTb0.below hb))
    have COP := hid (fun (w' : World) (hb : Below w.heap.size w w') => of_at (c := c) (a := (X : Int)) rfl hXi (i1.below hb) (by omega) (by omega) (hTb0.below hb))
    have COQ := hid (fun (w' : World) (hb : Below w.heap.size w w') => of_at (y := Xk) (c := c - i) (a := (X : Int) + (i : Int)) (by omega) (by omega) (i2.below hb) (by omega) (by omega) (hTb0.below hb))
    have COS := hid (fun (w' : World) (hb : Below w.heap.size w w') => of_at (y := Xn) (c := c - k) (a := (X : Int) + (k : Int)) (by omega) (by omega) (i3.below hb) (by omega) (by omega) (hTb0.below hb))
    have HI := hid (show i ≤ c by omega); have HIK := hid hik; have HKC := hid (show k ≤ c by omega); have HKN := hid hkn
    have HKI : Hid (k - i = k - i) := rfl
    have HXN := hid (show Xn ≤ 2147483647 by omega)
    have q1 : (t0 : Int).tmod ((n : Int) + 1) = (i : Int) := by rw [Int.tmod_eq_emod_of_nonneg (by omega), show (n : Int) + 1 = ((n + 1 : Nat) : Int) by omega, ← Int.natCast_emod, ← hi]
    have q2 : (t1 : Int).tmod ((n : Int) - (i : Int) + 1) = ((k - i : Nat) : Int) := by rw [Int.tmod_eq_emod_of_nonneg (by omega), show (n : Int) - (i : Int) + 1 = ((n - i + 1 : Nat) : Int) by omega, ← Int.natCast_emod]; omega
    have z1 : ¬ ((n : Int) + 1 = 0) := by omega
    have z2 : ¬ ((n : Int) - (i : Int) + 1 = 0) := by omega
    have q3 : (i : Int) + ((k - i : Nat) : Int) = (k : Int) := by omega
    have o1 : X ≤ Xi := by omega
    have o2 : Xi ≤ Xk := by omega
    have o3 : Xk ≤ Xn := by omega
    have o4 : Xn ≤ 2147483647 := by omega
    have bi : i ≤ 60 := by omega
    have bk : k ≤ 60 := by omega
    have HO1 := hid o1; have HO2 := hid o2; have HO3 := hid o3; have HO4 := hid o4
    clear e1 e2 e3 i1 i2 i3 hF hL hin hk hbs hk' hi hTb0 hTd0 hB0 hXi hXk hXn o1 o2 o3 o4
    go_enter Tryd.func7, Tryd.ntmps7
    go_wp2_with (first
    | (go_at_call 9; refine (CA.out _ BB.out).mono ?_; rintro e w9 ⟨rfl, hb⟩; have B0 := hid (BB.out.trans (hb.mono BB.out.size)); have KT9 := hid (KT.out.below hb); have ct0 : w9.cell? ⟨w.heap.size, 0, none⟩ = some (.int .u8 (t0 : Int)) := KT9.out.cell 0; have ct1 : w9.cell? ⟨w.heap.size, 1, none⟩ = some (.int .u8 (t1 : Int)) := KT9.out.cell 1; clear hb)
    | (go_at_call 18; first
        | (have hj := COL.out _ B0.out; with_reducible refine hj.mono ?_; clear hj; intro e w0 hq; unfold RgIn at hq; obtain ⟨AL, nL, cL, he, hr, hb⟩ := hq; subst he; have hb' := hb.alloc hb.size (.cells (rgc (X : Int) (Xn : Int) (.slice AL nL cL)) 35); have KL := hid (Blk.new w0 35 (rgc (X : Int) (Xn : Int) (.slice AL nL cL))); have RL := hid (hr.below ((Below.refl _ _).alloc (Nat.le_refl _) (.cells (rgc (X : Int) (Xn : Int) (.slice AL nL cL)) 35))); have B1 := hid (B0.out.trans (hb'.mono B0.out.size)); clear hr hb hb' q1 q2 z1 z2 ct0 ct1 hin' hik hkn hb0 hb1 hc h60 KT9 KT BB CA) 
        | (have hj := COP.out _ B1.out; with_reducible refine hj.mono ?_; clear hj; intro e w1 hq; unfold RgIn at hq; obtain ⟨AP, nP, cP, he, hr, hb⟩ := hq; subst he; have hb' := hb.alloc hb.size (.cells (rgc (X : Int) (Xi : Int) (.slice AP nP cP)) 35); have KL' := hid (KL.out.below hb'); have RL' := hid (RL.out.below hb'); clear KL RL; have KL := KL'; have RL := RL'; clear KL' RL'; have KP := hid (Blk.new w1 35 (rgc (X : Int) (Xi : Int) (.slice AP nP cP))); have RP := hid (hr.below ((Below.refl _ _).alloc (Nat.le_refl _) (.cells (rgc (X : Int) (Xi : Int) (.slice AP nP cP)) 35))); have B2 := hid (B1.out.trans (hb'.mono B1.out.size)); clear hr hb hb') 
        | (have hj := COQ.out _ B2.out; with_reducible refine hj.mono ?_; clear hj; intro e w2 hq; unfold RgIn at hq; obtain ⟨AQ, nQ, cQ, he, hr, hb⟩ := hq; subst he; have hb' := hb.alloc hb.size (.cells (rgc (Xi : Int) (Xk : Int) (.slice AQ nQ cQ)) 35); have KL' := hid (KL.out.below hb'); have RL' := hid (RL.out.below hb'); clear KL RL; have KL := KL'; have RL := RL'; clear KL' RL'; have KP' := hid (KP.out.below hb'); have RP' := hid (RP.out.below hb'); clear KP RP; have KP := KP'; have RP := RP'; clear KP' RP'; have KQ := hid (Blk.new w2 35 (rgc (Xi : Int) (Xk : Int) (.slice AQ nQ cQ))); have RQ := hid (hr.below ((Below.refl _ _).alloc (Nat.le_refl _) (.cells (rgc (Xi : Int) (Xk : Int) (.slice AQ nQ cQ)) 35))); have B3 := hid (B2.out.trans (hb'.mono B2.out.size)); clear hr hb hb') 
        | (have hj := COS.out _ B3.out; with_reducible refine hj.mono ?_; clear hj; intro e w3 hq; unfold RgIn at hq; obtain ⟨AS, nS, cS, he, hr, hb⟩ := hq; subst he; have hb' := hb.alloc hb.size (.cells (rgc (Xk : Int) (Xn : Int) (.slice AS nS cS)) 35); have KL' := hid (KL.out.below hb'); have RL' := hid (RL.out.below hb'); clear KL RL; have KL := KL'; have RL := RL'; clear KL' RL'; have KP' := hid (KP.out.below hb'); have RP' := hid (RP.out.below hb'); clear KP RP; have KP := KP'; have RP := RP'; clear KP' RP'; have KQ' := hid (KQ.out.below hb'); have RQ' := hid (RQ.out.below hb'); clear KQ RQ; have KQ := KQ'; have RQ := RQ'; clear KQ' RQ'; have KS := hid (Blk.new w3 35 (rgc (Xk : Int) (Xn : Int) (.slice AS nS cS))); have RS := hid (hr.below ((Below.refl _ _).alloc (Nat.le_refl _) (.cells (rgc (Xk : Int) (Xn : Int) (.slice AS nS cS)) 35))); have B4 := hid (B3.out.trans (hb'.mono B3.out.size)); clear hr hb hb' q3 bi bk hX HI HIK HKC HKN HKI))
    | (go_at_call 25; first
        | (have hj := join_at (c := cP) (d := cQ) RP.out RQ.out HO1.out HO2.out (Nat.le_trans HO3.out HO4.out) (HTb.out.below B4.out) (HTd.out.below B4.out); with_reducible refine hj.mono ?_; clear hj; intro e w4 hq; unfold RgIn at hq; obtain ⟨APQ, nPQ, cPQ, he, hr, hb⟩ := hq; subst he; have hb' := hb.alloc hb.size (.cells (rgc (X : Int) (Xk : Int) (.slice APQ nPQ cPQ)) 35); have KL' := hid (KL.out.below hb'); have RL' := hid (RL.out.below hb'); clear KL RL; have KL := KL'; have RL := RL'; clear KL' RL'; have KP' := hid (KP.out.below hb'); have RP' := hid (RP.out.below hb'); clear KP RP; have KP := KP'; have RP := RP'; clear KP' RP'; have KQ' := hid (KQ.out.below hb'); have RQ' := hid (RQ.out.below hb'); clear KQ RQ; have KQ := KQ'; have RQ := RQ'; clear KQ' RQ'; have KS' := hid (KS.out.below hb'); have RS' := hid (RS.out.below hb'); clear KS RS; have KS := KS'; have RS := RS'; clear KS' RS'; have KPQ := hid (Blk.new w4 35 (rgc (X : Int) (Xk : Int) (.slice APQ nPQ cPQ))); have RPQ := hid (hr.below ((Below.refl _ _).alloc (Nat.le_refl _) (.cells (rgc (X : Int) (Xk : Int) (.slice APQ nPQ cPQ)) 35))); have B5 := hid (B4.out.trans (hb'.mono B4.out.size)); clear hr hb hb') 
        | (have hj := join_at (c := cPQ) (d := cS) RPQ.out RS.out (Nat.le_trans HO1.out HO2.out) HO3.out HO4.out (HTb.out.below B5.out) (HTd.out.below B5.out); with_reducible refine hj.mono ?_; clear hj; intro e w5 hq; unfold RgIn at hq; obtain ⟨AU, nU, cU, he, hr, hb⟩ := hq; subst he; have hb' := hb.alloc hb.size (.cells (rgc (X : Int) (Xn : Int) (.slice AU nU cU)) 35); have KL' := hid (KL.out.below hb'); have RL' := hid (RL.out.below hb'); clear KL RL; have KL := KL'; have RL := RL'; clear KL' RL'; have KP' := hid (KP.out.below hb'); have RP' := hid (RP.out.below hb'); clear KP RP; have KP := KP'; have RP := RP'; clear KP' RP'; have KQ' := hid (KQ.out.below hb'); have RQ' := hid (RQ.out.below hb'); clear KQ RQ; have KQ := KQ'; have RQ := RQ'; clear KQ' RQ'; have KS' := hid (KS.out.below hb'); have RS' := hid (RS.out.below hb'); clear KS RS; have KS := KS'; have RS := RS'; clear KS' RS'; have KPQ' := hid (KPQ.out.below hb'); have RPQ' := hid (RPQ.out.below hb'); clear KPQ RPQ; have KPQ := KPQ'; have RPQ := RPQ'; clear KPQ' RPQ'; have KU := hid (Blk.new w5 35 (rgc (X : Int) (Xn : Int) (.slice AU nU cU))); have RU := hid (hr.below ((Below.refl _ _).alloc (Nat.le_refl _) (.cells (rgc (X : Int) (Xn : Int) (.slice AU nU cU)) 35))); have B6 := hid (B5.out.trans (hb'.mono B5.out.size)); clear hr hb hb') 
        | (have hj := join_at (c := cQ) (d := cS) RQ.out RS.out HO2.out HO3.out HO4.out (HTb.out.below B6.out) (HTd.out.below B6.out); with_reducible refine hj.mono ?_; clear hj; intro e w6 hq; unfold RgIn at hq; obtain ⟨AQS, nQS, cQS, he, hr, hb⟩ := hq; subst he; have hb' := hb.alloc hb.size (.cells (rgc (Xi : Int) (Xn : Int) (.slice AQS nQS cQS)) 35); have KL' := hid (KL.out.below hb'); have RL' := hid (RL.out.below hb'); clear KL RL; have KL := KL'; have RL := RL'; clear KL' RL'; have KP' := hid (KP.out.below hb'); have RP' := hid (RP.out.below hb'); clear KP RP; have KP := KP'; have RP := RP'; clear KP' RP'; have KQ' := hid (KQ.out.below hb'); have RQ' := hid (RQ.out.below hb'); clear KQ RQ; have KQ := KQ'; have RQ := RQ'; clear KQ' RQ'; have KS' := hid (KS.out.below hb'); have RS' := hid (RS.out.below hb'); clear KS RS; have KS := KS'; have RS := RS'; clear KS' RS'; have KPQ' := hid (KPQ.out.below hb'); have RPQ' := hid (RPQ.out.below hb'); clear KPQ RPQ; have KPQ := KPQ'; have RPQ := RPQ'; clear KPQ' RPQ'; have KU' := hid (KU.out.below hb'); have RU' := hid (RU.out.below hb'); clear KU RU; have KU := KU'; have RU := RU'; clear KU' RU'; have KQS := hid (Blk.new w6 35 (rgc (Xi : Int) (Xn : Int) (.slice AQS nQS cQS))); have RQS := hid (hr.below ((Below.refl _ _).alloc (Nat.le_refl _) (.cells (rgc (Xi : Int) (Xn : Int) (.slice AQS nQS cQS)) 35))); have B7 := hid (B6.out.trans (hb'.mono B6.out.size)); clear hr hb hb') 
        | (have hj := join_at (c := cP) (d := cQS) RP.out RQS.out HO1.out (Nat.le_trans HO2.out HO3.out) HO4.out (HTb.out.below B7.out) (HTd.out.below B7.out); with_reducible refine hj.mono ?_; clear hj; intro e w7 hq; unfold RgIn at hq; obtain ⟨AV, nV, cV, he, hr, hb⟩ := hq; subst he; have hb' := hb.alloc hb.size (.cells (rgc (X : Int) (Xn : Int) (.slice AV nV cV)) 35); have KL' := hid (KL.out.below hb'); have RL' := hid (RL.out.below hb'); clear KL RL; have KL := KL'; have RL := RL'; clear KL' RL'; have KP' := hid (KP.out.below hb'); have RP' := hid (RP.out.below hb'); clear KP RP; have KP := KP'; have RP := RP'; clear KP' RP'; have KQ' := hid (KQ.out.below hb'); have RQ' := hid (RQ.out.below hb'); clear KQ RQ; have KQ := KQ'; have RQ := RQ'; clear KQ' RQ'; have KS' := hid (KS.out.below hb'); have RS' := hid (RS.out.below hb'); clear KS RS; have KS := KS'; have RS := RS'; clear KS' RS'; have KPQ' := hid (KPQ.out.below hb'); have RPQ' := hid (RPQ.out.below hb'); clear KPQ RPQ; have KPQ := KPQ'; have RPQ := RPQ'; clear KPQ' RPQ'; have KU' := hid (KU.out.below hb'); have RU' := hid (RU.out.below hb'); clear KU RU; have KU := KU'; have RU := RU'; clear KU' RU'; have KQS' := hid (KQS.out.below hb'); have RQS' := hid (RQS.out.below hb'); clear KQS RQS; have KQS := KQS'; have RQS := RQS'; clear KQS' RQS'; have KV := hid (Blk.new w7 35 (rgc (X : Int) (Xn : Int) (.slice AV nV cV))); have RV := hid (hr.below ((Below.refl _ _).alloc (Nat.le_refl _) (.cells (rgc (X : Int) (Xn : Int) (.slice AV nV cV)) 35))); have B8 := hid (B7.out.trans (hb'.mono B7.out.size)); clear hr hb hb'))
    | (with_reducible refine load_g 35 (.tmp 12) rfl ?_; refine load_pl 35 (.tmp 12) rfl rfl _ 0 rfl _ _ (fblk_rng KP.out) Tryd.underlying35 rfl (info_fRng _ _ _) (rgc (X : Int) (Xi : Int) (.slice AP nP cP)) rfl ?_)
    | (with_reducible refine load_g 35 (.tmp 14) rfl ?_; refine load_pl 35 (.tmp 14) rfl rfl _ 0 rfl _ _ (fblk_rng KQ.out) Tryd.underlying35 rfl (info_fRng _ _ _) (rgc (Xi : Int) (Xk : Int) (.slice AQ nQ cQ)) rfl ?_)
    | (with_reducible refine load_g 35 (.tmp 16) rfl ?_; refine load_pl 35 (.tmp 16) rfl rfl _ 0 rfl _ _ (fblk_rng KS.out) Tryd.underlying35 rfl (info_fRng _ _ _) (rgc (Xk : Int) (Xn : Int) (.slice AS nS cS)) rfl ?_)
    | (with_reducible refine load_g 35 (.tmp 18) rfl ?_; refine load_pl 35 (.tmp 18) rfl rfl _ 0 rfl _ _ (fblk_rng KPQ.out) Tryd.underlying35 rfl (info_fRng _ _ _) (rgc (X : Int) (Xk : Int) (.slice APQ nPQ cPQ)) rfl ?_)
    | (with_reducible refine load_g 35 (.tmp 20) rfl ?_; refine load_pl 35 (.tmp 20) rfl rfl _ 0 rfl _ _ (fblk_rng KU.out) Tryd.underlying35 rfl (info_fRng _ _ _) (rgc (X : Int) (Xn : Int) (.slice AU nU cU)) rfl ?_)
    | (with_reducible refine load_g 35 (.tmp 22) rfl ?_; refine load_pl 35 (.tmp 22) rfl rfl _ 0 rfl _ _ (fblk_rng KQS.out) Tryd.underlying35 rfl (info_fRng _ _ _) (rgc (Xi : Int) (Xn : Int) (.slice AQS nQS cQS)) rfl ?_)
    | (with_reducible refine load_g 35 (.tmp 24) rfl ?_; refine load_pl 35 (.tmp 24) rfl rfl _ 0 rfl _ _ (fblk_rng KV.out) Tryd.underlying35 rfl (info_fRng _ _ _) (rgc (X : Int) (Xn : Int) (.slice AV nV cV)) rfl ?_)
    | (refine cutH_at rfl (.tmp 62) (.tmp 63) rfl A n c i rfl rfl HI.out ?_)
    | (refine cutLH_at rfl (.tmp 72) (.tmp 73) (.tmp 74) rfl A n c i k rfl rfl rfl HIK.out HKC.out ?_)
    | (refine cutL_at rfl (.tmp 83) (.tmp 84) rfl A n c k rfl rfl HKN.out ?_))
    generalize w7.alloc (.cells (rgc (X : Int) (Xn : Int) (.slice AV nV cV)) 35) = wf at KL RL KU RU KV RV B8 ⊢
    have BF := B8
    clear B0 B1 B2 B3 B4 B5 B6 B7 B8 KP RP KQ RQ KS RS KPQ RPQ KQS RQS COL COP COQ COS
    refine wp_region_held (S := fun w' => Hid (Below wf.heap.size wf w')) (by kernel_rfl) ?_
    change wpAnyH _ _ _ _ _ _ _ _ wf.drew
    have Gx0 : Hid (Below wf.heap.size wf wf.drew) := (Below.refl _ _).drew
    generalize wf.drew = x0 at Gx0  ⊢
    refine wpAnyH_take (i := 0) (oi := { dst := some 113, op := _, type := _, pos := _, after := _, guard := _ }) (v := ?_) rfl (by kernel_rfl) (by kernel_rfl) (by kernel_rfl) (fun _ _ _ h => h) (Or.inl ⟨by kernel_rfl, ?_⟩) Gx0 ?_
    rotate_left
    · (intro w hSw; go_simp; try with_reducible rfl)
    try simp only [Act.put, List.setIfInBounds_toArray, List.set_cons_zero, List.set_cons_succ]
    refine wpAnyH_take (i := 1) (oi := { dst := some 114, op := _, type := _, pos := _, after := _, guard := _ }) (v := ?_) rfl (by kernel_rfl) (by kernel_rfl) (by kernel_rfl) (fun _ _ _ h => h) (Or.inl ⟨by kernel_rfl, ?_⟩) Gx0 ?_
    rotate_left
    · (intro w hSw; go_simp; try with_reducible rfl)
    try simp only [Act.put, List.setIfInBounds_toArray, List.set_cons_zero, List.set_cons_succ]
    refine wpAnyH_take (i := 2) (oi := { dst := some 115, op := _, type := _, pos := _, after := _, guard := _ }) (v := ?_) rfl (by kernel_rfl) (by kernel_rfl) (by kernel_rfl) (fun _ _ _ h => h) (Or.inl ⟨by kernel_rfl, ?_⟩) Gx0 ?_
    rotate_left
    · (intro w hSw; go_simp; try with_reducible rfl)
    try simp only [Act.put, List.setIfInBounds_toArray, List.set_cons_zero, List.set_cons_succ]
    refine wpAnyH_take (i := 3) (oi := { dst := some 116, op := _, type := _, pos := _, after := _, guard := _ }) (v := ?_) rfl (by kernel_rfl) (by kernel_rfl) (by kernel_rfl) (fun _ _ _ h => h) (Or.inl ⟨by kernel_rfl, ?_⟩) Gx0 ?_
    rotate_left
    · (intro w hSw; go_simp; try with_reducible rfl)
    try simp only [Act.put, List.setIfInBounds_toArray, List.set_cons_zero, List.set_cons_succ]
    refine wpAnyH_take (i := 4) (oi := { dst := some 117, op := _, type := _, pos := _, after := _, guard := _ }) (v := ?_) rfl (by kernel_rfl) (by kernel_rfl) (by kernel_rfl) (fun _ _ _ h => h) (Or.inl ⟨by kernel_rfl, ?_⟩) Gx0 ?_
    rotate_left
    · (intro w hSw; go_simp; try with_reducible rfl)
    try simp only [Act.put, List.setIfInBounds_toArray, List.set_cons_zero, List.set_cons_succ]
    refine wpAnyH_take (i := 5) (oi := { dst := some 118, op := _, type := _, pos := _, after := _, guard := _ }) (v := ?_) rfl (by kernel_rfl) (by kernel_rfl) (by kernel_rfl) (fun _ _ _ h => h) (Or.inl ⟨by kernel_rfl, ?_⟩) Gx0 ?_
    rotate_left
    · (intro w hSw; go_simp; try with_reducible rfl)
    try simp only [Act.put, List.setIfInBounds_toArray, List.set_cons_zero, List.set_cons_succ]
    refine wpAnyH_take (i := 6) (oi := { dst := some 119, op := _, type := _, pos := _, after := _, guard := _ }) (v := ?_) rfl (by kernel_rfl) (by kernel_rfl) (by kernel_rfl) (fun _ _ _ h => h) (Or.inl ⟨by kernel_rfl, ?_⟩) Gx0 ?_
    rotate_left
    · (intro w hSw; go_simp; try with_reducible rfl)
    try simp only [Act.put, List.setIfInBounds_toArray, List.set_cons_zero, List.set_cons_succ]
    refine wpAnyH_take (i := 7) (oi := { dst := some 120, op := _, type := _, pos := _, after := _, guard := _ }) (v := ?_) rfl (by kernel_rfl) (by kernel_rfl) (by kernel_rfl) (fun _ _ _ h => h) (Or.inl ⟨by kernel_rfl, ?_⟩) Gx0 ?_
    rotate_left
    · (intro w hSw; go_simp; try with_reducible rfl)
    try simp only [Act.put, List.setIfInBounds_toArray, List.set_cons_zero, List.set_cons_succ]
    refine wpAnyH_take (i := 8) (oi := { dst := some 121, op := _, type := _, pos := _, after := _, guard := _ }) (v := ?_) rfl (by kernel_rfl) (by kernel_rfl) (by kernel_rfl) (fun _ _ _ h => h) (Or.inl ⟨by kernel_rfl, ?_⟩) Gx0 ?_
    rotate_left
    · (intro w hSw; go_simp; try with_reducible rfl)
    try simp only [Act.put, List.setIfInBounds_toArray, List.set_cons_zero, List.set_cons_succ]
    refine wpAnyH_take (i := 9) (oi := { dst := some 122, op := _, type := _, pos := _, after := _, guard := _ }) (v := ?_) rfl (by kernel_rfl) (by kernel_rfl) (by kernel_rfl) (fun _ _ _ h => h) (Or.inl ⟨by kernel_rfl, ?_⟩) Gx0 ?_
    rotate_left
    · (intro w hSw; go_simp; try with_reducible rfl)
    try simp only [Act.put, List.setIfInBounds_toArray, List.set_cons_zero, List.set_cons_succ]
    refine wpAnyH_take (i := 10) (oi := { dst := some 123, op := _, type := _, pos := _, after := _, guard := _ }) (v := ?_) rfl (by kernel_rfl) (by kernel_rfl) (by kernel_rfl) (fun _ _ _ h => h) (Or.inl ⟨by kernel_rfl, ?_⟩) Gx0 ?_
    rotate_left
    · (intro w hSw; go_simp; try with_reducible rfl)
    try simp only [Act.put, List.setIfInBounds_toArray, List.set_cons_zero, List.set_cons_succ]
    refine wpAnyH_take (i := 11) (oi := { dst := some 124, op := _, type := _, pos := _, after := _, guard := _ }) (v := ?_) rfl (by kernel_rfl) (by kernel_rfl) (by kernel_rfl) (fun _ _ _ h => h) (Or.inl ⟨by kernel_rfl, ?_⟩) Gx0 ?_
    rotate_left
    · (intro w hSw; go_simp; try with_reducible rfl)
    try simp only [Act.put, List.setIfInBounds_toArray, List.set_cons_zero, List.set_cons_succ]
    refine wpAnyH_take (i := 12) (oi := { dst := some 125, op := _, type := _, pos := _, after := _, guard := _ }) (v := ?_) rfl (by kernel_rfl) (by kernel_rfl) (by kernel_rfl) (fun _ _ _ h => h) (Or.inl ⟨by kernel_rfl, ?_⟩) Gx0 ?_
    rotate_left
    · (intro w hSw; go_simp; try with_reducible rfl)
    try simp only [Act.put, List.setIfInBounds_toArray, List.set_cons_zero, List.set_cons_succ]
    refine wpAnyH_take (i := 13) (oi := { dst := some 126, op := _, type := _, pos := _, after := _, guard := _ }) (v := ?_) rfl (by kernel_rfl) (by kernel_rfl) (by kernel_rfl) (fun _ _ _ h => h) (Or.inl ⟨by kernel_rfl, ?_⟩) Gx0 ?_
    rotate_left
    · (intro w hSw; go_simp; try with_reducible rfl)
    try simp only [Act.put, List.setIfInBounds_toArray, List.set_cons_zero, List.set_cons_succ]
    refine wpAnyH_take (i := 14) (oi := { dst := some 127, op := _, type := _, pos := _, after := _, guard := _ }) (v := ?_) rfl (by kernel_rfl) (by kernel_rfl) (by kernel_rfl) (fun _ _ _ h => h) (Or.inl ⟨by kernel_rfl, ?_⟩) Gx0 ?_
    rotate_left
    · (intro w hSw; go_simp; try with_reducible rfl)
    try simp only [Act.put, List.setIfInBounds_toArray, List.set_cons_zero, List.set_cons_succ]
    refine wpAnyH_take (i := 15) (oi := { dst := some 128, op := _, type := _, pos := _, after := _, guard := _ }) (v := .agg (rgc (X : Int) (Xn : Int) (.slice AU nU cU))) rfl (by kernel_rfl) (by kernel_rfl) (by kernel_rfl) (fun _ _ _ h => h) (yieldsIf_load_mid (cs := (rgc (X : Int) (Xn : Int) (.slice AU nU cU)).toList) (by rfl) _ _ rfl _ _ rfl _ (fun w' hSw => (fblk_rng (KU.out.below hSw.out))) Tryd.underlying35 rfl (info_fRng _ _ _)) Gx0 ?_
    try simp only [Act.put, List.setIfInBounds_toArray, List.set_cons_zero, List.set_cons_succ]
    refine wpAnyH_take (i := 17) (oi := { dst := some 130, op := _, type := _, pos := _, after := _, guard := _ }) (v := .agg (rgc (X : Int) (Xn : Int) (.slice AL nL cL))) rfl (by kernel_rfl) (by kernel_rfl) (by kernel_rfl) (fun _ _ _ h => h) (yieldsIf_load_mid (cs := (rgc (X : Int) (Xn : Int) (.slice AL nL cL)).toList) (by rfl) _ _ rfl _ _ rfl _ (fun w' hSw => (fblk_rng (KL.out.below hSw.out))) Tryd.underlying35 rfl (info_fRng _ _ _)) Gx0 ?_
    try simp only [Act.put, List.setIfInBounds_toArray, List.set_cons_zero, List.set_cons_succ]
    refine wpAnyH_ready (rs := [16]) (by kernel_rfl) (by simp) ?_
    refine (AllReadyH.cons (o := { dst := some 129, op := _, type := _, pos := _, after := _, guard := _ }) rfl (fun Qc hQc => ?_) AllReadyH.nil)
    go_simp
    go_at_call 22
    refine (fto_any _ _ _ _ _ _).mono ?_
    rintro e x1 ⟨rfl, hb⟩
    have Gx1 := hid (Gx0.out.trans (hb.mono Gx0.out.size))
    clear hb
    go_wp2_with fail
    refine hQc.out _ _ Gx1 (fun hHeld => ?_)
    clear hQc Qc hHeld
    try simp only [Act.put, List.setIfInBounds_toArray, List.set_cons_zero, List.set_cons_succ]
    refine wpAnyH_ready (rs := [18]) (by kernel_rfl) (by simp) ?_
    refine (AllReadyH.cons (o := { dst := some 131, op := _, type := _, pos := _, after := _, guard := _ }) rfl (fun Qc hQc => ?_) AllReadyH.nil)
    go_simp
    go_at_call 22
    refine (fto_any _ _ _ _ _ _).mono ?_
    rintro e x2 ⟨rfl, hb⟩
    have Gx2 := hid (Gx1.out.trans (hb.mono Gx1.out.size))
    clear hb
    go_wp2_with fail
    refine hQc.out _ _ Gx2 (fun hHeld => ?_)
    clear hQc Qc hHeld
    try simp only [Act.put, List.setIfInBounds_toArray, List.set_cons_zero, List.set_cons_succ]
    refine wpAnyH_ready (rs := [19]) (by kernel_rfl) (by simp) ?_
    refine (AllReadyH.cons (o := { dst := some 132, op := _, type := _, pos := _, after := _, guard := _ }) rfl (fun Qc hQc => ?_) AllReadyH.nil)
    go_simp
    go_at_call 21
    refine (ranges_at (RU.out.below Gx2.out) (RL.out.below Gx2.out) HXN.out).mono ?_
    rintro e x3 ⟨rfl, hb⟩
    have Gx3 := hid (Gx2.out.trans (hb.mono Gx2.out.size))
    clear hb
    go_wp2_with fail
    refine hQc.out _ _ Gx3 (fun hHeld => ?_)
    clear hQc Qc hHeld
    try simp only [Act.put, List.setIfInBounds_toArray, List.set_cons_zero, List.set_cons_succ]
    refine wpAnyH_take (i := 20) (oi := { dst := some 133, op := _, type := _, pos := _, after := _, guard := _ }) (v := ?_) rfl (by kernel_rfl) (by kernel_rfl) (by kernel_rfl) (fun _ _ _ h => h) (Or.inl ⟨by kernel_rfl, ?_⟩) Gx3 ?_
    rotate_left
    · (intro w hSw; go_simp; try with_reducible rfl)
    try simp only [Act.put, List.setIfInBounds_toArray, List.set_cons_zero, List.set_cons_succ]
    refine wpAnyH_take (i := 21) (oi := { dst := some 134, op := _, type := _, pos := _, after := _, guard := _ }) (v := ?_) rfl (by kernel_rfl) (by kernel_rfl) (by kernel_rfl) (fun _ _ _ h => h) (Or.inl ⟨by kernel_rfl, ?_⟩) Gx3 ?_
    rotate_left
    · (intro w hSw; go_simp; try with_reducible rfl)
    try simp only [Act.put, List.setIfInBounds_toArray, List.set_cons_zero, List.set_cons_succ]
    refine wpAnyH_take (i := 22) (oi := { dst := some 135, op := _, type := _, pos := _, after := _, guard := _ }) (v := .agg (rgc (X : Int) (Xn : Int) (.slice AV nV cV))) rfl (by kernel_rfl) (by kernel_rfl) (by kernel_rfl) (fun _ _ _ h => h) (yieldsIf_load_mid (cs := (rgc (X : Int) (Xn : Int) (.slice AV nV cV)).toList) (by rfl) _ _ rfl _ _ rfl _ (fun w' hSw => (fblk_rng (KV.out.below hSw.out))) Tryd.underlying35 rfl (info_fRng _ _ _)) Gx3 ?_
    try simp only [Act.put, List.setIfInBounds_toArray, List.set_cons_zero, List.set_cons_succ]
    refine wpAnyH_take (i := 24) (oi := { dst := some 137, op := _, type := _, pos := _, after := _, guard := _ }) (v := .agg (rgc (X : Int) (Xn : Int) (.slice AL nL cL))) rfl (by kernel_rfl) (by kernel_rfl) (by kernel_rfl) (fun _ _ _ h => h) (yieldsIf_load_mid (cs := (rgc (X : Int) (Xn : Int) (.slice AL nL cL)).toList) (by rfl) _ _ rfl _ _ rfl _ (fun w' hSw => (fblk_rng (KL.out.below hSw.out))) Tryd.underlying35 rfl (info_fRng _ _ _)) Gx3 ?_
    try simp only [Act.put, List.setIfInBounds_toArray, List.set_cons_zero, List.set_cons_succ]
    refine wpAnyH_ready (rs := [23]) (by kernel_rfl) (by simp) ?_
    refine (AllReadyH.cons (o := { dst := some 136, op := _, type := _, pos := _, after := _, guard := _ }) rfl (fun Qc hQc => ?_) AllReadyH.nil)
    go_simp
    go_at_call 22
    refine (fto_any _ _ _ _ _ _).mono ?_
    rintro e x4 ⟨rfl, hb⟩
    have Gx4 := hid (Gx3.out.trans (hb.mono Gx3.out.size))
    clear hb
    go_wp2_with fail
    refine hQc.out _ _ Gx4 (fun hHeld => ?_)
    clear hQc Qc hHeld
    try simp only [Act.put, List.setIfInBounds_toArray, List.set_cons_zero, List.set_cons_succ]
    refine wpAnyH_ready (rs := [25]) (by kernel_rfl) (by simp) ?_
    refine (AllReadyH.cons (o := { dst := some 138, op := _, type := _, pos := _, after := _, guard := _ }) rfl (fun Qc hQc => ?_) AllReadyH.nil)
    go_simp
    go_at_call 22
    refine (fto_any _ _ _ _ _ _).mono ?_
    rintro e x5 ⟨rfl, hb⟩
    have Gx5 := hid (Gx4.out.trans (hb.mono Gx4.out.size))
    clear hb
    go_wp2_with fail
    refine hQc.out _ _ Gx5 (fun hHeld => ?_)
    clear hQc Qc hHeld
    try simp only [Act.put, List.setIfInBounds_toArray, List.set_cons_zero, List.set_cons_succ]
    refine wpAnyH_ready (rs := [26]) (by kernel_rfl) (by simp) ?_
    refine (AllReadyH.cons (o := { dst := some 139, op := _, type := _, pos := _, after := _, guard := _ }) rfl (fun Qc hQc => ?_) AllReadyH.nil)
    go_simp
    go_at_call 21
    refine (ranges_at (RV.out.below Gx5.out) (RL.out.below Gx5.out) HXN.out).mono ?_
    rintro e x6 ⟨rfl, hb⟩
    have Gx6 := hid (Gx5.out.trans (hb.mono Gx5.out.size))
    clear hb
    go_wp2_with fail
    refine hQc.out _ _ Gx6 (fun hHeld => ?_)
    clear hQc Qc hHeld
    try simp only [Act.put, List.setIfInBounds_toArray, List.set_cons_zero, List.set_cons_succ]
    refine wpAnyH_take (i := 27) (oi := { dst := some 140, op := _, type := _, pos := _, after := _, guard := _ }) (v := ?_) rfl (by kernel_rfl) (by kernel_rfl) (by kernel_rfl) (fun _ _ _ h => h) (Or.inl ⟨by kernel_rfl, ?_⟩) Gx6 ?_
    rotate_left
    · (intro w hSw; go_simp; try with_reducible rfl)
    try simp only [Act.put, List.setIfInBounds_toArray, List.set_cons_zero, List.set_cons_succ]
    refine wpAnyH_take (i := 28) (oi := { dst := some 6, op := _, type := _, pos := _, after := _, guard := _ }) (v := ?_) rfl (by kernel_rfl) (by kernel_rfl) (by kernel_rfl) (fun _ _ _ h => h) (Or.inl ⟨by kernel_rfl, ?_⟩) Gx6 ?_
    rotate_left
    · (intro w hSw; go_simp; try with_reducible rfl)
    try simp only [Act.put, List.setIfInBounds_toArray, List.set_cons_zero, List.set_cons_succ]
    refine wpAnyH_done (by kernel_rfl) ?_ _
    try simp only [Act.put, List.setIfInBounds_toArray, List.set_cons_zero, List.set_cons_succ]
    go_wp2
    go_ret
    exact ⟨rfl, BF.out.trans (Gx6.out.mono BF.out.size)⟩
  · have h60' : (60 : Int) < (n : Int) := by omega
    clear hin hk hbs hTb0 hTd0 hB0
    go_enter Tryd.func7, Tryd.ntmps7
    go_wp2_with (go_at_call 9; first
      | (with_reducible refine (CA.out _ BB.out).mono ?_; rintro e w2 ⟨rfl, hb2⟩; have B2 := hid (BB.out.trans (hb2.mono BB.out.size)); clear hb2)
      | (with_reducible refine (CA.out _ B2.out).mono ?_; rintro e w3 ⟨rfl, hb3⟩; have B3 := hid (B2.out.trans (hb3.mono B2.out.size)); clear hb3))
    go_ret
    exact ⟨rfl, B3.out⟩
end Go.Proofs.YtpeldkadpnoeiaaDoor
