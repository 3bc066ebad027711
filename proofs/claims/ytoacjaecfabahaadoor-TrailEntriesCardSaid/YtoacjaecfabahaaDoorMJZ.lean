/-
  What is proved here: all texts that are hashed when hashes are joined from the left, to the root.
-/
import Derived.Test.YtoacjaecfabahaaDoorMJY
import Derived.Test.YtoacjaecfabahaaDoorMJM
import Derived.Test.YtoacjaecfabahaaDoorMJG
set_option linter.unusedSimpArgs false
set_option linter.unusedVariables false
namespace Go.Proofs.YtoacjaecfabahaaDoor
open Go.ChangeShapes Go.WideShapes Go.ChangeAt Go.RowKit
set_option linter.unusedVariables false
set_option linter.unusedSimpArgs false
set_option maxRecDepth 20000

theorem inh_rng {w : World} {b o n k : Nat} {L : List (List Int)} {K : List Int} (h : InH w (some ⟨b, o, none⟩) n L) (hk : L[k]? = some K) : w.rangeAt b (o + k * 32) (u8s K) := by
  have hl : k < L.length := by
    rcases Nat.lt_or_ge k L.length with h1 | h1
    · exact h1
    · rw [List.getElem?_eq_none h1] at hk; cases hk
  obtain ⟨b', o', e, _, hat⟩ := h.2.2.2 (by have := h.1; omega)
  injection e with e
  injection e with e1 e2
  subst e1; subst e2
  exact hat k K hk
/-- a list's block is an old one, or of this type -/
def FarB (w : World) (A : Option Addr) (n : Nat) (t : TypeId) (W : World) : Prop := 0 < n → ∀ b o, A = some ⟨b, o, none⟩ → b < w.heap.size ∨ ∃ C, Blk W b t C
theorem FarB.below {w x y : World} {A : Option Addr} {n : Nat} {t : TypeId} (h : FarB w A n t x) (hb : Below x.heap.size x y) : FarB w A n t y := fun hn b o e => (h hn b o e).imp id (fun ⟨C, hC⟩ => ⟨C, hC.below hb⟩)
theorem FarB.grown {w x y : World} {A : Option Addr} {n : Nat} {t : TypeId} {M : List (List Int)} {v : Value} (h : FarB w A n t x) (ht : t ≠ 89) (hM : TxS w M v x) (hg : x.grownBy y v.ownBlock) : FarB w A n t y ∧ (0 < n → ∀ b o, A = some ⟨b, o, none⟩ → y.heap[b]? = x.heap[b]?) := by
  have key : 0 < n → ∀ b o, A = some ⟨b, o, none⟩ → y.heap[b]? = x.heap[b]? := fun hn b o e => by
    rcases h hn b o e with h1 | ⟨C, hC⟩
    · refine hg.block b (Nat.lt_of_lt_of_le h1 hM.bl.size) (fun e' => ?_)
      have := (hM.tx.ty b e'.symm).1
      omega
    · refine hg.block b hC.lt (fun e' => ?_)
      obtain ⟨_, D, hD⟩ := hM.tx.ty b e'.symm
      exact hC.ne hD ht rfl
  refine ⟨fun hn b o e => (h hn b o e).imp id (fun ⟨C, hC⟩ => ⟨C, hC.same (key hn b o e)⟩), key⟩
theorem InI.keep' {w w' : World} {A : Option Addr} {n : Nat} {L : List Int} (h : InI w A n L) (hs : w.heap.size ≤ w'.heap.size) (hk : 0 < n → ∀ b o, A = some ⟨b, o, none⟩ → w'.heap[b]? = w.heap[b]?) : InI w' A n L := by
  refine ⟨h.1, h.2.1, fun hn => ?_⟩
  obtain ⟨b, o, e, hlt, hat⟩ := h.2.2 hn
  exact ⟨b, o, e, Nat.lt_of_lt_of_le hlt hs, fun i K hi => (World.cell?_of_block (w := w) (hk hn b o e)).trans (hat i K hi)⟩
theorem InH.keep' {w w' : World} {A : Option Addr} {n : Nat} {L : List (List Int)} (h : InH w A n L) (hs : w.heap.size ≤ w'.heap.size) (hk : 0 < n → ∀ b o, A = some ⟨b, o, none⟩ → w'.heap[b]? = w.heap[b]?) : InH w' A n L := by
  refine ⟨h.1, h.2.1, h.2.2.1, fun hn => ?_⟩
  obtain ⟨b, o, e, hlt, hat⟩ := h.2.2.2 hn
  exact ⟨b, o, e, Nat.lt_of_lt_of_le hlt hs, fun i K hi j v hv => (World.cell?_of_block (w := w) (hk hn b o e)).trans (hat i K hi j v hv)⟩
theorem far_own {w W : World} {base n c : Nat} {A : Option Addr} {L : List (List Int)} (h : OwH base W (.slice A n c) L) : FarB w A n 33 W := fun _ b o e => .inr (h.ty b (by rw [e]; rfl)).2
theorem far_ownI {w W : World} {base n c : Nat} {A : Option Addr} {L : List Int} (h : OwI base W (.slice A n c) L) : FarB w A n 3 W := fun _ b o e => .inr (OwI.ty h b (by rw [e]; rfl)).2
/-- Joined at work: its sizes, its hashes, its texts -/
structure JdI (w : World) (A : Option Addr) (n : Nat) (E : List Nat) (B : Option Addr) (L : List (List Int)) (M : List (List Int)) (v : Value) (W : World) : Prop where
  tx : TxS w M v W
  ii : InI W A n (szs E)
  fi : FarB w A n 3 W
  ih : InH W B n L
  fh : FarB w B n 33 W
section
variable {w x y : World} {A B : Option Addr} {n : Nat} {E : List Nat} {L M : List (List Int)} {v : Value}
theorem JdI.below (h : JdI w A n E B L M v x) (hb : Below x.heap.size x y) : JdI w A n E B L M v y := ⟨h.tx.below hb, h.ii.below hb, h.fi.below hb, h.ih.below hb, h.fh.below hb⟩
theorem JdI.app {M' : List (List Int)} {v' : Value} (h : JdI w A n E B L M v x) (ht : TxV w.heap.size y M' v') (hg : x.grownBy y v.ownBlock) : JdI w A n E B L M' v' y := by
  obtain ⟨f1, k1⟩ := h.fi.grown (by decide) h.tx hg
  obtain ⟨f2, k2⟩ := h.fh.grown (by decide) h.tx hg
  have hs := (h.tx.app ht hg).bl.size
  have hsz : x.heap.size ≤ y.heap.size := hg.size
  exact ⟨h.tx.app ht hg, h.ii.keep' hsz k1, f1, h.ih.keep' hsz k2, f2⟩
end
/-- its hashes, its texts -/
structure JfI (w : World) (B : Option Addr) (n : Nat) (L : List (List Int)) (M : List (List Int)) (v : Value) (W : World) : Prop where
  tx : TxS w M v W
  ih : InH W B n L
  fh : FarB w B n 33 W
section
variable {w x y : World} {B : Option Addr} {n : Nat} {L M : List (List Int)} {v : Value}
theorem JfI.below (h : JfI w B n L M v x) (hb : Below x.heap.size x y) : JfI w B n L M v y := ⟨h.tx.below hb, h.ih.below hb, h.fh.below hb⟩
theorem JfI.app {M' : List (List Int)} {v' : Value} (h : JfI w B n L M v x) (ht : TxV w.heap.size y M' v') (hg : x.grownBy y v.ownBlock) : JfI w B n L M' v' y := by
  obtain ⟨f2, k2⟩ := h.fh.grown (by decide) h.tx hg
  exact ⟨h.tx.app ht hg, h.ih.keep' hg.size k2, f2⟩
end
theorem jX_some {a i : Nat} {E : List Nat} {L : List (List Int)} (hf : fstM a E = some i) (hl : (mdE E i).length + 1 = E.length) : jX E.length a E L = (L[i]?.getD [], L[i + 1]?.getD []) :: jX (mdE E i).length a (mdE E i) (mdL ndF [] L i) := by
  unfold jX
  rw [← hl, joinX, hf]
theorem jX_none {a : Nat} {E : List Nat} {L : List (List Int)} (hf : fstM a E = none) : jX E.length a E L = [] := by
  unfold jX
  cases hl : E.length with
  | zero => rfl
  | succ n => rw [joinX, hf]
theorem fX_more {L : List (List Int)} {q : Nat} (hl : L.length = q + 2) : fX L.length L = (L[q]?.getD [], L[q + 1]?.getD []) :: fX (L.take q ++ [ndF (L[q]?.getD []) (L[q + 1]?.getD [])]).length (L.take q ++ [ndF (L[q]?.getD []) (L[q + 1]?.getD [])]) := by
  have e : (L.take q ++ [ndF (L[q]?.getD []) (L[q + 1]?.getD [])]).length = q + 1 := by rw [List.length_append, List.length_take, List.length_singleton]; omega
  unfold fX
  rw [e, hl, foldX, if_neg (by omega), hl]
  rfl
theorem fX_one {L : List (List Int)} (hl : L.length ≤ 1) : fX L.length L = [] := by
  unfold fX
  cases h : L.length with
  | zero => rfl
  | succ n => rw [foldX, if_pos hl]
theorem txs_snoc (O : List Pr) (a b : List Int) : txs O ++ [ndT a b] = txs (O ++ [(a, b)]) := by unfold txs; rw [List.map_append]; rfl
set_option maxHeartbeats 16000000 in
theorem jrJoined_any {w : World} {n c d z : Nat} {A B : Option Addr} {E : List Nat} {L : List (List Int)} (hI : InI w A n (szs E)) (hL : InH w B n L) (hc : n ≤ c) (hd : n ≤ d) (hA : Al 0 E z) (hz : z ≤ 2147483647) (hn : n ≤ 220) :
    Calls Tryd.prog 57 #[.int .i64 0, .slice A n c, .slice B n d] w (TxA w (allX 0 E L)) := by
  have hel : E.length = n := by have := hI.1; rw [szs_len] at this; exact this
  have hll := hL.1
  obtain ⟨X, hX⟩ : ∃ X, X = allX 0 E L := ⟨_, rfl⟩
  obtain ⟨Hf, hHf⟩ : ∃ Hf, Hf = joinHs ndF [] 0 E L := ⟨_, rfl⟩
  have HX0 : Hid (X = ([] : List Pr) ++ jX E.length 0 E L ++ fX Hf.length Hf) := by show _ = _; rw [hX, hHf]; rfl
  have HF0 := hid hHf
  rw [← hX]
  have gfx : ∀ (w' : World) (n1 : Nat) (E1 : List Nat) (A1 : Option Addr) (c1 : Nat), InI w' A1 n1 (szs E1) → Al 0 E1 z → n1 ≤ 220 → Calls Tryd.prog 50 #[.int .i64 0, .slice A1 n1 c1] w' fun e w'' => e = .returned (.int .i64 (fstI (fstM 0 E1))) ∧ Below w'.heap.size w' w'' := fun w' n1 E1 A1 c1 h1 h2 h3 =>
    gFirst_any (a := 0) (c := c1) h1 (fun m hm => by have := al_exp h2 hz m hm; omega) (by rw [al_adv h2]; omega) (by omega)
  have GFX := hid gfx
  have CF0 := hid (gfx w n E A c hI hA hn)
  have PI0 : Hid (JdI w A n E B L (txs []) (.slice none 0 0) w) := ⟨⟨TxV.nil _ _, Below.refl _ _⟩, hI, fun h0 b o e => .inl (by obtain ⟨b', o', e', hlt, _⟩ := hI.2.2 h0; rw [e] at e'; injection e' with e'; injection e' with e1 e2; omega), hL, fun h0 b o e => .inl (by obtain ⟨b', o', e', hlt, _⟩ := hL.2.2.2 h0; rw [e] at e'; injection e' with e'; injection e' with e1 e2; omega)⟩
  have HEL := hid hel; have HLL0 := hid hll; have HC := hid hc; have HD := hid hd; have HA := hid hA; have HZ := hid hz; have HN := hid hn
  clear hX hHf gfx hI hL hc hd hA hz hel hll
  unfold TxA
  go_enter Tryd.func57, Tryd.ntmps57
  go_wp2_with (go_at_call 50; go_loud (have hj := CF0.out; with_reducible refine hj.mono ?_; clear hj); rintro e w1 ⟨rfl, hb⟩; have PI1 := hid (PI0.out.below hb); clear hb PI0 CF0)
  go_loopw [1, 2, 7, 8] (fun s1 s2 s7 s8 wr => ∃ (A1 : Option Addr) (n1 c1 : Nat) (B1 : Option Addr) (d1 : Nat) (v : Value) (E : List Nat) (L : List (List Int)) (O : List Pr), s1 = .slice A1 n1 c1 ∧ s2 = .slice B1 n1 d1 ∧ v = s7 ∧ s8 = .int .i64 (fstI (fstM 0 E)) ∧ E.length = n1 ∧ L.length = n1 ∧ n1 ≤ c1 ∧ n1 ≤ d1 ∧ Hid (Al 0 E z) ∧ Hid (X = O ++ jX E.length 0 E L ++ fX Hf.length Hf) ∧ Hid (Hf = joinHs ndF [] 0 E L) ∧ Hid (O.length + n1 ≤ 220) ∧ Hid (JdI w A1 n1 E B1 L (txs O) v wr)) (fun s1 _ _ _ _ => lenOf s1)
  case atStart => exact ⟨A, n, c, B, d, .slice none 0 0, E, L, [], rfl, rfl, rfl, rfl, HEL.out, HLL0.out, HC.out, HD.out, HA.out, HX0.out, HF0.out, (by show _ + n ≤ 220; simp; exact HN.out), PI1.out⟩
  case round =>
    obtain ⟨A1, n1, c1, B1, d1, v, E, L, O, rfl, rfl, rfl, rfl, hE, hL, hc1, hd1, HAL, HX, HF, HON, PI⟩ := hrel
    clear PI1 HX0 HF0 HEL HLL0 HC HD HA HN
    cases hf : fstM 0 E with
    | some k =>
      have hk0 : (0 : Int) ≤ (k : Int) := by omega
      obtain ⟨hk1, hk2⟩ := fst_lt hf
      have hn9 : n1 ≤ 220 := by have := HON.out; omega
      obtain ⟨k1, hkk⟩ : ∃ k1, k1 = k + 1 := ⟨_, rfl⟩
      obtain ⟨b, o, K1, rfl, hK1, h1, _, _⟩ := PI.out.ih.at (k := k) (by omega)
      obtain ⟨b', o', K2, hbo, hK2, h2, _, _⟩ := PI.out.ih.at (k := k1) (by omega)
      injection hbo with hbo
      injection hbo with eb eo
      subst eb; subst eo
      have q1 : (k : Int) + 1 = (k1 : Int) := by omega
      have hw1 : IntKind.i64.wrap (k1 : Int) = (k1 : Int) := IntWalk.i64_in _ (by omega)
      have hlt0 : k < n1 := by omega
      have hlt1 : k1 < n1 := by omega
      have HK1 := hid hK1; have HK2 := hid hK2
      have HI1 := hid (info_hash K1 h1.len); have HI2 := hid (info_hash K2 h2.len)
      have CT := hid (fun (w' : World) => gText_b (w := w') h1 h2)
      have HLO := hid (show (txs O).length ≤ 1000 by rw [txs_len]; have := HON.out; omega)
      have hex := al_exp HAL.out HZ.out
      have HE31 := hid (fun m (hm : m ∈ E) => show m ≤ 31 by have := hex m hm; omega)
      have HC1 := hid hc1; have HD1 := hid hd1; have HK9 := hid (show k + 1 < n1 by omega); have HN9 := hid (show n1 < 1000 by omega)
      obtain ⟨n2, hn2⟩ : ∃ n2, n2 = (mdE E k).length := ⟨_, rfl⟩
      have HN12 := hid (show n2 + 1 = n1 by omega)
      have HL1 := hid (show (szs (mdE E k)).length = n2 by rw [szs_len, hn2])
      have hml := mdL_len (L := L) (i := k) (by omega)
      have HL2 := hid (show (mdL ndF [] L k).length = n2 by omega)
      have HEN2 := hid hn2.symm; have HLN2 := hid (show (mdL ndF [] L k).length = n2 by omega)
      have hal2 : Al 0 (mdE E k) z := by
        obtain ⟨A', m, B', rfl, rfl, hd⟩ := fstM_some hf
        rw [mdE_mid]; exact al_mid HAL.out hd
      have HAL2 := hid hal2
      have HX2 : Hid (X = O ++ [(K1, K2)] ++ jX (mdE E k).length 0 (mdE E k) (mdL ndF [] L k) ++ fX Hf.length Hf) := by
        show _ = _
        rw [HX.out, jX_some hf hk2, ← hkk, hK1, hK2]; simp
      have HF2 : Hid (Hf = joinHs ndF [] 0 (mdE E k) (mdL ndF [] L k)) := by show _ = _; rw [HF.out]; exact joinHs_some hf hk2
      have HON2 := hid (show (O ++ [(K1, K2)]).length + n2 ≤ 220 by rw [List.length_append, List.length_singleton]; have := HON.out; omega)
      have CFN := hid (fun (w' : World) (A3 : Option Addr) (c3 : Nat) (h : InI w' A3 n2 (szs (mdE E k))) => GFX.out w' n2 (mdE E k) A3 c3 h hal2 (by omega))
      have PX := PI
      have e9 : fstI (some k) = (k : Int) := rfl
      clear PI hf hk1 hk2 hkk hK1 hK2 h1 h2 hex hc1 hd1 hn2 hml hal2 hE hL
      rw [e9]
      clear e9
      go_wp2
      refine wp_region_L (B := fun w' => Hid (JdI w A1 n1 E (some ⟨b, o, none⟩) L (txs O) v w')) [12] (by kernel_rfl) ?_
      change wpAnyL _ _ _ _ _ _ _ _ _ wr.drew
      have Gx0 : Hid (JdI w A1 n1 E (some ⟨b, o, none⟩) L (txs O) v wr.drew) := PX.out.below ((Below.refl _ _).drew)
      have PX' : Hid (JdI w A1 n1 E (some ⟨b, o, none⟩) L (txs O) v wr.drew) := PX.out.below ((Below.refl _ _).drew)
      clear PX
      have PX := PX'
      clear PX'
      generalize wr.drew = x0 at Gx0 PX ⊢
      refine wpAnyL_pure (i := 0) (oi := { dst := some 21, op := _, type := _, pos := _, after := _, guard := _ }) (v := ?_) rfl (by kernel_rfl) (by kernel_rfl) (by kernel_rfl) (by rfl) (fun _ _ _ h => h) (Or.inl ⟨by kernel_rfl, ?_⟩) (fun _ => Gx0) ?_
      rotate_left
      · (intro w _; go_simp; try with_reducible rfl)
      try simp only [Act.put, List.setIfInBounds_toArray, List.set_cons_zero, List.set_cons_succ]
      refine wpAnyL_pure (i := 1) (oi := { dst := some 22, op := _, type := _, pos := _, after := _, guard := _ }) (v := ?_) rfl (by kernel_rfl) (by kernel_rfl) (by kernel_rfl) (by rfl) (fun _ _ _ h => h) (Or.inl ⟨by kernel_rfl, ?_⟩) (fun _ => Gx0) ?_
      rotate_left
      · (intro w _; go_simp; try with_reducible rfl)
      try simp only [Act.put, List.setIfInBounds_toArray, List.set_cons_zero, List.set_cons_succ]
      refine wpAnyL_pure (i := 2) (oi := { dst := some 23, op := _, type := _, pos := _, after := _, guard := _ }) (v := ?_) rfl (by kernel_rfl) (by kernel_rfl) (by kernel_rfl) (by rfl) (fun _ _ _ h => h) (Or.inl ⟨by kernel_rfl, ?_⟩) (fun _ => Gx0) ?_
      rotate_left
      · (intro w _; go_simp; try with_reducible rfl)
      try simp only [Act.put, List.setIfInBounds_toArray, List.set_cons_zero, List.set_cons_succ]
      refine wpAnyL_pure (i := 3) (oi := { dst := some 24, op := _, type := _, pos := _, after := _, guard := _ }) (v := ?_) rfl (by kernel_rfl) (by kernel_rfl) (by kernel_rfl) (by rfl) (fun _ _ _ h => h) (Or.inl ⟨by kernel_rfl, ?_⟩) (fun _ => Gx0) ?_
      rotate_left
      · (intro w _; go_simp; try with_reducible rfl)
      try simp only [Act.put, List.setIfInBounds_toArray, List.set_cons_zero, List.set_cons_succ]
      refine wpAnyL_take (i := 4) (oi := { dst := some 25, op := _, type := _, pos := _, after := _, guard := _ }) (v := .agg (hc32 K1)) [10, 11, 12, 13] rfl (by kernel_rfl) (by kernel_rfl) (by kernel_rfl) (by kernel_rfl) (fun _ _ _ h => h) (yieldsIf_load_mid (cs := u8s K1) (by rfl) _ _ rfl _ _ rfl _ (fun w' hSw => (inh_rng hSw.out.ih HK1.out)) Tryd.underlying33 rfl HI1.out) Gx0 ?_
      try simp only [Act.put, List.setIfInBounds_toArray, List.set_cons_zero, List.set_cons_succ]
      refine wpAnyL_pure (i := 5) (oi := { dst := some 26, op := _, type := _, pos := _, after := _, guard := _ }) (v := ?_) rfl (by kernel_rfl) (by kernel_rfl) (by kernel_rfl) (by rfl) (fun _ _ _ h => h) (Or.inl ⟨by kernel_rfl, ?_⟩) (fun _ => Gx0) ?_
      rotate_left
      · (intro w _; go_simp; try with_reducible rfl)
      try simp only [Act.put, List.setIfInBounds_toArray, List.set_cons_zero, List.set_cons_succ]
      refine wpAnyL_pure (i := 6) (oi := { dst := some 27, op := _, type := _, pos := _, after := _, guard := _ }) (v := ?_) rfl (by kernel_rfl) (by kernel_rfl) (by kernel_rfl) (by rfl) (fun _ _ _ h => h) (Or.inl ⟨by kernel_rfl, ?_⟩) (fun _ => Gx0) ?_
      rotate_left
      · (intro w _; go_simp; try with_reducible rfl)
      try simp only [Act.put, List.setIfInBounds_toArray, List.set_cons_zero, List.set_cons_succ]
      refine wpAnyL_pure (i := 7) (oi := { dst := some 28, op := _, type := _, pos := _, after := _, guard := _ }) (v := ?_) rfl (by kernel_rfl) (by kernel_rfl) (by kernel_rfl) (by rfl) (fun _ _ _ h => h) (Or.inl ⟨by kernel_rfl, ?_⟩) (fun _ => Gx0) ?_
      rotate_left
      · (intro w _; go_simp; try with_reducible rfl)
      try simp only [Act.put, List.setIfInBounds_toArray, List.set_cons_zero, List.set_cons_succ]
      refine wpAnyL_pure (i := 8) (oi := { dst := some 29, op := _, type := _, pos := _, after := _, guard := _ }) (v := ?_) rfl (by kernel_rfl) (by kernel_rfl) (by kernel_rfl) (by rfl) (fun _ _ _ h => h) (Or.inl ⟨by kernel_rfl, ?_⟩) (fun _ => Gx0) ?_
      rotate_left
      · (intro w _; go_simp; try with_reducible rfl)
      try simp only [Act.put, List.setIfInBounds_toArray, List.set_cons_zero, List.set_cons_succ]
      refine wpAnyL_take (i := 9) (oi := { dst := some 30, op := _, type := _, pos := _, after := _, guard := _ }) (v := .agg (hc32 K2)) [10, 11, 12, 13] rfl (by kernel_rfl) (by kernel_rfl) (by kernel_rfl) (by kernel_rfl) (fun _ _ _ h => h) (yieldsIf_load_mid (cs := u8s K2) (by rfl) _ _ rfl _ _ rfl _ (fun w' hSw => (inh_rng hSw.out.ih HK2.out)) Tryd.underlying33 rfl HI2.out) Gx0 ?_
      try simp only [Act.put, List.setIfInBounds_toArray, List.set_cons_zero, List.set_cons_succ]
      refine wpAnyL_ready (rs := [10]) (by kernel_rfl) (by simp) ?_
      refine (AllReadyL.cons (o := { dst := some 31, op := _, type := _, pos := _, after := _, guard := _ }) rfl (fun Qc hQc => ?_) AllReadyL.nil)
      go_simp
      go_at_call 58
      refine (CT.out x0).mono ?_
      rintro e x1 ⟨B9, d9, rfl, hd9, hb9, hb⟩
      have HB9 := hid hb9; have HD9 := hid hd9
      have PY := hid (PX.out.below hb)
      have Gx1 := PY
      clear hb PX hb9 hd9
      have PX := PY
      clear PY
      go_wp2_with fail
      refine hQc.out _ _ (fun _ => Gx1) ?_
      clear hQc Qc
      try simp only [Act.put, List.setIfInBounds_toArray, List.set_cons_zero, List.set_cons_succ]
      refine wpAnyL_ready (rs := [11]) (by kernel_rfl) (by simp) ?_
      refine (AllReadyL.cons (o := { dst := some 32, op := _, type := _, pos := _, after := _, guard := _ }) rfl (fun Qc hQc => ?_) AllReadyL.nil)
      go_simp
      have NB : Hid (Blk (x1.alloc (.cells #[.slice B9 (ndT K1 K2).length d9] 89)) x1.heap.size 89 #[.slice B9 (ndT K1 K2).length d9]) := Blk.new x1 89 _
      have hb : Below x1.heap.size x1 (x1.alloc (.cells #[.slice B9 (ndT K1 K2).length d9] 89)) := (Below.refl _ _).alloc (Nat.le_refl _) _
      have PY := hid (PX.out.below hb)
      have HB := hid (HB9.out.below hb)
      have Gx2 := PY
      clear hb PX HB9
      refine hQc.out _ _ (fun _ => Gx2) ?_
      clear hQc Qc
      generalize x1.heap.size = g9 at NB ⊢
      generalize x1.alloc (.cells #[.slice B9 (ndT K1 K2).length d9] 89) = x2 at NB PY HB Gx2 ⊢
      have PX := PY
      clear PY
      try simp only [Act.put, List.setIfInBounds_toArray, List.set_cons_zero, List.set_cons_succ]
      refine wpAnyL_ready (rs := [12]) (by kernel_rfl) (by simp) ?_
      refine (AllReadyL.cons (o := { dst := some 33, op := _, type := _, pos := _, after := _, guard := _ }) rfl (fun Qc hQc => ?_) AllReadyL.nil)
      rw [if_pos (by rfl)]
      refine wp_append_txV (.tmp 21) (.tmp 32) rfl w.heap.size (txs O) v rfl PX.out.tx.tx g9 B9 d9 _ (ndT K1 K2) rfl rfl NB.out HD9.out HB.out HLO.out PX.out.tx.bl.size ?_
      intro v9 x3 ht hg
      rw [txs_snoc] at ht
      have PY := hid (PX.out.app ht hg)
      clear ht hg NB PX HB
      refine hQc.out _ _ (unl_no (d := 12) (by rfl) (by kernel_rfl)) ?_
      clear hQc Qc
      have PX := PY
      clear PY
      try simp only [Act.put, List.setIfInBounds_toArray, List.set_cons_zero, List.set_cons_succ]
      refine wpAnyL_pure (i := 13) (oi := { dst := some 7, op := _, type := _, pos := _, after := _, guard := _ }) (v := ?_) rfl (by kernel_rfl) (by kernel_rfl) (by kernel_rfl) (by rfl) (fun _ _ _ h => h) (Or.inl ⟨by kernel_rfl, ?_⟩) (unl_no (d := 12) (by rfl) (by kernel_rfl)) ?_
      rotate_left
      · (intro w _; go_simp; try with_reducible rfl)
      try simp only [Act.put, List.setIfInBounds_toArray, List.set_cons_zero, List.set_cons_succ]
      refine wpAnyL_done (by kernel_rfl) ?_ _
      try simp only [Act.put, List.setIfInBounds_toArray, List.set_cons_zero, List.set_cons_succ]
      have hcm := gMade_any (c := c1) (d := d1) (E := E) (L := L) (i := k) PX.out.ii PX.out.ih HE31.out HC1.out HD1.out HK9.out HN9.out
      unfold MdA at hcm
      have CM := hid hcm
      clear hcm
      go_wp2_with (first
        | (go_at_call 51; go_loud (have hj := CM.out; with_reducible refine hj.mono ?_; clear hj); rintro e wm ⟨v1, v2, rfl, ho1, ho2, hb⟩; have O1 := hid ho1; have O2 := hid ho2; have TX := hid (PX.out.tx.below hb); obtain ⟨A3, c3, hv1, hc3, _⟩ := ho1.len; obtain ⟨B3, d3, hv2, hd3, _⟩ := ho2.len; rw [HL1.out] at hv1 hc3; rw [HL2.out] at hv2 hd3; have HC3 := hid hc3; have HD3 := hid hd3; subst hv1; subst hv2; have PJ : Hid (JdI w A3 n2 (mdE E k) B3 (mdL ndF [] L k) (txs (O ++ [(K1, K2)])) v9 wm) := ⟨TX.out, O1.out.in, far_ownI O1.out, O2.out.in, far_own O2.out⟩; have CF := hid (CFN.out wm A3 c3 PJ.out.ii); clear ho1 ho2 hb hc3 hd3 O1 O2 TX PX CM)
        | (go_at_call 50; go_loud (have hj := CF.out; with_reducible refine hj.mono ?_; clear hj); rintro e wn ⟨rfl, hb⟩; have PN := hid (PJ.out.below hb); clear hb PJ CF))
      go_roundw
      case rel => exact ⟨A3, n2, c3, B3, d3, v9, mdE E k, mdL ndF [] L k, O ++ [(K1, K2)], rfl, rfl, rfl, rfl, HEN2.out, HLN2.out, HC3.out, HD3.out, HAL2.out, HX2.out, HF2.out, HON2.out, PN.out⟩
      case measure =>
        have e1 : ∀ A n d, lenOf (.slice A n d) = n := fun A n d => rfl
        rw [e1, e1]; have := HN12.out; omega
    | none =>
      have e9 : fstI none = -1 := rfl
      rw [e9]
      have HFL : Hid (Hf = L) := by show _ = _; rw [HF.out]; exact joinHs_none hf
      have HX1 : Hid (X = O ++ fX L.length L) := by show _ = _; rw [HX.out, jX_none hf, HFL.out, List.append_nil]
      have PF0 : Hid (JfI w B1 n1 L (txs O) v wr) := ⟨PI.out.tx, PI.out.ih, PI.out.fh⟩
      have hn9 : n1 ≤ 220 := by have := HON.out; omega
      clear e9 hf HX HF PI HAL hE hc1
      go_wp2
      go_loopw [2, 7] (fun s2 s7 wr => ∃ (B1 : Option Addr) (n1 d1 : Nat) (v : Value) (L : List (List Int)) (O : List Pr), s2 = .slice B1 n1 d1 ∧ v = s7 ∧ L.length = n1 ∧ n1 ≤ d1 ∧ Hid (X = O ++ fX L.length L) ∧ Hid (O.length + n1 ≤ 220) ∧ Hid (JfI w B1 n1 L (txs O) v wr)) (fun s2 _ _ => lenOf s2)
      case atStart => exact ⟨B1, n1, d1, v, L, O, rfl, rfl, hL, hd1, HX1.out, HON.out, PF0.out⟩
      case round =>
        obtain ⟨B1, n1, d1, v, L, O, rfl, rfl, hL, hd1, HX1, HON, PI⟩ := hrel
        clear PF0
        have hn9 : n1 ≤ 220 := by have := HON.out; omega
        by_cases h2n : 1 < n1
        · obtain ⟨q, hq⟩ : ∃ q, n1 = q + 2 := ⟨n1 - 2, by omega⟩
          have hlt : (1 : Int) < (n1 : Int) := by omega
          obtain ⟨k1, hkk⟩ : ∃ k1, k1 = q + 1 := ⟨_, rfl⟩
          obtain ⟨b, o, K1, rfl, hK1, h1, _, _⟩ := PI.out.ih.at (k := q) (by omega)
          obtain ⟨b', o', K2, hbo, hK2, h2, _, _⟩ := PI.out.ih.at (k := k1) (by omega)
          injection hbo with hbo
          injection hbo with eb eo
          subst eb; subst eo
          have q1 : (n1 : Int) - 1 = (k1 : Int) := by omega
          have q2 : (n1 : Int) - 2 = (q : Int) := by omega
          have hw1 : IntKind.i64.wrap (k1 : Int) = (k1 : Int) := IntWalk.i64_in _ (by omega)
          have hw2 : IntKind.i64.wrap (q : Int) = (q : Int) := IntWalk.i64_in _ (by omega)
          have hlt0 : q < n1 := by omega
          have hlt1 : k1 < n1 := by omega
          have HK1 := hid hK1; have HK2 := hid hK2
          have HI1 := hid (info_hash K1 h1.len); have HI2 := hid (info_hash K2 h2.len)
          have CT := hid (fun (w' : World) => gText_b (w := w') h1 h2)
          obtain ⟨f, hf⟩ : ∃ f, f = ndF K1 K2 := ⟨_, rfl⟩
          have HF32 := hid (show H32 f from by rw [hf]; exact h32_sum _)
          have hcn := fun (w' : World) => gNode_any (w := w') h1 h2
          simp only [← hf] at hcn
          have CN := hid hcn
          have HLO := hid (show (txs O).length ≤ 1000 by rw [txs_len]; have := HON.out; omega)
          have HQN := hid (show q ≤ n1 by omega); have HN0 := hid (show 0 < n1 by omega); have HNQ := hid hq
          have HD1 := hid hd1; have HQD := hid (show q ≤ d1 by omega)
          have HQ6 := hid (show ([] : List (List Int)).length + q < 1000000 by simp; omega)
          have HLT := hid (show (L.take q ++ [f]).length = q + 1 by rw [List.length_append, List.length_take, List.length_singleton]; omega)
          have HLL := hid (show (L.take q).length + 1 < 1000000 by rw [List.length_take]; omega)
          have HX2 : Hid (X = O ++ [(K1, K2)] ++ fX (L.take q ++ [f]).length (L.take q ++ [f])) := by
            show _ = _
            rw [HX1.out, fX_more (q := q) (by omega), ← hkk, hK1, hK2, hf]; simp
          have HON2 := hid (show (O ++ [(K1, K2)]).length + (q + 1) ≤ 220 by rw [List.length_append, List.length_singleton]; have := HON.out; omega)
          have PX := PI
          clear PI hkk hK1 hK2 h1 h2 hcn hf hd1 hL HX1 HON hq h2n
          go_wp2
          refine wp_region_L (B := fun w' => Hid (JfI w (some ⟨b, o, none⟩) n1 L (txs O) v w')) [13] (by kernel_rfl) ?_
          change wpAnyL _ _ _ _ _ _ _ _ _ wr.drew
          have Gx0 : Hid (JfI w (some ⟨b, o, none⟩) n1 L (txs O) v wr.drew) := PX.out.below ((Below.refl _ _).drew)
          have PX' : Hid (JfI w (some ⟨b, o, none⟩) n1 L (txs O) v wr.drew) := PX.out.below ((Below.refl _ _).drew)
          clear PX
          have PX := PX'
          clear PX'
          generalize wr.drew = x0 at Gx0 PX ⊢
          refine wpAnyL_pure (i := 0) (oi := { dst := some 48, op := _, type := _, pos := _, after := _, guard := _ }) (v := ?_) rfl (by kernel_rfl) (by kernel_rfl) (by kernel_rfl) (by rfl) (fun _ _ _ h => h) (Or.inl ⟨by kernel_rfl, ?_⟩) (fun _ => Gx0) ?_
          rotate_left
          · (intro w _; go_simp; try with_reducible rfl)
          try simp only [Act.put, List.setIfInBounds_toArray, List.set_cons_zero, List.set_cons_succ]
          refine wpAnyL_pure (i := 1) (oi := { dst := some 49, op := _, type := _, pos := _, after := _, guard := _ }) (v := ?_) rfl (by kernel_rfl) (by kernel_rfl) (by kernel_rfl) (by rfl) (fun _ _ _ h => h) (Or.inl ⟨by kernel_rfl, ?_⟩) (fun _ => Gx0) ?_
          rotate_left
          · (intro w _; go_simp; try with_reducible rfl)
          try simp only [Act.put, List.setIfInBounds_toArray, List.set_cons_zero, List.set_cons_succ]
          refine wpAnyL_pure (i := 2) (oi := { dst := some 50, op := _, type := _, pos := _, after := _, guard := _ }) (v := ?_) rfl (by kernel_rfl) (by kernel_rfl) (by kernel_rfl) (by rfl) (fun _ _ _ h => h) (Or.inl ⟨by kernel_rfl, ?_⟩) (fun _ => Gx0) ?_
          rotate_left
          · (intro w _; go_simp; try with_reducible rfl)
          try simp only [Act.put, List.setIfInBounds_toArray, List.set_cons_zero, List.set_cons_succ]
          refine wpAnyL_pure (i := 3) (oi := { dst := some 51, op := _, type := _, pos := _, after := _, guard := _ }) (v := ?_) rfl (by kernel_rfl) (by kernel_rfl) (by kernel_rfl) (by rfl) (fun _ _ _ h => h) (Or.inl ⟨by kernel_rfl, ?_⟩) (fun _ => Gx0) ?_
          rotate_left
          · (intro w _; go_simp; try with_reducible rfl)
          try simp only [Act.put, List.setIfInBounds_toArray, List.set_cons_zero, List.set_cons_succ]
          refine wpAnyL_pure (i := 4) (oi := { dst := some 52, op := _, type := _, pos := _, after := _, guard := _ }) (v := ?_) rfl (by kernel_rfl) (by kernel_rfl) (by kernel_rfl) (by rfl) (fun _ _ _ h => h) (Or.inl ⟨by kernel_rfl, ?_⟩) (fun _ => Gx0) ?_
          rotate_left
          · (intro w _; go_simp; try with_reducible rfl)
          try simp only [Act.put, List.setIfInBounds_toArray, List.set_cons_zero, List.set_cons_succ]
          refine wpAnyL_take (i := 5) (oi := { dst := some 53, op := _, type := _, pos := _, after := _, guard := _ }) (v := .agg (hc32 K1)) [11, 12, 13, 14] rfl (by kernel_rfl) (by kernel_rfl) (by kernel_rfl) (by kernel_rfl) (fun _ _ _ h => h) (yieldsIf_load_mid (cs := u8s K1) (by rfl) _ _ rfl _ _ rfl _ (fun w' hSw => (inh_rng hSw.out.ih HK1.out)) Tryd.underlying33 rfl HI1.out) Gx0 ?_
          try simp only [Act.put, List.setIfInBounds_toArray, List.set_cons_zero, List.set_cons_succ]
          refine wpAnyL_pure (i := 6) (oi := { dst := some 54, op := _, type := _, pos := _, after := _, guard := _ }) (v := ?_) rfl (by kernel_rfl) (by kernel_rfl) (by kernel_rfl) (by rfl) (fun _ _ _ h => h) (Or.inl ⟨by kernel_rfl, ?_⟩) (fun _ => Gx0) ?_
          rotate_left
          · (intro w _; go_simp; try with_reducible rfl)
          try simp only [Act.put, List.setIfInBounds_toArray, List.set_cons_zero, List.set_cons_succ]
          refine wpAnyL_pure (i := 7) (oi := { dst := some 55, op := _, type := _, pos := _, after := _, guard := _ }) (v := ?_) rfl (by kernel_rfl) (by kernel_rfl) (by kernel_rfl) (by rfl) (fun _ _ _ h => h) (Or.inl ⟨by kernel_rfl, ?_⟩) (fun _ => Gx0) ?_
          rotate_left
          · (intro w _; go_simp; try with_reducible rfl)
          try simp only [Act.put, List.setIfInBounds_toArray, List.set_cons_zero, List.set_cons_succ]
          refine wpAnyL_pure (i := 8) (oi := { dst := some 56, op := _, type := _, pos := _, after := _, guard := _ }) (v := ?_) rfl (by kernel_rfl) (by kernel_rfl) (by kernel_rfl) (by rfl) (fun _ _ _ h => h) (Or.inl ⟨by kernel_rfl, ?_⟩) (fun _ => Gx0) ?_
          rotate_left
          · (intro w _; go_simp; try with_reducible rfl)
          try simp only [Act.put, List.setIfInBounds_toArray, List.set_cons_zero, List.set_cons_succ]
          refine wpAnyL_pure (i := 9) (oi := { dst := some 57, op := _, type := _, pos := _, after := _, guard := _ }) (v := ?_) rfl (by kernel_rfl) (by kernel_rfl) (by kernel_rfl) (by rfl) (fun _ _ _ h => h) (Or.inl ⟨by kernel_rfl, ?_⟩) (fun _ => Gx0) ?_
          rotate_left
          · (intro w _; go_simp; try with_reducible rfl)
          try simp only [Act.put, List.setIfInBounds_toArray, List.set_cons_zero, List.set_cons_succ]
          refine wpAnyL_take (i := 10) (oi := { dst := some 58, op := _, type := _, pos := _, after := _, guard := _ }) (v := .agg (hc32 K2)) [11, 12, 13, 14] rfl (by kernel_rfl) (by kernel_rfl) (by kernel_rfl) (by kernel_rfl) (fun _ _ _ h => h) (yieldsIf_load_mid (cs := u8s K2) (by rfl) _ _ rfl _ _ rfl _ (fun w' hSw => (inh_rng hSw.out.ih HK2.out)) Tryd.underlying33 rfl HI2.out) Gx0 ?_
          try simp only [Act.put, List.setIfInBounds_toArray, List.set_cons_zero, List.set_cons_succ]
          refine wpAnyL_ready (rs := [11]) (by kernel_rfl) (by simp) ?_
          refine (AllReadyL.cons (o := { dst := some 59, op := _, type := _, pos := _, after := _, guard := _ }) rfl (fun Qc hQc => ?_) AllReadyL.nil)
          go_simp
          go_at_call 58
          refine (CT.out x0).mono ?_
          rintro e x1 ⟨B9, d9, rfl, hd9, hb9, hb⟩
          have HB9 := hid hb9; have HD9 := hid hd9
          have PY := hid (PX.out.below hb)
          have Gx1 := PY
          clear hb PX hb9 hd9
          have PX := PY
          clear PY
          go_wp2_with fail
          refine hQc.out _ _ (fun _ => Gx1) ?_
          clear hQc Qc
          try simp only [Act.put, List.setIfInBounds_toArray, List.set_cons_zero, List.set_cons_succ]
          refine wpAnyL_ready (rs := [12]) (by kernel_rfl) (by simp) ?_
          refine (AllReadyL.cons (o := { dst := some 60, op := _, type := _, pos := _, after := _, guard := _ }) rfl (fun Qc hQc => ?_) AllReadyL.nil)
          go_simp
          have NB : Hid (Blk (x1.alloc (.cells #[.slice B9 (ndT K1 K2).length d9] 89)) x1.heap.size 89 #[.slice B9 (ndT K1 K2).length d9]) := Blk.new x1 89 _
          have hb : Below x1.heap.size x1 (x1.alloc (.cells #[.slice B9 (ndT K1 K2).length d9] 89)) := (Below.refl _ _).alloc (Nat.le_refl _) _
          have PY := hid (PX.out.below hb)
          have HB := hid (HB9.out.below hb)
          have Gx2 := PY
          clear hb PX HB9
          refine hQc.out _ _ (fun _ => Gx2) ?_
          clear hQc Qc
          generalize x1.heap.size = g9 at NB ⊢
          generalize x1.alloc (.cells #[.slice B9 (ndT K1 K2).length d9] 89) = x2 at NB PY HB Gx2 ⊢
          have PX := PY
          clear PY
          try simp only [Act.put, List.setIfInBounds_toArray, List.set_cons_zero, List.set_cons_succ]
          refine wpAnyL_ready (rs := [13]) (by kernel_rfl) (by simp) ?_
          refine (AllReadyL.cons (o := { dst := some 61, op := _, type := _, pos := _, after := _, guard := _ }) rfl (fun Qc hQc => ?_) AllReadyL.nil)
          rw [if_pos (by rfl)]
          refine wp_append_txV (.tmp 48) (.tmp 60) rfl w.heap.size (txs O) v rfl PX.out.tx.tx g9 B9 d9 _ (ndT K1 K2) rfl rfl NB.out HD9.out HB.out HLO.out PX.out.tx.bl.size ?_
          intro v9 x3 ht hg
          rw [txs_snoc] at ht
          have PY := hid (PX.out.app ht hg)
          clear ht hg NB PX HB
          refine hQc.out _ _ (unl_no (d := 13) (by rfl) (by kernel_rfl)) ?_
          clear hQc Qc
          have PX := PY
          clear PY
          try simp only [Act.put, List.setIfInBounds_toArray, List.set_cons_zero, List.set_cons_succ]
          refine wpAnyL_pure (i := 14) (oi := { dst := some 7, op := _, type := _, pos := _, after := _, guard := _ }) (v := ?_) rfl (by kernel_rfl) (by kernel_rfl) (by kernel_rfl) (by rfl) (fun _ _ _ h => h) (Or.inl ⟨by kernel_rfl, ?_⟩) (unl_no (d := 13) (by rfl) (by kernel_rfl)) ?_
          rotate_left
          · (intro w _; go_simp; try with_reducible rfl)
          try simp only [Act.put, List.setIfInBounds_toArray, List.set_cons_zero, List.set_cons_succ]
          refine wpAnyL_done (by kernel_rfl) ?_ _
          try simp only [Act.put, List.setIfInBounds_toArray, List.set_cons_zero, List.set_cons_succ]
          have PF := PX
          have IL := hid (cut_front PF.out.ih HQN.out HD1.out)
          clear PX
          obtain ⟨w3, hw3⟩ : ∃ w3, w3 = x3 := ⟨_, rfl⟩
          rw [← hw3] at PF IL ⊢
          clear hw3
          go_upto_region 14 with (first
            | (refine cutH_at rfl (.tmp 63) (.tmp 65) rfl (some ⟨b, o, none⟩) n1 d1 q rfl rfl HQD.out ?_)
            | (at_builtin; refine append_h rfl (.tmp 62) (.tmp 66) rfl w3.heap.size (.slice none 0 0) [] rfl (OwH.nil _ _) _ _ _ (L.take q) IL.out rfl HQ6.out (Nat.le_refl _) ?_; intro v6 w4 ho hg _; rw [List.nil_append] at ho; have PM : Hid (MdI w3 (.slice none 0 0) [] v6 (L.take q) b (o + q * 32) (o + k1 * 32) K1 K2 w4) := (by have hbl := (Below.refl w3.heap.size w3).grown hg (Nat.le_refl _) (fun k e => by cases e); have hbb := PF.out.ih; obtain ⟨b2, o2, e2, hlt2, _⟩ := hbb.2.2.2 HN0.out; injection e2 with e2; injection e2 with e21 e22; subst e21; subst e22; exact ⟨OwI.nil _ _, ho, hbl, rng_below (inh_rng hbb HK1.out) hbl hlt2, rng_below (inh_rng hbb HK2.out) hbl hlt2, hlt2⟩); clear ho hg))
          clear IL
          refine wp_region_L (B := fun w' => Hid (MdI w3 (.slice none 0 0) [] v6 (L.take q) b (o + q * 32) (o + k1 * 32) K1 K2 w')) [13] (by kernel_rfl) ?_
          change wpAnyL _ _ _ _ _ _ _ _ _ w4.drew
          have Gx0 : Hid (MdI w3 (.slice none 0 0) [] v6 (L.take q) b (o + q * 32) (o + k1 * 32) K1 K2 w4.drew) := PM.out.below ((Below.refl _ _).drew)
          have PM' : Hid (MdI w3 (.slice none 0 0) [] v6 (L.take q) b (o + q * 32) (o + k1 * 32) K1 K2 w4.drew) := PM.out.below ((Below.refl _ _).drew)
          clear PM
          have PM := PM'
          clear PM'
          generalize w4.drew = x0 at Gx0 PM ⊢
          refine wpAnyL_pure (i := 0) (oi := { dst := some 68, op := _, type := _, pos := _, after := _, guard := _ }) (v := ?_) rfl (by kernel_rfl) (by kernel_rfl) (by kernel_rfl) (by rfl) (fun _ _ _ h => h) (Or.inl ⟨by kernel_rfl, ?_⟩) (fun _ => Gx0) ?_
          rotate_left
          · (intro w _; go_simp; try with_reducible rfl)
          try simp only [Act.put, List.setIfInBounds_toArray, List.set_cons_zero, List.set_cons_succ]
          refine wpAnyL_pure (i := 1) (oi := { dst := some 69, op := _, type := _, pos := _, after := _, guard := _ }) (v := ?_) rfl (by kernel_rfl) (by kernel_rfl) (by kernel_rfl) (by rfl) (fun _ _ _ h => h) (Or.inl ⟨by kernel_rfl, ?_⟩) (fun _ => Gx0) ?_
          rotate_left
          · (intro w _; go_simp; try with_reducible rfl)
          try simp only [Act.put, List.setIfInBounds_toArray, List.set_cons_zero, List.set_cons_succ]
          refine wpAnyL_pure (i := 2) (oi := { dst := some 70, op := _, type := _, pos := _, after := _, guard := _ }) (v := ?_) rfl (by kernel_rfl) (by kernel_rfl) (by kernel_rfl) (by rfl) (fun _ _ _ h => h) (Or.inl ⟨by kernel_rfl, ?_⟩) (fun _ => Gx0) ?_
          rotate_left
          · (intro w _; go_simp; try with_reducible rfl)
          try simp only [Act.put, List.setIfInBounds_toArray, List.set_cons_zero, List.set_cons_succ]
          refine wpAnyL_pure (i := 3) (oi := { dst := some 71, op := _, type := _, pos := _, after := _, guard := _ }) (v := ?_) rfl (by kernel_rfl) (by kernel_rfl) (by kernel_rfl) (by rfl) (fun _ _ _ h => h) (Or.inl ⟨by kernel_rfl, ?_⟩) (fun _ => Gx0) ?_
          rotate_left
          · (intro w _; go_simp; try with_reducible rfl)
          try simp only [Act.put, List.setIfInBounds_toArray, List.set_cons_zero, List.set_cons_succ]
          refine wpAnyL_pure (i := 4) (oi := { dst := some 72, op := _, type := _, pos := _, after := _, guard := _ }) (v := ?_) rfl (by kernel_rfl) (by kernel_rfl) (by kernel_rfl) (by rfl) (fun _ _ _ h => h) (Or.inl ⟨by kernel_rfl, ?_⟩) (fun _ => Gx0) ?_
          rotate_left
          · (intro w _; go_simp; try with_reducible rfl)
          try simp only [Act.put, List.setIfInBounds_toArray, List.set_cons_zero, List.set_cons_succ]
          refine wpAnyL_take (i := 5) (oi := { dst := some 73, op := _, type := _, pos := _, after := _, guard := _ }) (v := .agg (hc32 K1)) [11, 12, 13, 14] rfl (by kernel_rfl) (by kernel_rfl) (by kernel_rfl) (by kernel_rfl) (fun _ _ _ h => h) (yieldsIf_load_mid (cs := u8s K1) (by rfl) _ _ rfl _ _ rfl _ (fun w' hSw => hSw.out.r1) Tryd.underlying33 rfl HI1.out) Gx0 ?_
          try simp only [Act.put, List.setIfInBounds_toArray, List.set_cons_zero, List.set_cons_succ]
          refine wpAnyL_pure (i := 6) (oi := { dst := some 74, op := _, type := _, pos := _, after := _, guard := _ }) (v := ?_) rfl (by kernel_rfl) (by kernel_rfl) (by kernel_rfl) (by rfl) (fun _ _ _ h => h) (Or.inl ⟨by kernel_rfl, ?_⟩) (fun _ => Gx0) ?_
          rotate_left
          · (intro w _; go_simp; try with_reducible rfl)
          try simp only [Act.put, List.setIfInBounds_toArray, List.set_cons_zero, List.set_cons_succ]
          refine wpAnyL_pure (i := 7) (oi := { dst := some 75, op := _, type := _, pos := _, after := _, guard := _ }) (v := ?_) rfl (by kernel_rfl) (by kernel_rfl) (by kernel_rfl) (by rfl) (fun _ _ _ h => h) (Or.inl ⟨by kernel_rfl, ?_⟩) (fun _ => Gx0) ?_
          rotate_left
          · (intro w _; go_simp; try with_reducible rfl)
          try simp only [Act.put, List.setIfInBounds_toArray, List.set_cons_zero, List.set_cons_succ]
          refine wpAnyL_pure (i := 8) (oi := { dst := some 76, op := _, type := _, pos := _, after := _, guard := _ }) (v := ?_) rfl (by kernel_rfl) (by kernel_rfl) (by kernel_rfl) (by rfl) (fun _ _ _ h => h) (Or.inl ⟨by kernel_rfl, ?_⟩) (fun _ => Gx0) ?_
          rotate_left
          · (intro w _; go_simp; try with_reducible rfl)
          try simp only [Act.put, List.setIfInBounds_toArray, List.set_cons_zero, List.set_cons_succ]
          refine wpAnyL_pure (i := 9) (oi := { dst := some 77, op := _, type := _, pos := _, after := _, guard := _ }) (v := ?_) rfl (by kernel_rfl) (by kernel_rfl) (by kernel_rfl) (by rfl) (fun _ _ _ h => h) (Or.inl ⟨by kernel_rfl, ?_⟩) (fun _ => Gx0) ?_
          rotate_left
          · (intro w _; go_simp; try with_reducible rfl)
          try simp only [Act.put, List.setIfInBounds_toArray, List.set_cons_zero, List.set_cons_succ]
          refine wpAnyL_take (i := 10) (oi := { dst := some 78, op := _, type := _, pos := _, after := _, guard := _ }) (v := .agg (hc32 K2)) [11, 12, 13, 14] rfl (by kernel_rfl) (by kernel_rfl) (by kernel_rfl) (by kernel_rfl) (fun _ _ _ h => h) (yieldsIf_load_mid (cs := u8s K2) (by rfl) _ _ rfl _ _ rfl _ (fun w' hSw => hSw.out.r2) Tryd.underlying33 rfl HI2.out) Gx0 ?_
          try simp only [Act.put, List.setIfInBounds_toArray, List.set_cons_zero, List.set_cons_succ]
          refine wpAnyL_ready (rs := [11]) (by kernel_rfl) (by simp) ?_
          refine (AllReadyL.cons (o := { dst := some 79, op := _, type := _, pos := _, after := _, guard := _ }) rfl (fun Qc hQc => ?_) AllReadyL.nil)
          go_simp
          go_at_call 48
          refine (CN.out x0).mono ?_
          rintro e1 x1 ⟨rfl, hb⟩
          have PY := hid (PM.out.below hb)
          have Gx1 := PY
          clear hb PM
          have PM := PY
          clear PY
          go_wp2_with fail
          refine hQc.out _ _ (fun _ => Gx1) ?_
          clear hQc Qc
          try simp only [Act.put, List.setIfInBounds_toArray, List.set_cons_zero, List.set_cons_succ]
          refine wpAnyL_ready (rs := [12]) (by kernel_rfl) (by simp) ?_
          refine (AllReadyL.cons (o := { dst := some 80, op := _, type := _, pos := _, after := _, guard := _ }) rfl (fun Qc hQc => ?_) AllReadyL.nil)
          rw [if_pos (by rfl)]
          refine wp_hash_one (.tmp 79) rfl f HF32.out rfl ?_
          have NB : Hid (Blk (x1.alloc (.cells (hcs [f]).toArray 33)) x1.heap.size 33 (hcs [f]).toArray) := Blk.new x1 33 (hcs [f]).toArray
          have hb : Below x1.heap.size x1 (x1.alloc (.cells (hcs [f]).toArray 33)) := (Below.refl _ _).alloc (Nat.le_refl _) _
          have PY := hid (PM.out.below hb)
          have Gx2 := PY
          clear hb PM
          refine hQc.out _ _ (fun _ => Gx2) ?_
          clear hQc Qc
          generalize x1.heap.size = g9 at NB ⊢
          generalize x1.alloc (.cells (hcs [f]).toArray 33) = x2 at NB PY Gx2 ⊢
          have PM := PY
          clear PY
          try simp only [Act.put, List.setIfInBounds_toArray, List.set_cons_zero, List.set_cons_succ]
          refine wpAnyL_ready (rs := [13]) (by kernel_rfl) (by simp) ?_
          refine (AllReadyL.cons (o := { dst := some 81, op := _, type := _, pos := _, after := _, guard := _ }) rfl (fun Qc hQc => ?_) AllReadyL.nil)
          rw [if_pos (by rfl)]
          refine wp_app_h1 (.tmp 68) (.tmp 80) rfl w3.heap.size v6 (L.take q) rfl PM.out.oh g9 f HF32.out NB.out rfl HLL.out PM.out.bl.size ?_
          intro v7 x3 ho hg _
          have O7 := hid ho
          have B7 := hid (PM.out.bl.grown hg PM.out.bl.size (fun k e => (PM.out.oh.lt k e).1))
          clear ho hg NB PM
          refine hQc.out _ _ (unl_no (d := 13) (by rfl) (by kernel_rfl)) ?_
          clear hQc Qc
          try simp only [Act.put, List.setIfInBounds_toArray, List.set_cons_zero, List.set_cons_succ]
          refine wpAnyL_pure (i := 14) (oi := { dst := some 12, op := _, type := _, pos := _, after := _, guard := _ }) (v := ?_) rfl (by kernel_rfl) (by kernel_rfl) (by kernel_rfl) (by rfl) (fun _ _ _ h => h) (Or.inl ⟨by kernel_rfl, ?_⟩) (unl_no (d := 13) (by rfl) (by kernel_rfl)) ?_
          rotate_left
          · (intro w _; go_simp; try with_reducible rfl)
          try simp only [Act.put, List.setIfInBounds_toArray, List.set_cons_zero, List.set_cons_succ]
          refine wpAnyL_done (by kernel_rfl) ?_ _
          try simp only [Act.put, List.setIfInBounds_toArray, List.set_cons_zero, List.set_cons_succ]
          obtain ⟨B3, d3, hv7, hd3, _⟩ := O7.out.len
          rw [HLT.out] at hv7 hd3
          have HD3 := hid hd3
          subst hv7
          have TX := hid (PF.out.tx.below B7.out)
          have PN : Hid (JfI w B3 (q + 1) (L.take q ++ [f]) (txs (O ++ [(K1, K2)])) v9 x3) := ⟨TX.out, O7.out.in, far_own O7.out⟩
          clear hd3 O7 B7 TX PF
          go_wp2
          go_roundw
          case rel => exact ⟨B3, q + 1, d3, v9, L.take q ++ [f], O ++ [(K1, K2)], rfl, rfl, HLT.out, HD3.out, HX2.out, HON2.out, PN.out⟩
          case measure =>
            have e1 : ∀ A n d, lenOf (.slice A n d) = n := fun A n d => rfl
            rw [e1, e1]; have := HNQ.out; omega
        · have hlt : ¬ ((1 : Int) < (n1 : Int)) := by omega
          have HXE : Hid (X = O) := by show _ = _; rw [HX1.out, fX_one (by omega), List.append_nil]
          go_wp2
          go_ret
          exact ⟨v, rfl, by rw [HXE.out]; exact PI.out.tx⟩
end Go.Proofs.YtoacjaecfabahaaDoor
