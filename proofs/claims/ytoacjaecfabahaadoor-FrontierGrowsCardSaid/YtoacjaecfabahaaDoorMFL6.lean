/-
  What is proved here: one hash after another joined, the root is the list's at each step: the walk of the statement.
-/
import Derived.Test.YtoacjaecfabahaaDoorMFGr
set_option linter.unusedSimpArgs false
set_option linter.unusedVariables false
namespace Go.Proofs.YtoacjaecfabahaaDoor
open Go.ChangeShapes Go.WideShapes Go.ChangeAt Go.RowKit
set_option linter.unusedVariables false
set_option linter.unusedSimpArgs false
set_option maxRecDepth 20000

/-- between two of the hashes -/
def GrI (F : Nat → List Int) (w : World) (g i : Nat) (wr : World) : Prop :=
  Below w.heap.size w wr ∧ ∃ A n c, Blk wr g 25 (rgc 0 (i : Int) (.slice A n c)) ∧ Rg F wr 0 i A n ∧ n ≤ c
/-- as RgIc; the hashes lie in a new block -/
def RgIo (F : Nat → List Int) (w : World) (x y : Nat) (e : Ending) (w' : World) : Prop := ∃ A n c, e = .returned (.tuple #[.agg (rgc (x : Int) (y : Int) (.slice A n c)), .int .i64 0]) ∧ Rg F w' x y A n ∧ n ≤ c ∧ Below w.heap.size w w' ∧ ∀ b o, A = some ⟨b, o, none⟩ → w.heap.size ≤ b
theorem rgio_of {F : Nat → List Int} {w : World} {x y : Nat} {e : Ending} {w' : World} (h : RgYes w (x : Int) (y : Int) (hsT (tw ndF F) x (seg x y)) e w') : RgIo F w x y e w' := by
  obtain ⟨v, he, ho, hb⟩ := h
  obtain ⟨A, c, hv, h1, h2⟩ := ho.len
  subst hv
  exact ⟨A, _, c, he, ⟨ho.in, hs_len _ _ _⟩, by omega, hb, fun b o ha => (ho.lt b (by rw [ha]; rfl)).1⟩
theorem jo_at {F : Nat → List Int} {w : World} {x y z n m c d : Nat} {A B : Option Addr} (h1 : Rg F w x y A n) (h2 : Rg F w y z B m) (hxy : x ≤ y) (hyz : y ≤ z) (hz : z ≤ 2147483647) (hTb : Tab w) (hTd : TabD w) :
    Calls Tryd.prog 20 #[.agg (rgc (x : Int) (y : Int) (.slice A n c)), .agg (rgc (y : Int) (z : Int) (.slice B m d))] w (RgIo F w x z) :=
  (fJoin_yes h1.h h2.h hxy hyz hz h1.n h2.n hTb hTd (two_of ndF (fun p j => tw_cn ndF F p j) hxy hyz)).mono fun e w' h => rgio_of h
theorem grI_next {F : Nat → List Int} {w x : World} {g k n c : Nat} {A : Option Addr} {cs : Array Value} (hg : w.heap.size ≤ g) (hb : Below w.heap.size w x) (hk : Blk x g 25 cs) (hr : Rg F x 0 k A n) (hc : n ≤ c) (hA : ∀ b o, A = some ⟨b, o, none⟩ → b ≠ g) :
    GrI F w g k (x.setRow g (rgc 0 (k : Int) (.slice A n c))) :=
  ⟨below_setRow hb hg _, A, n, c, hk.row _, ⟨hr.h.keep (by simp) (fun b o e => setRow_other x g b _ (hA b o e)), hr.n⟩, hc⟩
theorem load_a {ops : Array Oper} {rest : List Oper} {o : Oper} {a : Act} {w : World} {Q : Exit → Act → World → Prop} (s x : Operand) (ho : o.op = .call { callee := .builtin .append, args := #[s, x], argTypes := #[22, 22] }) (h : wpList Tryd.prog ops Q (o :: rest) a w) : wpList Tryd.prog ops Q (o :: rest) a w := h
theorem OwH.lit0 {w : World} {g base : Nat} (h : Blk w g 33 #[]) (hb : base ≤ g) : OwH base w (.slice (some ⟨g, 0, none⟩) 0 0) [] :=
  ⟨⟨rfl, .inr ⟨g, 0, #[], rfl, hb, h, Nat.le_refl _, by unfold maxLen; omega, by simp, by rfl⟩⟩, fun s hs => by simp at hs⟩
set_option maxHeartbeats 16000000 in
theorem fgrows_walk {A : Option Addr} {n c : Nat} {L : List (List Int)} {w : World} (hin : InH w A n L) (hc : n ≤ c) (hTb0 : Tab w) (hTd0 : TabD w) :
    Calls Tryd.prog 5 #[.slice A n c] w fun e w' => e = .returned (.bool true) ∧ Below w.heap.size w w' := by
  have CA := hid (fun (w' : World) (hb : Below w.heap.size w w') => fawake_any w' (hTb0.below hb))
  have BB := hid (Below.refl w.heap.size w)
  by_cases h40 : n ≤ 40
  · have h40' : ¬ ((40 : Int) < (n : Int)) := by omega
    obtain ⟨F, hF⟩ : ∃ F : Nat → List Int, F = fun p => L[p - 0]?.getD [] := ⟨_, rfl⟩
    have hL : L = lst F 0 n := by rw [hF, ← hin.1]; exact lst_of [] 0 L
    have HL := hid hL; have HIN := hid hin; have HTb := hid hTb0; have HTd := hid hTd0; have HC := hid hc; have H40 := hid h40
    have hz := zero_fRng
    clear hF hL hin hc hTb0 hTd0
    go_enter Tryd.func5, Tryd.ntmps5
    go_wp2_with (go_at_call 12; first
      | (with_reducible refine (CA.out _ BB.out).mono ?_; rintro e w2 ⟨rfl, hb2⟩; have B2 := hid (BB.out.trans (hb2.mono BB.out.size)); clear hb2))
    have G0 : Hid (GrI F w w2.heap.size 0 (w2.alloc (.cells (rgc 0 0 (.slice none 0 0)) 25))) := by
      refine ⟨B2.out.alloc B2.out.size _, none, 0, 0, Blk.new w2 25 _, ⟨InH.nil _ _, rfl⟩, Nat.le_refl _⟩
    go_loopw [4] (fun s4 wr => ∃ i : Nat, i ≤ n ∧ s4 = .int .i64 (i : Int) ∧ Hid (GrI F w w2.heap.size i wr)) (fun s _ => n - (intOf s).toNat)
    case atStart => exact ⟨0, Nat.zero_le _, rfl, G0.out⟩
    case round =>
      obtain ⟨i, hi, rfl, GI⟩ := hrel
      clear G0
      by_cases hlt : i < n
      · obtain ⟨bw, Ai, ni, ci, kb, rg, hnc⟩ := GI.out
        have hlti : (i : Int) < (n : Int) := by omega
        obtain ⟨k, hk⟩ : ∃ k, k = i + 1 := ⟨_, rfl⟩
        have hkn : k ≤ n := by omega
        have q3 : (i : Int) + 1 = (k : Int) := by omega
        have e2 : (L.drop i).take (k - i) = lst F i (k - i) := by rw [HL.out, lst_drop F 0 hi, lst_take F (0 + i) (by omega), Nat.zero_add]
        have e3 : (L.drop 0).take k = lst F 0 k := by rw [List.drop_zero, HL.out, lst_take F 0 hkn]
        have i2 := HIN.out.cut (l := i) (m := k - i) (by omega) HC.out
        have i3 := HIN.out.cut (l := 0) (m := k) (by omega) HC.out
        rw [e2] at i2; rw [e3] at i3
        have COF := hid (oc_at (y := k) (c := c - i) (a := (i : Int)) rfl (by omega) (i2.below bw) (by have := H40.out; omega) (by have := H40.out; omega) (HTb.out.below bw))
        have I3 := hid i3
        have BW := hid bw; have KR := hid kb; have RG := hid rg; have HNC := hid hnc; have HKN := hid hkn; have HK := hid hk
        have HIK := hid (show i ≤ k by omega); have HKC := hid (show k ≤ c by have := HC.out; omega)
        have HNI := hid (show ni < 1000000 from rg_few rg (by have := H40.out; omega))
        clear bw kb rg hnc e2 e3 i2 i3 GI hkn hk hi hz
        go_upto_region 9 with (first
          | (refine cutLH_at rfl (.tmp 28) (.tmp 29) (.tmp 31) rfl A n c i k rfl rfl rfl HIK.out HKC.out ?_)
          | (go_at_call 13; go_loud (have hj := COF.out; with_reducible refine hj.mono ?_; clear hj); intro e w3 hq; unfold RgIc at hq; obtain ⟨A5, n5, c5, he, hr, hc5, hb⟩ := hq; subst he; have hb' := hb.alloc hb.size (.cells (rgc (i : Int) (k : Int) (.slice A5 n5 c5)) 25); have K3 := hid (Blk.new w3 25 (rgc (i : Int) (k : Int) (.slice A5 n5 c5))); have R3 := hid (hr.below ((Below.refl _ _).alloc (Nat.le_refl _) (.cells (rgc (i : Int) (k : Int) (.slice A5 n5 c5)) 25))); have B3 := hid (BW.out.trans (hb'.mono BW.out.size)); have KR3 := hid (KR.out.below hb'); have RG3 := hid (RG.out.below hb'); have KR3a := hid (KR3.out.alloc (.cells #[] 33)); have d2 : ((w3.alloc (.cells (rgc (i : Int) (k : Int) (.slice A5 n5 c5)) 25)).alloc (.cells #[] 33)).cell? ⟨w2.heap.size, 2, none⟩ = some (.slice Ai ni ci) := KR3a.out.cell 2; have HZ3 : Hid ((w3.alloc (.cells (rgc (i : Int) (k : Int) (.slice A5 n5 c5)) 25)).heap.size = w3.heap.size + 1) := (by show _ = _; simp); have HB5 : Hid (w3.heap.size + 1 ≤ ((w3.alloc (.cells (rgc (i : Int) (k : Int) (.slice A5 n5 c5)) 25)).alloc (.cells #[] 33)).heap.size) := (by show _ ≤ _; simp); have E0 : Hid (OwH (w3.heap.size + 1) ((w3.alloc (.cells (rgc (i : Int) (k : Int) (.slice A5 n5 c5)) 25)).alloc (.cells #[] 33)) (.slice (some ⟨w3.heap.size + 1, 0, none⟩) 0 0) []) := (by have h := Blk.new (w3.alloc (.cells (rgc (i : Int) (k : Int) (.slice A5 n5 c5)) 25)) 33 #[]; rw [HZ3.out] at h; exact OwH.lit0 h (Nat.le_refl _)); have RG3a := hid ((RG3.out.below ((Below.refl _ _).alloc (Nat.le_refl _) (.cells #[] 33)))); have BA3 : Hid (Below (w3.heap.size + 1) (w3.alloc (.cells (rgc (i : Int) (k : Int) (.slice A5 n5 c5)) 25)) ((w3.alloc (.cells (rgc (i : Int) (k : Int) (.slice A5 n5 c5)) 25)).alloc (.cells #[] 33))) := (by have h := (Below.refl (w3.alloc (.cells (rgc (i : Int) (k : Int) (.slice A5 n5 c5)) 25)).heap.size (w3.alloc (.cells (rgc (i : Int) (k : Int) (.slice A5 n5 c5)) 25))).alloc (Nat.le_refl _) (.cells #[] 33); rw [HZ3.out] at h; exact h); clear hr hb hb' hc5 KR3a)
          | (with_reducible refine load_a (.tmp 36) (.tmp 38) rfl ?_; go_loud (refine append_h rfl (.tmp 36) (.tmp 38) rfl (w3.heap.size + 1) (.slice (some ⟨w3.heap.size + 1, 0, none⟩) 0 0) [] rfl E0.out Ai ni ci _ RG3a.out.h rfl (by have := HNI.out; simpa using this) (by first | exact HB5.out | exact BA3.out.size) ?_; intro v4 w4 ho hg _; have B4 : Hid (Below (w3.alloc (.cells (rgc (i : Int) (k : Int) (.slice A5 n5 c5)) 25)).heap.size (w3.alloc (.cells (rgc (i : Int) (k : Int) (.slice A5 n5 c5)) 25)) w4) := (by have h4 := BA3.out.grown hg (by first | exact HB5.out | exact BA3.out.size) (fun k e => by simp only [Value.ownBlock] at e; first | (have e' : some (w3.heap.size + 1) = some k := e; injection e' with e'; omega) | (simp at e; omega)); rw [← HZ3.out] at h4; exact hid h4); have O4 := hid ho; clear ho hg d2 E0 RG3a BA3)))
        have K4 := hid (K3.out.below B4.out); have R4 := hid (R3.out.below B4.out); have KR4 := hid (KR3.out.below B4.out); have RG4 := hid (RG3.out.below B4.out); have BW4 := hid (B3.out.trans (B4.out.mono B3.out.size))
        have HKB := hid (show k ≤ 2147483647 by have := HKN.out; have := H40.out; omega)
        have CJ0 := jo_at (c := ci) (d := c5) RG4.out R4.out (Nat.zero_le _) HIK.out HKB.out (HTb.out.below BW4.out) (HTd.out.below BW4.out)
        unfold RgIo at CJ0
        rw [show ((0 : Nat) : Int) = 0 from rfl] at CJ0
        have CJ := hid CJ0
        clear CJ0 K3 R3 KR3 RG3 B3 COF KR RG BW B4
        go_upto_region 10 with (first
          | (with_reducible refine load_g 25 (.tmp 3) rfl ?_; refine load_pl 25 (.tmp 3) rfl rfl _ 0 rfl _ _ (fblk_rng KR4.out) Tryd.underlying25 rfl (info_fRng _ _ _) (rgc 0 (i : Int) (.slice Ai ni ci)) rfl ?_)
          | (with_reducible refine load_g 25 (.tmp 5) rfl ?_; refine load_pl 25 (.tmp 5) rfl rfl _ 0 rfl _ _ (fblk_rng K4.out) Tryd.underlying25 rfl (info_fRng _ _ _) (rgc (i : Int) (k : Int) (.slice A5 n5 c5)) rfl ?_)
          | (go_at_call 20; go_loud (have hj := CJ.out; with_reducible refine hj.mono ?_; clear hj); intro e w5 hq; obtain ⟨A8, n8, c8, he, hr, hc8, hb, hge⟩ := hq; subst he; have hb' := hb.alloc hb.size (.cells (rgc 0 (k : Int) (.slice A8 n8 c8)) 25); have K8 := hid (Blk.new w5 25 (rgc 0 (k : Int) (.slice A8 n8 c8))); have R8 := hid (hr.below ((Below.refl _ _).alloc (Nat.le_refl _) (.cells (rgc 0 (k : Int) (.slice A8 n8 c8)) 25))); have HC8 := hid hc8; have HG8 := hid (fun b o (e : A8 = some ⟨b, o, none⟩) => show b ≠ w2.heap.size from fun he => by have h1 := hge b o e; have h2 := KR4.out.lt; omega); have B5 := hid (BW4.out.trans (hb'.mono BW4.out.size)); have B45 := hid hb'; clear hr hb hb' hc8 hge))
        obtain ⟨A7, c7, hv7, hc7, _⟩ := O4.out.len
        rw [List.nil_append] at hv7 hc7
        subst hv7
        have I7 := O4.out.in
        rw [List.nil_append] at I7
        have h7l : (hsT (tw ndF F) 0 (seg 0 i)).length = ni := by rw [RG4.out.n]; exact hs_len _ _ _
        rw [h7l] at I7 hc7 ⊢
        have CS0 := gSame_any (c := c7) (d := ci) (I7.below B45.out) (RG4.out.h.below B45.out) HNI.out HNI.out
        rw [decide_eq_true rfl] at CS0
        have CS := hid CS0
        have KR5 := hid (KR4.out.below B45.out)
        have d2 : (w5.alloc (.cells (rgc 0 (k : Int) (.slice A8 n8 c8)) 25)).cell? ⟨w2.heap.size, 2, none⟩ = some (.slice Ai ni ci) := KR5.out.cell 2
        clear CS0 I7 O4 hc7 h7l K4 R4 KR4 RG4
        go_upto_region 12 with (go_at_call 24; go_loud (have hj := CS.out; with_reducible refine hj.mono ?_; clear hj); rintro e w6 ⟨rfl, hb⟩; have B6 := hid (B5.out.trans (hb.mono B5.out.size)); have K6 := hid (K8.out.below hb); have R6 := hid (R8.out.below hb); have KR6 := hid (KR5.out.below hb); clear hb)
        obtain ⟨rt, hrt⟩ : ∃ rt, rt = rootL ndF emp (lst F 0 k) := ⟨_, rfl⟩
        have CR0 := root_at (c := c8) R6.out HKB.out HC8.out (HTb.out.below B6.out) (HTd.out.below B6.out)
        rw [← hrt] at CR0
        have CR := hid CR0
        have HRT := hid hrt
        have hro : H32 rt := by rw [hrt]; exact root_ok I3.out.ok
        have HRO := hid hro
        obtain ⟨Z, HZ, hZ0, hZs⟩ := zero_Hash
        have HIR := hid (info_hash rt hro.len); have HZR := hid (hz_size HZ hro)
        clear CR0 hrt hro d2 CS CJ
        go_upto_region 13 with (first
          | (with_reducible refine load_g 25 (.tmp 8) rfl ?_; refine load_pl 25 (.tmp 8) rfl rfl _ 0 rfl _ _ (fblk_rng K6.out) Tryd.underlying25 rfl (info_fRng _ _ _) (rgc 0 (k : Int) (.slice A8 n8 c8)) rfl ?_)
          | (go_at_call 15; go_loud (have hj := CR.out; with_reducible refine hj.mono ?_; clear hj); rintro e w7 ⟨rfl, hb⟩; have hb' := below_setRow (hb.alloc hb.size (.cells Z 33)) hb.size (hc32 rt); have B7 := hid (B6.out.trans (hb'.mono B6.out.size)); have K7 := hid (K6.out.below hb'); have R7 := hid (R6.out.below hb'); have KR7 := hid (KR6.out.below hb'); have KZ7 := hid (Blk.new w7 33 Z); have KH7 := hid (KZ7.out.row (hc32 rt)); clear hb hb')
          | (refine wpList_store_row rfl 33 (.tmp 10) (.tmp 62) rfl w7.heap.size (hc32 rt) rfl rfl 33 Z KZ7.out HIR.out HZR.out (u8s_all rt) ?_))
        have HN0 := fun w => neq_h rt rt HRO.out HRO.out w
        rw [decide_eq_true rfl] at HN0
        have hneq := HN0
        generalize (w7.alloc (.cells Z 33)).setRow w7.heap.size (hc32 rt) = w8 at B7 K7 R7 KR7 KH7 ⊢
        have KH8 := KH7; have B8 := B7; have K8 := K7; have R8 := R7; have KR8 := KR7
        have CG0 := fun (w' : World) (hb : Below w8.heap.size w8 w') => gList_any ((I3.out.below B8.out).below hb) (show k < 1000000 by have := H40.out; have := HKN.out; omega) HKC.out
        simp only [← HRT.out] at CG0
        have CG := hid CG0
        have hw1 : IntKind.i64.wrap (k : Int) = (k : Int) := IntWalk.i64_in _ (by have := HKN.out; have := H40.out; omega)
        clear HN0 CG0 KH7 B7 K7 R7 KR7 CR B6 K6 R6 KR6
        refine wp_region_held (S := fun w' => Hid (Below w8.heap.size w8 w')) (by kernel_rfl) ?_
        change wpAnyH _ _ _ _ _ _ _ _ w8.drew
        have Gx0 : Hid (Below w8.heap.size w8 w8.drew) := (Below.refl _ _).drew
        generalize w8.drew = x0 at Gx0  ⊢
        refine wpAnyH_take (i := 0) (oi := { dst := some 64, op := _, type := _, pos := _, after := _, guard := _ }) (v := ?_) rfl (by kernel_rfl) (by kernel_rfl) (by kernel_rfl) (fun _ _ _ h => h) (Or.inl ⟨by kernel_rfl, ?_⟩) Gx0 ?_
        rotate_left
        · (intro w hSw; go_simp; try with_reducible rfl)
        try simp only [Act.put, List.setIfInBounds_toArray, List.set_cons_zero, List.set_cons_succ]
        refine wpAnyH_take (i := 1) (oi := { dst := some 65, op := _, type := _, pos := _, after := _, guard := _ }) (v := ?_) rfl (by kernel_rfl) (by kernel_rfl) (by kernel_rfl) (fun _ _ _ h => h) (Or.inl ⟨by kernel_rfl, ?_⟩) Gx0 ?_
        rotate_left
        · (intro w hSw; go_simp; try with_reducible rfl)
        try simp only [Act.put, List.setIfInBounds_toArray, List.set_cons_zero, List.set_cons_succ]
        refine wpAnyH_take (i := 2) (oi := { dst := some 66, op := _, type := _, pos := _, after := _, guard := _ }) (v := ?_) rfl (by kernel_rfl) (by kernel_rfl) (by kernel_rfl) (fun _ _ _ h => h) (Or.inl ⟨by kernel_rfl, ?_⟩) Gx0 ?_
        rotate_left
        · (intro w hSw; go_simp; try with_reducible rfl)
        try simp only [Act.put, List.setIfInBounds_toArray, List.set_cons_zero, List.set_cons_succ]
        refine wpAnyH_take (i := 3) (oi := { dst := some 67, op := _, type := _, pos := _, after := _, guard := _ }) (v := .agg (hc32 rt)) rfl (by kernel_rfl) (by kernel_rfl) (by kernel_rfl) (fun _ _ _ h => h) (yieldsIf_load_mid (cs := u8s rt) (by rfl) _ _ rfl _ _ rfl _ (fun w' hSw => (blk_row (KH8.out.below hSw.out))) Tryd.underlying33 rfl HIR.out) Gx0 ?_
        try simp only [Act.put, List.setIfInBounds_toArray, List.set_cons_zero, List.set_cons_succ]
        refine wpAnyH_take (i := 4) (oi := { dst := some 68, op := _, type := _, pos := _, after := _, guard := _ }) (v := ?_) rfl (by kernel_rfl) (by kernel_rfl) (by kernel_rfl) (fun _ _ _ h => h) (Or.inl ⟨by kernel_rfl, ?_⟩) Gx0 ?_
        rotate_left
        · (intro w hSw; go_simp; try with_reducible rfl)
        try simp only [Act.put, List.setIfInBounds_toArray, List.set_cons_zero, List.set_cons_succ]
        refine wpAnyH_take (i := 5) (oi := { dst := some 69, op := _, type := _, pos := _, after := _, guard := _ }) (v := ?_) rfl (by kernel_rfl) (by kernel_rfl) (by kernel_rfl) (fun _ _ _ h => h) (Or.inl ⟨by kernel_rfl, ?_⟩) Gx0 ?_
        rotate_left
        · (intro w hSw; go_simp; try with_reducible rfl)
        try simp only [Act.put, List.setIfInBounds_toArray, List.set_cons_zero, List.set_cons_succ]
        refine wpAnyH_take (i := 6) (oi := { dst := some 70, op := _, type := _, pos := _, after := _, guard := _ }) (v := ?_) rfl (by kernel_rfl) (by kernel_rfl) (by kernel_rfl) (fun _ _ _ h => h) (Or.inl ⟨by kernel_rfl, ?_⟩) Gx0 ?_
        rotate_left
        · (intro w hSw; go_simp; try with_reducible rfl)
        try simp only [Act.put, List.setIfInBounds_toArray, List.set_cons_zero, List.set_cons_succ]
        refine wpAnyH_take (i := 7) (oi := { dst := some 71, op := _, type := _, pos := _, after := _, guard := _ }) (v := .slice (slA A 0 c 32) k c) rfl (by kernel_rfl) (by kernel_rfl) (by kernel_rfl) (fun _ _ _ h => h) (Or.inl ⟨by kernel_rfl, ?_⟩) Gx0 ?_
        · (intro w hSw; exact exec_cutH rfl A n c k rfl rfl HKC.out w)
        try simp only [Act.put, List.setIfInBounds_toArray, List.set_cons_zero, List.set_cons_succ]
        refine wpAnyH_ready (rs := [8]) (by kernel_rfl) (by simp) ?_
        refine (AllReadyH.cons (o := { dst := some 72, op := _, type := _, pos := _, after := _, guard := _ }) rfl (fun Qc hQc => ?_) AllReadyH.nil)
        go_simp
        go_at_call 19
        refine (CG.out x0 Gx0.out).mono ?_
        rintro e x1 ⟨rfl, hb⟩
        have Gx1 := hid (Gx0.out.trans (hb.mono Gx0.out.size))
        clear hb
        go_wp2_with fail
        refine hQc.out _ _ Gx1 (fun hHeld => ?_)
        clear hQc Qc hHeld
        try simp only [Act.put, List.setIfInBounds_toArray, List.set_cons_zero, List.set_cons_succ]
        refine wpAnyH_take (i := 9) (oi := { dst := some 73, op := _, type := _, pos := _, after := _, guard := _ }) (v := ?_) rfl (by kernel_rfl) (by kernel_rfl) (by kernel_rfl) (fun _ _ _ h => h) (Or.inl ⟨by kernel_rfl, ?_⟩) Gx1 ?_
        rotate_left
        · (intro w hSw; go_simp; try with_reducible rfl)
        try simp only [Act.put, List.setIfInBounds_toArray, List.set_cons_zero, List.set_cons_succ]
        refine wpAnyH_take (i := 10) (oi := { dst := some 74, op := _, type := _, pos := _, after := _, guard := _ }) (v := ?_) rfl (by kernel_rfl) (by kernel_rfl) (by kernel_rfl) (fun _ _ _ h => h) (Or.inl ⟨by kernel_rfl, ?_⟩) Gx1 ?_
        rotate_left
        · (intro w hSw; go_simp; try with_reducible rfl)
        try simp only [Act.put, List.setIfInBounds_toArray, List.set_cons_zero, List.set_cons_succ]
        refine wpAnyH_done (by kernel_rfl) ?_ _
        try simp only [Act.put, List.setIfInBounds_toArray, List.set_cons_zero, List.set_cons_succ]
        have KR9 := hid (KR8.out.below Gx1.out)
        have K9 := hid (K8.out.below Gx1.out)
        have R9 := hid (R8.out.below Gx1.out)
        have B9 := hid (B8.out.trans (Gx1.out.mono B8.out.size))
        have GN := hid (grI_next B2.out.size B9.out KR9.out R9.out HC8.out HG8.out)
        clear KH8 Gx1 Gx0 KR8 K8 R8 B8 CG hneq
        go_wp2_with (first
          | (with_reducible refine load_g 25 (.tmp 8) rfl ?_; refine load_pl 25 (.tmp 8) rfl rfl _ 0 rfl _ _ (fblk_rng K9.out) Tryd.underlying25 rfl (info_fRng _ _ _) (rgc 0 (k : Int) (.slice A8 n8 c8)) rfl ?_)
          | (refine wpList_store_row rfl 25 (.tmp 3) (.tmp 75) rfl w2.heap.size (rgc 0 (k : Int) (.slice A8 n8 c8)) rfl rfl 25 (rgc 0 (i : Int) (.slice Ai ni ci)) KR9.out (info_fRng _ _ _) rfl (rgc_ones _ _ rfl) ?_))
        go_roundw
        case rel => exact ⟨k, HKN.out, by go_num, GN.out⟩
        case measure => simp [intOf]; omega
      · obtain rfl : i = n := by omega
        obtain ⟨bw, Ai, ni, ci, kb, rg, hnc⟩ := GI.out
        have d1 : wr.cell? ⟨w2.heap.size, 1, none⟩ = some (.int .i64 (i : Int)) := kb.cell 1
        have BW := hid bw
        clear bw kb rg hnc GI hlt
        go_wp2
        try go_ret
        exact ⟨rfl, BW.out⟩
  · have h40' : (40 : Int) < (n : Int) := by omega
    clear hin hTb0 hTd0
    go_enter Tryd.func5, Tryd.ntmps5
    go_wp2_with (go_at_call 12; first
      | (with_reducible refine (CA.out _ BB.out).mono ?_; rintro e w2 ⟨rfl, hb2⟩; have B2 := hid (BB.out.trans (hb2.mono BB.out.size)); clear hb2)
      | (with_reducible refine (CA.out _ B2.out).mono ?_; rintro e w3 ⟨rfl, hb3⟩; have B3 := hid (B2.out.trans (hb3.mono B2.out.size)); clear hb3))
    go_ret
    exact ⟨rfl, B3.out⟩
end Go.Proofs.YtoacjaecfabahaaDoor
