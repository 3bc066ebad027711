/-
  What is proved here: whether ranges, one behind the other, are a list's with a root, as the code tells it.
-/
import Derived.Test.YtoacjaecfabahaaDoorMJJ
import Derived.Test.YtoacjaecfabahaaDoorMFRx
set_option linter.unusedSimpArgs false
set_option linter.unusedVariables false
namespace Go.Proofs.YtoacjaecfabahaaDoor
open Go.ChangeShapes Go.WideShapes Go.ChangeAt Go.RowKit
set_option linter.unusedVariables false
set_option linter.unusedSimpArgs false
set_option maxRecDepth 20000

/-- a range in memory -/
structure Rr where
  a : Int
  b : Int
  A : Option Addr
  n : Nat
  c : Nat
  L : List (List Int)
abbrev rrc (r : Rr) : Array Value := rgc r.a r.b (.slice r.A r.n r.c)
def rrs (R : List Rr) : List Value := R.flatMap fun r => (rrc r).toList
theorem rrs_at : ∀ {R : List Rr} {j : Nat} {r : Rr}, R[j]? = some r → ∀ (k : Nat) (v : Value), (rrc r).toList[k]? = some v → (rrs R)[j * 3 + k]? = some v
  | [], j, r, h, _, _, _ => by simp at h
  | q :: R, 0, r, h, k, v, hv => by
    rw [List.getElem?_cons_zero] at h
    injection h with h
    subst h
    have hk : k < (rrc q).toList.length := by
      rcases Nat.lt_or_ge k (rrc q).toList.length with h1 | h1
      · exact h1
      · rw [List.getElem?_eq_none h1] at hv; cases hv
    unfold rrs
    rw [List.flatMap_cons, Nat.zero_mul, Nat.zero_add, List.getElem?_append_left hk]; exact hv
  | q :: R, j + 1, r, h, k, v, hv => by
    rw [List.getElem?_cons_succ] at h
    have hl : (rrc q).toList.length = 3 := rfl
    unfold rrs
    rw [List.flatMap_cons, List.getElem?_append_right (by omega), hl, show (j + 1) * 3 + k - 3 = j * 3 + k by omega]
    exact rrs_at h k v hv
/-- ranges joined one behind the other -/
def arS : List Rr → Int → Int → List (List Int) → Option (Int × Int × List (List Int))
  | [], a, b, H => some (a, b, H)
  | r :: R, a, b, H => if jn a b r.a r.b H.length r.L.length = true then arS R a r.b (jnH a b r.a r.b H r.L) else none
def arR (root : List Int) : Option (Int × Int × List (List Int)) → Bool
  | none => false
  | some (a, b, H) => rtB a b H.length && decide (rtV a b H = root)
def arB (root : List Int) (R : List Rr) : Bool := arR root (arS R 0 0 [])
structure ArI (w : World) (root : List Int) (R : List Rr) (j : Nat) (a b : Int) (A : Option Addr) (n c : Nat) (H : List (List Int)) (wr : World) : Prop where
  kb : Blk wr w.heap.size 33 (hc32 root)
  k5 : Blk wr (w.heap.size + 1) 25 (rgc a b (.slice A n c))
  ih : InH wr A n H
  nc : n ≤ c
  nl : H.length ≤ 62
  bl : Below w.heap.size w wr
  ne : ∀ b o, A = some ⟨b, o, none⟩ → b ≠ w.heap.size + 1
  st : arS (R.drop j) a b H = arS R 0 0 []
theorem ArI.next {w x : World} {root : List Int} {R : List Rr} {j : Nat} {a b : Int} {B : Option Addr} {m d : Nat} {K : List (List Int)} {cs : Array Value} (hkb : Blk x w.heap.size 33 (hc32 root)) (hk5 : Blk x (w.heap.size + 1) 25 cs)
    (hi : InH x B m K) (hmd : m ≤ d) (hl : K.length ≤ 62) (hb : Below w.heap.size w x) (hn : ∀ b o, B = some ⟨b, o, none⟩ → b ≠ w.heap.size + 1) (hst : arS (R.drop j) a b K = arS R 0 0 []) :
    ArI w root R j a b B m d K (x.setRow (w.heap.size + 1) (rgc a b (.slice B m d))) :=
  ⟨hkb.rowFar (by omega) _, hk5.row _, hi.keep (by simp) (fun b o e => setRow_other x (w.heap.size + 1) b _ (hn b o e)), hmd, hl, below_setRow hb (by omega) _, hn, hst⟩
set_option maxHeartbeats 16000000 in
theorem jAre_any {w : World} {root : List Int} {g k : Nat} {R : List Rr} (hroot : H32 root) (hk : R.length = k) (hg : Blk w g 25 (rrs R).toArray) (hR : ∀ r ∈ R, InH w r.A r.n r.L ∧ r.n < 1000000) (hk3 : k ≤ 3) (hTb : Tab w) (hTd : TabD w) :
    Calls Tryd.prog 55 #[hV root, .slice (some ⟨g, 0, none⟩) k k] w fun e w' => e = .returned (.bool (arB root R)) ∧ Below w.heap.size w w' := by
  obtain ⟨res, hres⟩ : ∃ res, res = arB root R := ⟨_, rfl⟩
  have HRES := hid hres
  rw [← hres]
  have k1 := (Blk.new w 33 (hc32 root)).alloc (.cells (rgc 0 0 (.slice none 0 0)) 25)
  have k2 := Blk.new (w.alloc (.cells (hc32 root) 33)) 25 (rgc 0 0 (.slice none 0 0))
  rw [show (w.alloc (.cells (hc32 root) 33)).heap.size = w.heap.size + 1 by simp] at k2
  have b1 : Below w.heap.size w ((w.alloc (.cells (hc32 root) 33)).alloc (.cells (rgc 0 0 (.slice none 0 0)) 25)) := ((Below.refl _ _).alloc (Nat.le_refl _) _).alloc (by simp) _
  have PI0 : Hid (ArI w root R 0 0 0 none 0 0 [] ((w.alloc (.cells (hc32 root) 33)).alloc (.cells (rgc 0 0 (.slice none 0 0)) 25))) :=
    ⟨k1, k2, InH.nil _ _, Nat.le_refl _, by simp, b1, fun b o e => (by cases e), rfl⟩
  have HK := hid hk; have HG := hid hg; have HR := hid hR; have HTb := hid hTb; have HTd := hid hTd; have HRT := hid hroot
  have hz := zero_fRng
  obtain ⟨Z, HZ, hZ0, hZs⟩ := zero_Hash
  clear hres k1 k2 b1 hk hg hR hTb hTd hroot
  go_enter Tryd.func55, Tryd.ntmps55
  go_wp2
  go_loopw [14] (fun s14 wr => ∃ (j : Nat) (a b : Int) (A : Option Addr) (n c : Nat) (H : List (List Int)), j ≤ k ∧ s14 = .int .i64 (j : Int) ∧ Hid (ArI w root R j a b A n c H wr)) (fun s _ => k - (intOf s).toNat)
  case atStart => exact ⟨0, 0, 0, none, 0, 0, [], Nat.zero_le _, rfl, PI0.out⟩
  case round =>
    obtain ⟨j, a, b, A, n, c, H, hj, rfl, PI⟩ := hrel
    clear PI0
    by_cases hlt : j < k
    · have hlt' : (j : Int) < (k : Int) := by omega
      obtain ⟨r, hr⟩ : ∃ r, R[j]? = some r := ⟨_, List.getElem?_eq_getElem (by rw [HK.out]; exact hlt)⟩
      have hrd : R.drop j = r :: R.drop (j + 1) := by
        have hlt2 : j < R.length := by rw [HK.out]; exact hlt
        rw [List.drop_eq_getElem_cons hlt2]
        rw [List.getElem?_eq_getElem hlt2] at hr
        injection hr with hr
        rw [hr]
      have hrng : wr.rangeAt g (j * 3) (rrc r).toList := fun q v hv => by
        have h1 := rrs_at hr q v hv
        have h2 := (HG.out.below PI.out.bl).cell (j * 3 + q)
        rw [List.getElem?_toArray, h1] at h2
        exact h2
      obtain ⟨hrI, hrn⟩ := HR.out r (List.mem_of_getElem? hr)
      have hst := PI.out.st
      rw [hrd] at hst
      obtain ⟨ra, rb, rA, rn, rc, rL⟩ := r
      have hst' : (if jn a b ra rb H.length rL.length = true then arS (R.drop (j + 1)) a rb (jnH a b ra rb H rL) else none) = arS R 0 0 [] := hst
      have hIr : InH w rA rn rL := hrI
      have hrn' : rn < 1000000 := hrn
      have hl1 := PI.out.ih.1; have hl2 := hIr.1
      have hn62 : n < 1000000 := by have := PI.out.nl; omega
      have HRG : Hid (wr.rangeAt g (j * 3) (rgc ra rb (.slice rA rn rc)).toList) := hrng
      have K5 := hid PI.out.k5; have KB := hid PI.out.kb; have BL := hid PI.out.bl
      have B1 : Hid (Below wr.heap.size wr (wr.alloc (.cells (rgc ra rb (.slice rA rn rc)) 25))) := (Below.refl _ _).alloc (Nat.le_refl _) _
      have K7 := hid (Blk.new wr 25 (rgc ra rb (.slice rA rn rc)))
      have BLa := hid (BL.out.trans (B1.out.mono BL.out.size))
      have K5a := hid (K5.out.below B1.out); have KBa := hid (KB.out.below B1.out)
      have hcj := fJoin_x (a := a) (b := b) (a' := ra) (b' := rb) (c := c) (d := rc) (PI.out.ih.below B1.out) (hIr.below BLa.out) hn62 hrn' (HTb.out.below BLa.out) (HTd.out.below BLa.out)
      unfold OfA jnX jnY jnQ at hcj
      rw [hl1, hl2] at hst'
      have hh5 : w.heap.size + 1 < (wr.alloc (.cells (rgc ra rb (.slice rA rn rc)) 25)).heap.size := K5a.out.lt
      have HH5 := hid hh5
      by_cases hjn : jn a b ra rb n rn = true
      · simp only [if_pos hjn] at hcj
        rw [if_pos hjn] at hst'
        have CJ := hid hcj
        have HST := hid hst'
        have HNL := hid (jnH_few (a := a) (b := b) (a' := ra) (b' := rb) (L := H) (M := rL))
        clear hst hst' hcj hrd hr hrng hrI hrn hIr hrn' hl1 hl2 hn62 hh5 hjn
        generalize jnH a b ra rb H rL = H' at CJ HST HNL
        go_wp2_with (first
          | (with_reducible refine load_g 25 (.tmp 16) rfl ?_; refine load_pl 25 (.tmp 16) rfl rfl g (j * 3) rfl _ _ HRG.out Tryd.underlying25 rfl (info_fRng _ _ _) (rgc ra rb (.slice rA rn rc)) rfl ?_)
          | (with_reducible refine load_g 25 (.tmp 5) rfl ?_; refine load_pl 25 (.tmp 5) rfl rfl _ 0 rfl _ _ (fblk_rng K5a.out) Tryd.underlying25 rfl (info_fRng _ _ _) (rgc a b (.slice A n c)) rfl ?_)
          | (with_reducible refine load_g 25 (.tmp 7) rfl ?_; refine load_pl 25 (.tmp 7) rfl rfl _ 0 rfl _ _ (fblk_rng K7.out) Tryd.underlying25 rfl (info_fRng _ _ _) (rgc ra rb (.slice rA rn rc)) rfl ?_)
          | (go_at_call 20; go_loud (have hj := CJ.out; with_reducible refine hj.mono ?_; clear hj); intro e w5 hq; obtain ⟨A8, n8, c8, he, hi, hc, hb, hge⟩ := hq; subst he; have hb' := hb.alloc hb.size (.cells (rgc a rb (.slice A8 n8 c8)) 25); have K8 := hid (Blk.new w5 25 (rgc a rb (.slice A8 n8 c8))); have I8 := hid (hi.below ((Below.refl _ _).alloc (Nat.le_refl _) (.cells (rgc a rb (.slice A8 n8 c8)) 25))); have B8 := hid (BLa.out.trans (hb'.mono BLa.out.size)); have K58 := hid (K5a.out.below hb'); have KB8 := hid (KBa.out.below hb'); have HC8 := hid hc; have HG8 := hid (fun b' o (e : A8 = some ⟨b', o, none⟩) => show b' ≠ w.heap.size + 1 from fun he => by have h1 := hge b' o e; have h2 := HH5.out; omega); have PN := hid (ArI.next KB8.out K58.out I8.out HC8.out HNL.out B8.out HG8.out HST.out); clear hi hc hb hb' hge)
          | (with_reducible refine load_g 25 (.tmp 8) rfl ?_; refine load_pl 25 (.tmp 8) rfl rfl _ 0 rfl _ _ (fblk_rng K8.out) Tryd.underlying25 rfl (info_fRng _ _ _) (rgc a rb (.slice A8 n8 c8)) rfl ?_)
          | (refine wpList_store_row rfl 25 (.tmp 5) (.tmp 26) rfl (w.heap.size + 1) (rgc a rb (.slice A8 n8 c8)) rfl rfl 25 (rgc a b (.slice A n c)) K58.out (info_fRng _ _ _) rfl (rgc_ones _ _ rfl) ?_))
        go_roundw
        case rel => exact ⟨j + 1, a, rb, A8, n8, c8, H', by omega, by go_num, PN.out⟩
        case measure => simp [intOf]; omega
      · simp only [if_neg hjn] at hcj
        rw [if_neg hjn] at hst'
        have CJ := hid hcj
        have HRF : Hid (res = false) := by show _ = _; rw [HRES.out]; unfold arB; rw [← hst']; rfl
        clear hst hst' hcj hrd hr hrng hrI hrn hIr hrn' hl1 hl2 hn62 hh5 hjn
        generalize jnH a b ra rb H rL = H' at CJ
        go_wp2_with (first
          | (with_reducible refine load_g 25 (.tmp 16) rfl ?_; refine load_pl 25 (.tmp 16) rfl rfl g (j * 3) rfl _ _ HRG.out Tryd.underlying25 rfl (info_fRng _ _ _) (rgc ra rb (.slice rA rn rc)) rfl ?_)
          | (with_reducible refine load_g 25 (.tmp 5) rfl ?_; refine load_pl 25 (.tmp 5) rfl rfl _ 0 rfl _ _ (fblk_rng K5a.out) Tryd.underlying25 rfl (info_fRng _ _ _) (rgc a b (.slice A n c)) rfl ?_)
          | (with_reducible refine load_g 25 (.tmp 7) rfl ?_; refine load_pl 25 (.tmp 7) rfl rfl _ 0 rfl _ _ (fblk_rng K7.out) Tryd.underlying25 rfl (info_fRng _ _ _) (rgc ra rb (.slice rA rn rc)) rfl ?_)
          | (go_at_call 20; go_loud (have hj := CJ.out; with_reducible refine hj.mono ?_; clear hj); intro e w5 hq; obtain ⟨A8, n8, c8, he, hi, hc, hb, hge⟩ := hq; subst he; have B8 := hid (BLa.out.trans ((hb.alloc hb.size (.cells (rgc 0 0 (.slice A8 n8 c8)) 25)).mono BLa.out.size)); clear hi hc hb hge))
        go_ret
        exact ⟨by rw [HRF.out]; rfl, B8.out⟩
    · obtain rfl : j = k := by omega
      have hnl : ¬ ((j : Int) < (j : Int)) := by omega
      have hst := PI.out.st
      rw [List.drop_of_length_le (by rw [HK.out]; exact Nat.le_refl _)] at hst
      have hst' : some (a, b, H) = arS R 0 0 [] := hst
      have hrr : res = (rtB a b H.length && decide (rtV a b H = root)) := by rw [HRES.out]; unfold arB; rw [← hst']; rfl
      obtain ⟨rt, hrt⟩ : ∃ rt, rt = rtV a b H := ⟨_, rfl⟩
      have hro : H32 rt := by rw [hrt]; exact rtV_ok PI.out.ih.ok
      have hcr := fRoot_x (x := a) (y := b) PI.out.ih (by have := PI.out.nl; have := PI.out.ih.1; omega) PI.out.nc (HTb.out.below PI.out.bl) (HTd.out.below PI.out.bl)
      unfold RtA rtQ at hcr
      rw [← hrt] at hcr hrr
      have HIR := hid (info_hash rt hro.len); have HZR := hid (hz_size HZ hro); have HIT := hid (info_hash root HRT.out.len)
      have K5 := hid PI.out.k5; have KB := hid PI.out.kb; have BL := hid PI.out.bl
      have heq := fun w => eql_h rt root hro HRT.out w
      have HRR := hid hrr
      clear hst hst' hrr hrt
      by_cases hB : rtB a b H.length = true
      · rw [if_pos hB] at hcr
        have CR := hid hcr
        have HR2 : Hid (res = decide (rt = root)) := by show _ = _; rw [HRR.out, hB]; simp
        clear hcr hB hro
        go_wp2_with (first
          | (with_reducible refine load_g 25 (.tmp 5) rfl ?_; refine load_pl 25 (.tmp 5) rfl rfl _ 0 rfl _ _ (fblk_rng K5.out) Tryd.underlying25 rfl (info_fRng _ _ _) (rgc a b (.slice A n c)) rfl ?_)
          | (go_at_call 15; go_loud (have hj := CR.out; with_reducible refine hj.mono ?_; clear hj); rintro e w7 ⟨rfl, hb⟩; have hb' := below_setRow (hb.alloc hb.size (.cells Z 33)) hb.size (hc32 rt); have B7 := hid (BL.out.trans (hb'.mono BL.out.size)); have KB7 := hid (KB.out.below hb'); have KZ := hid (Blk.new w7 33 Z); have KH := hid (KZ.out.row (hc32 rt)); clear hb hb')
          | (refine wpList_store_row rfl 33 (.tmp 10) (.tmp 31) rfl w7.heap.size (hc32 rt) rfl rfl 33 Z KZ.out HIR.out HZR.out (u8s_all rt) ?_)
          | (refine load_at rfl 33 (.tmp 10) rfl w7.heap.size 0 rfl (u8s rt) _ (blk_row KH.out) Tryd.underlying33 rfl HIR.out (hc32 rt) rfl ?_)
          | (refine load_at rfl 33 (.tmp 2) rfl w.heap.size 0 rfl (u8s root) _ (blk_row KB7.out) Tryd.underlying33 rfl HIT.out (hc32 root) rfl ?_))
        go_ret
        exact ⟨by rw [HR2.out]; rfl, B7.out⟩
      · rw [if_neg hB] at hcr
        have CR := hid hcr
        have HR2 : Hid (res = false) := by show _ = _; rw [HRR.out]; simp [hB]
        clear hcr hB hro
        go_wp2_with (first
          | (with_reducible refine load_g 25 (.tmp 5) rfl ?_; refine load_pl 25 (.tmp 5) rfl rfl _ 0 rfl _ _ (fblk_rng K5.out) Tryd.underlying25 rfl (info_fRng _ _ _) (rgc a b (.slice A n c)) rfl ?_)
          | (go_at_call 15; go_loud (have hj := CR.out; with_reducible refine hj.mono ?_; clear hj); rintro e w7 ⟨rfl, hb⟩; have hb' := below_setRow (hb.alloc hb.size (.cells Z 33)) hb.size (hc32 rt); have B7 := hid (BL.out.trans (hb'.mono BL.out.size)); have KZ := hid (Blk.new w7 33 Z); clear hb hb')
          | (refine wpList_store_row rfl 33 (.tmp 10) (.tmp 31) rfl w7.heap.size (hc32 rt) rfl rfl 33 Z KZ.out HIR.out HZR.out (u8s_all rt) ?_))
        go_ret
        exact ⟨by rw [HR2.out]; rfl, B7.out⟩
end Go.Proofs.YtoacjaecfabahaaDoor
