/-
  What is proved here: to which node 1 a path leads, as the code climbs it.
-/
import Derived.Test.YtobceieadjpaaaaDoorMLsp
import Derived.Test.YtobceieadjpaaaaDoorMLsr
import Derived.Test.YtobceieadjpaaaaDoorMRr1
import Derived.Deep.DeepCutAuto
import Derived.Deep.RegionLaw
import Derived.Test.YtobceieadjpaaaaDoorMLsU
import Derived.Test.YtobceieadjpaaaaDoorMLmR1
set_option linter.unusedSimpArgs false
set_option linter.unusedVariables false
namespace Go.Proofs.YtobceieadjpaaaaDoor
open Go.ChangeShapes Go.WideShapes Go.ChangeAt Go.RowKit
set_option linter.unusedVariables false
set_option maxRecDepth 20000

theorem OnlyS.setRow {S : Nat → Prop} {a w : World} (h : OnlyS S a w) {g : Nat} (hg : a.heap.size ≤ g) (cs : Array Value) : OnlyS S a (w.setRow g cs) :=
  ⟨h.os, h.tape, h.output, by simpa using h.size, fun k hk hn => (setRow_other w g k cs (by omega)).trans (h.block k hk hn)⟩
/-- what stays while a path is climbed: the id, the hash so far, the reader with what is left, the result's cell -/
structure ClI (id H l : List Int) (Z : Array Value) (rb rd gi gh gz : Nat) (w w' : World) : Prop where
  b0 : Blk w' gi 23 (u8s id).toArray
  b1 : Blk w' gh 26 (u8s H).toArray
  bz : Blk w' gz 26 Z
  rr : RRepA w' rb rd l
  os : OnlyS (Of (some ⟨rb, 0, none⟩)) w w'
section
variable {id H H' l l' : List Int} {Z : Array Value} {rb rd gi gh gz : Nat} {w w' w2 : World}
theorem ClI.below (h : ClI id H l Z rb rd gi gh gz w w') (hb : Below w'.heap.size w' w2) : ClI id H l Z rb rd gi gh gz w w2 :=
  ⟨h.b0.below hb, h.b1.below hb, h.bz.below hb, h.rr.below hb, h.os.trans (OnlyS.of_below hb (Nat.le_refl _))⟩
theorem ClI.read (h : ClI id H l Z rb rd gi gh gz w w') (ho : OnlyS (Of (some ⟨rb, 0, none⟩)) w' w2) (hr : RRepA w2 rb rd l') (n0 : gi ≠ rb) (n1 : gh ≠ rb) (nz : gz ≠ rb) : ClI id H l' Z rb rd gi gh gz w w2 :=
  ⟨h.b0.same (ho.block _ h.b0.lt (not_of n0)), h.b1.same (ho.block _ h.b1.lt (not_of n1)), h.bz.same (ho.block _ h.bz.lt (not_of nz)), hr, h.os.trans ho⟩
theorem ClI.put (h : ClI id H l Z rb rd gi gh gz w w') (n0 : gi ≠ gh) (nz : gz ≠ gh) (nr : rb ≠ gh) (nd : rd ≠ gh) (hg : w.heap.size ≤ gh) (H' : List Int) : ClI id H' l Z rb rd gi gh gz w (w'.setRow gh (u8s H').toArray) :=
  ⟨h.b0.rowFar n0 _, h.b1.row _, h.bz.rowFar nz _, h.rr.rowFar nr nd _, h.os.setRow hg _⟩
end

set_option maxHeartbeats 8000000 in
theorem climb_any (id : List Int) (h K q : Nat) (pk l : List Int) (rb rd : Nat) (w : World) (hi : Idn id) (hK : K = 2 ^ h) (hq : q < K) (hh : h ≤ 4) (hk : Ky pk) (hl : l.length = 32 * h) (hb : Bs l) (hR : RRepA w rb rd l) (hrd : rd < w.heap.size)
    (ht : ∀ w1, OnlyS (Of (some ⟨rb, 0, none⟩)) w w1 → Tab w1) :
    Calls Tryd.prog 53 #[.agg (u8s id).toArray, .int .i64 ((K : Int) + (q : Int)), .agg (u8s pk).toArray, .pointer (some ⟨rb, 0, none⟩)] w fun e w' => e = .returned (.agg (u8s (clm id h (K + q) (vleaf id (K + q) pk) l)).toArray) ∧ OnlyS (Of (some ⟨rb, 0, none⟩)) w w' := by
  obtain ⟨Z, HZ, hZ0, hZs⟩ := zero_Hash
  have HZ32 : Hid (Z.size = 32) := by show _ = _; rw [HZ.out, List.size_toArray, u8s_length]; simp
  have hrb := hR.lt
  obtain ⟨hk1, hk2, hk3, hb0⟩ := blks3 w (u8s id).toArray (u8s pk).toArray Z 23 26 26
  have S0 : Hid ((((w.alloc (.cells (u8s id).toArray 23)).alloc (.cells (u8s pk).toArray 26)).alloc (.cells Z 26)).heap.size = w.heap.size + 1 + 1 + 1) := by show _ = _; simp
  have G0 : Hid (ClI id pk l Z rb rd w.heap.size (w.heap.size + 1) (w.heap.size + 1 + 1) w (((w.alloc (.cells (u8s id).toArray 23)).alloc (.cells (u8s pk).toArray 26)).alloc (.cells Z 26))) := ⟨hk1, hk2, hk3, hR.below hb0, OnlyS.of_below hb0 (Nat.le_refl _)⟩
  have CN : Hid (∀ (g : Nat) (r u : Int) (n : Nat) (L : List (List Int)) w1, 0 ≤ r ∧ r < 100 → 0 ≤ u ∧ u < 65536 → n = L.length → n ≤ 4 → (∀ f ∈ L, Ky f) → Blk w1 g 26 (u8s L.flatten).toArray → OnlyS (Of (some ⟨rb, 0, none⟩)) w w1 → Calls Tryd.prog 62 #[.agg (u8s id).toArray, .int .i64 r, .int .i64 u, .slice (some ⟨g, 0, none⟩) n n] w1 fun e w' => e = .returned (.agg (u8s (under id r u L.flatten)).toArray) ∧ Below w1.heap.size w1 w') :=
    fun g r u n L w1 hr hu hn hn4 hL hg ho => sNode_any id r u g n n L w1 hi (by omega) hu hn hn4 hL hg (ht w1 ho)
  have hKl : 1 ≤ K ∧ K ≤ 16 := by
    rw [hK]
    have : h = 0 ∨ h = 1 ∨ h = 2 ∨ h = 3 ∨ h = 4 := by omega
    rcases this with rfl | rfl | rfl | rfl | rfl <;> decide
  have HUP := hid (fun j hj => up_range (h := h) hK hq j hj)
  obtain ⟨LF, hLF⟩ : ∃ LF, LF = vleaf id (K + q) pk := ⟨_, rfl⟩
  have hlf : Ky LF := by rw [hLF]; exact under_ky _ _ _ _
  have CNL : Hid (∀ g w1, Blk w1 g 26 (u8s pk).toArray → OnlyS (Of (some ⟨rb, 0, none⟩)) w w1 → Calls Tryd.prog 62 #[.agg (u8s id).toArray, .int .i64 ((K : Int) + (q : Int)), .int .i64 33410, .slice (some ⟨g, 0, none⟩) 1 1] w1 fun e w' => e = .returned (.agg (u8s LF).toArray) ∧ Below w1.heap.size w1 w') := fun g w1 hg ho => by
    have := CN.out g ((K : Int) + (q : Int)) 33410 1 [pk] w1 (by omega) (by decide) rfl (by decide) (fun f hf => by simp at hf; rw [hf]; exact hk) (by simpa using hg) ho
    rw [show [pk].flatten = pk by simp] at this
    rw [hLF]
    exact this
  have HLF := hid hlf
  have IDI := hid (id_info hi); have PL := hid (hash_info hk.len)
  have LFI := hid (info_hash LF hlf.len); have LFZ : Hid (Z.size = (u8s LF).toArray.size) := HZ32.out.trans (hash_size hlf.len).symm
  have PKY := hid hk
  have HLL := hid hl
  rw [← hLF]
  obtain ⟨k1, k16⟩ := hKl
  obtain ⟨RS, hRS⟩ : ∃ RS, RS = clm id h (K + q) LF l := ⟨_, rfl⟩
  have hrs : Ky RS := by rw [hRS]; exact clm_ky _ _ _ _ _ hlf
  have HRS := hid hRS
  have RSI := hid (info_hash RS hrs.len); have RSL := hid (hash_info hrs.len); have RSZ : Hid (Z.size = (u8s RS).toArray.size) := HZ32.out.trans (hash_size hrs.len).symm
  rw [← hRS]
  clear hk1 hk2 hk3 hb0 hLF hlf hK hi ht hk hl hb hR hRS hrs
  go_enter Tryd.func53, Tryd.ntmps53
  go_wp2_with (first
    | (refine load_at rfl 23 (.tmp 4) rfl w.heap.size 0 rfl (u8s id) _ (blk_row G0.out.b0) Tryd.underlying23 rfl IDI.out (u8s id).toArray rfl ?_)
    | (refine load_at rfl 26 (.tmp 6) rfl (w.heap.size + 1) 0 rfl (u8s pk) _ (blk_row G0.out.b1) Tryd.underlying26 rfl PL.out (u8s pk).toArray rfl ?_)
    | (refine hashes_one rfl (.tmp 13) rfl pk PKY.out rfl ?_; have G1 := hid (G0.out.below ((Below.refl _ _).alloc (Nat.le_refl _) (.cells (u8s pk).toArray 26))); have P1 := hid (Blk.new (((w.alloc (.cells (u8s id).toArray 23)).alloc (.cells (u8s pk).toArray 26)).alloc (.cells Z 26)) 26 (u8s pk).toArray); generalize (((w.alloc (.cells (u8s id).toArray 23)).alloc (.cells (u8s pk).toArray 26)).alloc (.cells Z 26)).alloc (.cells (u8s pk).toArray 26) = w1 at G1 P1 ⊢; generalize (((w.alloc (.cells (u8s id).toArray 23)).alloc (.cells (u8s pk).toArray 26)).alloc (.cells Z 26)).heap.size = gl at P1 ⊢)
    | (go_at_call 62; refine (CNL.out gl _ P1.out G1.out.os).mono ?_; rintro e w2 ⟨rfl, hb2⟩; have G2 := hid (G1.out.below hb2); clear hb2)
    | (refine wpList_store_row rfl 26 (.tmp 9) (.tmp 15) rfl w2.heap.size (u8s LF).toArray rfl rfl 26 Z (Blk.new w2 26 Z) LFI.out LFZ.out (u8s_all LF) ?_; have hbb : Below w2.heap.size w2 ((w2.alloc (.cells Z 26)).setRow w2.heap.size (u8s LF).toArray) := below_setRow ((Below.refl _ _).alloc (Nat.le_refl _) _) (Nat.le_refl _) _; have P3 : Hid (Blk ((w2.alloc (.cells Z 26)).setRow w2.heap.size (u8s LF).toArray) w2.heap.size 26 (u8s LF).toArray) := (Blk.new w2 26 Z).row _; have G3 := hid (G2.out.below hbb); have LG := hid G2.out.bz.lt; clear hbb; generalize (w2.alloc (.cells Z 26)).setRow w2.heap.size (u8s LF).toArray = w3 at P3 G3 ⊢; generalize w2.heap.size = gh at P3 LG ⊢))
  have GH : Hid (ClI id (clm id 0 (K + q) LF l) (l.drop (32 * 0)) Z rb rd w.heap.size gh (w.heap.size + 1 + 1) w w3) := ⟨G3.out.b0, P3.out, G3.out.bz, G3.out.rr, G3.out.os⟩
  clear G0 G1 G2 G3 P1 P3 S0 CNL LFI LFZ PL
  try go_frame
  go_loopw [1] (fun i wr => ∃ j : Nat, j ≤ h ∧ i = .int .i64 (((K + q) / 2 ^ j : Nat) : Int) ∧ Hid (ClI id (clm id j (K + q) LF l) (l.drop (32 * j)) Z rb rd w.heap.size gh (w.heap.size + 1 + 1) w wr)) (fun i _ => (intOf i).toNat)
  case atStart => exact ⟨0, Nat.zero_le _, by simp, GH⟩
  case round =>
    obtain ⟨j, hj, rfl, HG⟩ := hrel
    clear GH
    have hu := HUP.out j hj
    by_cases hlt : j < h
    · have HSN := hid (clm_snoc id j (K + q) LF l)
      have HDV : Hid ((K + q) / 2 ^ (j + 1) = (K + q) / 2 ^ j / 2) := by show _ = _; rw [Nat.div_div_eq_div_mul]; congr 1
      have HLD : Hid ((l.drop (32 * j)).drop 32 = l.drop (32 * (j + 1))) := by show _ = _; rw [List.drop_drop]; congr 1
      have hck := clm_ky id j (K + q) LF l HLF.out
      obtain ⟨r, hr⟩ : ∃ r, r = (K + q) / 2 ^ j := ⟨_, rfl⟩
      rw [← hr] at hu HSN HDV
      rw [← hr]
      have hr1 : 1 < r := hu.1.2 hlt
      have hr2 : r < 32 := by have := hu.2.2; omega
      have hri : (1 : Int) < (r : Int) := by omega
      have hlen : (l.drop (32 * j)).length = 32 * h - 32 * j := by rw [List.length_drop, HLL.out]
      obtain ⟨lj, hlj⟩ : ∃ lj, lj = l.drop (32 * j) := ⟨_, rfl⟩
      rw [← hlj] at HG HSN HLD hlen
      obtain ⟨H, hH⟩ : ∃ H, H = clm id j (K + q) LF l := ⟨_, rfl⟩
      rw [← hH] at HG HSN hck
      have hbs : Bs lj := by obtain ⟨_, _, _, _, _, h4, _⟩ := HG.out.rr; exact h4
      obtain ⟨O, hO⟩ : ∃ O, O = lj.take 32 := ⟨_, rfl⟩
      have hok : Ky O := by rw [hO]; exact ⟨by rw [List.length_take]; omega, hbs.take 32⟩
      have CPL := hid (RPlainA rb rd 32 lj wr HG.out.rr (by omega))
      rw [← hO] at CPL HSN
      have CBE := hid (fun w => beside_any r hr2 w)
      have HNK := under_ky id ((r / 2 : Nat) : Int) 33667 (if r % 2 = 0 then H ++ O else O ++ H)
      have HUE : Hid (upn id r H O = under id ((r / 2 : Nat) : Int) 33667 (if r % 2 = 0 then H ++ O else O ++ H)) := rfl
      rw [HUE.out] at HSN
      have OI := hid (info_hash O hok.len); have OZ : Hid (Z.size = (u8s O).toArray.size) := HZ32.out.trans (hash_size hok.len).symm
      have OL := hid (hash_info hok.len); have HLI := hid (hash_info hck.len)
      have HOK := hid hok; have HCK := hid hck
      have haa := fun ga c9 w => arrayAt_32 ga c9 w
      have N1 : Hid (w.heap.size ≠ rb ∧ gh ≠ rb ∧ w.heap.size + 1 + 1 ≠ rb ∧ w.heap.size ≠ gh ∧ w.heap.size + 1 + 1 ≠ gh ∧ rb ≠ gh ∧ rd ≠ gh ∧ w.heap.size ≤ gh) := by have := LG.out; show _ ∧ _; omega
      have O32 := hid hok.len
      have hj1 : j + 1 ≤ h := hlt
      clear hu hr hlen hlj hH hbs hO hlt
      by_cases hm : r % 2 = 0
      · have hbe : bsd r = r + 1 := by unfold bsd; omega
        have hlt2 : (r : Int) < ((r + 1 : Nat) : Int) := by omega
        have hld : decide ((r : Int) < ((r + 1 : Nat) : Int)) = true := decide_eq_true hlt2
        rw [if_pos hm] at HSN HNK HUE
        rw [hbe] at CBE
        have CNB : Hid (∀ g w1, Blk w1 g 26 (u8s (H ++ O)).toArray → OnlyS (Of (some ⟨rb, 0, none⟩)) w w1 → Calls Tryd.prog 62 #[.agg (u8s id).toArray, .int .i64 ((r : Int) / 2), .int .i64 33667, .slice (some ⟨g, 0, none⟩) 2 2] w1 fun e w' => e = .returned (.agg (u8s (under id ((r / 2 : Nat) : Int) 33667 (H ++ O))).toArray) ∧ Below w1.heap.size w1 w') := fun g w1 hg ho => by
          have := CN.out g ((r : Int) / 2) 33667 2 [H, O] w1 (by omega) (by decide) rfl (by decide) (fun f hf => by simp at hf; rcases hf with rfl | rfl; exact HCK.out; exact HOK.out) (by simpa using hg) ho
          rw [show [H, O].flatten = H ++ O by simp] at this
          rw [show ((r / 2 : Nat) : Int) = (r : Int) / 2 by omega]
          exact this
        generalize under id ((r / 2 : Nat) : Int) 33667 (H ++ O) = NN at CNB HSN HNK
        have NI := hid (info_hash NN HNK.len); have NZ : Hid ((u8s H).toArray.size = (u8s NN).toArray.size) := (hash_size HCK.out.len).trans (hash_size HNK.len).symm
        clear HNK HUE CN hbe hok hck
        go_wp2_with (first
          | (go_at_call 48; refine CPL.out.mono ?_; rintro e w4 ⟨A4, c4, rfl, hc4, hf4, hr4, ho4⟩; obtain ⟨ga, cur, rfl, hga, hkc, hcur⟩ := hf4 (by rw [O32.out]; decide); have RO := hid (rng_of hkc hcur); have G4 := hid (HG.out.read ho4 hr4 N1.out.1 N1.out.2.1 N1.out.2.2.1); clear hc4 hf4 hr4 ho4 hga hkc hcur)
          | (refine load_at rfl 26 (.tmp 22) rfl ga 0 rfl (u8s O) _ RO.out Tryd.underlying26 rfl OL.out (u8s O).toArray rfl ?_)
          | (refine wpList_store_row rfl 26 (.tmp 10) (.tmp 23) rfl w4.heap.size (u8s O).toArray rfl rfl 26 Z (Blk.new w4 26 Z) OI.out OZ.out (u8s_all O) ?_; have hbb : Below w4.heap.size w4 ((w4.alloc (.cells Z 26)).setRow w4.heap.size (u8s O).toArray) := below_setRow ((Below.refl _ _).alloc (Nat.le_refl _) _) (Nat.le_refl _) _; have P5 : Hid (Blk ((w4.alloc (.cells Z 26)).setRow w4.heap.size (u8s O).toArray) w4.heap.size 26 (u8s O).toArray) := (Blk.new w4 26 Z).row _; have G5 := hid (G4.out.below hbb); clear hbb; generalize (w4.alloc (.cells Z 26)).setRow w4.heap.size (u8s O).toArray = w5 at P5 G5 ⊢; generalize w4.heap.size = go at P5 ⊢)
          | (go_at_call 63; refine (CBE.out _).mono ?_; rintro e wq ⟨rfl, rfl⟩)
          | (refine load_at rfl 23 (.tmp 4) rfl w.heap.size 0 rfl (u8s id) _ (blk_row G5.out.b0) Tryd.underlying23 rfl IDI.out (u8s id).toArray rfl ?_)
          | (refine load_at rfl 26 (.tmp 9) rfl gh 0 rfl (u8s H) _ (blk_row G5.out.b1) Tryd.underlying26 rfl HLI.out (u8s H).toArray rfl ?_)
          | (refine load_at rfl 26 (.tmp 10) rfl go 0 rfl (u8s O) _ (blk_row P5.out) Tryd.underlying26 rfl OL.out (u8s O).toArray rfl ?_)
          | (refine hashes_two rfl (.tmp 31) (.tmp 32) rfl H O HCK.out HOK.out rfl rfl ?_; have G6 := hid (G5.out.below ((Below.refl _ _).alloc (Nat.le_refl _) (.cells (u8s (H ++ O)).toArray 26))); have P6 := hid (Blk.new w5 26 (u8s (H ++ O)).toArray); generalize w5.alloc (.cells (u8s (H ++ O)).toArray 26) = w6 at G6 P6 ⊢; generalize w5.heap.size = gl at P6 ⊢)
          | (go_at_call 62; refine (CNB.out gl _ P6.out G6.out.os).mono ?_; rintro e w7 ⟨rfl, hb7⟩; have G7 := hid (G6.out.below hb7); clear hb7)
          | (refine wpList_store_row rfl 26 (.tmp 9) (.tmp 34) rfl gh (u8s NN).toArray rfl rfl 26 (u8s H).toArray G7.out.b1 NI.out NZ.out (u8s_all NN) ?_; have G8 := hid (G7.out.put N1.out.2.2.2.1 N1.out.2.2.2.2.1 N1.out.2.2.2.2.2.1 N1.out.2.2.2.2.2.2.1 N1.out.2.2.2.2.2.2.2 NN); generalize w7.setRow gh (u8s NN).toArray = w8 at G8 ⊢))
        exact ⟨⟨j + 1, by omega, by rw [HDV.out]; go_num, by (show ClI _ _ _ _ _ _ _ _ _ _ _); rw [HSN.out, ← HLD.out]; exact G8.out⟩, by simp [intOf]; omega⟩
      · have hbe : bsd r = r - 1 := by unfold bsd; omega
        have hlt2 : ¬ (r : Int) < ((r - 1 : Nat) : Int) := by omega
        have hld : decide ((r : Int) < ((r - 1 : Nat) : Int)) = false := decide_eq_false hlt2
        rw [if_neg hm] at HSN HNK HUE
        rw [hbe] at CBE
        have CNB : Hid (∀ g w1, Blk w1 g 26 (u8s (O ++ H)).toArray → OnlyS (Of (some ⟨rb, 0, none⟩)) w w1 → Calls Tryd.prog 62 #[.agg (u8s id).toArray, .int .i64 ((r : Int) / 2), .int .i64 33667, .slice (some ⟨g, 0, none⟩) 2 2] w1 fun e w' => e = .returned (.agg (u8s (under id ((r / 2 : Nat) : Int) 33667 (O ++ H))).toArray) ∧ Below w1.heap.size w1 w') := fun g w1 hg ho => by
          have := CN.out g ((r : Int) / 2) 33667 2 [O, H] w1 (by omega) (by decide) rfl (by decide) (fun f hf => by simp at hf; rcases hf with rfl | rfl; exact HOK.out; exact HCK.out) (by simpa using hg) ho
          rw [show [O, H].flatten = O ++ H by simp] at this
          rw [show ((r / 2 : Nat) : Int) = (r : Int) / 2 by omega]
          exact this
        generalize under id ((r / 2 : Nat) : Int) 33667 (O ++ H) = NN at CNB HSN HNK
        have NI := hid (info_hash NN HNK.len); have NZ : Hid ((u8s H).toArray.size = (u8s NN).toArray.size) := (hash_size HCK.out.len).trans (hash_size HNK.len).symm
        clear HNK HUE CN hbe hok hck
        go_wp2_with (first
          | (go_at_call 48; refine CPL.out.mono ?_; rintro e w4 ⟨A4, c4, rfl, hc4, hf4, hr4, ho4⟩; obtain ⟨ga, cur, rfl, hga, hkc, hcur⟩ := hf4 (by rw [O32.out]; decide); have RO := hid (rng_of hkc hcur); have G4 := hid (HG.out.read ho4 hr4 N1.out.1 N1.out.2.1 N1.out.2.2.1); clear hc4 hf4 hr4 ho4 hga hkc hcur)
          | (refine load_at rfl 26 (.tmp 22) rfl ga 0 rfl (u8s O) _ RO.out Tryd.underlying26 rfl OL.out (u8s O).toArray rfl ?_)
          | (refine wpList_store_row rfl 26 (.tmp 10) (.tmp 23) rfl w4.heap.size (u8s O).toArray rfl rfl 26 Z (Blk.new w4 26 Z) OI.out OZ.out (u8s_all O) ?_; have hbb : Below w4.heap.size w4 ((w4.alloc (.cells Z 26)).setRow w4.heap.size (u8s O).toArray) := below_setRow ((Below.refl _ _).alloc (Nat.le_refl _) _) (Nat.le_refl _) _; have P5 : Hid (Blk ((w4.alloc (.cells Z 26)).setRow w4.heap.size (u8s O).toArray) w4.heap.size 26 (u8s O).toArray) := (Blk.new w4 26 Z).row _; have G5 := hid (G4.out.below hbb); clear hbb; generalize (w4.alloc (.cells Z 26)).setRow w4.heap.size (u8s O).toArray = w5 at P5 G5 ⊢; generalize w4.heap.size = go at P5 ⊢)
          | (go_at_call 63; refine (CBE.out _).mono ?_; rintro e wq ⟨rfl, rfl⟩)
          | (refine load_at rfl 23 (.tmp 4) rfl w.heap.size 0 rfl (u8s id) _ (blk_row G5.out.b0) Tryd.underlying23 rfl IDI.out (u8s id).toArray rfl ?_)
          | (refine load_at rfl 26 (.tmp 9) rfl gh 0 rfl (u8s H) _ (blk_row G5.out.b1) Tryd.underlying26 rfl HLI.out (u8s H).toArray rfl ?_)
          | (refine load_at rfl 26 (.tmp 10) rfl go 0 rfl (u8s O) _ (blk_row P5.out) Tryd.underlying26 rfl OL.out (u8s O).toArray rfl ?_)
          | (refine hashes_two rfl (.tmp 38) (.tmp 39) rfl O H HOK.out HCK.out rfl rfl ?_; have G6 := hid (G5.out.below ((Below.refl _ _).alloc (Nat.le_refl _) (.cells (u8s (O ++ H)).toArray 26))); have P6 := hid (Blk.new w5 26 (u8s (O ++ H)).toArray); generalize w5.alloc (.cells (u8s (O ++ H)).toArray 26) = w6 at G6 P6 ⊢; generalize w5.heap.size = gl at P6 ⊢)
          | (go_at_call 62; refine (CNB.out gl _ P6.out G6.out.os).mono ?_; rintro e w7 ⟨rfl, hb7⟩; have G7 := hid (G6.out.below hb7); clear hb7)
          | (refine wpList_store_row rfl 26 (.tmp 9) (.tmp 41) rfl gh (u8s NN).toArray rfl rfl 26 (u8s H).toArray G7.out.b1 NI.out NZ.out (u8s_all NN) ?_; have G8 := hid (G7.out.put N1.out.2.2.2.1 N1.out.2.2.2.2.1 N1.out.2.2.2.2.2.1 N1.out.2.2.2.2.2.2.1 N1.out.2.2.2.2.2.2.2 NN); generalize w7.setRow gh (u8s NN).toArray = w8 at G8 ⊢))
        exact ⟨⟨j + 1, by omega, by rw [HDV.out]; go_num, by (show ClI _ _ _ _ _ _ _ _ _ _ _); rw [HSN.out, ← HLD.out]; exact G8.out⟩, by simp [intOf]; omega⟩
    · have hjh : j = h := by omega
      have hr1 : ¬ 1 < (K + q) / 2 ^ j := fun h => hlt (hu.1.1 h)
      obtain ⟨r, hr⟩ : ∃ r, r = (K + q) / 2 ^ j := ⟨_, rfl⟩
      rw [← hr] at hr1
      rw [← hr]
      have hri : ¬ (1 : Int) < (r : Int) := by omega
      have GE : Hid (ClI id RS (l.drop (32 * j)) Z rb rd w.heap.size gh (w.heap.size + 1 + 1) w wr) := by have := HG.out; rw [hjh, ← HRS.out] at this; rw [hjh]; exact this
      clear hu hr1 hr hlt HG CN
      go_wp2_with (first
        | (refine load_at rfl 26 (.tmp 9) rfl gh 0 rfl (u8s RS) _ (blk_row GE.out.b1) Tryd.underlying26 rfl RSL.out (u8s RS).toArray rfl ?_)
        | (refine wpList_store_row rfl 26 (.tmp 8) (.tmp 42) rfl (w.heap.size + 1 + 1) (u8s RS).toArray rfl rfl 26 Z GE.out.bz RSI.out RSZ.out (u8s_all RS) ?_))
      try go_frame
      refine bodyPost_ret (results_cell_row Tryd.results53 _ _ (w.heap.size + 1 + 1) 26 (u8s RS).toArray (0, 0) _ rfl (GE.out.bz.row _) Tryd.underlying26 rfl RSI.out) rfl ?_
      exact ⟨rfl, GE.out.os.setRow (by omega) _⟩
end Go.Proofs.YtobceieadjpaaaaDoor
/-
  What is proved here: whether the code tells that a tree's signature is right.
-/
namespace Go.Proofs.YtobceieadjpaaaaDoor
open Go.ChangeShapes Go.WideShapes Go.ChangeAt Go.RowKit
set_option linter.unusedVariables false
set_option maxRecDepth 20000

theorem wpAnyH_strong {P : Program} {ops : Array Oper} {Q : Exit → Act → World → Prop} {md : Region.Mode} {S S' : World → Prop} (h : ∀ w, S' w → S w) : ∀ (fuel : Nat) (listed : Array Bool) (a : Act) (w : World), wpAnyH P md ops Q S' fuel listed a w → wpAnyH P md ops Q S fuel listed a w
  | 0, _, _, _, hx => hx
  | n + 1, _, _, _, hx => ⟨hx.1, fun i hi => wpOp_mono (fun a' w' h' => ⟨h _ h'.1, wpAnyH_strong h n _ a' w' h'.2⟩) (hx.2 i hi)⟩
theorem yieldsIf_eql {P : Program} {ops : Array Oper} {S : World → Prop} {o : Oper} {a : Act} (hw : Region.wanted o (yielded ops a.tmps) = true) (t t' : TypeId) (x y : Operand) (ho : o.op = .binOp .eql t x y t') (u v : Value) (hx : a.eval x = u) (hy : a.eval y = v) (b : Bool)
    (hg : ∀ w : World, (eqGuard .eql t x y u v).run P w = .ok () w) (h : ∀ w : World, (binOp .eql t u v).run P w = .ok (.bool b) w) : YieldsIf P ops S o (.bool b) a :=
  .inl ⟨hw, fun w _ => by
    unfold execOp
    simp only [ho, hx, hy, Sem.run_bind, hg, h, Result.andThen_ok, Sem.run_pure]⟩
theorem sgnK_bs (k : Int) (id : List Int) (q : Int) (seed msg : List Int) : Bs (signK k id q seed msg) := by
  unfold signK
  intro v hv
  rw [List.mem_append, List.mem_append] at hv
  rcases hv with hv | hv | hv
  · exact be_bs k 4 v hv
  · exact (show Ky (saltOf id q seed) from under_ky _ _ _ _).bs v hv
  · exact rowsOf_bs _ _ (fun i => (steps_ky (show Ky (begn id q i seed) from under_ky _ _ _ _) _ _).bs) v hv
theorem pth_bs (f : Nat → List Int) (hf : ∀ r, Ky (f r)) (n r : Nat) : Bs (pth f n r) := by
  induction n generalizing r with
  | zero => intro v hv; simp [pth] at hv
  | succ n ih => unfold pth; exact bs_append (hf _).bs (ih _)
theorem pbt_bs {h k : Int} {id sd : List Int} (hi : Bs id) : Bs (pbt h k id sd) := by
  unfold pbt
  exact bs_append (bs_append (bs_append (be_bs _ _) (be_bs _ _)) hi) (nd_ky _ _ _ _ _).bs
theorem sgt_bs (h k : Int) (id sd : List Int) (q : Nat) (msg : List Int) : Bs (sgt h k id sd q msg) := by
  unfold sgt
  exact bs_append (bs_append (bs_append (be_bs _ _) (sgnK_bs _ _ _ _ _)) (be_bs _ _)) (pth_bs _ (fun r => nd_ky _ _ _ _ r) _ _)
theorem plain_long {l : List Int} {k : Nat} (h : k ≤ l.length) : (RS.got false l).plain (k : Nat) = (l.take k, .got false (l.drop k)) := by
  unfold RS.plain
  simp only
  rw [if_neg (by omega), Int.toNat_natCast]
theorem shl_keys32 {h k : Int} (h1 : 1 ≤ h ∧ h ≤ 4) (hk : Kd k) : IntKind.u32.wrap (2 ^ h.toNat) = ((tkeys h k : Nat) : Int) := by
  rw [tkeys_ok h1 hk]
  rcases ht4 h1 with rfl | rfl | rfl | rfl <;> decide
theorem shl_keys64 {h k : Int} (h1 : 1 ≤ h ∧ h ≤ 4) (hk : Kd k) : IntKind.i64.wrap (2 ^ h.toNat) = ((tkeys h k : Nat) : Int) := by
  rw [tkeys_ok h1 hk]
  rcases ht4 h1 with rfl | rfl | rfl | rfl <;> decide

/-- nothing that stood has turned -/
structure Vq0 (q : Nat) (w w' : World) : Prop where
  bl : Below w.heap.size w w'
section
variable {q : Nat} {w w' w2 : World}
theorem Vq0.below (h : Vq0 q w w') (hb : Below w'.heap.size w' w2) : Vq0 q w w2 := ⟨h.bl.trans (hb.mono h.bl.size)⟩
theorem Vq0.drew (h : Vq0 q w w') : Vq0 q w w'.drew := h.below ((Below.refl _ _).drew)
theorem Vq0.alloc (h : Vq0 q w w') (o : Obj) : Vq0 q w (w'.alloc o) := h.below ((Below.refl _ _).alloc (Nat.le_refl _) _)
theorem Vq0.row (h : Vq0 q w w') {g : Nat}  (hg : w.heap.size ≤ g) (cs : Array Value) : Vq0 q w (w'.setRow g cs) := ⟨below_setRow h.bl hg cs⟩
end
/-- bytes that were read lie where they were laid -/
structure Vq1 (cu : Array Value) (ga : Nat) (w w' : World) : Prop where
  b0 : Blk w' (ga) 5 cu
  bl : Below w.heap.size w w'
section
variable {cu : Array Value} {ga : Nat} {w w' w2 : World}
theorem Vq1.below (h : Vq1 cu ga w w') (hb : Below w'.heap.size w' w2) : Vq1 cu ga w w2 := ⟨h.b0.below hb, h.bl.trans (hb.mono h.bl.size)⟩
theorem Vq1.drew (h : Vq1 cu ga w w') : Vq1 cu ga w w'.drew := h.below ((Below.refl _ _).drew)
theorem Vq1.alloc (h : Vq1 cu ga w w') (o : Obj) : Vq1 cu ga w (w'.alloc o) := h.below ((Below.refl _ _).alloc (Nat.le_refl _) _)
theorem Vq1.row (h : Vq1 cu ga w w') {g : Nat} (n0 : ga ≠ g) (hg : w.heap.size ≤ g) (cs : Array Value) : Vq1 cu ga w (w'.setRow g cs) := ⟨h.b0.rowFar n0 cs, below_setRow h.bl hg cs⟩
end
/-- bytes that were read lie where they were laid, twice -/
structure Vq2 (cu : Array Value) (ga : Nat) (cv : Array Value) (gb : Nat) (w w' : World) : Prop where
  b0 : Blk w' (ga) 5 cu
  b1 : Blk w' (gb) 5 cv
  bl : Below w.heap.size w w'
section
variable {cu : Array Value} {ga : Nat} {cv : Array Value} {gb : Nat} {w w' w2 : World}
theorem Vq2.below (h : Vq2 cu ga cv gb w w') (hb : Below w'.heap.size w' w2) : Vq2 cu ga cv gb w w2 := ⟨h.b0.below hb, h.b1.below hb, h.bl.trans (hb.mono h.bl.size)⟩
theorem Vq2.drew (h : Vq2 cu ga cv gb w w') : Vq2 cu ga cv gb w w'.drew := h.below ((Below.refl _ _).drew)
theorem Vq2.alloc (h : Vq2 cu ga cv gb w w') (o : Obj) : Vq2 cu ga cv gb w (w'.alloc o) := h.below ((Below.refl _ _).alloc (Nat.le_refl _) _)
theorem Vq2.row (h : Vq2 cu ga cv gb w w') {g : Nat} (n0 : ga ≠ g) (n1 : gb ≠ g) (hg : w.heap.size ≤ g) (cs : Array Value) : Vq2 cu ga cv gb w (w'.setRow g cs) := ⟨h.b0.rowFar n0 cs, h.b1.rowFar n1 cs, below_setRow h.bl hg cs⟩
end

/-- what stays to the end: the id, the public key's node 1, the key to which the one-time signature leads -/
structure Vq3 (id : List Int) (gi : Nat) (T : List Int) (gt : Nat) (O : List Int) (go : Nat) (w w' : World) : Prop where
  bi : Blk w' gi 23 (u8s id).toArray
  bt : Blk w' gt 26 (u8s T).toArray
  bo : Blk w' go 26 (u8s O).toArray
  bl : Below w.heap.size w w'
section
variable {id T O : List Int} {gi gt go : Nat} {w w' w2 : World}
theorem Vq3.below (h : Vq3 id gi T gt O go w w') (hb : Below w'.heap.size w' w2) : Vq3 id gi T gt O go w w2 := ⟨h.bi.below hb, h.bt.below hb, h.bo.below hb, h.bl.trans (hb.mono h.bl.size)⟩
theorem Vq3.drew (h : Vq3 id gi T gt O go w w') : Vq3 id gi T gt O go w w'.drew := h.below ((Below.refl _ _).drew)
theorem Vq3.read (h : Vq3 id gi T gt O go w w') {rb : Nat} (ho : OnlyS (Of (some ⟨rb, 0, none⟩)) w' w2) (n0 : gi ≠ rb) (n1 : gt ≠ rb) (n2 : go ≠ rb) (hr : w.heap.size ≤ rb) : Vq3 id gi T gt O go w w2 :=
  ⟨h.bi.same (ho.block _ h.bi.lt (not_of n0)), h.bt.same (ho.block _ h.bt.lt (not_of n1)), h.bo.same (ho.block _ h.bo.lt (not_of n2)), h.bl.trans (ho.below h.bl.size (fun k hk => by obtain ⟨a, e, rfl⟩ := hk; injection e with e; subst e; exact hr))⟩
end

attribute [local go_sem] Oper.semAt_some
set_option maxHeartbeats 16000000 in
theorem sVerify_any (A0 A1 A2 : Option Addr) (n0 c0 n1 c1 n2 c2 : Nat) (P M S : List Int) (w : World) (hp : n0 = P.length) (hpr : Rp w none A0 P) (hpb : Bs P) (hpl : P.length < 100000)
    (hm : n1 = M.length) (hmr : Rp w none A1 M) (hmb : Bs M) (hml : M.length < 100000) (hmc : n1 ≤ c1) (hs : n2 = S.length) (hsr : Rp w none A2 S) (hsb : Bs S) (hsl : S.length < 100000) (ht : Tab w) :
    Calls Tryd.prog 16 #[.slice A0 n0 c0, .slice A1 n1 c1, .slice A2 n2 c2] w fun e w' => e = .returned (.bool (ver P M S)) ∧ Below w.heap.size w w' := by
  by_cases h56 : ¬ n0 = 56
  · have hn : ¬ ((n0 : Nat) : Int) = 56 := by omega
    have hb : (((n0 : Nat) : Int) != 56) = true := by rw [bne_iff_ne]; omega
    have HNO : Hid (ver P M S = false) := ver_wide (by omega)
    rw [HNO.out]
    clear HNO hp hpr hpb hpl hm hmr hmb hml hmc hs hsr hsb hsl ht h56
    go_enter Tryd.func16, Tryd.ntmps16
    go_wp2_with fail
    go_ret
    exact ⟨rfl, Below.refl _ _⟩
  have h56' : n0 = 56 := Decidable.not_not.1 h56
  subst h56'
  have hP56 : P.length = 56 := hp.symm
  clear h56 hp
  obtain ⟨x, hx⟩ : ∃ x, x = vh P := ⟨_, rfl⟩
  obtain ⟨y, hy⟩ : ∃ y, y = vk P := ⟨_, rfl⟩
  have e1 : (RS.got false P).num 4 4294967295 = (x, .got false (P.drop 4)) := by rw [num4_long (by omega) hpb, hx]; rfl
  have e2 : (RS.got false (P.drop 4)).num 4 4294967295 = (y, .got false (P.drop 8)) := by rw [num4_long (by rw [List.length_drop]; omega) (hpb.drop 4), hy, List.drop_drop]; rfl
  have hxr : 0 ≤ x ∧ x < 4294967296 := by
    have := val_bound (P.take 4) (hpb.take 4)
    rw [List.length_take, Nat.min_eq_left (by omega)] at this
    rw [hx]; exact ⟨this.1, this.2⟩
  have hyr : 0 ≤ y ∧ y < 4294967296 := by
    have := val_bound ((P.drop 4).take 4) ((hpb.drop 4).take 4)
    rw [List.length_take, List.length_drop, Nat.min_eq_left (by omega)] at this
    rw [hy]; exact ⟨this.1, this.2⟩
  have CN1 : Hid (∀ w1, Below w.heap.size w w1 → Calls Tryd.prog 46 #[.slice A0 56 c0] w1 fun e w' => ∃ g, e = .returned (.pointer (some ⟨g, 0, none⟩)) ∧ w1.heap.size ≤ g ∧ RRep w' (some ⟨g, 0, none⟩) (.got false P) ∧ Below w1.heap.size w1 w') := fun w1 hb => by
    have := New_any A0 c0 P w1 (hpr.belowN hb) (by omega) hpb
    rw [hP56] at this
    exact this
  have CU1 : Hid (∀ p w1, RRep w1 (some ⟨p, 0, none⟩) (.got false P) → Calls Tryd.prog 47 #[.pointer (some ⟨p, 0, none⟩)] w1 fun e w' => e = .returned (.int .u32 x) ∧ RRep w' (some ⟨p, 0, none⟩) (.got false (P.drop 4)) ∧ OnlyS (Of (some ⟨p, 0, none⟩)) w1 w') := fun p w1 h => by
    have := RU32_any _ _ w1 h
    rw [e1] at this
    exact this
  have CU2 : Hid (∀ p w1, RRep w1 (some ⟨p, 0, none⟩) (.got false (P.drop 4)) → Calls Tryd.prog 47 #[.pointer (some ⟨p, 0, none⟩)] w1 fun e w' => e = .returned (.int .u32 y) ∧ RRep w' (some ⟨p, 0, none⟩) (.got false (P.drop 8)) ∧ OnlyS (Of (some ⟨p, 0, none⟩)) w1 w') := fun p w1 h => by
    have := RU32_any _ _ w1 h
    rw [e2] at this
    exact this
  have hwx : IntKind.i64.wrap x = x := IntWalk.i64_in _ (by omega)
  have hwy : IntKind.i64.wrap y = y := IntWalk.i64_in _ (by omega)
  have HVK : Hid (vK P = tkeys x y) := by show _ = _; unfold vK; rw [hx, hy]
  have HTS : Hid (tsize (vh P) (vk P) = tsize x y) := by show _ = _; rw [hx, hy]
  have CAL := hid (allowed_any x y)
  have CSZ := hid (sSize_any x y)
  have HS := hid hs
  have RD1 : ∀ (p : Nat) (w0 w1 w2 : World), w.heap.size ≤ p → Below w.heap.size w w1 → OnlyS (Of (some ⟨p, 0, none⟩)) w1 w2 → Below w.heap.size w w2 := fun p w0 w1 w2 hp hb ho => hb.trans (ho.below hb.size (fun k hk => by obtain ⟨a, e, rfl⟩ := hk; injection e with e; subst e; exact hp))
  have HRD := hid RD1
  obtain ⟨xa, xb⟩ := hxr
  obtain ⟨ya, yb⟩ := hyr
  clear RD1 e1 e2
  by_cases hK0 : tkeys x y = 0
  · have HNO : Hid (ver P M S = false) := ver_no fun hv => (by have h1 := hv.2.1; rw [HVK.out] at h1; exact h1 hK0)
    rw [HNO.out]
    rw [decide_eq_false (fun h => h hK0)] at CAL
    clear HNO hpr hpb hm hmr hmb hs hsr hsb ht hK0 hx hy xb yb
    go_enter Tryd.func16, Tryd.ntmps16
    go_wp2_with (first
      | (go_at_call 46; refine (CN1.out _ (Below.refl _ _)).mono ?_; rintro e w1 ⟨pr, rfl, hg1, hr1, hb1⟩; have RR1 := hid hr1; have B1 := hid hb1; have LP := hid hg1; clear hg1 hr1 hb1)
      | (go_at_call 47; (with_reducible refine (CU1.out pr _ RR1.out).mono ?_); rintro e w2 ⟨rfl, hr2, ho2⟩; have RR2 := hid hr2; have B2 := hid (HRD.out pr w w1 w2 LP.out B1.out ho2); clear hr2 ho2)
      | (go_at_call 47; refine (CU2.out pr _ RR2.out).mono ?_; rintro e w3 ⟨rfl, hr3, ho3⟩; have RR3 := hid hr3; have B3 := hid (HRD.out pr w w2 w3 LP.out B2.out ho3); clear hr3 ho3)
      | (go_at_call 51; refine (CAL.out _).mono ?_; rintro e w4 ⟨rfl, hb4⟩; have RR4 := hid (RR3.out.below hb4); have B4 := hid (B3.out.trans (hb4.mono B3.out.size)); clear hb4))
    go_ret
    exact ⟨rfl, B4.out⟩
  rw [decide_eq_true hK0] at CAL
  obtain ⟨hx14, hkd⟩ := tkeys_kd hK0
  by_cases hszn : ¬ n2 = tsize x y
  · have hsb2 : (((n2 : Nat) : Int) != ((tsize x y : Nat) : Int)) = true := by rw [bne_iff_ne]; omega
    have hsn : ¬ ((n2 : Nat) : Int) = ((tsize x y : Nat) : Int) := by omega
    have HNO : Hid (ver P M S = false) := ver_no fun hv => (by have h1 := hv.2.2.1; rw [HTS.out, ← HS.out] at h1; exact hszn h1)
    rw [HNO.out]
    generalize tsize x y = ts at CSZ hsb2 hsn
    clear HNO hpr hpb hm hmr hmb hs hsr hsb ht hK0 hx hy xb yb hszn hx14 hkd
    go_enter Tryd.func16, Tryd.ntmps16
    go_wp2_with (first
      | (go_at_call 46; refine (CN1.out _ (Below.refl _ _)).mono ?_; rintro e w1 ⟨pr, rfl, hg1, hr1, hb1⟩; have RR1 := hid hr1; have B1 := hid hb1; have LP := hid hg1; clear hg1 hr1 hb1)
      | (go_at_call 47; (with_reducible refine (CU1.out pr _ RR1.out).mono ?_); rintro e w2 ⟨rfl, hr2, ho2⟩; have RR2 := hid hr2; have B2 := hid (HRD.out pr w w1 w2 LP.out B1.out ho2); clear hr2 ho2)
      | (go_at_call 47; refine (CU2.out pr _ RR2.out).mono ?_; rintro e w3 ⟨rfl, hr3, ho3⟩; have RR3 := hid hr3; have B3 := hid (HRD.out pr w w2 w3 LP.out B2.out ho3); clear hr3 ho3)
      | (go_at_call 51; refine (CAL.out _).mono ?_; rintro e w4 ⟨rfl, hb4⟩; have RR4 := hid (RR3.out.below hb4); have B4 := hid (B3.out.trans (hb4.mono B3.out.size)); clear hb4)
      | (go_at_call 52; refine (CSZ.out _).mono ?_; rintro e w5 ⟨rfl, hb5⟩; have RR5 := hid (RR4.out.below hb5); have B5 := hid (B4.out.trans (hb5.mono B4.out.size)); clear hb5))
    go_ret
    exact ⟨rfl, B5.out⟩
  have hsz : n2 = tsize x y := Decidable.not_not.1 hszn
  rw [← hsz] at CSZ
  have hKe : tkeys x y = 2 ^ x.toNat := tkeys_ok hx14 hkd
  have hTe : tsize x y = 8 + ksize y + 32 * x.toNat := tsize_ok hx14 hkd
  have hKl : 2 ≤ tkeys x y ∧ tkeys x y ≤ 16 := by rw [hKe]; rcases ht4 hx14 with rfl | rfl | rfl | rfl <;> decide
  obtain ⟨K, hK⟩ : ∃ K, K = tkeys x y := ⟨_, rfl⟩
  obtain ⟨ks, hks⟩ : ∃ ks, ks = ksize y := ⟨_, rfl⟩
  have hks36 : 36 ≤ ks ∧ ks ≤ 10000 := by rw [hks]; exact ⟨ksize_ge2 hkd, ksize_le y⟩
  have HSL : Hid (S.length = 8 + ks + 32 * x.toNat) := by show _ = _; omega
  obtain ⟨q, hq⟩ : ∃ q, q = vq S := ⟨_, rfl⟩
  have hqr : 0 ≤ q ∧ q < 4294967296 := by
    have := val_bound (S.take 4) (hsb.take 4)
    rw [List.length_take, Nat.min_eq_left (by omega)] at this
    rw [hq]; exact ⟨this.1, this.2⟩
  obtain ⟨xx, hxx⟩ : ∃ xx, xx = vx y S := ⟨_, rfl⟩
  obtain ⟨ID, hID⟩ : ∃ ID, ID = vid P := ⟨_, rfl⟩
  obtain ⟨TP, hTP⟩ : ∃ TP, TP = vtop P := ⟨_, rfl⟩
  have HIDN : Idn ID := by rw [hID]; exact ⟨by unfold vid; rw [List.length_take, List.length_drop, hP56]; rfl, (hpb.drop 8).take 16⟩
  have HTOP : Ky TP := by rw [hTP]; exact ⟨by unfold vtop; rw [List.length_drop, hP56], hpb.drop 24⟩
  have eID : ((P.drop 8).take 16) = ID := hID.symm
  have eTP : ((P.drop 24).take 32) = TP := by rw [hTP]; unfold vtop; rw [List.take_of_length_le (by rw [List.length_drop]; omega)]
  have CR1 : Hid (∀ pr pd w1, RRepA w1 pr pd (P.drop 8) → Calls Tryd.prog 48 #[.pointer (some ⟨pr, 0, none⟩), .int .i64 16] w1 fun e w' => ∃ ga cu c', e = .returned (.slice (some ⟨ga, 0, none⟩) 16 c') ∧ w1.heap.size ≤ ga ∧ Blk w' ga 5 cu ∧ (∀ j, j < ID.length → cu[j]? = some (.int .u8 (ID[j]?.getD 0))) ∧ RRepA w' pr pd (P.drop 24) ∧ OnlyS (Of (some ⟨pr, 0, none⟩)) w1 w') := fun pr pd w1 h => by
    refine (RPlainA pr pd 16 (P.drop 8) w1 h (by rw [List.length_drop]; omega)).mono fun e w' he => ?_
    obtain ⟨A', c', rfl, _, hf, hr, ho⟩ := he
    rw [eID] at hf
    obtain ⟨ga, cu, rfl, hga, hk, hc⟩ := hf (by rw [HIDN.len]; decide)
    exact ⟨ga, cu, c', rfl, hga, hk, hc, by rw [List.drop_drop] at hr; exact hr, ho⟩
  have CR2 : Hid (∀ pr pd w1, RRepA w1 pr pd (P.drop 24) → Calls Tryd.prog 48 #[.pointer (some ⟨pr, 0, none⟩), .int .i64 32] w1 fun e w' => ∃ ga cu c', e = .returned (.slice (some ⟨ga, 0, none⟩) 32 c') ∧ w1.heap.size ≤ ga ∧ Blk w' ga 5 cu ∧ (∀ j, j < TP.length → cu[j]? = some (.int .u8 (TP[j]?.getD 0))) ∧ RRepA w' pr pd ((P.drop 24).drop 32) ∧ OnlyS (Of (some ⟨pr, 0, none⟩)) w1 w') := fun pr pd w1 h => by
    refine (RPlainA pr pd 32 (P.drop 24) w1 h (by rw [List.length_drop]; omega)).mono fun e w' he => ?_
    obtain ⟨A', c', rfl, _, hf, hr, ho⟩ := he
    rw [eTP] at hf
    obtain ⟨ga, cu, rfl, hga, hk, hc⟩ := hf (by rw [HTOP.len]; decide)
    exact ⟨ga, cu, c', rfl, hga, hk, hc, hr, ho⟩
  have HP8 : Hid (0 < (P.drop 8).length) := by show _ < _; rw [List.length_drop]; omega
  obtain ⟨Z16, HZ16, hZ160, hZ16s⟩ := zero_ID
  obtain ⟨Z, HZ, hZ0, hZs⟩ := zero_Hash
  have HZ32 : Hid (Z.size = 32) := by show _ = _; rw [HZ.out, List.size_toArray, u8s_length]; simp
  have IDI := hid (id_info HIDN)
  have IDC : Hid ((Tryd.prog.info? 23).map (·.size) = some (u8s ID).toArray.size) := by show _ = _; rw [List.size_toArray]; exact IDI.out
  have IDZ : Hid (Z16.size = (u8s ID).toArray.size) := by show _ = _; rw [HZ16, List.size_toArray, u8s_length, HIDN.len]
  have TPI := hid (hash_info HTOP.len); have TPC := hid (info_hash TP HTOP.len)
  have TPZ : Hid (Z.size = (u8s TP).toArray.size) := HZ32.out.trans (hash_size HTOP.len).symm
  have haid := arrayAt_id
  have hahs := arrayAt_hash
  have HX := hid hx; have HY := hid hy; have HKS := hid hks; have HQ := hid hq; have HXX := hid hxx; have HIDE := hid hID; have HTPE := hid hTP; have HK := hid hK; have HKE := hid hKe
  have HPR := hid hpr; have HMR := hid hmr; have HSR := hid hsr; have HPB := hid hpb; have HMB := hid hmb; have HSB := hid hsb; have HM := hid hm; have HT := hid ht; have HTOPK := hid HTOP; have HIDK := hid HIDN; have HKD := hid hkd; have HSZ := hid hsz; have H56 := hid hP56
  clear hx hy hks hq hxx hID hTP hK hpr hmr hsr hpb hmb hsb hm ht HTOP HIDN hs hkd hsz hszn hP56 eID eTP HZ16 hKe hTe
  go_enter Tryd.func16, Tryd.ntmps16
  go_upto_region 7 with (first
    | (go_at_call 46; refine (CN1.out _ (Below.refl _ _)).mono ?_; rintro e w1 ⟨pr, rfl, hg1, hr1, hb1⟩; have RR1 := hid hr1; have B1 := hid hb1; have LP := hid hg1; clear hg1 hr1 hb1)
    | (go_at_call 47; (with_reducible refine (CU1.out pr _ RR1.out).mono ?_); rintro e w2 ⟨rfl, hr2, ho2⟩; have RR2 := hid hr2; have B2 := hid (HRD.out pr w w1 w2 LP.out B1.out ho2); clear hr2 ho2)
    | (go_at_call 47; refine (CU2.out pr _ RR2.out).mono ?_; rintro e w3 ⟨rfl, hr3, ho3⟩; have RR3 := hid hr3; have B3 := hid (HRD.out pr w w2 w3 LP.out B2.out ho3); clear hr3 ho3)
    | (go_at_call 51; refine (CAL.out _).mono ?_; rintro e w4 ⟨rfl, hb4⟩; have RR4 := hid (RR3.out.below hb4); have B4 := hid (B3.out.trans (hb4.mono B3.out.size)); clear hb4)
    | (go_at_call 52; refine (CSZ.out _).mono ?_; rintro e w5 ⟨rfl, hb5⟩; have RR5 := hid (RR4.out.below hb5); have B5 := hid (B4.out.trans (hb5.mono B4.out.size)); clear hb5))
  obtain ⟨pd, hRA, hpd⟩ := RRepA.of RR5.out HP8.out
  have RA := hid hRA
  have LR : Hid (pr < w5.heap.size) := hRA.lt
  have GQ : Hid (Vq0 0 w w5) := ⟨B5.out⟩
  clear RR1 RR2 RR3 RR4 RR5 B1 B2 B3 B4 hRA hpd CN1 CU1 CU2 CAL CSZ
  go_cut [10, 11] (fun s10 s11 wx => ∃ gi gt, s10 = .pointer (some ⟨gi, 0, none⟩) ∧ s11 = .pointer (some ⟨gt, 0, none⟩) ∧ Hid (Blk wx gi 23 (u8s ID).toArray) ∧ Hid (Blk wx gt 26 (u8s TP).toArray) ∧ Hid (Below w.heap.size w wx))
  case first =>
    refine wp_region_held (S := fun w' => Hid (Vq0 0 w w')) (by kernel_rfl) ?_
    change wpAnyH _ _ _ _ _ _ _ _ w5.drew
    have Gx0 : Hid (Vq0 0 w w5.drew) := GQ.out.drew
    have HBx0 : Below w5.heap.size w5 w5.drew := (Below.refl _ _).drew
    have RA := hid (RA.out.below HBx0)
    clear HBx0
    generalize w5.drew = x0 at Gx0 RA ⊢
    refine wpAnyH_take (i := 0) (oi := { dst := some 40, op := _, type := _, pos := _, after := _, guard := _ }) (v := ?_) rfl (by kernel_rfl) (by kernel_rfl) (by kernel_rfl) (fun _ _ _ h => h) (Or.inl ⟨by kernel_rfl, ?_⟩) Gx0 ?_
    rotate_left
    · (intro w hSw; go_simp; try with_reducible rfl)
    try simp only [Act.put, List.setIfInBounds_toArray, List.set_cons_zero, List.set_cons_succ]
    refine wpAnyH_take (i := 4) (oi := { dst := some 44, op := _, type := _, pos := _, after := _, guard := _ }) (v := ?_) rfl (by kernel_rfl) (by kernel_rfl) (by kernel_rfl) (fun _ _ _ h => h) (Or.inl ⟨by kernel_rfl, ?_⟩) Gx0 ?_
    rotate_left
    · (intro w hSw; go_simp; try with_reducible rfl)
    try simp only [Act.put, List.setIfInBounds_toArray, List.set_cons_zero, List.set_cons_succ]
    refine wpAnyH_ready (rs := [1, 8, 9]) (by kernel_rfl) (by simp) ?_
    refine (AllReadyH.cons (o := { dst := some 41, op := _, type := _, pos := _, after := _, guard := _ }) rfl (fun Qc hQc => ?_) (AllReadyH.cons (o := { dst := some 10, op := _, type := _, pos := _, after := _, guard := _ }) rfl (fun Qc hQc => ?_) (AllReadyH.cons (o := { dst := some 11, op := _, type := _, pos := _, after := _, guard := _ }) rfl (fun Qc hQc => ?_) AllReadyH.nil)))
    ·
      go_simp
      go_at_call 48; refine (CR1.out pr pd _ RA.out).mono ?_; rintro e x1 ⟨ga, cu, ca, rfl, hga, hka, hcu, hra, hox1⟩; have LGA : Hid (pr < ga) := Nat.lt_of_lt_of_le RA.out.lt hga; have RA := hid hra; have KA := hid hka; have HCU := hid hcu; clear hga hka hcu hra
      have Gx1 : Hid (Vq0 0 w x1) := ⟨HRD.out pr w x0 x1 LP.out Gx0.out.bl hox1⟩
      clear hox1
      go_wp2_with fail
      refine hQc.out _ _ Gx1 (fun hHeld => ?_)
      clear hQc Qc hHeld
      refine wpAnyH_strong (S' := fun w' => Hid (Vq1 cu ga w w')) (fun w' h => hid ⟨h.out.bl⟩) _ _ _ _ ?_
      have Gx1 : Hid (Vq1 cu ga w x1) := ⟨KA.out, Gx1.out.bl⟩
      clear Gx0
      try simp only [Act.put, List.setIfInBounds_toArray, List.set_cons_zero, List.set_cons_succ]
      refine wpAnyH_take (i := 2) (oi := { dst := some 42, op := _, type := _, pos := _, after := _, guard := _ }) (v := ?_) rfl (by kernel_rfl) (by kernel_rfl) (by kernel_rfl) (fun _ _ _ h => h) (Or.inl ⟨by kernel_rfl, ?_⟩) Gx1 ?_
      rotate_left
      · (intro w hSw; go_simp; try with_reducible rfl)
      try simp only [Act.put, List.setIfInBounds_toArray, List.set_cons_zero, List.set_cons_succ]
      refine wpAnyH_take (i := 3) (oi := { dst := some 43, op := _, type := _, pos := _, after := _, guard := _ }) (v := .agg ((u8s ID).toArray)) rfl (by kernel_rfl) (by kernel_rfl) (by kernel_rfl) (fun _ _ _ h => h) (yieldsIf_load_mid (cs := u8s ID) (by rfl) _ _ rfl _ _ rfl _ (fun w' hSw => rng_of (Hid.out hSw).b0 HCU.out) Tryd.underlying23 rfl IDI.out) Gx1 ?_
      try simp only [Act.put, List.setIfInBounds_toArray, List.set_cons_zero, List.set_cons_succ]
      refine wpAnyH_ready (rs := [5, 8, 9]) (by kernel_rfl) (by simp) ?_
      refine (AllReadyH.cons (o := { dst := some 45, op := _, type := _, pos := _, after := _, guard := _ }) rfl (fun Qc hQc => ?_) (AllReadyH.cons (o := { dst := some 10, op := _, type := _, pos := _, after := _, guard := _ }) rfl (fun Qc hQc => ?_) (AllReadyH.cons (o := { dst := some 11, op := _, type := _, pos := _, after := _, guard := _ }) rfl (fun Qc hQc => ?_) AllReadyH.nil)))
      ·
        go_simp
        go_at_call 48; refine (CR2.out pr pd _ RA.out).mono ?_; rintro e x2 ⟨gb, cv, cb, rfl, hgb, hkb, hcv, hra, hox2⟩; have RA := hid hra; have KB := hid hkb; have HCV := hid hcv; clear hgb hkb hcv hra
        have Gx2 : Hid (Vq1 cu ga w x2) := ⟨Gx1.out.b0.same (hox2.block _ Gx1.out.b0.lt (not_of (Nat.ne_of_gt LGA.out))), HRD.out pr w x1 x2 LP.out Gx1.out.bl hox2⟩
        clear hox2
        go_wp2_with fail
        refine hQc.out _ _ Gx2 (fun hHeld => ?_)
        clear hQc Qc hHeld
        refine wpAnyH_strong (S' := fun w' => Hid (Vq2 cu ga cv gb w w')) (fun w' h => hid ⟨h.out.b0, h.out.bl⟩) _ _ _ _ ?_
        have Gx2 : Hid (Vq2 cu ga cv gb w x2) := ⟨Gx2.out.b0, KB.out, Gx2.out.bl⟩
        clear Gx1
        try simp only [Act.put, List.setIfInBounds_toArray, List.set_cons_zero, List.set_cons_succ]
        refine wpAnyH_take (i := 6) (oi := { dst := some 46, op := _, type := _, pos := _, after := _, guard := _ }) (v := ?_) rfl (by kernel_rfl) (by kernel_rfl) (by kernel_rfl) (fun _ _ _ h => h) (Or.inl ⟨by kernel_rfl, ?_⟩) Gx2 ?_
        rotate_left
        · (intro w hSw; go_simp; try with_reducible rfl)
        try simp only [Act.put, List.setIfInBounds_toArray, List.set_cons_zero, List.set_cons_succ]
        refine wpAnyH_take (i := 7) (oi := { dst := some 47, op := _, type := _, pos := _, after := _, guard := _ }) (v := .agg ((u8s TP).toArray)) rfl (by kernel_rfl) (by kernel_rfl) (by kernel_rfl) (fun _ _ _ h => h) (yieldsIf_load_mid (cs := u8s TP) (by rfl) _ _ rfl _ _ rfl _ (fun w' hSw => rng_of (Hid.out hSw).b1 HCV.out) Tryd.underlying26 rfl TPI.out) Gx2 ?_
        try simp only [Act.put, List.setIfInBounds_toArray, List.set_cons_zero, List.set_cons_succ]
        refine wpAnyH_ready (rs := [8, 9]) (by kernel_rfl) (by simp) ?_
        refine (AllReadyH.cons (o := { dst := some 10, op := _, type := _, pos := _, after := _, guard := _ }) rfl (fun Qc hQc => ?_) (AllReadyH.cons (o := { dst := some 11, op := _, type := _, pos := _, after := _, guard := _ }) rfl (fun Qc hQc => ?_) AllReadyH.nil))
        ·
          go_simp
          have Gx3 := hid (Gx2.out.alloc (.cells Z16 23))
          have HBx3 : Below x2.heap.size x2 (x2.alloc (.cells Z16 23)) := (Below.refl _ _).alloc (Nat.le_refl _) _
          have LEA8 : Hid (pr < x2.heap.size) := RA.out.lt
          have RA := hid (RA.out.below HBx3)
          have A8 := hid (Blk.new x2 23 Z16)
          clear HBx3
          refine hQc.out _ _ Gx3 (fun hHeld => ?_)
          clear hQc Qc Gx2 hHeld
          generalize hgx3 : x2.heap.size = g8 at A8 LEA8 RA ⊢
          generalize x2.alloc (.cells Z16 23) = x3 at Gx3 A8 RA ⊢
          clear hgx3
          try simp only [Act.put, List.setIfInBounds_toArray, List.set_cons_zero, List.set_cons_succ]
          refine wpAnyH_ready (rs := [9]) (by kernel_rfl) (by simp) ?_
          refine (AllReadyH.cons (o := { dst := some 11, op := _, type := _, pos := _, after := _, guard := _ }) rfl (fun Qc hQc => ?_) AllReadyH.nil)
          go_simp
          have Gx4 := hid (Gx3.out.alloc (.cells Z 26))
          have HBx4 : Below x3.heap.size x3 (x3.alloc (.cells Z 26)) := (Below.refl _ _).alloc (Nat.le_refl _) _
          have LEA9 : Hid (pr < x3.heap.size) := RA.out.lt
          have RA := hid (RA.out.below HBx4)
          have A8 := hid (A8.out.below HBx4)
          have A9 := hid (Blk.new x3 26 Z)
          clear HBx4
          refine hQc.out _ _ Gx4 (fun hHeld => ?_)
          clear hQc Qc Gx3 hHeld
          generalize hgx4 : x3.heap.size = g9 at A9 LEA9 RA A8 ⊢
          generalize x3.alloc (.cells Z 26) = x4 at Gx4 A9 RA A8 ⊢
          clear hgx4
          try simp only [Act.put, List.setIfInBounds_toArray, List.set_cons_zero, List.set_cons_succ]
          refine wpAnyH_ready (rs := [10]) (by kernel_rfl) (by simp) ?_
          refine (AllReadyH.cons (o := { dst := none, op := _, type := _, pos := _, after := _, guard := _ }) rfl (fun Qc hQc => ?_) AllReadyH.nil)
          rw [if_pos (by rfl)]
          refine wp_store_row 23 (.tmp 10) (.tmp 43) rfl (g8) (u8s ID).toArray rfl rfl 23 Z16 A8.out IDC.out IDZ.out (u8s_all ID) ?_
          have Gx5 := hid (Gx4.out.row (g := g8) (Blk.ne Gx4.out.b0 A8.out (by decide)) (Blk.ne Gx4.out.b1 A8.out (by decide)) (by have := LEA8.out; have := LP.out; omega) (u8s ID).toArray)
          have A9 := hid (A9.out.rowFar (Blk.ne A9.out A8.out (by decide)) (u8s ID).toArray)
          have KI := hid (A8.out.row (u8s ID).toArray)
          clear A8
          refine hQc.out _ _ Gx5 (fun hHeld => ?_)
          clear hQc Qc Gx4 hHeld
          generalize x4.setRow (g8) (u8s ID).toArray = x5 at Gx5 A9 KI ⊢
          try simp only [Act.put, List.setIfInBounds_toArray, List.set_cons_zero, List.set_cons_succ]
          refine wpAnyH_ready (rs := [11]) (by kernel_rfl) (by simp) ?_
          refine (AllReadyH.cons (o := { dst := none, op := _, type := _, pos := _, after := _, guard := _ }) rfl (fun Qc hQc => ?_) AllReadyH.nil)
          rw [if_pos (by rfl)]
          refine wp_store_row 26 (.tmp 11) (.tmp 47) rfl (g9) (u8s TP).toArray rfl rfl 26 Z A9.out TPC.out TPZ.out (u8s_all TP) ?_
          have Gx6 := hid (Gx5.out.row (g := g9) (Blk.ne Gx5.out.b0 A9.out (by decide)) (Blk.ne Gx5.out.b1 A9.out (by decide)) (by have := LEA9.out; have := LP.out; omega) (u8s TP).toArray)
          have KI := hid (KI.out.rowFar (Blk.ne KI.out A9.out (by decide)) (u8s TP).toArray)
          have KT := hid (A9.out.row (u8s TP).toArray)
          clear A9
          refine hQc.out _ _ Gx6 (fun hHeld => ?_)
          clear hQc Qc Gx5 hHeld
          generalize x5.setRow (g9) (u8s TP).toArray = x6 at Gx6 KI KT ⊢
          try simp only [Act.put, List.setIfInBounds_toArray, List.set_cons_zero, List.set_cons_succ]
          refine wpAnyH_done (by kernel_rfl) ?_ _
          try simp only [Act.put, List.setIfInBounds_toArray, List.set_cons_zero, List.set_cons_succ]
          go_wp2
          go_meet
          exact ⟨g8, g9, rfl, rfl, KI, KT, Gx6.out.bl⟩
        ·
          go_simp
          have Gx7 := hid (Gx2.out.alloc (.cells Z 26))
          have HBx7 : Below x2.heap.size x2 (x2.alloc (.cells Z 26)) := (Below.refl _ _).alloc (Nat.le_refl _) _
          have LEA9 : Hid (pr < x2.heap.size) := RA.out.lt
          have RA := hid (RA.out.below HBx7)
          have A9 := hid (Blk.new x2 26 Z)
          clear HBx7
          refine hQc.out _ _ Gx7 (fun hHeld => ?_)
          clear hQc Qc Gx2 hHeld
          generalize hgx7 : x2.heap.size = g9 at A9 LEA9 RA ⊢
          generalize x2.alloc (.cells Z 26) = x7 at Gx7 A9 RA ⊢
          clear hgx7
          try simp only [Act.put, List.setIfInBounds_toArray, List.set_cons_zero, List.set_cons_succ]
          refine wpAnyH_ready (rs := [8]) (by kernel_rfl) (by simp) ?_
          refine (AllReadyH.cons (o := { dst := some 10, op := _, type := _, pos := _, after := _, guard := _ }) rfl (fun Qc hQc => ?_) AllReadyH.nil)
          go_simp
          have Gx8 := hid (Gx7.out.alloc (.cells Z16 23))
          have HBx8 : Below x7.heap.size x7 (x7.alloc (.cells Z16 23)) := (Below.refl _ _).alloc (Nat.le_refl _) _
          have LEA8 : Hid (pr < x7.heap.size) := RA.out.lt
          have RA := hid (RA.out.below HBx8)
          have A9 := hid (A9.out.below HBx8)
          have A8 := hid (Blk.new x7 23 Z16)
          clear HBx8
          refine hQc.out _ _ Gx8 (fun hHeld => ?_)
          clear hQc Qc Gx7 hHeld
          generalize hgx8 : x7.heap.size = g8 at A8 LEA8 RA A9 ⊢
          generalize x7.alloc (.cells Z16 23) = x8 at Gx8 A8 RA A9 ⊢
          clear hgx8
          try simp only [Act.put, List.setIfInBounds_toArray, List.set_cons_zero, List.set_cons_succ]
          refine wpAnyH_ready (rs := [10]) (by kernel_rfl) (by simp) ?_
          refine (AllReadyH.cons (o := { dst := none, op := _, type := _, pos := _, after := _, guard := _ }) rfl (fun Qc hQc => ?_) AllReadyH.nil)
          rw [if_pos (by rfl)]
          refine wp_store_row 23 (.tmp 10) (.tmp 43) rfl (g8) (u8s ID).toArray rfl rfl 23 Z16 A8.out IDC.out IDZ.out (u8s_all ID) ?_
          have Gx9 := hid (Gx8.out.row (g := g8) (Blk.ne Gx8.out.b0 A8.out (by decide)) (Blk.ne Gx8.out.b1 A8.out (by decide)) (by have := LEA8.out; have := LP.out; omega) (u8s ID).toArray)
          have A9 := hid (A9.out.rowFar (Blk.ne A9.out A8.out (by decide)) (u8s ID).toArray)
          have KI := hid (A8.out.row (u8s ID).toArray)
          clear A8
          refine hQc.out _ _ Gx9 (fun hHeld => ?_)
          clear hQc Qc Gx8 hHeld
          generalize x8.setRow (g8) (u8s ID).toArray = x9 at Gx9 A9 KI ⊢
          try simp only [Act.put, List.setIfInBounds_toArray, List.set_cons_zero, List.set_cons_succ]
          refine wpAnyH_ready (rs := [11]) (by kernel_rfl) (by simp) ?_
          refine (AllReadyH.cons (o := { dst := none, op := _, type := _, pos := _, after := _, guard := _ }) rfl (fun Qc hQc => ?_) AllReadyH.nil)
          rw [if_pos (by rfl)]
          refine wp_store_row 26 (.tmp 11) (.tmp 47) rfl (g9) (u8s TP).toArray rfl rfl 26 Z A9.out TPC.out TPZ.out (u8s_all TP) ?_
          have Gx10 := hid (Gx9.out.row (g := g9) (Blk.ne Gx9.out.b0 A9.out (by decide)) (Blk.ne Gx9.out.b1 A9.out (by decide)) (by have := LEA9.out; have := LP.out; omega) (u8s TP).toArray)
          have KI := hid (KI.out.rowFar (Blk.ne KI.out A9.out (by decide)) (u8s TP).toArray)
          have KT := hid (A9.out.row (u8s TP).toArray)
          clear A9
          refine hQc.out _ _ Gx10 (fun hHeld => ?_)
          clear hQc Qc Gx9 hHeld
          generalize x9.setRow (g9) (u8s TP).toArray = x10 at Gx10 KI KT ⊢
          try simp only [Act.put, List.setIfInBounds_toArray, List.set_cons_zero, List.set_cons_succ]
          refine wpAnyH_done (by kernel_rfl) ?_ _
          try simp only [Act.put, List.setIfInBounds_toArray, List.set_cons_zero, List.set_cons_succ]
          go_wp2
          go_meet
          exact ⟨g8, g9, rfl, rfl, KI, KT, Gx10.out.bl⟩
      ·
        go_simp
        have Gx11 := hid (Gx1.out.alloc (.cells Z16 23))
        have HBx11 : Below x1.heap.size x1 (x1.alloc (.cells Z16 23)) := (Below.refl _ _).alloc (Nat.le_refl _) _
        have LEA8 : Hid (pr < x1.heap.size) := RA.out.lt
        have RA := hid (RA.out.below HBx11)
        have A8 := hid (Blk.new x1 23 Z16)
        clear HBx11
        refine hQc.out _ _ Gx11 (fun hHeld => ?_)
        clear hQc Qc Gx1 hHeld
        generalize hgx11 : x1.heap.size = g8 at A8 LEA8 RA ⊢
        generalize x1.alloc (.cells Z16 23) = x11 at Gx11 A8 RA ⊢
        clear hgx11
        try simp only [Act.put, List.setIfInBounds_toArray, List.set_cons_zero, List.set_cons_succ]
        refine wpAnyH_ready (rs := [5, 9]) (by kernel_rfl) (by simp) ?_
        refine (AllReadyH.cons (o := { dst := some 45, op := _, type := _, pos := _, after := _, guard := _ }) rfl (fun Qc hQc => ?_) (AllReadyH.cons (o := { dst := some 11, op := _, type := _, pos := _, after := _, guard := _ }) rfl (fun Qc hQc => ?_) AllReadyH.nil))
        ·
          go_simp
          go_at_call 48; refine (CR2.out pr pd _ RA.out).mono ?_; rintro e x12 ⟨gb, cv, cb, rfl, hgb, hkb, hcv, hra, hox12⟩; have RA := hid hra; have KB := hid hkb; have HCV := hid hcv; clear hgb hkb hcv hra
          have Gx12 : Hid (Vq1 cu ga w x12) := ⟨Gx11.out.b0.same (hox12.block _ Gx11.out.b0.lt (not_of (Nat.ne_of_gt LGA.out))), HRD.out pr w x11 x12 LP.out Gx11.out.bl hox12⟩
          have A8 := hid (A8.out.same (hox12.block _ A8.out.lt (not_of (Nat.ne_of_gt LEA8.out))))
          clear hox12
          go_wp2_with fail
          refine hQc.out _ _ Gx12 (fun hHeld => ?_)
          clear hQc Qc hHeld
          refine wpAnyH_strong (S' := fun w' => Hid (Vq2 cu ga cv gb w w')) (fun w' h => hid ⟨h.out.b0, h.out.bl⟩) _ _ _ _ ?_
          have Gx12 : Hid (Vq2 cu ga cv gb w x12) := ⟨Gx12.out.b0, KB.out, Gx12.out.bl⟩
          clear Gx11
          try simp only [Act.put, List.setIfInBounds_toArray, List.set_cons_zero, List.set_cons_succ]
          refine wpAnyH_take (i := 6) (oi := { dst := some 46, op := _, type := _, pos := _, after := _, guard := _ }) (v := ?_) rfl (by kernel_rfl) (by kernel_rfl) (by kernel_rfl) (fun _ _ _ h => h) (Or.inl ⟨by kernel_rfl, ?_⟩) Gx12 ?_
          rotate_left
          · (intro w hSw; go_simp; try with_reducible rfl)
          try simp only [Act.put, List.setIfInBounds_toArray, List.set_cons_zero, List.set_cons_succ]
          refine wpAnyH_take (i := 7) (oi := { dst := some 47, op := _, type := _, pos := _, after := _, guard := _ }) (v := .agg ((u8s TP).toArray)) rfl (by kernel_rfl) (by kernel_rfl) (by kernel_rfl) (fun _ _ _ h => h) (yieldsIf_load_mid (cs := u8s TP) (by rfl) _ _ rfl _ _ rfl _ (fun w' hSw => rng_of (Hid.out hSw).b1 HCV.out) Tryd.underlying26 rfl TPI.out) Gx12 ?_
          try simp only [Act.put, List.setIfInBounds_toArray, List.set_cons_zero, List.set_cons_succ]
          refine wpAnyH_ready (rs := [9]) (by kernel_rfl) (by simp) ?_
          refine (AllReadyH.cons (o := { dst := some 11, op := _, type := _, pos := _, after := _, guard := _ }) rfl (fun Qc hQc => ?_) AllReadyH.nil)
          go_simp
          have Gx13 := hid (Gx12.out.alloc (.cells Z 26))
          have HBx13 : Below x12.heap.size x12 (x12.alloc (.cells Z 26)) := (Below.refl _ _).alloc (Nat.le_refl _) _
          have LEA9 : Hid (pr < x12.heap.size) := RA.out.lt
          have A8 := hid (A8.out.below HBx13)
          have RA := hid (RA.out.below HBx13)
          have A9 := hid (Blk.new x12 26 Z)
          clear HBx13
          refine hQc.out _ _ Gx13 (fun hHeld => ?_)
          clear hQc Qc Gx12 hHeld
          generalize hgx13 : x12.heap.size = g9 at A9 LEA9 A8 RA ⊢
          generalize x12.alloc (.cells Z 26) = x13 at Gx13 A9 A8 RA ⊢
          clear hgx13
          try simp only [Act.put, List.setIfInBounds_toArray, List.set_cons_zero, List.set_cons_succ]
          refine wpAnyH_ready (rs := [10]) (by kernel_rfl) (by simp) ?_
          refine (AllReadyH.cons (o := { dst := none, op := _, type := _, pos := _, after := _, guard := _ }) rfl (fun Qc hQc => ?_) AllReadyH.nil)
          rw [if_pos (by rfl)]
          refine wp_store_row 23 (.tmp 10) (.tmp 43) rfl (g8) (u8s ID).toArray rfl rfl 23 Z16 A8.out IDC.out IDZ.out (u8s_all ID) ?_
          have Gx14 := hid (Gx13.out.row (g := g8) (Blk.ne Gx13.out.b0 A8.out (by decide)) (Blk.ne Gx13.out.b1 A8.out (by decide)) (by have := LEA8.out; have := LP.out; omega) (u8s ID).toArray)
          have A9 := hid (A9.out.rowFar (Blk.ne A9.out A8.out (by decide)) (u8s ID).toArray)
          have KI := hid (A8.out.row (u8s ID).toArray)
          clear A8
          refine hQc.out _ _ Gx14 (fun hHeld => ?_)
          clear hQc Qc Gx13 hHeld
          generalize x13.setRow (g8) (u8s ID).toArray = x14 at Gx14 A9 KI ⊢
          try simp only [Act.put, List.setIfInBounds_toArray, List.set_cons_zero, List.set_cons_succ]
          refine wpAnyH_ready (rs := [11]) (by kernel_rfl) (by simp) ?_
          refine (AllReadyH.cons (o := { dst := none, op := _, type := _, pos := _, after := _, guard := _ }) rfl (fun Qc hQc => ?_) AllReadyH.nil)
          rw [if_pos (by rfl)]
          refine wp_store_row 26 (.tmp 11) (.tmp 47) rfl (g9) (u8s TP).toArray rfl rfl 26 Z A9.out TPC.out TPZ.out (u8s_all TP) ?_
          have Gx15 := hid (Gx14.out.row (g := g9) (Blk.ne Gx14.out.b0 A9.out (by decide)) (Blk.ne Gx14.out.b1 A9.out (by decide)) (by have := LEA9.out; have := LP.out; omega) (u8s TP).toArray)
          have KI := hid (KI.out.rowFar (Blk.ne KI.out A9.out (by decide)) (u8s TP).toArray)
          have KT := hid (A9.out.row (u8s TP).toArray)
          clear A9
          refine hQc.out _ _ Gx15 (fun hHeld => ?_)
          clear hQc Qc Gx14 hHeld
          generalize x14.setRow (g9) (u8s TP).toArray = x15 at Gx15 KI KT ⊢
          try simp only [Act.put, List.setIfInBounds_toArray, List.set_cons_zero, List.set_cons_succ]
          refine wpAnyH_done (by kernel_rfl) ?_ _
          try simp only [Act.put, List.setIfInBounds_toArray, List.set_cons_zero, List.set_cons_succ]
          go_wp2
          go_meet
          exact ⟨g8, g9, rfl, rfl, KI, KT, Gx15.out.bl⟩
        ·
          go_simp
          have Gx16 := hid (Gx11.out.alloc (.cells Z 26))
          have HBx16 : Below x11.heap.size x11 (x11.alloc (.cells Z 26)) := (Below.refl _ _).alloc (Nat.le_refl _) _
          have LEA9 : Hid (pr < x11.heap.size) := RA.out.lt
          have RA := hid (RA.out.below HBx16)
          have A8 := hid (A8.out.below HBx16)
          have A9 := hid (Blk.new x11 26 Z)
          clear HBx16
          refine hQc.out _ _ Gx16 (fun hHeld => ?_)
          clear hQc Qc Gx11 hHeld
          generalize hgx16 : x11.heap.size = g9 at A9 LEA9 RA A8 ⊢
          generalize x11.alloc (.cells Z 26) = x16 at Gx16 A9 RA A8 ⊢
          clear hgx16
          try simp only [Act.put, List.setIfInBounds_toArray, List.set_cons_zero, List.set_cons_succ]
          refine wpAnyH_ready (rs := [5]) (by kernel_rfl) (by simp) ?_
          refine (AllReadyH.cons (o := { dst := some 45, op := _, type := _, pos := _, after := _, guard := _ }) rfl (fun Qc hQc => ?_) AllReadyH.nil)
          go_simp
          go_at_call 48; refine (CR2.out pr pd _ RA.out).mono ?_; rintro e x17 ⟨gb, cv, cb, rfl, hgb, hkb, hcv, hra, hox17⟩; have RA := hid hra; have KB := hid hkb; have HCV := hid hcv; clear hgb hkb hcv hra
          have Gx17 : Hid (Vq1 cu ga w x17) := ⟨Gx16.out.b0.same (hox17.block _ Gx16.out.b0.lt (not_of (Nat.ne_of_gt LGA.out))), HRD.out pr w x16 x17 LP.out Gx16.out.bl hox17⟩
          have A8 := hid (A8.out.same (hox17.block _ A8.out.lt (not_of (Nat.ne_of_gt LEA8.out))))
          have A9 := hid (A9.out.same (hox17.block _ A9.out.lt (not_of (Nat.ne_of_gt LEA9.out))))
          clear hox17
          go_wp2_with fail
          refine hQc.out _ _ Gx17 (fun hHeld => ?_)
          clear hQc Qc hHeld
          refine wpAnyH_strong (S' := fun w' => Hid (Vq2 cu ga cv gb w w')) (fun w' h => hid ⟨h.out.b0, h.out.bl⟩) _ _ _ _ ?_
          have Gx17 : Hid (Vq2 cu ga cv gb w x17) := ⟨Gx17.out.b0, KB.out, Gx17.out.bl⟩
          clear Gx16
          try simp only [Act.put, List.setIfInBounds_toArray, List.set_cons_zero, List.set_cons_succ]
          refine wpAnyH_take (i := 6) (oi := { dst := some 46, op := _, type := _, pos := _, after := _, guard := _ }) (v := ?_) rfl (by kernel_rfl) (by kernel_rfl) (by kernel_rfl) (fun _ _ _ h => h) (Or.inl ⟨by kernel_rfl, ?_⟩) Gx17 ?_
          rotate_left
          · (intro w hSw; go_simp; try with_reducible rfl)
          try simp only [Act.put, List.setIfInBounds_toArray, List.set_cons_zero, List.set_cons_succ]
          refine wpAnyH_take (i := 7) (oi := { dst := some 47, op := _, type := _, pos := _, after := _, guard := _ }) (v := .agg ((u8s TP).toArray)) rfl (by kernel_rfl) (by kernel_rfl) (by kernel_rfl) (fun _ _ _ h => h) (yieldsIf_load_mid (cs := u8s TP) (by rfl) _ _ rfl _ _ rfl _ (fun w' hSw => rng_of (Hid.out hSw).b1 HCV.out) Tryd.underlying26 rfl TPI.out) Gx17 ?_
          try simp only [Act.put, List.setIfInBounds_toArray, List.set_cons_zero, List.set_cons_succ]
          refine wpAnyH_ready (rs := [10]) (by kernel_rfl) (by simp) ?_
          refine (AllReadyH.cons (o := { dst := none, op := _, type := _, pos := _, after := _, guard := _ }) rfl (fun Qc hQc => ?_) AllReadyH.nil)
          rw [if_pos (by rfl)]
          refine wp_store_row 23 (.tmp 10) (.tmp 43) rfl (g8) (u8s ID).toArray rfl rfl 23 Z16 A8.out IDC.out IDZ.out (u8s_all ID) ?_
          have Gx18 := hid (Gx17.out.row (g := g8) (Blk.ne Gx17.out.b0 A8.out (by decide)) (Blk.ne Gx17.out.b1 A8.out (by decide)) (by have := LEA8.out; have := LP.out; omega) (u8s ID).toArray)
          have A9 := hid (A9.out.rowFar (Blk.ne A9.out A8.out (by decide)) (u8s ID).toArray)
          have KI := hid (A8.out.row (u8s ID).toArray)
          clear A8
          refine hQc.out _ _ Gx18 (fun hHeld => ?_)
          clear hQc Qc Gx17 hHeld
          generalize x17.setRow (g8) (u8s ID).toArray = x18 at Gx18 A9 KI ⊢
          try simp only [Act.put, List.setIfInBounds_toArray, List.set_cons_zero, List.set_cons_succ]
          refine wpAnyH_ready (rs := [11]) (by kernel_rfl) (by simp) ?_
          refine (AllReadyH.cons (o := { dst := none, op := _, type := _, pos := _, after := _, guard := _ }) rfl (fun Qc hQc => ?_) AllReadyH.nil)
          rw [if_pos (by rfl)]
          refine wp_store_row 26 (.tmp 11) (.tmp 47) rfl (g9) (u8s TP).toArray rfl rfl 26 Z A9.out TPC.out TPZ.out (u8s_all TP) ?_
          have Gx19 := hid (Gx18.out.row (g := g9) (Blk.ne Gx18.out.b0 A9.out (by decide)) (Blk.ne Gx18.out.b1 A9.out (by decide)) (by have := LEA9.out; have := LP.out; omega) (u8s TP).toArray)
          have KI := hid (KI.out.rowFar (Blk.ne KI.out A9.out (by decide)) (u8s TP).toArray)
          have KT := hid (A9.out.row (u8s TP).toArray)
          clear A9
          refine hQc.out _ _ Gx19 (fun hHeld => ?_)
          clear hQc Qc Gx18 hHeld
          generalize x18.setRow (g9) (u8s TP).toArray = x19 at Gx19 KI KT ⊢
          try simp only [Act.put, List.setIfInBounds_toArray, List.set_cons_zero, List.set_cons_succ]
          refine wpAnyH_done (by kernel_rfl) ?_ _
          try simp only [Act.put, List.setIfInBounds_toArray, List.set_cons_zero, List.set_cons_succ]
          go_wp2
          go_meet
          exact ⟨g8, g9, rfl, rfl, KI, KT, Gx19.out.bl⟩
      ·
        go_simp
        have Gx20 := hid (Gx1.out.alloc (.cells Z 26))
        have HBx20 : Below x1.heap.size x1 (x1.alloc (.cells Z 26)) := (Below.refl _ _).alloc (Nat.le_refl _) _
        have LEA9 : Hid (pr < x1.heap.size) := RA.out.lt
        have RA := hid (RA.out.below HBx20)
        have A9 := hid (Blk.new x1 26 Z)
        clear HBx20
        refine hQc.out _ _ Gx20 (fun hHeld => ?_)
        clear hQc Qc Gx1 hHeld
        generalize hgx20 : x1.heap.size = g9 at A9 LEA9 RA ⊢
        generalize x1.alloc (.cells Z 26) = x20 at Gx20 A9 RA ⊢
        clear hgx20
        try simp only [Act.put, List.setIfInBounds_toArray, List.set_cons_zero, List.set_cons_succ]
        refine wpAnyH_ready (rs := [5, 8]) (by kernel_rfl) (by simp) ?_
        refine (AllReadyH.cons (o := { dst := some 45, op := _, type := _, pos := _, after := _, guard := _ }) rfl (fun Qc hQc => ?_) (AllReadyH.cons (o := { dst := some 10, op := _, type := _, pos := _, after := _, guard := _ }) rfl (fun Qc hQc => ?_) AllReadyH.nil))
        ·
          go_simp
          go_at_call 48; refine (CR2.out pr pd _ RA.out).mono ?_; rintro e x21 ⟨gb, cv, cb, rfl, hgb, hkb, hcv, hra, hox21⟩; have RA := hid hra; have KB := hid hkb; have HCV := hid hcv; clear hgb hkb hcv hra
          have Gx21 : Hid (Vq1 cu ga w x21) := ⟨Gx20.out.b0.same (hox21.block _ Gx20.out.b0.lt (not_of (Nat.ne_of_gt LGA.out))), HRD.out pr w x20 x21 LP.out Gx20.out.bl hox21⟩
          have A9 := hid (A9.out.same (hox21.block _ A9.out.lt (not_of (Nat.ne_of_gt LEA9.out))))
          clear hox21
          go_wp2_with fail
          refine hQc.out _ _ Gx21 (fun hHeld => ?_)
          clear hQc Qc hHeld
          refine wpAnyH_strong (S' := fun w' => Hid (Vq2 cu ga cv gb w w')) (fun w' h => hid ⟨h.out.b0, h.out.bl⟩) _ _ _ _ ?_
          have Gx21 : Hid (Vq2 cu ga cv gb w x21) := ⟨Gx21.out.b0, KB.out, Gx21.out.bl⟩
          clear Gx20
          try simp only [Act.put, List.setIfInBounds_toArray, List.set_cons_zero, List.set_cons_succ]
          refine wpAnyH_take (i := 6) (oi := { dst := some 46, op := _, type := _, pos := _, after := _, guard := _ }) (v := ?_) rfl (by kernel_rfl) (by kernel_rfl) (by kernel_rfl) (fun _ _ _ h => h) (Or.inl ⟨by kernel_rfl, ?_⟩) Gx21 ?_
          rotate_left
          · (intro w hSw; go_simp; try with_reducible rfl)
          try simp only [Act.put, List.setIfInBounds_toArray, List.set_cons_zero, List.set_cons_succ]
          refine wpAnyH_take (i := 7) (oi := { dst := some 47, op := _, type := _, pos := _, after := _, guard := _ }) (v := .agg ((u8s TP).toArray)) rfl (by kernel_rfl) (by kernel_rfl) (by kernel_rfl) (fun _ _ _ h => h) (yieldsIf_load_mid (cs := u8s TP) (by rfl) _ _ rfl _ _ rfl _ (fun w' hSw => rng_of (Hid.out hSw).b1 HCV.out) Tryd.underlying26 rfl TPI.out) Gx21 ?_
          try simp only [Act.put, List.setIfInBounds_toArray, List.set_cons_zero, List.set_cons_succ]
          refine wpAnyH_ready (rs := [8]) (by kernel_rfl) (by simp) ?_
          refine (AllReadyH.cons (o := { dst := some 10, op := _, type := _, pos := _, after := _, guard := _ }) rfl (fun Qc hQc => ?_) AllReadyH.nil)
          go_simp
          have Gx22 := hid (Gx21.out.alloc (.cells Z16 23))
          have HBx22 : Below x21.heap.size x21 (x21.alloc (.cells Z16 23)) := (Below.refl _ _).alloc (Nat.le_refl _) _
          have LEA8 : Hid (pr < x21.heap.size) := RA.out.lt
          have A9 := hid (A9.out.below HBx22)
          have RA := hid (RA.out.below HBx22)
          have A8 := hid (Blk.new x21 23 Z16)
          clear HBx22
          refine hQc.out _ _ Gx22 (fun hHeld => ?_)
          clear hQc Qc Gx21 hHeld
          generalize hgx22 : x21.heap.size = g8 at A8 LEA8 A9 RA ⊢
          generalize x21.alloc (.cells Z16 23) = x22 at Gx22 A8 A9 RA ⊢
          clear hgx22
          try simp only [Act.put, List.setIfInBounds_toArray, List.set_cons_zero, List.set_cons_succ]
          refine wpAnyH_ready (rs := [10]) (by kernel_rfl) (by simp) ?_
          refine (AllReadyH.cons (o := { dst := none, op := _, type := _, pos := _, after := _, guard := _ }) rfl (fun Qc hQc => ?_) AllReadyH.nil)
          rw [if_pos (by rfl)]
          refine wp_store_row 23 (.tmp 10) (.tmp 43) rfl (g8) (u8s ID).toArray rfl rfl 23 Z16 A8.out IDC.out IDZ.out (u8s_all ID) ?_
          have Gx23 := hid (Gx22.out.row (g := g8) (Blk.ne Gx22.out.b0 A8.out (by decide)) (Blk.ne Gx22.out.b1 A8.out (by decide)) (by have := LEA8.out; have := LP.out; omega) (u8s ID).toArray)
          have A9 := hid (A9.out.rowFar (Blk.ne A9.out A8.out (by decide)) (u8s ID).toArray)
          have KI := hid (A8.out.row (u8s ID).toArray)
          clear A8
          refine hQc.out _ _ Gx23 (fun hHeld => ?_)
          clear hQc Qc Gx22 hHeld
          generalize x22.setRow (g8) (u8s ID).toArray = x23 at Gx23 A9 KI ⊢
          try simp only [Act.put, List.setIfInBounds_toArray, List.set_cons_zero, List.set_cons_succ]
          refine wpAnyH_ready (rs := [11]) (by kernel_rfl) (by simp) ?_
          refine (AllReadyH.cons (o := { dst := none, op := _, type := _, pos := _, after := _, guard := _ }) rfl (fun Qc hQc => ?_) AllReadyH.nil)
          rw [if_pos (by rfl)]
          refine wp_store_row 26 (.tmp 11) (.tmp 47) rfl (g9) (u8s TP).toArray rfl rfl 26 Z A9.out TPC.out TPZ.out (u8s_all TP) ?_
          have Gx24 := hid (Gx23.out.row (g := g9) (Blk.ne Gx23.out.b0 A9.out (by decide)) (Blk.ne Gx23.out.b1 A9.out (by decide)) (by have := LEA9.out; have := LP.out; omega) (u8s TP).toArray)
          have KI := hid (KI.out.rowFar (Blk.ne KI.out A9.out (by decide)) (u8s TP).toArray)
          have KT := hid (A9.out.row (u8s TP).toArray)
          clear A9
          refine hQc.out _ _ Gx24 (fun hHeld => ?_)
          clear hQc Qc Gx23 hHeld
          generalize x23.setRow (g9) (u8s TP).toArray = x24 at Gx24 KI KT ⊢
          try simp only [Act.put, List.setIfInBounds_toArray, List.set_cons_zero, List.set_cons_succ]
          refine wpAnyH_done (by kernel_rfl) ?_ _
          try simp only [Act.put, List.setIfInBounds_toArray, List.set_cons_zero, List.set_cons_succ]
          go_wp2
          go_meet
          exact ⟨g8, g9, rfl, rfl, KI, KT, Gx24.out.bl⟩
        ·
          go_simp
          have Gx25 := hid (Gx20.out.alloc (.cells Z16 23))
          have HBx25 : Below x20.heap.size x20 (x20.alloc (.cells Z16 23)) := (Below.refl _ _).alloc (Nat.le_refl _) _
          have LEA8 : Hid (pr < x20.heap.size) := RA.out.lt
          have RA := hid (RA.out.below HBx25)
          have A9 := hid (A9.out.below HBx25)
          have A8 := hid (Blk.new x20 23 Z16)
          clear HBx25
          refine hQc.out _ _ Gx25 (fun hHeld => ?_)
          clear hQc Qc Gx20 hHeld
          generalize hgx25 : x20.heap.size = g8 at A8 LEA8 RA A9 ⊢
          generalize x20.alloc (.cells Z16 23) = x25 at Gx25 A8 RA A9 ⊢
          clear hgx25
          try simp only [Act.put, List.setIfInBounds_toArray, List.set_cons_zero, List.set_cons_succ]
          refine wpAnyH_ready (rs := [5]) (by kernel_rfl) (by simp) ?_
          refine (AllReadyH.cons (o := { dst := some 45, op := _, type := _, pos := _, after := _, guard := _ }) rfl (fun Qc hQc => ?_) AllReadyH.nil)
          go_simp
          go_at_call 48; refine (CR2.out pr pd _ RA.out).mono ?_; rintro e x26 ⟨gb, cv, cb, rfl, hgb, hkb, hcv, hra, hox26⟩; have RA := hid hra; have KB := hid hkb; have HCV := hid hcv; clear hgb hkb hcv hra
          have Gx26 : Hid (Vq1 cu ga w x26) := ⟨Gx25.out.b0.same (hox26.block _ Gx25.out.b0.lt (not_of (Nat.ne_of_gt LGA.out))), HRD.out pr w x25 x26 LP.out Gx25.out.bl hox26⟩
          have A9 := hid (A9.out.same (hox26.block _ A9.out.lt (not_of (Nat.ne_of_gt LEA9.out))))
          have A8 := hid (A8.out.same (hox26.block _ A8.out.lt (not_of (Nat.ne_of_gt LEA8.out))))
          clear hox26
          go_wp2_with fail
          refine hQc.out _ _ Gx26 (fun hHeld => ?_)
          clear hQc Qc hHeld
          refine wpAnyH_strong (S' := fun w' => Hid (Vq2 cu ga cv gb w w')) (fun w' h => hid ⟨h.out.b0, h.out.bl⟩) _ _ _ _ ?_
          have Gx26 : Hid (Vq2 cu ga cv gb w x26) := ⟨Gx26.out.b0, KB.out, Gx26.out.bl⟩
          clear Gx25
          try simp only [Act.put, List.setIfInBounds_toArray, List.set_cons_zero, List.set_cons_succ]
          refine wpAnyH_take (i := 6) (oi := { dst := some 46, op := _, type := _, pos := _, after := _, guard := _ }) (v := ?_) rfl (by kernel_rfl) (by kernel_rfl) (by kernel_rfl) (fun _ _ _ h => h) (Or.inl ⟨by kernel_rfl, ?_⟩) Gx26 ?_
          rotate_left
          · (intro w hSw; go_simp; try with_reducible rfl)
          try simp only [Act.put, List.setIfInBounds_toArray, List.set_cons_zero, List.set_cons_succ]
          refine wpAnyH_take (i := 7) (oi := { dst := some 47, op := _, type := _, pos := _, after := _, guard := _ }) (v := .agg ((u8s TP).toArray)) rfl (by kernel_rfl) (by kernel_rfl) (by kernel_rfl) (fun _ _ _ h => h) (yieldsIf_load_mid (cs := u8s TP) (by rfl) _ _ rfl _ _ rfl _ (fun w' hSw => rng_of (Hid.out hSw).b1 HCV.out) Tryd.underlying26 rfl TPI.out) Gx26 ?_
          try simp only [Act.put, List.setIfInBounds_toArray, List.set_cons_zero, List.set_cons_succ]
          refine wpAnyH_ready (rs := [10]) (by kernel_rfl) (by simp) ?_
          refine (AllReadyH.cons (o := { dst := none, op := _, type := _, pos := _, after := _, guard := _ }) rfl (fun Qc hQc => ?_) AllReadyH.nil)
          rw [if_pos (by rfl)]
          refine wp_store_row 23 (.tmp 10) (.tmp 43) rfl (g8) (u8s ID).toArray rfl rfl 23 Z16 A8.out IDC.out IDZ.out (u8s_all ID) ?_
          have Gx27 := hid (Gx26.out.row (g := g8) (Blk.ne Gx26.out.b0 A8.out (by decide)) (Blk.ne Gx26.out.b1 A8.out (by decide)) (by have := LEA8.out; have := LP.out; omega) (u8s ID).toArray)
          have A9 := hid (A9.out.rowFar (Blk.ne A9.out A8.out (by decide)) (u8s ID).toArray)
          have KI := hid (A8.out.row (u8s ID).toArray)
          clear A8
          refine hQc.out _ _ Gx27 (fun hHeld => ?_)
          clear hQc Qc Gx26 hHeld
          generalize x26.setRow (g8) (u8s ID).toArray = x27 at Gx27 A9 KI ⊢
          try simp only [Act.put, List.setIfInBounds_toArray, List.set_cons_zero, List.set_cons_succ]
          refine wpAnyH_ready (rs := [11]) (by kernel_rfl) (by simp) ?_
          refine (AllReadyH.cons (o := { dst := none, op := _, type := _, pos := _, after := _, guard := _ }) rfl (fun Qc hQc => ?_) AllReadyH.nil)
          rw [if_pos (by rfl)]
          refine wp_store_row 26 (.tmp 11) (.tmp 47) rfl (g9) (u8s TP).toArray rfl rfl 26 Z A9.out TPC.out TPZ.out (u8s_all TP) ?_
          have Gx28 := hid (Gx27.out.row (g := g9) (Blk.ne Gx27.out.b0 A9.out (by decide)) (Blk.ne Gx27.out.b1 A9.out (by decide)) (by have := LEA9.out; have := LP.out; omega) (u8s TP).toArray)
          have KI := hid (KI.out.rowFar (Blk.ne KI.out A9.out (by decide)) (u8s TP).toArray)
          have KT := hid (A9.out.row (u8s TP).toArray)
          clear A9
          refine hQc.out _ _ Gx28 (fun hHeld => ?_)
          clear hQc Qc Gx27 hHeld
          generalize x27.setRow (g9) (u8s TP).toArray = x28 at Gx28 KI KT ⊢
          try simp only [Act.put, List.setIfInBounds_toArray, List.set_cons_zero, List.set_cons_succ]
          refine wpAnyH_done (by kernel_rfl) ?_ _
          try simp only [Act.put, List.setIfInBounds_toArray, List.set_cons_zero, List.set_cons_succ]
          go_wp2
          go_meet
          exact ⟨g8, g9, rfl, rfl, KI, KT, Gx28.out.bl⟩
    ·
      go_simp
      have Gx29 := hid (Gx0.out.alloc (.cells Z16 23))
      have HBx29 : Below x0.heap.size x0 (x0.alloc (.cells Z16 23)) := (Below.refl _ _).alloc (Nat.le_refl _) _
      have LEA8 : Hid (pr < x0.heap.size) := RA.out.lt
      have RA := hid (RA.out.below HBx29)
      have A8 := hid (Blk.new x0 23 Z16)
      clear HBx29
      refine hQc.out _ _ Gx29 (fun hHeld => ?_)
      clear hQc Qc Gx0 hHeld
      generalize hgx29 : x0.heap.size = g8 at A8 LEA8 RA ⊢
      generalize x0.alloc (.cells Z16 23) = x29 at Gx29 A8 RA ⊢
      clear hgx29
      try simp only [Act.put, List.setIfInBounds_toArray, List.set_cons_zero, List.set_cons_succ]
      refine wpAnyH_ready (rs := [1, 9]) (by kernel_rfl) (by simp) ?_
      refine (AllReadyH.cons (o := { dst := some 41, op := _, type := _, pos := _, after := _, guard := _ }) rfl (fun Qc hQc => ?_) (AllReadyH.cons (o := { dst := some 11, op := _, type := _, pos := _, after := _, guard := _ }) rfl (fun Qc hQc => ?_) AllReadyH.nil))
      ·
        go_simp
        go_at_call 48; refine (CR1.out pr pd _ RA.out).mono ?_; rintro e x30 ⟨ga, cu, ca, rfl, hga, hka, hcu, hra, hox30⟩; have LGA : Hid (pr < ga) := Nat.lt_of_lt_of_le RA.out.lt hga; have RA := hid hra; have KA := hid hka; have HCU := hid hcu; clear hga hka hcu hra
        have Gx30 : Hid (Vq0 0 w x30) := ⟨HRD.out pr w x29 x30 LP.out Gx29.out.bl hox30⟩
        have A8 := hid (A8.out.same (hox30.block _ A8.out.lt (not_of (Nat.ne_of_gt LEA8.out))))
        clear hox30
        go_wp2_with fail
        refine hQc.out _ _ Gx30 (fun hHeld => ?_)
        clear hQc Qc hHeld
        refine wpAnyH_strong (S' := fun w' => Hid (Vq1 cu ga w w')) (fun w' h => hid ⟨h.out.bl⟩) _ _ _ _ ?_
        have Gx30 : Hid (Vq1 cu ga w x30) := ⟨KA.out, Gx30.out.bl⟩
        clear Gx29
        try simp only [Act.put, List.setIfInBounds_toArray, List.set_cons_zero, List.set_cons_succ]
        refine wpAnyH_take (i := 2) (oi := { dst := some 42, op := _, type := _, pos := _, after := _, guard := _ }) (v := ?_) rfl (by kernel_rfl) (by kernel_rfl) (by kernel_rfl) (fun _ _ _ h => h) (Or.inl ⟨by kernel_rfl, ?_⟩) Gx30 ?_
        rotate_left
        · (intro w hSw; go_simp; try with_reducible rfl)
        try simp only [Act.put, List.setIfInBounds_toArray, List.set_cons_zero, List.set_cons_succ]
        refine wpAnyH_take (i := 3) (oi := { dst := some 43, op := _, type := _, pos := _, after := _, guard := _ }) (v := .agg ((u8s ID).toArray)) rfl (by kernel_rfl) (by kernel_rfl) (by kernel_rfl) (fun _ _ _ h => h) (yieldsIf_load_mid (cs := u8s ID) (by rfl) _ _ rfl _ _ rfl _ (fun w' hSw => rng_of (Hid.out hSw).b0 HCU.out) Tryd.underlying23 rfl IDI.out) Gx30 ?_
        try simp only [Act.put, List.setIfInBounds_toArray, List.set_cons_zero, List.set_cons_succ]
        refine wpAnyH_ready (rs := [5, 9]) (by kernel_rfl) (by simp) ?_
        refine (AllReadyH.cons (o := { dst := some 45, op := _, type := _, pos := _, after := _, guard := _ }) rfl (fun Qc hQc => ?_) (AllReadyH.cons (o := { dst := some 11, op := _, type := _, pos := _, after := _, guard := _ }) rfl (fun Qc hQc => ?_) AllReadyH.nil))
        ·
          go_simp
          go_at_call 48; refine (CR2.out pr pd _ RA.out).mono ?_; rintro e x31 ⟨gb, cv, cb, rfl, hgb, hkb, hcv, hra, hox31⟩; have RA := hid hra; have KB := hid hkb; have HCV := hid hcv; clear hgb hkb hcv hra
          have Gx31 : Hid (Vq1 cu ga w x31) := ⟨Gx30.out.b0.same (hox31.block _ Gx30.out.b0.lt (not_of (Nat.ne_of_gt LGA.out))), HRD.out pr w x30 x31 LP.out Gx30.out.bl hox31⟩
          have A8 := hid (A8.out.same (hox31.block _ A8.out.lt (not_of (Nat.ne_of_gt LEA8.out))))
          clear hox31
          go_wp2_with fail
          refine hQc.out _ _ Gx31 (fun hHeld => ?_)
          clear hQc Qc hHeld
          refine wpAnyH_strong (S' := fun w' => Hid (Vq2 cu ga cv gb w w')) (fun w' h => hid ⟨h.out.b0, h.out.bl⟩) _ _ _ _ ?_
          have Gx31 : Hid (Vq2 cu ga cv gb w x31) := ⟨Gx31.out.b0, KB.out, Gx31.out.bl⟩
          clear Gx30
          try simp only [Act.put, List.setIfInBounds_toArray, List.set_cons_zero, List.set_cons_succ]
          refine wpAnyH_take (i := 6) (oi := { dst := some 46, op := _, type := _, pos := _, after := _, guard := _ }) (v := ?_) rfl (by kernel_rfl) (by kernel_rfl) (by kernel_rfl) (fun _ _ _ h => h) (Or.inl ⟨by kernel_rfl, ?_⟩) Gx31 ?_
          rotate_left
          · (intro w hSw; go_simp; try with_reducible rfl)
          try simp only [Act.put, List.setIfInBounds_toArray, List.set_cons_zero, List.set_cons_succ]
          refine wpAnyH_take (i := 7) (oi := { dst := some 47, op := _, type := _, pos := _, after := _, guard := _ }) (v := .agg ((u8s TP).toArray)) rfl (by kernel_rfl) (by kernel_rfl) (by kernel_rfl) (fun _ _ _ h => h) (yieldsIf_load_mid (cs := u8s TP) (by rfl) _ _ rfl _ _ rfl _ (fun w' hSw => rng_of (Hid.out hSw).b1 HCV.out) Tryd.underlying26 rfl TPI.out) Gx31 ?_
          try simp only [Act.put, List.setIfInBounds_toArray, List.set_cons_zero, List.set_cons_succ]
          refine wpAnyH_ready (rs := [9]) (by kernel_rfl) (by simp) ?_
          refine (AllReadyH.cons (o := { dst := some 11, op := _, type := _, pos := _, after := _, guard := _ }) rfl (fun Qc hQc => ?_) AllReadyH.nil)
          go_simp
          have Gx32 := hid (Gx31.out.alloc (.cells Z 26))
          have HBx32 : Below x31.heap.size x31 (x31.alloc (.cells Z 26)) := (Below.refl _ _).alloc (Nat.le_refl _) _
          have LEA9 : Hid (pr < x31.heap.size) := RA.out.lt
          have A8 := hid (A8.out.below HBx32)
          have RA := hid (RA.out.below HBx32)
          have A9 := hid (Blk.new x31 26 Z)
          clear HBx32
          refine hQc.out _ _ Gx32 (fun hHeld => ?_)
          clear hQc Qc Gx31 hHeld
          generalize hgx32 : x31.heap.size = g9 at A9 LEA9 A8 RA ⊢
          generalize x31.alloc (.cells Z 26) = x32 at Gx32 A9 A8 RA ⊢
          clear hgx32
          try simp only [Act.put, List.setIfInBounds_toArray, List.set_cons_zero, List.set_cons_succ]
          refine wpAnyH_ready (rs := [10]) (by kernel_rfl) (by simp) ?_
          refine (AllReadyH.cons (o := { dst := none, op := _, type := _, pos := _, after := _, guard := _ }) rfl (fun Qc hQc => ?_) AllReadyH.nil)
          rw [if_pos (by rfl)]
          refine wp_store_row 23 (.tmp 10) (.tmp 43) rfl (g8) (u8s ID).toArray rfl rfl 23 Z16 A8.out IDC.out IDZ.out (u8s_all ID) ?_
          have Gx33 := hid (Gx32.out.row (g := g8) (Blk.ne Gx32.out.b0 A8.out (by decide)) (Blk.ne Gx32.out.b1 A8.out (by decide)) (by have := LEA8.out; have := LP.out; omega) (u8s ID).toArray)
          have A9 := hid (A9.out.rowFar (Blk.ne A9.out A8.out (by decide)) (u8s ID).toArray)
          have KI := hid (A8.out.row (u8s ID).toArray)
          clear A8
          refine hQc.out _ _ Gx33 (fun hHeld => ?_)
          clear hQc Qc Gx32 hHeld
          generalize x32.setRow (g8) (u8s ID).toArray = x33 at Gx33 A9 KI ⊢
          try simp only [Act.put, List.setIfInBounds_toArray, List.set_cons_zero, List.set_cons_succ]
          refine wpAnyH_ready (rs := [11]) (by kernel_rfl) (by simp) ?_
          refine (AllReadyH.cons (o := { dst := none, op := _, type := _, pos := _, after := _, guard := _ }) rfl (fun Qc hQc => ?_) AllReadyH.nil)
          rw [if_pos (by rfl)]
          refine wp_store_row 26 (.tmp 11) (.tmp 47) rfl (g9) (u8s TP).toArray rfl rfl 26 Z A9.out TPC.out TPZ.out (u8s_all TP) ?_
          have Gx34 := hid (Gx33.out.row (g := g9) (Blk.ne Gx33.out.b0 A9.out (by decide)) (Blk.ne Gx33.out.b1 A9.out (by decide)) (by have := LEA9.out; have := LP.out; omega) (u8s TP).toArray)
          have KI := hid (KI.out.rowFar (Blk.ne KI.out A9.out (by decide)) (u8s TP).toArray)
          have KT := hid (A9.out.row (u8s TP).toArray)
          clear A9
          refine hQc.out _ _ Gx34 (fun hHeld => ?_)
          clear hQc Qc Gx33 hHeld
          generalize x33.setRow (g9) (u8s TP).toArray = x34 at Gx34 KI KT ⊢
          try simp only [Act.put, List.setIfInBounds_toArray, List.set_cons_zero, List.set_cons_succ]
          refine wpAnyH_done (by kernel_rfl) ?_ _
          try simp only [Act.put, List.setIfInBounds_toArray, List.set_cons_zero, List.set_cons_succ]
          go_wp2
          go_meet
          exact ⟨g8, g9, rfl, rfl, KI, KT, Gx34.out.bl⟩
        ·
          go_simp
          have Gx35 := hid (Gx30.out.alloc (.cells Z 26))
          have HBx35 : Below x30.heap.size x30 (x30.alloc (.cells Z 26)) := (Below.refl _ _).alloc (Nat.le_refl _) _
          have LEA9 : Hid (pr < x30.heap.size) := RA.out.lt
          have A8 := hid (A8.out.below HBx35)
          have RA := hid (RA.out.below HBx35)
          have A9 := hid (Blk.new x30 26 Z)
          clear HBx35
          refine hQc.out _ _ Gx35 (fun hHeld => ?_)
          clear hQc Qc Gx30 hHeld
          generalize hgx35 : x30.heap.size = g9 at A9 LEA9 A8 RA ⊢
          generalize x30.alloc (.cells Z 26) = x35 at Gx35 A9 A8 RA ⊢
          clear hgx35
          try simp only [Act.put, List.setIfInBounds_toArray, List.set_cons_zero, List.set_cons_succ]
          refine wpAnyH_ready (rs := [5]) (by kernel_rfl) (by simp) ?_
          refine (AllReadyH.cons (o := { dst := some 45, op := _, type := _, pos := _, after := _, guard := _ }) rfl (fun Qc hQc => ?_) AllReadyH.nil)
          go_simp
          go_at_call 48; refine (CR2.out pr pd _ RA.out).mono ?_; rintro e x36 ⟨gb, cv, cb, rfl, hgb, hkb, hcv, hra, hox36⟩; have RA := hid hra; have KB := hid hkb; have HCV := hid hcv; clear hgb hkb hcv hra
          have Gx36 : Hid (Vq1 cu ga w x36) := ⟨Gx35.out.b0.same (hox36.block _ Gx35.out.b0.lt (not_of (Nat.ne_of_gt LGA.out))), HRD.out pr w x35 x36 LP.out Gx35.out.bl hox36⟩
          have A8 := hid (A8.out.same (hox36.block _ A8.out.lt (not_of (Nat.ne_of_gt LEA8.out))))
          have A9 := hid (A9.out.same (hox36.block _ A9.out.lt (not_of (Nat.ne_of_gt LEA9.out))))
          clear hox36
          go_wp2_with fail
          refine hQc.out _ _ Gx36 (fun hHeld => ?_)
          clear hQc Qc hHeld
          refine wpAnyH_strong (S' := fun w' => Hid (Vq2 cu ga cv gb w w')) (fun w' h => hid ⟨h.out.b0, h.out.bl⟩) _ _ _ _ ?_
          have Gx36 : Hid (Vq2 cu ga cv gb w x36) := ⟨Gx36.out.b0, KB.out, Gx36.out.bl⟩
          clear Gx35
          try simp only [Act.put, List.setIfInBounds_toArray, List.set_cons_zero, List.set_cons_succ]
          refine wpAnyH_take (i := 6) (oi := { dst := some 46, op := _, type := _, pos := _, after := _, guard := _ }) (v := ?_) rfl (by kernel_rfl) (by kernel_rfl) (by kernel_rfl) (fun _ _ _ h => h) (Or.inl ⟨by kernel_rfl, ?_⟩) Gx36 ?_
          rotate_left
          · (intro w hSw; go_simp; try with_reducible rfl)
          try simp only [Act.put, List.setIfInBounds_toArray, List.set_cons_zero, List.set_cons_succ]
          refine wpAnyH_take (i := 7) (oi := { dst := some 47, op := _, type := _, pos := _, after := _, guard := _ }) (v := .agg ((u8s TP).toArray)) rfl (by kernel_rfl) (by kernel_rfl) (by kernel_rfl) (fun _ _ _ h => h) (yieldsIf_load_mid (cs := u8s TP) (by rfl) _ _ rfl _ _ rfl _ (fun w' hSw => rng_of (Hid.out hSw).b1 HCV.out) Tryd.underlying26 rfl TPI.out) Gx36 ?_
          try simp only [Act.put, List.setIfInBounds_toArray, List.set_cons_zero, List.set_cons_succ]
          refine wpAnyH_ready (rs := [10]) (by kernel_rfl) (by simp) ?_
          refine (AllReadyH.cons (o := { dst := none, op := _, type := _, pos := _, after := _, guard := _ }) rfl (fun Qc hQc => ?_) AllReadyH.nil)
          rw [if_pos (by rfl)]
          refine wp_store_row 23 (.tmp 10) (.tmp 43) rfl (g8) (u8s ID).toArray rfl rfl 23 Z16 A8.out IDC.out IDZ.out (u8s_all ID) ?_
          have Gx37 := hid (Gx36.out.row (g := g8) (Blk.ne Gx36.out.b0 A8.out (by decide)) (Blk.ne Gx36.out.b1 A8.out (by decide)) (by have := LEA8.out; have := LP.out; omega) (u8s ID).toArray)
          have A9 := hid (A9.out.rowFar (Blk.ne A9.out A8.out (by decide)) (u8s ID).toArray)
          have KI := hid (A8.out.row (u8s ID).toArray)
          clear A8
          refine hQc.out _ _ Gx37 (fun hHeld => ?_)
          clear hQc Qc Gx36 hHeld
          generalize x36.setRow (g8) (u8s ID).toArray = x37 at Gx37 A9 KI ⊢
          try simp only [Act.put, List.setIfInBounds_toArray, List.set_cons_zero, List.set_cons_succ]
          refine wpAnyH_ready (rs := [11]) (by kernel_rfl) (by simp) ?_
          refine (AllReadyH.cons (o := { dst := none, op := _, type := _, pos := _, after := _, guard := _ }) rfl (fun Qc hQc => ?_) AllReadyH.nil)
          rw [if_pos (by rfl)]
          refine wp_store_row 26 (.tmp 11) (.tmp 47) rfl (g9) (u8s TP).toArray rfl rfl 26 Z A9.out TPC.out TPZ.out (u8s_all TP) ?_
          have Gx38 := hid (Gx37.out.row (g := g9) (Blk.ne Gx37.out.b0 A9.out (by decide)) (Blk.ne Gx37.out.b1 A9.out (by decide)) (by have := LEA9.out; have := LP.out; omega) (u8s TP).toArray)
          have KI := hid (KI.out.rowFar (Blk.ne KI.out A9.out (by decide)) (u8s TP).toArray)
          have KT := hid (A9.out.row (u8s TP).toArray)
          clear A9
          refine hQc.out _ _ Gx38 (fun hHeld => ?_)
          clear hQc Qc Gx37 hHeld
          generalize x37.setRow (g9) (u8s TP).toArray = x38 at Gx38 KI KT ⊢
          try simp only [Act.put, List.setIfInBounds_toArray, List.set_cons_zero, List.set_cons_succ]
          refine wpAnyH_done (by kernel_rfl) ?_ _
          try simp only [Act.put, List.setIfInBounds_toArray, List.set_cons_zero, List.set_cons_succ]
          go_wp2
          go_meet
          exact ⟨g8, g9, rfl, rfl, KI, KT, Gx38.out.bl⟩
      ·
        go_simp
        have Gx39 := hid (Gx29.out.alloc (.cells Z 26))
        have HBx39 : Below x29.heap.size x29 (x29.alloc (.cells Z 26)) := (Below.refl _ _).alloc (Nat.le_refl _) _
        have LEA9 : Hid (pr < x29.heap.size) := RA.out.lt
        have RA := hid (RA.out.below HBx39)
        have A8 := hid (A8.out.below HBx39)
        have A9 := hid (Blk.new x29 26 Z)
        clear HBx39
        refine hQc.out _ _ Gx39 (fun hHeld => ?_)
        clear hQc Qc Gx29 hHeld
        generalize hgx39 : x29.heap.size = g9 at A9 LEA9 RA A8 ⊢
        generalize x29.alloc (.cells Z 26) = x39 at Gx39 A9 RA A8 ⊢
        clear hgx39
        try simp only [Act.put, List.setIfInBounds_toArray, List.set_cons_zero, List.set_cons_succ]
        refine wpAnyH_ready (rs := [1]) (by kernel_rfl) (by simp) ?_
        refine (AllReadyH.cons (o := { dst := some 41, op := _, type := _, pos := _, after := _, guard := _ }) rfl (fun Qc hQc => ?_) AllReadyH.nil)
        go_simp
        go_at_call 48; refine (CR1.out pr pd _ RA.out).mono ?_; rintro e x40 ⟨ga, cu, ca, rfl, hga, hka, hcu, hra, hox40⟩; have LGA : Hid (pr < ga) := Nat.lt_of_lt_of_le RA.out.lt hga; have RA := hid hra; have KA := hid hka; have HCU := hid hcu; clear hga hka hcu hra
        have Gx40 : Hid (Vq0 0 w x40) := ⟨HRD.out pr w x39 x40 LP.out Gx39.out.bl hox40⟩
        have A8 := hid (A8.out.same (hox40.block _ A8.out.lt (not_of (Nat.ne_of_gt LEA8.out))))
        have A9 := hid (A9.out.same (hox40.block _ A9.out.lt (not_of (Nat.ne_of_gt LEA9.out))))
        clear hox40
        go_wp2_with fail
        refine hQc.out _ _ Gx40 (fun hHeld => ?_)
        clear hQc Qc hHeld
        refine wpAnyH_strong (S' := fun w' => Hid (Vq1 cu ga w w')) (fun w' h => hid ⟨h.out.bl⟩) _ _ _ _ ?_
        have Gx40 : Hid (Vq1 cu ga w x40) := ⟨KA.out, Gx40.out.bl⟩
        clear Gx39
        try simp only [Act.put, List.setIfInBounds_toArray, List.set_cons_zero, List.set_cons_succ]
        refine wpAnyH_take (i := 2) (oi := { dst := some 42, op := _, type := _, pos := _, after := _, guard := _ }) (v := ?_) rfl (by kernel_rfl) (by kernel_rfl) (by kernel_rfl) (fun _ _ _ h => h) (Or.inl ⟨by kernel_rfl, ?_⟩) Gx40 ?_
        rotate_left
        · (intro w hSw; go_simp; try with_reducible rfl)
        try simp only [Act.put, List.setIfInBounds_toArray, List.set_cons_zero, List.set_cons_succ]
        refine wpAnyH_take (i := 3) (oi := { dst := some 43, op := _, type := _, pos := _, after := _, guard := _ }) (v := .agg ((u8s ID).toArray)) rfl (by kernel_rfl) (by kernel_rfl) (by kernel_rfl) (fun _ _ _ h => h) (yieldsIf_load_mid (cs := u8s ID) (by rfl) _ _ rfl _ _ rfl _ (fun w' hSw => rng_of (Hid.out hSw).b0 HCU.out) Tryd.underlying23 rfl IDI.out) Gx40 ?_
        try simp only [Act.put, List.setIfInBounds_toArray, List.set_cons_zero, List.set_cons_succ]
        refine wpAnyH_ready (rs := [5]) (by kernel_rfl) (by simp) ?_
        refine (AllReadyH.cons (o := { dst := some 45, op := _, type := _, pos := _, after := _, guard := _ }) rfl (fun Qc hQc => ?_) AllReadyH.nil)
        go_simp
        go_at_call 48; refine (CR2.out pr pd _ RA.out).mono ?_; rintro e x41 ⟨gb, cv, cb, rfl, hgb, hkb, hcv, hra, hox41⟩; have RA := hid hra; have KB := hid hkb; have HCV := hid hcv; clear hgb hkb hcv hra
        have Gx41 : Hid (Vq1 cu ga w x41) := ⟨Gx40.out.b0.same (hox41.block _ Gx40.out.b0.lt (not_of (Nat.ne_of_gt LGA.out))), HRD.out pr w x40 x41 LP.out Gx40.out.bl hox41⟩
        have A8 := hid (A8.out.same (hox41.block _ A8.out.lt (not_of (Nat.ne_of_gt LEA8.out))))
        have A9 := hid (A9.out.same (hox41.block _ A9.out.lt (not_of (Nat.ne_of_gt LEA9.out))))
        clear hox41
        go_wp2_with fail
        refine hQc.out _ _ Gx41 (fun hHeld => ?_)
        clear hQc Qc hHeld
        refine wpAnyH_strong (S' := fun w' => Hid (Vq2 cu ga cv gb w w')) (fun w' h => hid ⟨h.out.b0, h.out.bl⟩) _ _ _ _ ?_
        have Gx41 : Hid (Vq2 cu ga cv gb w x41) := ⟨Gx41.out.b0, KB.out, Gx41.out.bl⟩
        clear Gx40
        try simp only [Act.put, List.setIfInBounds_toArray, List.set_cons_zero, List.set_cons_succ]
        refine wpAnyH_take (i := 6) (oi := { dst := some 46, op := _, type := _, pos := _, after := _, guard := _ }) (v := ?_) rfl (by kernel_rfl) (by kernel_rfl) (by kernel_rfl) (fun _ _ _ h => h) (Or.inl ⟨by kernel_rfl, ?_⟩) Gx41 ?_
        rotate_left
        · (intro w hSw; go_simp; try with_reducible rfl)
        try simp only [Act.put, List.setIfInBounds_toArray, List.set_cons_zero, List.set_cons_succ]
        refine wpAnyH_take (i := 7) (oi := { dst := some 47, op := _, type := _, pos := _, after := _, guard := _ }) (v := .agg ((u8s TP).toArray)) rfl (by kernel_rfl) (by kernel_rfl) (by kernel_rfl) (fun _ _ _ h => h) (yieldsIf_load_mid (cs := u8s TP) (by rfl) _ _ rfl _ _ rfl _ (fun w' hSw => rng_of (Hid.out hSw).b1 HCV.out) Tryd.underlying26 rfl TPI.out) Gx41 ?_
        try simp only [Act.put, List.setIfInBounds_toArray, List.set_cons_zero, List.set_cons_succ]
        refine wpAnyH_ready (rs := [10]) (by kernel_rfl) (by simp) ?_
        refine (AllReadyH.cons (o := { dst := none, op := _, type := _, pos := _, after := _, guard := _ }) rfl (fun Qc hQc => ?_) AllReadyH.nil)
        rw [if_pos (by rfl)]
        refine wp_store_row 23 (.tmp 10) (.tmp 43) rfl (g8) (u8s ID).toArray rfl rfl 23 Z16 A8.out IDC.out IDZ.out (u8s_all ID) ?_
        have Gx42 := hid (Gx41.out.row (g := g8) (Blk.ne Gx41.out.b0 A8.out (by decide)) (Blk.ne Gx41.out.b1 A8.out (by decide)) (by have := LEA8.out; have := LP.out; omega) (u8s ID).toArray)
        have A9 := hid (A9.out.rowFar (Blk.ne A9.out A8.out (by decide)) (u8s ID).toArray)
        have KI := hid (A8.out.row (u8s ID).toArray)
        clear A8
        refine hQc.out _ _ Gx42 (fun hHeld => ?_)
        clear hQc Qc Gx41 hHeld
        generalize x41.setRow (g8) (u8s ID).toArray = x42 at Gx42 A9 KI ⊢
        try simp only [Act.put, List.setIfInBounds_toArray, List.set_cons_zero, List.set_cons_succ]
        refine wpAnyH_ready (rs := [11]) (by kernel_rfl) (by simp) ?_
        refine (AllReadyH.cons (o := { dst := none, op := _, type := _, pos := _, after := _, guard := _ }) rfl (fun Qc hQc => ?_) AllReadyH.nil)
        rw [if_pos (by rfl)]
        refine wp_store_row 26 (.tmp 11) (.tmp 47) rfl (g9) (u8s TP).toArray rfl rfl 26 Z A9.out TPC.out TPZ.out (u8s_all TP) ?_
        have Gx43 := hid (Gx42.out.row (g := g9) (Blk.ne Gx42.out.b0 A9.out (by decide)) (Blk.ne Gx42.out.b1 A9.out (by decide)) (by have := LEA9.out; have := LP.out; omega) (u8s TP).toArray)
        have KI := hid (KI.out.rowFar (Blk.ne KI.out A9.out (by decide)) (u8s TP).toArray)
        have KT := hid (A9.out.row (u8s TP).toArray)
        clear A9
        refine hQc.out _ _ Gx43 (fun hHeld => ?_)
        clear hQc Qc Gx42 hHeld
        generalize x42.setRow (g9) (u8s TP).toArray = x43 at Gx43 KI KT ⊢
        try simp only [Act.put, List.setIfInBounds_toArray, List.set_cons_zero, List.set_cons_succ]
        refine wpAnyH_done (by kernel_rfl) ?_ _
        try simp only [Act.put, List.setIfInBounds_toArray, List.set_cons_zero, List.set_cons_succ]
        go_wp2
        go_meet
        exact ⟨g8, g9, rfl, rfl, KI, KT, Gx43.out.bl⟩
    ·
      go_simp
      have Gx44 := hid (Gx0.out.alloc (.cells Z 26))
      have HBx44 : Below x0.heap.size x0 (x0.alloc (.cells Z 26)) := (Below.refl _ _).alloc (Nat.le_refl _) _
      have LEA9 : Hid (pr < x0.heap.size) := RA.out.lt
      have RA := hid (RA.out.below HBx44)
      have A9 := hid (Blk.new x0 26 Z)
      clear HBx44
      refine hQc.out _ _ Gx44 (fun hHeld => ?_)
      clear hQc Qc Gx0 hHeld
      generalize hgx44 : x0.heap.size = g9 at A9 LEA9 RA ⊢
      generalize x0.alloc (.cells Z 26) = x44 at Gx44 A9 RA ⊢
      clear hgx44
      try simp only [Act.put, List.setIfInBounds_toArray, List.set_cons_zero, List.set_cons_succ]
      refine wpAnyH_ready (rs := [1, 8]) (by kernel_rfl) (by simp) ?_
      refine (AllReadyH.cons (o := { dst := some 41, op := _, type := _, pos := _, after := _, guard := _ }) rfl (fun Qc hQc => ?_) (AllReadyH.cons (o := { dst := some 10, op := _, type := _, pos := _, after := _, guard := _ }) rfl (fun Qc hQc => ?_) AllReadyH.nil))
      ·
        go_simp
        go_at_call 48; refine (CR1.out pr pd _ RA.out).mono ?_; rintro e x45 ⟨ga, cu, ca, rfl, hga, hka, hcu, hra, hox45⟩; have LGA : Hid (pr < ga) := Nat.lt_of_lt_of_le RA.out.lt hga; have RA := hid hra; have KA := hid hka; have HCU := hid hcu; clear hga hka hcu hra
        have Gx45 : Hid (Vq0 0 w x45) := ⟨HRD.out pr w x44 x45 LP.out Gx44.out.bl hox45⟩
        have A9 := hid (A9.out.same (hox45.block _ A9.out.lt (not_of (Nat.ne_of_gt LEA9.out))))
        clear hox45
        go_wp2_with fail
        refine hQc.out _ _ Gx45 (fun hHeld => ?_)
        clear hQc Qc hHeld
        refine wpAnyH_strong (S' := fun w' => Hid (Vq1 cu ga w w')) (fun w' h => hid ⟨h.out.bl⟩) _ _ _ _ ?_
        have Gx45 : Hid (Vq1 cu ga w x45) := ⟨KA.out, Gx45.out.bl⟩
        clear Gx44
        try simp only [Act.put, List.setIfInBounds_toArray, List.set_cons_zero, List.set_cons_succ]
        refine wpAnyH_take (i := 2) (oi := { dst := some 42, op := _, type := _, pos := _, after := _, guard := _ }) (v := ?_) rfl (by kernel_rfl) (by kernel_rfl) (by kernel_rfl) (fun _ _ _ h => h) (Or.inl ⟨by kernel_rfl, ?_⟩) Gx45 ?_
        rotate_left
        · (intro w hSw; go_simp; try with_reducible rfl)
        try simp only [Act.put, List.setIfInBounds_toArray, List.set_cons_zero, List.set_cons_succ]
        refine wpAnyH_take (i := 3) (oi := { dst := some 43, op := _, type := _, pos := _, after := _, guard := _ }) (v := .agg ((u8s ID).toArray)) rfl (by kernel_rfl) (by kernel_rfl) (by kernel_rfl) (fun _ _ _ h => h) (yieldsIf_load_mid (cs := u8s ID) (by rfl) _ _ rfl _ _ rfl _ (fun w' hSw => rng_of (Hid.out hSw).b0 HCU.out) Tryd.underlying23 rfl IDI.out) Gx45 ?_
        try simp only [Act.put, List.setIfInBounds_toArray, List.set_cons_zero, List.set_cons_succ]
        refine wpAnyH_ready (rs := [5, 8]) (by kernel_rfl) (by simp) ?_
        refine (AllReadyH.cons (o := { dst := some 45, op := _, type := _, pos := _, after := _, guard := _ }) rfl (fun Qc hQc => ?_) (AllReadyH.cons (o := { dst := some 10, op := _, type := _, pos := _, after := _, guard := _ }) rfl (fun Qc hQc => ?_) AllReadyH.nil))
        ·
          go_simp
          go_at_call 48; refine (CR2.out pr pd _ RA.out).mono ?_; rintro e x46 ⟨gb, cv, cb, rfl, hgb, hkb, hcv, hra, hox46⟩; have RA := hid hra; have KB := hid hkb; have HCV := hid hcv; clear hgb hkb hcv hra
          have Gx46 : Hid (Vq1 cu ga w x46) := ⟨Gx45.out.b0.same (hox46.block _ Gx45.out.b0.lt (not_of (Nat.ne_of_gt LGA.out))), HRD.out pr w x45 x46 LP.out Gx45.out.bl hox46⟩
          have A9 := hid (A9.out.same (hox46.block _ A9.out.lt (not_of (Nat.ne_of_gt LEA9.out))))
          clear hox46
          go_wp2_with fail
          refine hQc.out _ _ Gx46 (fun hHeld => ?_)
          clear hQc Qc hHeld
          refine wpAnyH_strong (S' := fun w' => Hid (Vq2 cu ga cv gb w w')) (fun w' h => hid ⟨h.out.b0, h.out.bl⟩) _ _ _ _ ?_
          have Gx46 : Hid (Vq2 cu ga cv gb w x46) := ⟨Gx46.out.b0, KB.out, Gx46.out.bl⟩
          clear Gx45
          try simp only [Act.put, List.setIfInBounds_toArray, List.set_cons_zero, List.set_cons_succ]
          refine wpAnyH_take (i := 6) (oi := { dst := some 46, op := _, type := _, pos := _, after := _, guard := _ }) (v := ?_) rfl (by kernel_rfl) (by kernel_rfl) (by kernel_rfl) (fun _ _ _ h => h) (Or.inl ⟨by kernel_rfl, ?_⟩) Gx46 ?_
          rotate_left
          · (intro w hSw; go_simp; try with_reducible rfl)
          try simp only [Act.put, List.setIfInBounds_toArray, List.set_cons_zero, List.set_cons_succ]
          refine wpAnyH_take (i := 7) (oi := { dst := some 47, op := _, type := _, pos := _, after := _, guard := _ }) (v := .agg ((u8s TP).toArray)) rfl (by kernel_rfl) (by kernel_rfl) (by kernel_rfl) (fun _ _ _ h => h) (yieldsIf_load_mid (cs := u8s TP) (by rfl) _ _ rfl _ _ rfl _ (fun w' hSw => rng_of (Hid.out hSw).b1 HCV.out) Tryd.underlying26 rfl TPI.out) Gx46 ?_
          try simp only [Act.put, List.setIfInBounds_toArray, List.set_cons_zero, List.set_cons_succ]
          refine wpAnyH_ready (rs := [8]) (by kernel_rfl) (by simp) ?_
          refine (AllReadyH.cons (o := { dst := some 10, op := _, type := _, pos := _, after := _, guard := _ }) rfl (fun Qc hQc => ?_) AllReadyH.nil)
          go_simp
          have Gx47 := hid (Gx46.out.alloc (.cells Z16 23))
          have HBx47 : Below x46.heap.size x46 (x46.alloc (.cells Z16 23)) := (Below.refl _ _).alloc (Nat.le_refl _) _
          have LEA8 : Hid (pr < x46.heap.size) := RA.out.lt
          have A9 := hid (A9.out.below HBx47)
          have RA := hid (RA.out.below HBx47)
          have A8 := hid (Blk.new x46 23 Z16)
          clear HBx47
          refine hQc.out _ _ Gx47 (fun hHeld => ?_)
          clear hQc Qc Gx46 hHeld
          generalize hgx47 : x46.heap.size = g8 at A8 LEA8 A9 RA ⊢
          generalize x46.alloc (.cells Z16 23) = x47 at Gx47 A8 A9 RA ⊢
          clear hgx47
          try simp only [Act.put, List.setIfInBounds_toArray, List.set_cons_zero, List.set_cons_succ]
          refine wpAnyH_ready (rs := [10]) (by kernel_rfl) (by simp) ?_
          refine (AllReadyH.cons (o := { dst := none, op := _, type := _, pos := _, after := _, guard := _ }) rfl (fun Qc hQc => ?_) AllReadyH.nil)
          rw [if_pos (by rfl)]
          refine wp_store_row 23 (.tmp 10) (.tmp 43) rfl (g8) (u8s ID).toArray rfl rfl 23 Z16 A8.out IDC.out IDZ.out (u8s_all ID) ?_
          have Gx48 := hid (Gx47.out.row (g := g8) (Blk.ne Gx47.out.b0 A8.out (by decide)) (Blk.ne Gx47.out.b1 A8.out (by decide)) (by have := LEA8.out; have := LP.out; omega) (u8s ID).toArray)
          have A9 := hid (A9.out.rowFar (Blk.ne A9.out A8.out (by decide)) (u8s ID).toArray)
          have KI := hid (A8.out.row (u8s ID).toArray)
          clear A8
          refine hQc.out _ _ Gx48 (fun hHeld => ?_)
          clear hQc Qc Gx47 hHeld
          generalize x47.setRow (g8) (u8s ID).toArray = x48 at Gx48 A9 KI ⊢
          try simp only [Act.put, List.setIfInBounds_toArray, List.set_cons_zero, List.set_cons_succ]
          refine wpAnyH_ready (rs := [11]) (by kernel_rfl) (by simp) ?_
          refine (AllReadyH.cons (o := { dst := none, op := _, type := _, pos := _, after := _, guard := _ }) rfl (fun Qc hQc => ?_) AllReadyH.nil)
          rw [if_pos (by rfl)]
          refine wp_store_row 26 (.tmp 11) (.tmp 47) rfl (g9) (u8s TP).toArray rfl rfl 26 Z A9.out TPC.out TPZ.out (u8s_all TP) ?_
          have Gx49 := hid (Gx48.out.row (g := g9) (Blk.ne Gx48.out.b0 A9.out (by decide)) (Blk.ne Gx48.out.b1 A9.out (by decide)) (by have := LEA9.out; have := LP.out; omega) (u8s TP).toArray)
          have KI := hid (KI.out.rowFar (Blk.ne KI.out A9.out (by decide)) (u8s TP).toArray)
          have KT := hid (A9.out.row (u8s TP).toArray)
          clear A9
          refine hQc.out _ _ Gx49 (fun hHeld => ?_)
          clear hQc Qc Gx48 hHeld
          generalize x48.setRow (g9) (u8s TP).toArray = x49 at Gx49 KI KT ⊢
          try simp only [Act.put, List.setIfInBounds_toArray, List.set_cons_zero, List.set_cons_succ]
          refine wpAnyH_done (by kernel_rfl) ?_ _
          try simp only [Act.put, List.setIfInBounds_toArray, List.set_cons_zero, List.set_cons_succ]
          go_wp2
          go_meet
          exact ⟨g8, g9, rfl, rfl, KI, KT, Gx49.out.bl⟩
        ·
          go_simp
          have Gx50 := hid (Gx45.out.alloc (.cells Z16 23))
          have HBx50 : Below x45.heap.size x45 (x45.alloc (.cells Z16 23)) := (Below.refl _ _).alloc (Nat.le_refl _) _
          have LEA8 : Hid (pr < x45.heap.size) := RA.out.lt
          have A9 := hid (A9.out.below HBx50)
          have RA := hid (RA.out.below HBx50)
          have A8 := hid (Blk.new x45 23 Z16)
          clear HBx50
          refine hQc.out _ _ Gx50 (fun hHeld => ?_)
          clear hQc Qc Gx45 hHeld
          generalize hgx50 : x45.heap.size = g8 at A8 LEA8 A9 RA ⊢
          generalize x45.alloc (.cells Z16 23) = x50 at Gx50 A8 A9 RA ⊢
          clear hgx50
          try simp only [Act.put, List.setIfInBounds_toArray, List.set_cons_zero, List.set_cons_succ]
          refine wpAnyH_ready (rs := [5]) (by kernel_rfl) (by simp) ?_
          refine (AllReadyH.cons (o := { dst := some 45, op := _, type := _, pos := _, after := _, guard := _ }) rfl (fun Qc hQc => ?_) AllReadyH.nil)
          go_simp
          go_at_call 48; refine (CR2.out pr pd _ RA.out).mono ?_; rintro e x51 ⟨gb, cv, cb, rfl, hgb, hkb, hcv, hra, hox51⟩; have RA := hid hra; have KB := hid hkb; have HCV := hid hcv; clear hgb hkb hcv hra
          have Gx51 : Hid (Vq1 cu ga w x51) := ⟨Gx50.out.b0.same (hox51.block _ Gx50.out.b0.lt (not_of (Nat.ne_of_gt LGA.out))), HRD.out pr w x50 x51 LP.out Gx50.out.bl hox51⟩
          have A9 := hid (A9.out.same (hox51.block _ A9.out.lt (not_of (Nat.ne_of_gt LEA9.out))))
          have A8 := hid (A8.out.same (hox51.block _ A8.out.lt (not_of (Nat.ne_of_gt LEA8.out))))
          clear hox51
          go_wp2_with fail
          refine hQc.out _ _ Gx51 (fun hHeld => ?_)
          clear hQc Qc hHeld
          refine wpAnyH_strong (S' := fun w' => Hid (Vq2 cu ga cv gb w w')) (fun w' h => hid ⟨h.out.b0, h.out.bl⟩) _ _ _ _ ?_
          have Gx51 : Hid (Vq2 cu ga cv gb w x51) := ⟨Gx51.out.b0, KB.out, Gx51.out.bl⟩
          clear Gx50
          try simp only [Act.put, List.setIfInBounds_toArray, List.set_cons_zero, List.set_cons_succ]
          refine wpAnyH_take (i := 6) (oi := { dst := some 46, op := _, type := _, pos := _, after := _, guard := _ }) (v := ?_) rfl (by kernel_rfl) (by kernel_rfl) (by kernel_rfl) (fun _ _ _ h => h) (Or.inl ⟨by kernel_rfl, ?_⟩) Gx51 ?_
          rotate_left
          · (intro w hSw; go_simp; try with_reducible rfl)
          try simp only [Act.put, List.setIfInBounds_toArray, List.set_cons_zero, List.set_cons_succ]
          refine wpAnyH_take (i := 7) (oi := { dst := some 47, op := _, type := _, pos := _, after := _, guard := _ }) (v := .agg ((u8s TP).toArray)) rfl (by kernel_rfl) (by kernel_rfl) (by kernel_rfl) (fun _ _ _ h => h) (yieldsIf_load_mid (cs := u8s TP) (by rfl) _ _ rfl _ _ rfl _ (fun w' hSw => rng_of (Hid.out hSw).b1 HCV.out) Tryd.underlying26 rfl TPI.out) Gx51 ?_
          try simp only [Act.put, List.setIfInBounds_toArray, List.set_cons_zero, List.set_cons_succ]
          refine wpAnyH_ready (rs := [10]) (by kernel_rfl) (by simp) ?_
          refine (AllReadyH.cons (o := { dst := none, op := _, type := _, pos := _, after := _, guard := _ }) rfl (fun Qc hQc => ?_) AllReadyH.nil)
          rw [if_pos (by rfl)]
          refine wp_store_row 23 (.tmp 10) (.tmp 43) rfl (g8) (u8s ID).toArray rfl rfl 23 Z16 A8.out IDC.out IDZ.out (u8s_all ID) ?_
          have Gx52 := hid (Gx51.out.row (g := g8) (Blk.ne Gx51.out.b0 A8.out (by decide)) (Blk.ne Gx51.out.b1 A8.out (by decide)) (by have := LEA8.out; have := LP.out; omega) (u8s ID).toArray)
          have A9 := hid (A9.out.rowFar (Blk.ne A9.out A8.out (by decide)) (u8s ID).toArray)
          have KI := hid (A8.out.row (u8s ID).toArray)
          clear A8
          refine hQc.out _ _ Gx52 (fun hHeld => ?_)
          clear hQc Qc Gx51 hHeld
          generalize x51.setRow (g8) (u8s ID).toArray = x52 at Gx52 A9 KI ⊢
          try simp only [Act.put, List.setIfInBounds_toArray, List.set_cons_zero, List.set_cons_succ]
          refine wpAnyH_ready (rs := [11]) (by kernel_rfl) (by simp) ?_
          refine (AllReadyH.cons (o := { dst := none, op := _, type := _, pos := _, after := _, guard := _ }) rfl (fun Qc hQc => ?_) AllReadyH.nil)
          rw [if_pos (by rfl)]
          refine wp_store_row 26 (.tmp 11) (.tmp 47) rfl (g9) (u8s TP).toArray rfl rfl 26 Z A9.out TPC.out TPZ.out (u8s_all TP) ?_
          have Gx53 := hid (Gx52.out.row (g := g9) (Blk.ne Gx52.out.b0 A9.out (by decide)) (Blk.ne Gx52.out.b1 A9.out (by decide)) (by have := LEA9.out; have := LP.out; omega) (u8s TP).toArray)
          have KI := hid (KI.out.rowFar (Blk.ne KI.out A9.out (by decide)) (u8s TP).toArray)
          have KT := hid (A9.out.row (u8s TP).toArray)
          clear A9
          refine hQc.out _ _ Gx53 (fun hHeld => ?_)
          clear hQc Qc Gx52 hHeld
          generalize x52.setRow (g9) (u8s TP).toArray = x53 at Gx53 KI KT ⊢
          try simp only [Act.put, List.setIfInBounds_toArray, List.set_cons_zero, List.set_cons_succ]
          refine wpAnyH_done (by kernel_rfl) ?_ _
          try simp only [Act.put, List.setIfInBounds_toArray, List.set_cons_zero, List.set_cons_succ]
          go_wp2
          go_meet
          exact ⟨g8, g9, rfl, rfl, KI, KT, Gx53.out.bl⟩
      ·
        go_simp
        have Gx54 := hid (Gx44.out.alloc (.cells Z16 23))
        have HBx54 : Below x44.heap.size x44 (x44.alloc (.cells Z16 23)) := (Below.refl _ _).alloc (Nat.le_refl _) _
        have LEA8 : Hid (pr < x44.heap.size) := RA.out.lt
        have RA := hid (RA.out.below HBx54)
        have A9 := hid (A9.out.below HBx54)
        have A8 := hid (Blk.new x44 23 Z16)
        clear HBx54
        refine hQc.out _ _ Gx54 (fun hHeld => ?_)
        clear hQc Qc Gx44 hHeld
        generalize hgx54 : x44.heap.size = g8 at A8 LEA8 RA A9 ⊢
        generalize x44.alloc (.cells Z16 23) = x54 at Gx54 A8 RA A9 ⊢
        clear hgx54
        try simp only [Act.put, List.setIfInBounds_toArray, List.set_cons_zero, List.set_cons_succ]
        refine wpAnyH_ready (rs := [1]) (by kernel_rfl) (by simp) ?_
        refine (AllReadyH.cons (o := { dst := some 41, op := _, type := _, pos := _, after := _, guard := _ }) rfl (fun Qc hQc => ?_) AllReadyH.nil)
        go_simp
        go_at_call 48; refine (CR1.out pr pd _ RA.out).mono ?_; rintro e x55 ⟨ga, cu, ca, rfl, hga, hka, hcu, hra, hox55⟩; have LGA : Hid (pr < ga) := Nat.lt_of_lt_of_le RA.out.lt hga; have RA := hid hra; have KA := hid hka; have HCU := hid hcu; clear hga hka hcu hra
        have Gx55 : Hid (Vq0 0 w x55) := ⟨HRD.out pr w x54 x55 LP.out Gx54.out.bl hox55⟩
        have A9 := hid (A9.out.same (hox55.block _ A9.out.lt (not_of (Nat.ne_of_gt LEA9.out))))
        have A8 := hid (A8.out.same (hox55.block _ A8.out.lt (not_of (Nat.ne_of_gt LEA8.out))))
        clear hox55
        go_wp2_with fail
        refine hQc.out _ _ Gx55 (fun hHeld => ?_)
        clear hQc Qc hHeld
        refine wpAnyH_strong (S' := fun w' => Hid (Vq1 cu ga w w')) (fun w' h => hid ⟨h.out.bl⟩) _ _ _ _ ?_
        have Gx55 : Hid (Vq1 cu ga w x55) := ⟨KA.out, Gx55.out.bl⟩
        clear Gx54
        try simp only [Act.put, List.setIfInBounds_toArray, List.set_cons_zero, List.set_cons_succ]
        refine wpAnyH_take (i := 2) (oi := { dst := some 42, op := _, type := _, pos := _, after := _, guard := _ }) (v := ?_) rfl (by kernel_rfl) (by kernel_rfl) (by kernel_rfl) (fun _ _ _ h => h) (Or.inl ⟨by kernel_rfl, ?_⟩) Gx55 ?_
        rotate_left
        · (intro w hSw; go_simp; try with_reducible rfl)
        try simp only [Act.put, List.setIfInBounds_toArray, List.set_cons_zero, List.set_cons_succ]
        refine wpAnyH_take (i := 3) (oi := { dst := some 43, op := _, type := _, pos := _, after := _, guard := _ }) (v := .agg ((u8s ID).toArray)) rfl (by kernel_rfl) (by kernel_rfl) (by kernel_rfl) (fun _ _ _ h => h) (yieldsIf_load_mid (cs := u8s ID) (by rfl) _ _ rfl _ _ rfl _ (fun w' hSw => rng_of (Hid.out hSw).b0 HCU.out) Tryd.underlying23 rfl IDI.out) Gx55 ?_
        try simp only [Act.put, List.setIfInBounds_toArray, List.set_cons_zero, List.set_cons_succ]
        refine wpAnyH_ready (rs := [5]) (by kernel_rfl) (by simp) ?_
        refine (AllReadyH.cons (o := { dst := some 45, op := _, type := _, pos := _, after := _, guard := _ }) rfl (fun Qc hQc => ?_) AllReadyH.nil)
        go_simp
        go_at_call 48; refine (CR2.out pr pd _ RA.out).mono ?_; rintro e x56 ⟨gb, cv, cb, rfl, hgb, hkb, hcv, hra, hox56⟩; have RA := hid hra; have KB := hid hkb; have HCV := hid hcv; clear hgb hkb hcv hra
        have Gx56 : Hid (Vq1 cu ga w x56) := ⟨Gx55.out.b0.same (hox56.block _ Gx55.out.b0.lt (not_of (Nat.ne_of_gt LGA.out))), HRD.out pr w x55 x56 LP.out Gx55.out.bl hox56⟩
        have A9 := hid (A9.out.same (hox56.block _ A9.out.lt (not_of (Nat.ne_of_gt LEA9.out))))
        have A8 := hid (A8.out.same (hox56.block _ A8.out.lt (not_of (Nat.ne_of_gt LEA8.out))))
        clear hox56
        go_wp2_with fail
        refine hQc.out _ _ Gx56 (fun hHeld => ?_)
        clear hQc Qc hHeld
        refine wpAnyH_strong (S' := fun w' => Hid (Vq2 cu ga cv gb w w')) (fun w' h => hid ⟨h.out.b0, h.out.bl⟩) _ _ _ _ ?_
        have Gx56 : Hid (Vq2 cu ga cv gb w x56) := ⟨Gx56.out.b0, KB.out, Gx56.out.bl⟩
        clear Gx55
        try simp only [Act.put, List.setIfInBounds_toArray, List.set_cons_zero, List.set_cons_succ]
        refine wpAnyH_take (i := 6) (oi := { dst := some 46, op := _, type := _, pos := _, after := _, guard := _ }) (v := ?_) rfl (by kernel_rfl) (by kernel_rfl) (by kernel_rfl) (fun _ _ _ h => h) (Or.inl ⟨by kernel_rfl, ?_⟩) Gx56 ?_
        rotate_left
        · (intro w hSw; go_simp; try with_reducible rfl)
        try simp only [Act.put, List.setIfInBounds_toArray, List.set_cons_zero, List.set_cons_succ]
        refine wpAnyH_take (i := 7) (oi := { dst := some 47, op := _, type := _, pos := _, after := _, guard := _ }) (v := .agg ((u8s TP).toArray)) rfl (by kernel_rfl) (by kernel_rfl) (by kernel_rfl) (fun _ _ _ h => h) (yieldsIf_load_mid (cs := u8s TP) (by rfl) _ _ rfl _ _ rfl _ (fun w' hSw => rng_of (Hid.out hSw).b1 HCV.out) Tryd.underlying26 rfl TPI.out) Gx56 ?_
        try simp only [Act.put, List.setIfInBounds_toArray, List.set_cons_zero, List.set_cons_succ]
        refine wpAnyH_ready (rs := [10]) (by kernel_rfl) (by simp) ?_
        refine (AllReadyH.cons (o := { dst := none, op := _, type := _, pos := _, after := _, guard := _ }) rfl (fun Qc hQc => ?_) AllReadyH.nil)
        rw [if_pos (by rfl)]
        refine wp_store_row 23 (.tmp 10) (.tmp 43) rfl (g8) (u8s ID).toArray rfl rfl 23 Z16 A8.out IDC.out IDZ.out (u8s_all ID) ?_
        have Gx57 := hid (Gx56.out.row (g := g8) (Blk.ne Gx56.out.b0 A8.out (by decide)) (Blk.ne Gx56.out.b1 A8.out (by decide)) (by have := LEA8.out; have := LP.out; omega) (u8s ID).toArray)
        have A9 := hid (A9.out.rowFar (Blk.ne A9.out A8.out (by decide)) (u8s ID).toArray)
        have KI := hid (A8.out.row (u8s ID).toArray)
        clear A8
        refine hQc.out _ _ Gx57 (fun hHeld => ?_)
        clear hQc Qc Gx56 hHeld
        generalize x56.setRow (g8) (u8s ID).toArray = x57 at Gx57 A9 KI ⊢
        try simp only [Act.put, List.setIfInBounds_toArray, List.set_cons_zero, List.set_cons_succ]
        refine wpAnyH_ready (rs := [11]) (by kernel_rfl) (by simp) ?_
        refine (AllReadyH.cons (o := { dst := none, op := _, type := _, pos := _, after := _, guard := _ }) rfl (fun Qc hQc => ?_) AllReadyH.nil)
        rw [if_pos (by rfl)]
        refine wp_store_row 26 (.tmp 11) (.tmp 47) rfl (g9) (u8s TP).toArray rfl rfl 26 Z A9.out TPC.out TPZ.out (u8s_all TP) ?_
        have Gx58 := hid (Gx57.out.row (g := g9) (Blk.ne Gx57.out.b0 A9.out (by decide)) (Blk.ne Gx57.out.b1 A9.out (by decide)) (by have := LEA9.out; have := LP.out; omega) (u8s TP).toArray)
        have KI := hid (KI.out.rowFar (Blk.ne KI.out A9.out (by decide)) (u8s TP).toArray)
        have KT := hid (A9.out.row (u8s TP).toArray)
        clear A9
        refine hQc.out _ _ Gx58 (fun hHeld => ?_)
        clear hQc Qc Gx57 hHeld
        generalize x57.setRow (g9) (u8s TP).toArray = x58 at Gx58 KI KT ⊢
        try simp only [Act.put, List.setIfInBounds_toArray, List.set_cons_zero, List.set_cons_succ]
        refine wpAnyH_done (by kernel_rfl) ?_ _
        try simp only [Act.put, List.setIfInBounds_toArray, List.set_cons_zero, List.set_cons_succ]
        go_wp2
        go_meet
        exact ⟨g8, g9, rfl, rfl, KI, KT, Gx58.out.bl⟩
  case rest =>
  obtain ⟨gi, gt, rfl, rfl, KI, KT, B7⟩ := hcut
  generalize wc = w7 at KI KT B7 ⊢
  clear RA LR GQ CR1 CR2 HP8 hZ160 hZ16s IDC IDZ TPC TPZ haid hahs
  obtain ⟨q0, q1⟩ := hqr
  obtain ⟨ON, hON⟩ : ∃ ON, ON = vonce y S := ⟨_, rfl⟩
  have HON : Hid (ON.length = ks ∧ Bs ON) := by
    rw [hON]
    unfold vonce
    exact ⟨by rw [List.length_take, List.length_drop, ← HKS.out]; have := HSL.out; omega, (HSB.out.drop 4).take _⟩
  have e3 : (RS.got false S).num 4 4294967295 = (q, .got false (S.drop 4)) := by rw [num4_long (by have := HSL.out; omega) HSB.out, HQ.out]; rfl
  have e4 : (RS.got false (S.drop (4 + ks))).num 4 4294967295 = (xx, .got false (S.drop (8 + ks))) := by
    rw [num4_long (by rw [List.length_drop]; have := HSL.out; omega) (HSB.out.drop _), HXX.out, List.drop_drop, show 4 + ks + 4 = 8 + ks by omega, HKS.out]; rfl
  have e5 : (RS.got false (S.drop 4)).plain (ks : Nat) = (ON, .got false (S.drop (4 + ks))) := by
    rw [plain_long (by rw [List.length_drop]; have := HSL.out; omega), hON, List.drop_drop, HKS.out]; rfl
  have CN2 : Hid (∀ w1, Below w.heap.size w w1 → Calls Tryd.prog 46 #[.slice A2 n2 c2] w1 fun e w' => ∃ g, e = .returned (.pointer (some ⟨g, 0, none⟩)) ∧ w1.heap.size ≤ g ∧ RRep w' (some ⟨g, 0, none⟩) (.got false S) ∧ Below w1.heap.size w1 w') := fun w1 hb => by
    have := New_any A2 c2 S w1 (HSR.out.belowN hb) (by omega) HSB.out
    rw [← HS.out] at this
    exact this
  have CU3 : Hid (∀ p w1, RRep w1 (some ⟨p, 0, none⟩) (.got false S) → Calls Tryd.prog 47 #[.pointer (some ⟨p, 0, none⟩)] w1 fun e w' => e = .returned (.int .u32 q) ∧ RRep w' (some ⟨p, 0, none⟩) (.got false (S.drop 4)) ∧ OnlyS (Of (some ⟨p, 0, none⟩)) w1 w') := fun p w1 h => by
    have := RU32_any _ _ w1 h
    rw [e3] at this
    exact this
  have CU4 : Hid (∀ p w1, RRep w1 (some ⟨p, 0, none⟩) (.got false (S.drop (4 + ks))) → Calls Tryd.prog 47 #[.pointer (some ⟨p, 0, none⟩)] w1 fun e w' => e = .returned (.int .u32 xx) ∧ RRep w' (some ⟨p, 0, none⟩) (.got false (S.drop (8 + ks))) ∧ OnlyS (Of (some ⟨p, 0, none⟩)) w1 w') := fun p w1 h => by
    have := RU32_any _ _ w1 h
    rw [e4] at this
    exact this
  have CPL : Hid (∀ p w1, RRep w1 (some ⟨p, 0, none⟩) (.got false (S.drop 4)) → Calls Tryd.prog 48 #[.pointer (some ⟨p, 0, none⟩), .int .i64 (ks : Nat)] w1 fun e w' => ∃ A' c', e = .returned (.slice A' ks c') ∧ Fresh w1 w' A' ON ∧ RRep w' (some ⟨p, 0, none⟩) (.got false (S.drop (4 + ks))) ∧ OnlyS (Of (some ⟨p, 0, none⟩)) w1 w') := fun p w1 h => by
    refine (RPlain_any _ _ (ks : Nat) w1 h).mono fun e w' he => ?_
    rw [e5] at he
    obtain ⟨A', c', he, _, hf, hr, ho⟩ := he
    simp only at he hf hr
    rw [HON.out.1] at he
    exact ⟨A', c', he, hf, hr, ho⟩
  have CLS := hid (lSize_any y)
  rw [← HKS.out] at CLS
  have hs32 := shl_keys32 hx14 HKD.out
  have hs64 := shl_keys64 hx14 HKD.out
  rw [← HK.out] at hs32 hs64
  have hwx32 : IntKind.u32.wrap x = x := by simp [IntKind.wrap, IntKind.bits, IntKind.signed]; omega
  have hwq : IntKind.i64.wrap q = q := IntWalk.i64_in _ (by omega)
  rw [← HK.out] at hKl
  obtain ⟨K2, K16⟩ := hKl
  clear e3 e4 e5
  go_upto_region 10 with (first
    | (go_at_call 46; refine (CN2.out _ B7.out).mono ?_; rintro e w8 ⟨sr, rfl, hg8, hr8, hb8⟩; have QI := hid (KI.out.below hb8); have QT := hid (KT.out.below hb8); have B8 := hid (B7.out.trans (hb8.mono B7.out.size)); have RS8 := hid hr8; have NI : Hid (gi ≠ sr ∧ gt ≠ sr ∧ w.heap.size ≤ sr) := ⟨Nat.ne_of_lt (Nat.lt_of_lt_of_le KI.out.lt hg8), Nat.ne_of_lt (Nat.lt_of_lt_of_le KT.out.lt hg8), Nat.le_trans B7.out.size hg8⟩; clear hg8 hr8 hb8)
    | (go_at_call 47; (with_reducible refine (CU3.out sr _ RS8.out).mono ?_); rintro e w9 ⟨rfl, hr9, ho9⟩; have RS9 := hid hr9; have QI9 := hid (QI.out.same (ho9.block _ QI.out.lt (not_of NI.out.1))); have QT9 := hid (QT.out.same (ho9.block _ QT.out.lt (not_of NI.out.2.1))); have B9 := hid (HRD.out sr w w8 w9 NI.out.2.2 B8.out ho9); clear hr9 ho9)
    | (go_at_call 44; refine (CLS.out _).mono ?_; rintro e w10 ⟨rfl, hb10⟩; have RS10 := hid (RS9.out.below hb10); have QI10 := hid (QI9.out.below hb10); have QT10 := hid (QT9.out.below hb10); have B10 := hid (B9.out.trans (hb10.mono B9.out.size)); have LSR : Hid (sr < w10.heap.size) := RS10.out.lt ⟨_, rfl, rfl⟩; clear hb10)
    | (go_at_call 48; refine (CPL.out sr _ RS10.out).mono ?_; rintro e w11 ⟨A11, c11, rfl, hr11, hrr11, ho11⟩; have RO11 := hid hr11; have RS11 := hid hrr11; have QI11 := hid (QI10.out.same (ho11.block _ QI10.out.lt (not_of NI.out.1))); have QT11 := hid (QT10.out.same (ho11.block _ QT10.out.lt (not_of NI.out.2.1))); have B11 := hid (HRD.out sr w w10 w11 NI.out.2.2 B10.out ho11); clear hr11 hrr11 ho11))
  clear CN2 CU3 CPL CLS RS8 RS9 RS10 QI QT QI9 QT9 QI10 QT10 B8 B9 B10 KI KT B7
  by_cases hqn : (K : Int) ≤ q
  · have hd3 : decide ((K : Int) ≤ q) = true := decide_eq_true hqn
    have HNO : Hid (ver P M S = false) := ver_no fun hv => (by have h1 := hv.2.2.2.1; rw [HVK.out, ← HK.out, ← HQ.out] at h1; omega)
    go_wp2_with fail
    go_ret
    exact ⟨congrArg (fun b => Ending.returned (Value.bool b)) HNO.out.symm, B11.out⟩
  have hd3 : decide ((K : Int) ≤ q) = false := decide_eq_false hqn
  by_cases hxn : ¬ xx = x
  · have hd5 : (xx != x) = true := by rw [bne_iff_ne]; exact hxn
    have HNO : Hid (ver P M S = false) := ver_no fun hv => (by have h1 := hv.2.2.2.2.1; rw [← HY.out, ← HXX.out, ← HX.out] at h1; exact hxn h1)
    go_wp2_with (go_at_call 47; refine (CU4.out sr _ RS11.out).mono ?_; rintro e w12 ⟨rfl, hr12, ho12⟩; have RS12 := hid hr12; have RO12 : Hid (Rp w12 none A11 ON) := (RO11.out.keep ho12 (fun k hk _ => not_of (Nat.ne_of_gt (Nat.lt_of_lt_of_le LSR.out hk)))).rp0; have QI12 := hid (QI11.out.same (ho12.block _ QI11.out.lt (not_of NI.out.1))); have QT12 := hid (QT11.out.same (ho12.block _ QT11.out.lt (not_of NI.out.2.1))); have B12 := hid (HRD.out sr w w11 w12 NI.out.2.2 B11.out ho12); clear hr12 ho12)
    go_ret
    exact ⟨congrArg (fun b => Ending.returned (Value.bool b)) HNO.out.symm, B12.out⟩
  have hxe : xx = x := Decidable.not_not.1 hxn
  clear hxn
  subst hxe
  have hd5 : (xx != xx) = false := by simp
  go_upto_region 12 with (go_at_call 47; refine (CU4.out sr _ RS11.out).mono ?_; rintro e w12 ⟨rfl, hr12, ho12⟩; have RS12 := hid hr12; have RO12 : Hid (Rp w12 none A11 ON) := (RO11.out.keep ho12 (fun k hk _ => not_of (Nat.ne_of_gt (Nat.lt_of_lt_of_le LSR.out hk)))).rp0; have QI12 := hid (QI11.out.same (ho12.block _ QI11.out.lt (not_of NI.out.1))); have QT12 := hid (QT11.out.same (ho12.block _ QT11.out.lt (not_of NI.out.2.1))); have B12 := hid (HRD.out sr w w11 w12 NI.out.2.2 B11.out ho12); clear hr12 ho12)
  clear CU4 RS11 RO11 QI11 QT11 B11 hd5
  obtain ⟨qn, hqn2⟩ : ∃ qn : Nat, q = qn := ⟨q.toNat, by omega⟩
  clear q1
  subst hqn2
  have hqK : qn < K := by omega
  have hON2 : vonce y S = ON := hON.symm
  obtain ⟨PK, hPK⟩ : ∃ PK, PK = recK ID qn M ON := ⟨_, rfl⟩
  have hpk : Ky PK := by rw [hPK]; exact rec_ky _ _ _ _
  have CRC : Hid (∀ w1, Rp w1 none A11 ON → Below w.heap.size w w1 → Calls Tryd.prog 14 #[.agg (u8s ID).toArray, .int .u32 (qn : Nat), .slice A1 n1 c1, .slice A11 ks c11] w1 fun e w' => e = .returned (.tuple #[.agg (u8s PK).toArray, .bool (sigB ON)]) ∧ Below w1.heap.size w1 w') := fun w1 hr hb => by
    have := lRecover_any ID qn A1 n1 c1 M A11 ks c11 ON w1 HIDK.out ⟨by omega, by omega⟩ HM.out (HMR.out.belowN hb) HMB.out (by omega) hmc HON.out.1.symm hr HON.out.2 (by rw [HON.out.1]; omega) (HT.out.below hb)
    rw [← hPK] at this
    exact this
  have PKI := hid (info_hash PK hpk.len); have PKZ : Hid (Z.size = (u8s PK).toArray.size) := HZ32.out.trans (hash_size hpk.len).symm
  have PKL := hid (hash_info hpk.len)
  obtain ⟨PA, hPA⟩ : ∃ PA, PA = S.drop (8 + ks) := ⟨_, rfl⟩
  have hPAl : PA.length = 32 * xx.toNat := by rw [hPA, List.length_drop]; have := HSL.out; omega
  have hPAb : Bs PA := by rw [hPA]; exact HSB.out.drop _
  obtain ⟨RT, hRT⟩ : ∃ RT, RT = clm ID xx.toNat (K + qn) (vleaf ID (K + qn) PK) PA := ⟨_, rfl⟩
  have hrt : Ky RT := by rw [hRT]; exact clm_ky _ _ _ _ _ (under_ky _ _ _ _)
  have CLB : Hid (∀ sd w1, RRepA w1 sr sd PA → sd < w1.heap.size → Below w.heap.size w w1 → Calls Tryd.prog 53 #[.agg (u8s ID).toArray, .int .i64 ((K : Int) + (qn : Int)), .agg (u8s PK).toArray, .pointer (some ⟨sr, 0, none⟩)] w1 fun e w' => e = .returned (.agg (u8s RT).toArray) ∧ OnlyS (Of (some ⟨sr, 0, none⟩)) w1 w') := fun sd w1 hr hsd hb => by
    rw [hRT]
    exact climb_any ID xx.toNat K qn PK PA sr sd w1 HIDK.out (HK.out.trans HKE.out) hqK (by omega) hpk hPAl hPAb hr hsd (fun w2 ho => HT.out.below (HRD.out sr w w1 w2 NI.out.2.2 hb ho))
  have HEQ : Hid (∀ w : World, (binOp .eql 26 (.agg (u8s RT).toArray) (.agg (u8s TP).toArray)).run Tryd.prog w = .ok (.bool (decide (RT = TP))) w) := fun w => eql_hash RT TP hrt.bs HTOPK.out.bs hrt.len HTOPK.out.len w
  have HVER : Hid (sigB ON = true → ver P M S = decide (RT = TP)) := fun hso => by
    unfold ver
    rw [decide_eq_decide]
    have hroot : vroot P M S = RT := by
      unfold vroot
      rw [HVK.out, ← HK.out, ← HX.out, ← HY.out, ← HIDE.out, ← HQ.out, Int.toNat_natCast, hON2, ← hPK, hRT, hPA]
      unfold vpath
      rw [HKS.out]
    refine ⟨fun hv => by rw [← hroot, HTPE.out]; exact hv.2.2.2.2.2.2, fun h => ⟨H56.out, by rw [HVK.out, ← HK.out]; omega, by rw [HTS.out, ← HS.out]; exact HSZ.out, by rw [HVK.out, ← HK.out, ← HQ.out]; omega, by rw [← HY.out, ← HX.out]; exact HXX.out.symm, by rw [← HY.out, hON2]; exact hso, by rw [hroot, ← HTPE.out]; exact h⟩⟩
  have HVN : Hid (sigB ON = false → ver P M S = false) := fun hso => ver_no fun hv => (by have h1 := hv.2.2.2.2.2.1; rw [← HY.out, hON2, hso] at h1; cases h1)
  have hwr : IntKind.i64.wrap ((K : Int) + (qn : Int)) = (K : Int) + (qn : Int) := IntWalk.i64_in _ (by omega)
  have RP12 : Hid (RRep w12 (some ⟨sr, 0, none⟩) (.got false PA)) := by show RRep _ _ _; rw [hPA]; exact RS12.out
  have HPA0 : Hid (0 < PA.length) := by show _ < _; omega
  generalize sigB ON = ok at CRC HVER HVN
  clear hpk hPA hPAl hPAb hRT hrt hON hON2 hPK hd3 hqn RS12 HX HY HVK HTS HS HKS HQ HXX HIDE HTPE HK HKE HPR HMR HSR HPB HMB HSB HM HT HIDK HKD HSZ H56 HSL
  go_upto_region 13 with (first
    | (refine load_at rfl 23 (.tmp 10) rfl gi 0 rfl (u8s ID) _ (blk_row QI12.out) Tryd.underlying23 rfl IDI.out (u8s ID).toArray rfl ?_)
    | (go_at_call 14; refine (CRC.out _ RO12.out B12.out).mono ?_; rintro e w13 ⟨rfl, hb13⟩; have RP13 := hid (RP12.out.below hb13); have QI13 := hid (QI12.out.below hb13); have QT13 := hid (QT12.out.below hb13); have B13 := hid (B12.out.trans (hb13.mono B12.out.size)); clear hb13)
    | (refine wpList_store_row rfl 26 (.tmp 15) (.tmp 73) rfl w13.heap.size (u8s PK).toArray rfl rfl 26 Z (Blk.new w13 26 Z) PKI.out PKZ.out (u8s_all PK) ?_; have hbb : Below w13.heap.size w13 ((w13.alloc (.cells Z 26)).setRow w13.heap.size (u8s PK).toArray) := below_setRow ((Below.refl _ _).alloc (Nat.le_refl _) _) (Nat.le_refl _) _; have P14 : Hid (Blk ((w13.alloc (.cells Z 26)).setRow w13.heap.size (u8s PK).toArray) w13.heap.size 26 (u8s PK).toArray) := (Blk.new w13 26 Z).row _; have RP14 := hid (RP13.out.below hbb); have QI14 := hid (QI13.out.below hbb); have QT14 := hid (QT13.out.below hbb); have B14 := hid (B13.out.trans (hbb.mono B13.out.size)); have LSO : Hid (sr < w13.heap.size) := RP13.out.lt ⟨_, rfl, rfl⟩; clear hbb; generalize (w13.alloc (.cells Z 26)).setRow w13.heap.size (u8s PK).toArray = w14 at P14 RP14 QI14 QT14 B14 ⊢; generalize w13.heap.size = go at P14 LSO ⊢))
  clear RP12 RP13 QI12 QI13 QT12 QT13 B12 B13 CRC RO12 PKI PKZ
  obtain ⟨sd, hRA, hsd⟩ := RRepA.of RP14.out HPA0.out
  have RA := hid hRA
  have GV : Hid (Vq3 ID gi TP gt PK go w w14) := ⟨QI14.out, QT14.out, P14.out, B14.out⟩
  have HSD := hid hsd
  have NSO : Hid (go ≠ sr) := Nat.ne_of_gt LSO.out
  clear hRA hsd QI14 QT14 P14 B14 RP14
  cases ok with
  | false =>
    have HNO := hid (HVN.out rfl)
    clear HVER HVN
    refine wp_region_held (S := fun w' => Hid (Vq3 ID gi TP gt PK go w w')) (by kernel_rfl) ?_
    change wpAnyH _ _ _ _ _ _ _ _ w14.drew
    have Gx0 : Hid (Vq3 ID gi TP gt PK go w w14.drew) := GV.out.drew
    have HBx0 : Below w14.heap.size w14 w14.drew := (Below.refl _ _).drew
    clear HBx0
    generalize w14.drew = x0 at Gx0  ⊢
    refine wpAnyH_take (i := 0) (oi := { dst := some 75, op := _, type := _, pos := _, after := _, guard := _ }) (v := ?_) rfl (by kernel_rfl) (by kernel_rfl) (by kernel_rfl) (fun _ _ _ h => h) (Or.inl ⟨by kernel_rfl, ?_⟩) Gx0 ?_
    rotate_left
    · (intro w hSw; go_simp; try with_reducible rfl)
    try simp only [Act.put, List.setIfInBounds_toArray, List.set_cons_zero, List.set_cons_succ]
    refine wpAnyH_take (i := 1) (oi := { dst := some 76, op := _, type := _, pos := _, after := _, guard := _ }) (v := ?_) rfl (by kernel_rfl) (by kernel_rfl) (by kernel_rfl) (fun _ _ _ h => h) (Or.inl ⟨by kernel_rfl, ?_⟩) Gx0 ?_
    rotate_left
    · (intro w hSw; go_simp; try with_reducible rfl)
    try simp only [Act.put, List.setIfInBounds_toArray, List.set_cons_zero, List.set_cons_succ]
    refine wpAnyH_take (i := 2) (oi := { dst := some 77, op := _, type := _, pos := _, after := _, guard := _ }) (v := undef) rfl (by kernel_rfl) (by kernel_rfl) (by kernel_rfl) (fun _ _ _ h => h) (Or.inr ⟨by rfl, rfl⟩) Gx0 ?_
    try simp only [Act.put, List.setIfInBounds_toArray, List.set_cons_zero, List.set_cons_succ]
    refine wpAnyH_take (i := 3) (oi := { dst := some 78, op := _, type := _, pos := _, after := _, guard := _ }) (v := undef) rfl (by kernel_rfl) (by kernel_rfl) (by kernel_rfl) (fun _ _ _ h => h) (Or.inr ⟨by rfl, rfl⟩) Gx0 ?_
    try simp only [Act.put, List.setIfInBounds_toArray, List.set_cons_zero, List.set_cons_succ]
    refine wpAnyH_take (i := 4) (oi := { dst := some 79, op := _, type := _, pos := _, after := _, guard := _ }) (v := undef) rfl (by kernel_rfl) (by kernel_rfl) (by kernel_rfl) (fun _ _ _ h => h) (Or.inr ⟨by rfl, rfl⟩) Gx0 ?_
    try simp only [Act.put, List.setIfInBounds_toArray, List.set_cons_zero, List.set_cons_succ]
    refine wpAnyH_take (i := 5) (oi := { dst := some 80, op := _, type := _, pos := _, after := _, guard := _ }) (v := undef) rfl (by kernel_rfl) (by kernel_rfl) (by kernel_rfl) (fun _ _ _ h => h) (Or.inr ⟨by rfl, rfl⟩) Gx0 ?_
    try simp only [Act.put, List.setIfInBounds_toArray, List.set_cons_zero, List.set_cons_succ]
    refine wpAnyH_take (i := 6) (oi := { dst := some 81, op := _, type := _, pos := _, after := _, guard := _ }) (v := undef) rfl (by kernel_rfl) (by kernel_rfl) (by kernel_rfl) (fun _ _ _ h => h) (Or.inr ⟨by rfl, rfl⟩) Gx0 ?_
    try simp only [Act.put, List.setIfInBounds_toArray, List.set_cons_zero, List.set_cons_succ]
    refine wpAnyH_take (i := 7) (oi := { dst := some 82, op := _, type := _, pos := _, after := _, guard := _ }) (v := undef) rfl (by kernel_rfl) (by kernel_rfl) (by kernel_rfl) (fun _ _ _ h => h) (Or.inr ⟨by rfl, rfl⟩) Gx0 ?_
    try simp only [Act.put, List.setIfInBounds_toArray, List.set_cons_zero, List.set_cons_succ]
    refine wpAnyH_take (i := 8) (oi := { dst := some 83, op := _, type := _, pos := _, after := _, guard := _ }) (v := undef) rfl (by kernel_rfl) (by kernel_rfl) (by kernel_rfl) (fun _ _ _ h => h) (Or.inr ⟨by rfl, rfl⟩) Gx0 ?_
    try simp only [Act.put, List.setIfInBounds_toArray, List.set_cons_zero, List.set_cons_succ]
    refine wpAnyH_take (i := 9) (oi := { dst := some 84, op := _, type := _, pos := _, after := _, guard := _ }) (v := undef) rfl (by kernel_rfl) (by kernel_rfl) (by kernel_rfl) (fun _ _ _ h => h) (Or.inr ⟨by rfl, rfl⟩) Gx0 ?_
    try simp only [Act.put, List.setIfInBounds_toArray, List.set_cons_zero, List.set_cons_succ]
    refine wpAnyH_take (i := 10) (oi := { dst := some 85, op := _, type := _, pos := _, after := _, guard := _ }) (v := undef) rfl (by kernel_rfl) (by kernel_rfl) (by kernel_rfl) (fun _ _ _ h => h) (Or.inr ⟨by rfl, rfl⟩) Gx0 ?_
    try simp only [Act.put, List.setIfInBounds_toArray, List.set_cons_zero, List.set_cons_succ]
    refine wpAnyH_take (i := 11) (oi := { dst := some 86, op := _, type := _, pos := _, after := _, guard := _ }) (v := undef) rfl (by kernel_rfl) (by kernel_rfl) (by kernel_rfl) (fun _ _ _ h => h) (Or.inr ⟨by rfl, rfl⟩) Gx0 ?_
    try simp only [Act.put, List.setIfInBounds_toArray, List.set_cons_zero, List.set_cons_succ]
    refine wpAnyH_take (i := 12) (oi := { dst := some 87, op := _, type := _, pos := _, after := _, guard := _ }) (v := undef) rfl (by kernel_rfl) (by kernel_rfl) (by kernel_rfl) (fun _ _ _ h => h) (Or.inr ⟨by rfl, rfl⟩) Gx0 ?_
    try simp only [Act.put, List.setIfInBounds_toArray, List.set_cons_zero, List.set_cons_succ]
    refine wpAnyH_take (i := 13) (oi := { dst := some 88, op := _, type := _, pos := _, after := _, guard := _ }) (v := ?_) rfl (by kernel_rfl) (by kernel_rfl) (by kernel_rfl) (fun _ _ _ h => h) (Or.inl ⟨by kernel_rfl, ?_⟩) Gx0 ?_
    rotate_left
    · (intro w hSw; go_simp; try with_reducible rfl)
    try simp only [Act.put, List.setIfInBounds_toArray, List.set_cons_zero, List.set_cons_succ]
    refine wpAnyH_take (i := 14) (oi := { dst := some 6, op := _, type := _, pos := _, after := _, guard := _ }) (v := ?_) rfl (by kernel_rfl) (by kernel_rfl) (by kernel_rfl) (fun _ _ _ h => h) (Or.inl ⟨by kernel_rfl, ?_⟩) Gx0 ?_
    rotate_left
    · (intro w hSw; go_simp; try with_reducible rfl)
    try simp only [Act.put, List.setIfInBounds_toArray, List.set_cons_zero, List.set_cons_succ]
    refine wpAnyH_done (by kernel_rfl) ?_ _
    try simp only [Act.put, List.setIfInBounds_toArray, List.set_cons_zero, List.set_cons_succ]
    have GL : Hid (Below w.heap.size w _) := Gx0.out.bl
    go_wp2_with fail
    go_ret
    exact ⟨congrArg (fun b => Ending.returned (Value.bool b)) HNO.out.symm, GL.out⟩
  | true =>
    have HYES := hid (HVER.out rfl)
    clear HVER HVN
    refine wp_region_held (S := fun w' => Hid (Vq3 ID gi TP gt PK go w w')) (by kernel_rfl) ?_
    change wpAnyH _ _ _ _ _ _ _ _ w14.drew
    have Gx0 : Hid (Vq3 ID gi TP gt PK go w w14.drew) := GV.out.drew
    have HBx0 : Below w14.heap.size w14 w14.drew := (Below.refl _ _).drew
    have RA := hid (RA.out.below HBx0)
    clear HBx0
    have LX : Hid (w14.heap.size ≤ w14.drew.heap.size) := Nat.le_refl _
    generalize w14.drew = x0 at Gx0 RA LX ⊢
    refine wpAnyH_take (i := 0) (oi := { dst := some 75, op := _, type := _, pos := _, after := _, guard := _ }) (v := ?_) rfl (by kernel_rfl) (by kernel_rfl) (by kernel_rfl) (fun _ _ _ h => h) (Or.inl ⟨by kernel_rfl, ?_⟩) Gx0 ?_
    rotate_left
    · (intro w hSw; go_simp; try with_reducible rfl)
    try simp only [Act.put, List.setIfInBounds_toArray, List.set_cons_zero, List.set_cons_succ]
    refine wpAnyH_take (i := 1) (oi := { dst := some 76, op := _, type := _, pos := _, after := _, guard := _ }) (v := ?_) rfl (by kernel_rfl) (by kernel_rfl) (by kernel_rfl) (fun _ _ _ h => h) (Or.inl ⟨by kernel_rfl, ?_⟩) Gx0 ?_
    rotate_left
    · (intro w hSw; go_simp; try with_reducible rfl)
    try simp only [Act.put, List.setIfInBounds_toArray, List.set_cons_zero, List.set_cons_succ]
    refine wpAnyH_take (i := 2) (oi := { dst := some 77, op := _, type := _, pos := _, after := _, guard := _ }) (v := .agg ((u8s ID).toArray)) rfl (by kernel_rfl) (by kernel_rfl) (by kernel_rfl) (fun _ _ _ h => h) (yieldsIf_load_mid (cs := u8s ID) (by rfl) _ _ rfl _ _ rfl _ (fun w' hSw => (blk_row (Hid.out hSw).bi)) Tryd.underlying23 rfl IDI.out) Gx0 ?_
    try simp only [Act.put, List.setIfInBounds_toArray, List.set_cons_zero, List.set_cons_succ]
    refine wpAnyH_take (i := 3) (oi := { dst := some 78, op := _, type := _, pos := _, after := _, guard := _ }) (v := ?_) rfl (by kernel_rfl) (by kernel_rfl) (by kernel_rfl) (fun _ _ _ h => h) (Or.inl ⟨by kernel_rfl, ?_⟩) Gx0 ?_
    rotate_left
    · (intro w hSw; go_simp; try with_reducible rfl)
    try simp only [Act.put, List.setIfInBounds_toArray, List.set_cons_zero, List.set_cons_succ]
    refine wpAnyH_take (i := 4) (oi := { dst := some 79, op := _, type := _, pos := _, after := _, guard := _ }) (v := ?_) rfl (by kernel_rfl) (by kernel_rfl) (by kernel_rfl) (fun _ _ _ h => h) (Or.inl ⟨by kernel_rfl, ?_⟩) Gx0 ?_
    rotate_left
    · (intro w hSw; go_simp; try with_reducible rfl)
    try simp only [Act.put, List.setIfInBounds_toArray, List.set_cons_zero, List.set_cons_succ]
    refine wpAnyH_take (i := 5) (oi := { dst := some 80, op := _, type := _, pos := _, after := _, guard := _ }) (v := ?_) rfl (by kernel_rfl) (by kernel_rfl) (by kernel_rfl) (fun _ _ _ h => h) (Or.inl ⟨by kernel_rfl, ?_⟩) Gx0 ?_
    rotate_left
    · (intro w hSw; go_simp; try with_reducible rfl)
    try simp only [Act.put, List.setIfInBounds_toArray, List.set_cons_zero, List.set_cons_succ]
    refine wpAnyH_take (i := 6) (oi := { dst := some 81, op := _, type := _, pos := _, after := _, guard := _ }) (v := ?_) rfl (by kernel_rfl) (by kernel_rfl) (by kernel_rfl) (fun _ _ _ h => h) (Or.inl ⟨by kernel_rfl, ?_⟩) Gx0 ?_
    rotate_left
    · (intro w hSw; go_simp; try with_reducible rfl)
    try simp only [Act.put, List.setIfInBounds_toArray, List.set_cons_zero, List.set_cons_succ]
    refine wpAnyH_take (i := 7) (oi := { dst := some 82, op := _, type := _, pos := _, after := _, guard := _ }) (v := ?_) rfl (by kernel_rfl) (by kernel_rfl) (by kernel_rfl) (fun _ _ _ h => h) (Or.inl ⟨by kernel_rfl, ?_⟩) Gx0 ?_
    rotate_left
    · (intro w hSw; go_simp; try with_reducible rfl)
    try simp only [Act.put, List.setIfInBounds_toArray, List.set_cons_zero, List.set_cons_succ]
    refine wpAnyH_take (i := 8) (oi := { dst := some 83, op := _, type := _, pos := _, after := _, guard := _ }) (v := .agg ((u8s PK).toArray)) rfl (by kernel_rfl) (by kernel_rfl) (by kernel_rfl) (fun _ _ _ h => h) (yieldsIf_load_mid (cs := u8s PK) (by rfl) _ _ rfl _ _ rfl _ (fun w' hSw => (blk_row (Hid.out hSw).bo)) Tryd.underlying26 rfl PKL.out) Gx0 ?_
    try simp only [Act.put, List.setIfInBounds_toArray, List.set_cons_zero, List.set_cons_succ]
    refine wpAnyH_take (i := 9) (oi := { dst := some 84, op := _, type := _, pos := _, after := _, guard := _ }) (v := ?_) rfl (by kernel_rfl) (by kernel_rfl) (by kernel_rfl) (fun _ _ _ h => h) (Or.inl ⟨by kernel_rfl, ?_⟩) Gx0 ?_
    rotate_left
    · (intro w hSw; go_simp; try with_reducible rfl)
    try simp only [Act.put, List.setIfInBounds_toArray, List.set_cons_zero, List.set_cons_succ]
    refine wpAnyH_take (i := 11) (oi := { dst := some 86, op := _, type := _, pos := _, after := _, guard := _ }) (v := .agg ((u8s TP).toArray)) rfl (by kernel_rfl) (by kernel_rfl) (by kernel_rfl) (fun _ _ _ h => h) (yieldsIf_load_mid (cs := u8s TP) (by rfl) _ _ rfl _ _ rfl _ (fun w' hSw => (blk_row (Hid.out hSw).bt)) Tryd.underlying26 rfl TPI.out) Gx0 ?_
    try simp only [Act.put, List.setIfInBounds_toArray, List.set_cons_zero, List.set_cons_succ]
    refine wpAnyH_ready (rs := [10]) (by kernel_rfl) (by simp) ?_
    refine (AllReadyH.cons (o := { dst := some 85, op := _, type := _, pos := _, after := _, guard := _ }) rfl (fun Qc hQc => ?_) AllReadyH.nil)
    go_simp
    go_at_call 53; refine (CLB.out sd _ RA.out (Nat.lt_of_lt_of_le HSD.out LX.out) Gx0.out.bl).mono ?_; rintro e x1 ⟨rfl, hox1⟩
    have Gx1 : Hid (Vq3 ID gi TP gt PK go w x1) := Gx0.out.read hox1 NI.out.1 NI.out.2.1 NSO.out NI.out.2.2
    clear hox1
    go_wp2_with fail
    refine hQc.out _ _ Gx1 (fun hHeld => ?_)
    clear hQc Qc hHeld
    clear Gx0
    try simp only [Act.put, List.setIfInBounds_toArray, List.set_cons_zero, List.set_cons_succ]
    refine wpAnyH_take (i := 12) (oi := { dst := some 87, op := _, type := _, pos := _, after := _, guard := _ }) (v := .bool (decide (RT = TP))) rfl (by kernel_rfl) (by kernel_rfl) (by kernel_rfl) (fun _ _ _ h => h) (yieldsIf_eql (by rfl) 26 _ _ _ rfl (.agg (u8s RT).toArray) (.agg (u8s TP).toArray) rfl rfl _ (fun _ => rfl) (HEQ.out)) Gx1 ?_
    try simp only [Act.put, List.setIfInBounds_toArray, List.set_cons_zero, List.set_cons_succ]
    refine wpAnyH_take (i := 13) (oi := { dst := some 88, op := _, type := _, pos := _, after := _, guard := _ }) (v := ?_) rfl (by kernel_rfl) (by kernel_rfl) (by kernel_rfl) (fun _ _ _ h => h) (Or.inl ⟨by kernel_rfl, ?_⟩) Gx1 ?_
    rotate_left
    · (intro w hSw; go_simp; try with_reducible rfl)
    try simp only [Act.put, List.setIfInBounds_toArray, List.set_cons_zero, List.set_cons_succ]
    refine wpAnyH_take (i := 14) (oi := { dst := some 6, op := _, type := _, pos := _, after := _, guard := _ }) (v := ?_) rfl (by kernel_rfl) (by kernel_rfl) (by kernel_rfl) (fun _ _ _ h => h) (Or.inl ⟨by kernel_rfl, ?_⟩) Gx1 ?_
    rotate_left
    · (intro w hSw; go_simp; try with_reducible rfl)
    try simp only [Act.put, List.setIfInBounds_toArray, List.set_cons_zero, List.set_cons_succ]
    refine wpAnyH_done (by kernel_rfl) ?_ _
    try simp only [Act.put, List.setIfInBounds_toArray, List.set_cons_zero, List.set_cons_succ]
    have GL : Hid (Below w.heap.size w _) := Gx1.out.bl
    go_wp2_with fail
    go_ret
    exact ⟨congrArg (fun b => Ending.returned (Value.bool b)) HYES.out.symm, GL.out⟩
end Go.Proofs.YtobceieadjpaaaaDoor
