/-
  What is proved here: how many keys a tree has, its public key, and which node is beside another one, as the code answers them.
-/
import Derived.Test.YtobceieadjpaaaaDoorMLsc
import Derived.Test.YtobceieadjpaaaaDoorMLmRk
import Derived.Test.YtobceieadjpaaaaDoorMKf1
import Derived.Deep.DeepCutAuto
import Derived.Deep.RegionLaw
import Derived.Test.YtobceieadjpaaaaDoorMKd1
import Derived.Test.YtobceieadjpaaaaDoorMLmL
set_option linter.unusedSimpArgs false
set_option linter.unusedVariables false
namespace Go.Proofs.YtobceieadjpaaaaDoor
open Go.ChangeShapes Go.WideShapes Go.ChangeAt Go.RowKit
set_option linter.unusedVariables false
set_option maxRecDepth 20000

theorem rng_off {w : World} {pb b off : Nat} {xs : List Int} (h : w.rangeAt b off (u8s xs)) (hne : b ≠ pb) : Rp w (some ⟨pb, 0, none⟩) (some ⟨b, off, none⟩) xs := fun _ =>
  ⟨_, rfl, not_of hne, fun j hj => by rw [Addr.add_mid]; exact h j _ (u8s_get _ _ hj)⟩
/-- a tree's parts, as they lie -/
structure TreeC (w : World) (t g : Nat) (h k : Int) (id sd : List Int) : Prop where
  c0 : w.cell? ⟨t, 0, none⟩ = some (.int .i64 h)
  c1 : w.cell? ⟨t, 1, none⟩ = some (.int .i64 k)
  c50 : w.cell? ⟨t, 50, none⟩ = some (.slice (some ⟨g, 0, none⟩) (2 * tkeys h k) (2 * tkeys h k))
  rid : w.rangeAt t 2 (u8s id)
  rsd : w.rangeAt t 18 (u8s sd)
  row : HRow w g (2 * tkeys h k) (fun r => 1 ≤ r) (nd k id sd (tkeys h k))
  lt : t < w.heap.size
theorem TreeAt.parts {w : World} {t : Nat} {h k : Int} {id sd : List Int} (ht : TreeAt w t h k id sd) (hi : Idn id) (hs : Ky sd) : ∃ g, g < w.heap.size ∧ ∀ w', Below w.heap.size w w' → TreeC w' t g h k id sd := by
  obtain ⟨g, h1, h2⟩ := ht
  refine ⟨g, h2.lt, fun w' hb => ?_⟩
  have k1 := h1.below hb
  exact ⟨by rw [k1.cell]; exact treeC_h .., by rw [k1.cell]; exact treeC_k .., by rw [k1.cell]; exact treeC_row h k hi hs g _, tree_id hi k1, tree_sd hi k1, h2.below hb, k1.lt⟩

theorem tkeys_le (h k : Int) : tkeys h k ≤ 16 := by
  unfold tkeys
  split
  · rename_i hc
    rcases ht4 ⟨hc.1, hc.2.1⟩ with rfl | rfl | rfl | rfl <;> decide
  · omega
theorem sKeys_at (t : Nat) (h k : Int) (id sd : List Int) (w : World) (hi : Idn id) (hs : Ky sd) (ht : TreeAt w t h k id sd) :
    Calls Tryd.prog 50 #[.pointer (some ⟨t, 0, none⟩)] w fun e w' => e = .returned (.int .i64 (tkeys h k : Nat)) ∧ w = w' := by
  obtain ⟨g, _, hT⟩ := ht.parts hi hs
  have hT := hT w (Below.refl _ _)
  have c50 := hT.c50
  have hK := tkeys_le h k
  generalize tkeys h k = K at c50 hK ⊢
  clear hT hi hs ht
  go_enter Tryd.func50, Tryd.ntmps50
  go_wp2
  go_ret
  exact ⟨congrArg (fun q => Ending.returned (.int .i64 q)) (by omega), rfl⟩
theorem sKeys_nil (w : World) : Calls Tryd.prog 50 #[.pointer none] w fun e w' => e = .returned (.int .i64 0) ∧ w = w' := by
  go_enter Tryd.func50, Tryd.ntmps50
  go_wp2
  go_ret
  exact ⟨rfl, rfl⟩
theorem sPublic_nil (w : World) : Calls Tryd.prog 20 #[.pointer none] w fun e w' => e = .returned (.slice none 0 0) ∧ w = w' := by
  go_enter Tryd.func20, Tryd.ntmps20
  go_wp2_with (go_at_call 50; refine (sKeys_nil _).mono ?_; rintro e w1 ⟨rfl, rfl⟩)
  go_ret
  exact ⟨rfl, rfl⟩
theorem sSign_nil (q : Int) (A : Option Addr) (n c : Nat) (w : World) : Calls Tryd.prog 19 #[.pointer none, .int .i64 q, .slice A n c] w fun e w' => e = .returned (.tuple #[.slice none 0 0, .int .i64 1]) ∧ w = w' := by
  go_enter Tryd.func19, Tryd.ntmps19
  go_wp2
  go_ret2
  exact ⟨rfl, rfl⟩
theorem sNew_no (h k : Int) (id sd : List Int) (w : World) (hn : tkeys h k = 0) :
    Calls Tryd.prog 18 #[.int .i64 h, .int .i64 k, .agg (u8s id).toArray, .agg (u8s sd).toArray] w fun e w' => e = .returned (.tuple #[.pointer none, .int .i64 1]) ∧ Below w.heap.size w w' := by
  obtain ⟨hk1, hk2, hb0⟩ := blks2 w (u8s id).toArray (u8s sd).toArray 23 26
  have B0 := hid hb0
  have S0 : Hid (((w.alloc (.cells (u8s id).toArray 23)).alloc (.cells (u8s sd).toArray 26)).heap.size = w.heap.size + 1 + 1) := by show _ = _; simp
  have CA := hid (allowed_any h k)
  rw [decide_eq_false (fun hc => hc hn)] at CA
  clear hk1 hk2 hb0 hn
  go_enter Tryd.func18, Tryd.ntmps18
  go_wp2_with (go_at_call 51; refine (CA.out _).mono ?_; rintro e w1 ⟨rfl, hb1⟩; have B1 := hid (B0.out.trans (hb1.mono (by rw [S0.out]; omega))); clear hb1)
  go_ret2
  exact ⟨rfl, B1.out⟩
theorem lt32 {r : Nat} (h : r < 32) : r = 0 ∨ r = 1 ∨ r = 2 ∨ r = 3 ∨ r = 4 ∨ r = 5 ∨ r = 6 ∨ r = 7 ∨ r = 8 ∨ r = 9 ∨ r = 10 ∨ r = 11 ∨ r = 12 ∨ r = 13 ∨ r = 14 ∨ r = 15 ∨ r = 16 ∨ r = 17 ∨ r = 18 ∨ r = 19 ∨ r = 20 ∨ r = 21 ∨ r = 22 ∨ r = 23 ∨ r = 24 ∨ r = 25 ∨ r = 26 ∨ r = 27 ∨ r = 28 ∨ r = 29 ∨ r = 30 ∨ r = 31 := by omega
set_option maxHeartbeats 4000000 in
theorem beside_any (r : Nat) (h : r < 32) (w : World) : Calls Tryd.prog 63 #[.int .i64 (r : Nat)] w fun e w' => e = .returned (.int .i64 (bsd r : Nat)) ∧ w = w' := by
  rcases lt32 h with rfl | rfl | rfl | rfl | rfl | rfl | rfl | rfl | rfl | rfl | rfl | rfl | rfl | rfl | rfl | rfl | rfl | rfl | rfl | rfl | rfl | rfl | rfl | rfl | rfl | rfl | rfl | rfl | rfl | rfl | rfl | rfl
  all_goals
    go_enter Tryd.func63, Tryd.ntmps63
    go_wp2
    go_ret
    exact ⟨rfl, rfl⟩
set_option maxHeartbeats 4000000 in
theorem sPublic_at (t : Nat) (h k : Int) (id sd : List Int) (w : World) (h1 : 1 ≤ h ∧ h ≤ 4) (hk : Kd k) (hi : Idn id) (hs : Ky sd) (ht : TreeAt w t h k id sd) :
    Calls Tryd.prog 20 #[.pointer (some ⟨t, 0, none⟩)] w fun e w' => ∃ g, e = .returned (.slice (some ⟨g, 0, none⟩) 56 56) ∧ w.heap.size ≤ g ∧ Blk w' g 5 (u8s (pbt h k id sd)).toArray ∧ Below w.heap.size w w' := by
  obtain ⟨Z, hz, hz0, z0, z1, z2, z3, z4, hZs⟩ := zero_writer
  have CK := hid (sKeys_at t h k id sd w hi hs ht)
  obtain ⟨g, hgl, hT⟩ := ht.parts hi hs
  have HT := hid hT
  have htl := ht.lt
  have hK := tkeys_pos h1 hk
  have hkz : ((tkeys h k : Nat) : Int) ≠ 0 := by omega
  have hkb : (((tkeys h k : Nat) : Int) == 0) = false := by simpa using hkz
  have NK : Ky (nd k id sd (tkeys h k) 1) := nd_ky _ _ _ _ _
  have HP : Hid (pbt h k id sd = be h 4 ++ be k 4 ++ id ++ nd k id sd (tkeys h k) 1) := rfl
  have HPL : Hid ((pbt h k id sd).length = 56) := pbt_length h k hi.len sd
  have hw1 : IntKind.u32.wrap h = h := by simp [IntKind.wrap, IntKind.bits, IntKind.signed]; omega
  have hkr : 1 ≤ k ∧ k ≤ 4 := by rcases hk with rfl | rfl | rfl | rfl <;> decide
  have hw2 : IntKind.u32.wrap k = k := by simp [IntKind.wrap, IntKind.bits, IntKind.signed]; omega
  have HH : Hid (0 ≤ h ∧ h < 4294967296) := by show _ ∧ _; omega
  have HKR : Hid (0 ≤ k ∧ k < 4294967296) := by show _ ∧ _; omega
  have hKK : 1 < 2 * tkeys h k := by omega
  have HL16 := hid hi.len
  have HN32 := hid NK.len
  have hW0 : WAt (w.alloc (.cells Z 69)) w.heap.size [] := new_writer (Blk.new w 69 Z) hz z0.out z1.out z2.out z3.out
  have HW0 : Hid (WRep (w.alloc (.cells Z 69)) (some ⟨w.heap.size, 0, none⟩) (.good [])) := ⟨_, rfl, hW0⟩
  have B0 : Hid (Below w.heap.size w (w.alloc (.cells Z 69))) := (Below.refl _ _).alloc (Nat.le_refl _) _
  have HOF : Hid (∀ k, Of (some ⟨w.heap.size, 0, none⟩) k → w.heap.size ≤ k) := by rintro k ⟨a, ha, rfl⟩; injection ha with ha; subst ha; show w.heap.size ≤ w.heap.size; omega
  have NTL : Hid (t ≠ w.heap.size) := by show _ ≠ _; omega
  have NGL : Hid (g ≠ w.heap.size) := by show _ ≠ _; omega
  have HR1 : Hid (∀ w', Below w.heap.size w w' → w'.rangeAt g 32 (u8s (nd k id sd (tkeys h k) 1))) := fun w' hb => (HT.out w' hb).row.rng (r := 1) (Nat.le_refl _) hKK
  have HRI : Hid (∀ w', Below w.heap.size w w' → w'.rangeAt t 2 (u8s id)) := fun w' hb => (HT.out w' hb).rid
  have HC1 : Hid (∀ w', Below w.heap.size w w' → w'.cell? ⟨t, 1, none⟩ = some (.int .i64 k)) := fun w' hb => (HT.out w' hb).c1
  have HC50 : Hid (∀ w', Below w.heap.size w w' → w'.cell? ⟨t, 50, none⟩ = some (.slice (some ⟨g, 0, none⟩) (2 * tkeys h k) (2 * tkeys h k))) := fun w' hb => (HT.out w' hb).c50
  have c0 := (HT.out _ B0.out).c0
  have H1 := hid (WU32_any (some ⟨w.heap.size, 0, none⟩) (.good []) h _ HW0.out HH.out (by simp [WS.len]))
  generalize pbt h k id sd = PB at HP HPL ⊢
  obtain ⟨N1, hN1⟩ : ∃ N1, N1 = nd k id sd (tkeys h k) 1 := ⟨_, rfl⟩
  rw [← hN1] at HP HN32 HR1
  generalize tkeys h k = K at CK hkz hkb hKK HC50
  have SK : Hid (w.heap.size < (w.alloc (.cells Z 69)).heap.size) := by show _ < _; simp
  clear hz z0 z1 z2 z3 z4 h1 hk hi hs ht hT HT hK NK hkr hW0 hN1 HW0
  go_enter Tryd.func20, Tryd.ntmps20
  go_wp2_with (first
    | (go_at_call 50; refine CK.out.mono ?_; rintro e w1 ⟨rfl, rfl⟩)
    | (go_at_call 37; (with_reducible refine H1.out.mono ?_); rintro e w1 ⟨rfl, hw1, ho1⟩; have B1 := hid (B0.out.trans (ho1.below (Nat.le_of_lt SK.out) HOF.out)); have c1 := HC1.out _ B1.out; have H2 := hid (WU32_any (some ⟨w.heap.size, 0, none⟩) (.good (be h 4)) k w1 hw1 HKR.out (by simp [WS.len, be_length])); clear hw1 ho1)
    | (go_at_call 37; refine H2.out.mono ?_; rintro e w2 ⟨rfl, hw2, ho2⟩; have B2 := hid (B1.out.trans (ho2.below B1.out.size HOF.out)); have H3 := WPlain_any (some ⟨w.heap.size, 0, none⟩) (.good (be h 4 ++ be k 4)) (some ⟨t, 2, none⟩) 16 id w2 hw2 (rng_off (HRI.out _ B2.out) NTL.out) (by simp [WS.len, be_length, HL16.out]); rw [HL16.out] at H3; have H3 := hid H3; clear hw2 ho2)
    | (go_at_call 38; (with_reducible refine H3.out.mono ?_); rintro e w3 ⟨rfl, hw3, ho3⟩; have B3 := hid (B2.out.trans (ho3.below B2.out.size HOF.out)); have c50 := HC50.out _ B3.out; have H4 := WPlain_any (some ⟨w.heap.size, 0, none⟩) (.good (be h 4 ++ be k 4 ++ id)) (some ⟨g, 32, none⟩) 32 N1 w3 hw3 (rng_off (HR1.out _ B3.out) NGL.out) (by simp [WS.len, be_length, HL16.out, HN32.out]); rw [HN32.out] at H4; have H4 := hid H4; clear hw3 ho3)
    | (go_at_call 38; refine H4.out.mono ?_; rintro e w4 ⟨rfl, hw4, ho4⟩; have B4 := hid (B3.out.trans (ho4.below B3.out.size HOF.out)); have hw4 : WRep w4 (some ⟨w.heap.size, 0, none⟩) (.good PB) := (by rw [HP.out]; exact hw4); have H5 := Out_good (some ⟨w.heap.size, 0, none⟩) PB w4 hw4 (by rw [HPL.out]; decide); rw [HPL.out] at H5; have H5 := hid H5; clear hw4 ho4)
    | (go_at_call 42; refine H5.out.mono ?_; rintro e w5 ⟨rfl, hk5, hb5⟩; have K5 := hid hk5; have B5 := hid (B4.out.trans (hb5.mono B4.out.size)); clear hk5 hb5))
  go_ret
  exact ⟨w4.heap.size, rfl, B4.out.size, K5.out, B5.out⟩
end Go.Proofs.YtobceieadjpaaaaDoor
/-
  What is proved here: the code's own tree, made: all its nodes.
-/
namespace Go.Proofs.YtobceieadjpaaaaDoor
open Go.ChangeShapes Go.WideShapes Go.ChangeAt Go.RowKit
set_option linter.unusedVariables false
set_option maxRecDepth 20000

theorem shl_keys {h k : Int} (h1 : 1 ≤ h ∧ h ≤ 4) (hk : Kd k) : IntKind.i64.wrap (2 ^ h.toNat) = ((tkeys h k : Nat) : Int) := by
  rw [tkeys_ok h1 hk]
  rcases ht4 h1 with rfl | rfl | rfl | rfl <;> decide
theorem tkeys_lim {h k : Int} (h1 : 1 ≤ h ∧ h ≤ 4) (hk : Kd k) : 2 ≤ tkeys h k ∧ tkeys h k ≤ 16 := by
  rw [tkeys_ok h1 hk]
  rcases ht4 h1 with rfl | rfl | rfl | rfl <;> decide
theorem box_tree_row (w : World) (cs : Array Value) : Blk (w.alloc (.cells cs 97)) w.heap.size 97 cs := Blk.new _ _ _

set_option maxHeartbeats 8000000 in
theorem sNew_kd (h k : Int) (id sd : List Int) (w : World) (h1 : 1 ≤ h ∧ h ≤ 4) (hk : Kd k) (hi : Idn id) (hs : Ky sd) (ht : Tab w) :
    Calls Tryd.prog 18 #[.int .i64 h, .int .i64 k, .agg (u8s id).toArray, .agg (u8s sd).toArray] w fun e w' => ∃ t, e = .returned (.tuple #[.pointer (some ⟨t, 0, none⟩), .int .i64 0]) ∧ w.heap.size ≤ t ∧ TreeAt w' t h k id sd ∧ Below w.heap.size w w' := by
  obtain ⟨Z, HZ, hZ0, hZs⟩ := zero_Hash
  have hz32 : Z.size = 32 := by rw [HZ.out, List.size_toArray, u8s_length]; simp
  obtain ⟨hk1, hk2, hb0⟩ := blks2 w (u8s id).toArray (u8s sd).toArray 23 26
  have K1 := hid hk1; have K2 := hid hk2; have B0 := hid hb0
  have S0 : Hid (((w.alloc (.cells (u8s id).toArray 23)).alloc (.cells (u8s sd).toArray 26)).heap.size = w.heap.size + 1 + 1) := by show _ = _; simp
  have CA := hid (allowed_any h k)
  rw [decide_eq_true (tkeys_pos h1 hk)] at CA
  have hsh := shl_keys h1 hk
  have hlim := tkeys_lim h1 hk
  obtain ⟨nf, hnf⟩ : ∃ nf, nf = nd k id sd (tkeys h k) := ⟨_, rfl⟩
  have NK : Hid (∀ r, Ky (nf r)) := fun r => by rw [hnf]; exact nd_ky _ _ _ _ _
  have HLF : Hid (∀ j, under id (((tkeys h k : Nat) : Int) + (j : Nat)) 33410 (pubK k id (j : Nat) sd) = nf (tkeys h k + j)) := fun j => by
    rw [hnf, nd_leaf k id sd (show tkeys h k ≤ tkeys h k + j by omega)]
    rw [show ((tkeys h k + j : Nat) : Int) - ((tkeys h k : Nat) : Int) = (j : Int) by omega, show ((tkeys h k + j : Nat) : Int) = ((tkeys h k : Nat) : Int) + (j : Int) by omega]
  have HBR : Hid (∀ r : Nat, 1 ≤ r → r < tkeys h k → under id r 33667 (nf (2 * r) ++ nf (2 * r + 1)) = nf r) := fun r h2 h3 => by
    rw [hnf, nd_branch k id sd (show r < tkeys h k from h3) (by omega)]
  have HFIN : Hid (∀ t g w', Blk w' t 97 (treeC h k id sd g (2 * tkeys h k)) → HRow w' g (2 * tkeys h k) (fun r => 1 ≤ r) nf → TreeAt w' t h k id sd) := fun t g w' ha hb => ⟨g, ha, by rw [hnf] at hb; exact hb⟩
  have HTB : Hid (∀ g, Tryd.prog.built 97 [(0, .int .i64 h), (1, .int .i64 k), (2, .agg (u8s id).toArray), (3, .agg (u8s sd).toArray), (4, .slice (some ⟨g, 0, none⟩) (2 * tkeys h k) (2 * tkeys h k))] = some (treeC h k id sd g (2 * tkeys h k))) := fun g => tree_built h k id sd g _ hi hs
  obtain ⟨K, hK⟩ : ∃ K, K = tkeys h k := ⟨_, rfl⟩
  rw [← hK] at hsh hlim HLF HBR HFIN HTB
  clear hnf hK
  obtain ⟨ZR, hzr, hmk0⟩ := make_hashes2 (2 * K) (by omega)
  have hmk : ∀ u : World, (Instr.makeSlice 92 (.int .i64 (2 * (K : Int))) (.int .i64 (2 * (K : Int)))).run Tryd.prog u = .ok (.slice (some ⟨u.heap.size, 0, none⟩) (2 * K) (2 * K)) (u.alloc (.cells ZR 26)) := fun u => by
    have := hmk0 u
    rw [show ((2 * K : Nat) : Int) = 2 * (K : Int) by omega] at this
    exact this
  clear hmk0
  obtain ⟨a1, a2⟩ := h1
  obtain ⟨k2, k16⟩ := hlim
  have CP : Hid (∀ (q : Nat) w1, q < K → Below w.heap.size w w1 → Calls Tryd.prog 61 #[.int .i64 k, .agg (u8s id).toArray, .int .u32 (q : Nat), .agg (u8s sd).toArray] w1 fun e w' => e = .returned (.tuple #[.agg (u8s (pubK k id (q : Nat) sd)).toArray, .int .i64 0]) ∧ Below w1.heap.size w1 w') := fun q w1 hq hb => lPublic_kd k id _ sd w1 hk hi (by omega) hs (ht.below hb)
  have CN : Hid (∀ (g r : Nat) (u : Int) (n : Nat) (L : List (List Int)) w1, r < 100 → 0 ≤ u ∧ u < 65536 → n = L.length → n ≤ 4 → (∀ f ∈ L, Ky f) → Blk w1 g 26 (u8s L.flatten).toArray → Below w.heap.size w w1 → Calls Tryd.prog 62 #[.agg (u8s id).toArray, .int .i64 r, .int .i64 u, .slice (some ⟨g, 0, none⟩) n n] w1 fun e w' => e = .returned (.agg (u8s (under id r u L.flatten)).toArray) ∧ Below w1.heap.size w1 w') :=
    fun g r u n L w1 hr hu hn hn4 hL hg hb => sNode_any id r u g n n L w1 hi (by omega) hu hn hn4 hL hg (ht.below hb)
  have PKY : Hid (∀ q : Nat, Ky (pubK k id (q : Nat) sd)) := fun q => under_ky _ _ _ _
  have IDI := hid (id_info hi); have SDI := hid (hash_info hs.len)
  have HZ32' := hid hz32
  clear hk1 hk2 hb0 hi hs ht hk
  go_enter Tryd.func18, Tryd.ntmps18
  go_wp2_with (go_at_call 51; refine (CA.out _).mono ?_; rintro e w1 ⟨rfl, hb1⟩; have L1 := hid (K1.out.below hb1); have L2 := hid (K2.out.below hb1); have B1 := hid (B0.out.trans (hb1.mono (by rw [S0.out]; omega))); have S1 := hid hb1.size; clear hb1)
  have HR0 : Hid (NwS id sd w1.heap.size (2 * K) (fun r => K ≤ r ∧ r < K + 0) nf w (w1.alloc (.cells ZR 26))) := ⟨L1.out.alloc _, L2.out.alloc _, L2.out.lt, ⟨ZR, Blk.new _ _ _, hzr, fun r h1 h2 => by omega⟩, B1.out.alloc B1.out.size _⟩
  clear K1 K2 B0 S0 L1 L2 B1 S1 CA hzr hmk
  generalize w1.alloc (.cells ZR 26) = w2 at HR0 ⊢
  generalize w1.heap.size = g at HR0 ⊢
  go_loopw [26] (fun i wr => ∃ j : Nat, j ≤ K ∧ i = .int .i64 j ∧ Hid (NwS id sd g (2 * K) (fun r => K ≤ r ∧ r < K + j) nf w wr)) (fun i _ => K - (intOf i).toNat)
  case atStart => exact ⟨0, Nat.zero_le _, rfl, HR0⟩
  case round =>
    obtain ⟨j, hj, rfl, HR⟩ := hrel
    clear HR0
    by_cases hlt : j < K
    · have CPJ := hid (fun w1 hb => CP.out j w1 hlt hb)
      have hlf := HLF.out j
      have PK1 := PKY.out j
      obtain ⟨PK, hPK⟩ : ∃ PK, PK = pubK k id (j : Nat) sd := ⟨_, rfl⟩
      rw [← hPK] at CPJ hlf PK1
      have hfl : [PK].flatten = PK := by simp
      have CNJ : Hid (∀ g' w1, Blk w1 g' 26 (u8s PK).toArray → Below w.heap.size w w1 → Calls Tryd.prog 62 #[.agg (u8s id).toArray, .int .i64 ((K : Int) + (j : Int)), .int .i64 33410, .slice (some ⟨g', 0, none⟩) 1 1] w1 fun e w' => e = .returned (.agg (u8s (nf (K + j))).toArray) ∧ Below w1.heap.size w1 w') := fun g' w1 hg hb => by
        have := CN.out g' (K + j) 33410 1 [PK] w1 (by omega) (by decide) rfl (by decide) (fun f hf => by simp at hf; rw [hf]; exact PK1) (by rw [hfl]; exact hg) hb
        rw [hfl, show ((K + j : Nat) : Int) = (K : Int) + (j : Int) by omega, hlf] at this
        exact this
      have PKK := hid PK1
      have PI := hid (info_hash PK PK1.len); have PL := hid (hash_info PK1.len)
      have PZ : Hid (Z.size = (u8s PK).toArray.size) := HZ32'.out.trans (hash_size PK1.len).symm
      have hw1 : IntKind.i64.wrap ((K : Int) + (j : Int)) = (K : Int) + (j : Int) := IntWalk.i64_in _ (by omega)
      have hwj : IntKind.u32.wrap (j : Int) = (j : Int) := by simp [IntKind.wrap, IntKind.bits, IntKind.signed]; omega
      have HJ : Hid (K + j < 2 * K) := by show _ < _; omega
      have hKj : (K : Int) + (j : Int) < 2 * (K : Int) := by omega
      have hji : (j : Int) < (K : Int) := by omega
      clear hlf PK1 hPK hfl hlt
      go_upto_region 11 with (first
        | (refine load_at rfl 23 (.tmp 6) rfl w.heap.size 0 rfl (u8s id) _ (blk_row HR.out.b0) Tryd.underlying23 rfl IDI.out (u8s id).toArray rfl ?_)
        | (refine load_at rfl 26 (.tmp 7) rfl (w.heap.size + 1) 0 rfl (u8s sd) _ (blk_row HR.out.b1) Tryd.underlying26 rfl SDI.out (u8s sd).toArray rfl ?_)
        | (go_at_call 61; refine (CPJ.out _ HR.out.bl).mono ?_; rintro e w3 ⟨rfl, hb3⟩; have HR3 := hid (HR.out.below hb3); clear hb3)
        | (refine wpList_store_row rfl 26 (.tmp 13) (.tmp 36) rfl w3.heap.size (u8s PK).toArray rfl rfl 26 Z (Blk.new w3 26 Z) PI.out PZ.out (u8s_all PK) ?_; have hbb : Below w3.heap.size w3 ((w3.alloc (.cells Z 26)).setRow w3.heap.size (u8s PK).toArray) := below_setRow ((Below.refl _ _).alloc (Nat.le_refl _) _) (Nat.le_refl _) _; have P3 : Hid (Blk ((w3.alloc (.cells Z 26)).setRow w3.heap.size (u8s PK).toArray) w3.heap.size 26 (u8s PK).toArray) := (Blk.new w3 26 Z).row _; have HR4 := hid (HR3.out.below hbb); clear hbb; generalize (w3.alloc (.cells Z 26)).setRow w3.heap.size (u8s PK).toArray = w4 at P3 HR4 ⊢; generalize w3.heap.size = gp at P3 ⊢))
      clear hZs hZ0
      go_wp2_with (first
        | (refine load_at rfl 23 (.tmp 6) rfl w.heap.size 0 rfl (u8s id) _ (blk_row HR4.out.b0) Tryd.underlying23 rfl IDI.out (u8s id).toArray rfl ?_)
        | (refine load_at rfl 26 (.tmp 13) rfl gp 0 rfl (u8s PK) _ (blk_row P3.out) Tryd.underlying26 rfl PL.out (u8s PK).toArray rfl ?_)
        | (refine hashes_one rfl (.tmp 49) rfl PK PKK.out rfl ?_; have HR5 := hid (HR4.out.alloc (.cells (u8s PK).toArray 26)); have P5 := hid (Blk.new w4 26 (u8s PK).toArray); generalize w4.alloc (.cells (u8s PK).toArray 26) = w5 at HR5 P5 ⊢; generalize w4.heap.size = gl at P5 ⊢)
        | (go_at_call 62; refine (CNJ.out gl _ P5.out HR5.out.bl).mono ?_; rintro e w6 ⟨rfl, hb6⟩; have HR6 := hid (HR5.out.below hb6); clear hb6)
        | (refine store_hash rfl (.tmp 52) (.tmp 51) rfl g (2 * K) _ nf (K + j) rfl rfl NK.out HJ.out HR6.out.row ?_; intro w7 hr7 ho7; have HR7 := hid (HR6.out.only ho7 hr7); clear hr7 ho7))
      exact ⟨⟨j + 1, by omega, by go_num, HR7.out.mono (fun r h1 h2 => by omega)⟩, by simp [intOf]; omega⟩
    · obtain rfl : j = K := by omega
      have HR2 : Hid (NwS id sd g (2 * j) (fun r => j - 1 < r) nf w wr) := HR.out.mono (fun r h1 h2 => by omega)
      clear CP HLF PKY hlt hj HR
      go_wp2_with fail
      go_loopw [15] (fun i wx => ∃ r : Nat, r < j ∧ i = .int .i64 r ∧ Hid (NwS id sd g (2 * j) (fun x => r < x) nf w wx)) (fun i _ => (intOf i).toNat)
      case atStart => exact ⟨j - 1, by omega, congrArg (fun q => Value.int .i64 q) (by omega), HR2⟩
      case round =>
        obtain ⟨r, hrj, rfl, HG⟩ := hrel
        clear HR2
        by_cases hr1 : 1 ≤ r
        · have hri : (1 : Int) ≤ (r : Int) := by omega
          have hbr := HBR.out r hr1 hrj
          have CNR : Hid (∀ g' w1, Blk w1 g' 26 (u8s (nf (2 * r) ++ nf (2 * r + 1))).toArray → Below w.heap.size w w1 → Calls Tryd.prog 62 #[.agg (u8s id).toArray, .int .i64 (r : Nat), .int .i64 33667, .slice (some ⟨g', 0, none⟩) 2 2] w1 fun e w' => e = .returned (.agg (u8s (nf r)).toArray) ∧ Below w1.heap.size w1 w') := fun g' w1 hg hb => by
            have := CN.out g' r 33667 2 [nf (2 * r), nf (2 * r + 1)] w1 (by omega) (by decide) rfl (by decide) (fun f hf => by simp at hf; rcases hf with rfl | rfl <;> exact NK.out _) (by simpa using hg) hb
            rw [show [nf (2 * r), nf (2 * r + 1)].flatten = nf (2 * r) ++ nf (2 * r + 1) by simp, hbr] at this
            exact this
          have NA := hid (hash_info (NK.out (2 * r)).len); have NB := hid (hash_info (NK.out (2 * r + 1)).len)
          have hw1 : IntKind.i64.wrap (2 * (r : Int)) = 2 * (r : Int) := IntWalk.i64_in _ (by omega)
          have hw2 : IntKind.i64.wrap (2 * (r : Int) + 1) = 2 * (r : Int) + 1 := IntWalk.i64_in _ (by omega)
          have hw3 : IntKind.i64.wrap ((r : Int) - 1) = (r : Int) - 1 := IntWalk.i64_in _ (by omega)
          have hrK : (r : Int) < 2 * (j : Int) := by omega
          have h2K : 2 * (r : Int) < 2 * (j : Int) := by omega
          have h3K : 2 * (r : Int) + 1 < 2 * (j : Int) := by omega
          have H2R : Hid (r < 2 * r ∧ 2 * r < 2 * j ∧ r < 2 * r + 1 ∧ 2 * r + 1 < 2 * j ∧ r < 2 * j) := by show _ ∧ _; omega
          clear hbr CN
          go_wp2_with fail
          refine wp_region_held (S := fun w' => Hid (NwS id sd g (2 * j) (fun x => r < x) nf w w')) (by kernel_rfl) ?_
          change wpAnyH _ _ _ _ _ _ _ _ wr.drew
          have Gx0 : Hid (NwS id sd g (2 * j) (fun x => r < x) nf w wr.drew) := HG.out.drew
          have HBx0 : Below wr.heap.size wr wr.drew := (Below.refl _ _).drew
          clear HBx0
          generalize wr.drew = x0 at Gx0  ⊢
          refine wpAnyH_take (i := 0) (oi := { dst := some 60, op := _, type := _, pos := _, after := _, guard := _ }) (v := ?_) rfl (by kernel_rfl) (by kernel_rfl) (by kernel_rfl) (fun _ _ _ h => h) (Or.inl ⟨by kernel_rfl, ?_⟩) (by assumption) ?_
          rotate_left
          · (intro w hSw; go_simp; try with_reducible rfl)
          try simp only [Act.put, List.setIfInBounds_toArray, List.set_cons_zero, List.set_cons_succ]
          refine wpAnyH_take (i := 1) (oi := { dst := some 61, op := _, type := _, pos := _, after := _, guard := _ }) (v := ?_) rfl (by kernel_rfl) (by kernel_rfl) (by kernel_rfl) (fun _ _ _ h => h) (Or.inl ⟨by kernel_rfl, ?_⟩) (by assumption) ?_
          rotate_left
          · (intro w hSw; go_simp; try with_reducible rfl)
          try simp only [Act.put, List.setIfInBounds_toArray, List.set_cons_zero, List.set_cons_succ]
          refine wpAnyH_take (i := 2) (oi := { dst := some 62, op := _, type := _, pos := _, after := _, guard := _ }) (v := .agg ((u8s id).toArray)) rfl (by kernel_rfl) (by kernel_rfl) (by kernel_rfl) (fun _ _ _ h => h) (yieldsIf_load_mid (cs := u8s id) (by rfl) _ _ rfl _ _ rfl _ (fun w' hSw => (blk_row (Hid.out hSw).b0)) Tryd.underlying23 rfl IDI.out) (by assumption) ?_
          try simp only [Act.put, List.setIfInBounds_toArray, List.set_cons_zero, List.set_cons_succ]
          refine wpAnyH_take (i := 3) (oi := { dst := some 63, op := _, type := _, pos := _, after := _, guard := _ }) (v := ?_) rfl (by kernel_rfl) (by kernel_rfl) (by kernel_rfl) (fun _ _ _ h => h) (Or.inl ⟨by kernel_rfl, ?_⟩) (by assumption) ?_
          rotate_left
          · (intro w hSw; go_simp; try with_reducible rfl)
          try simp only [Act.put, List.setIfInBounds_toArray, List.set_cons_zero, List.set_cons_succ]
          refine wpAnyH_take (i := 4) (oi := { dst := some 64, op := _, type := _, pos := _, after := _, guard := _ }) (v := ?_) rfl (by kernel_rfl) (by kernel_rfl) (by kernel_rfl) (fun _ _ _ h => h) (Or.inl ⟨by kernel_rfl, ?_⟩) (by assumption) ?_
          rotate_left
          · (intro w hSw; go_simp; try with_reducible rfl)
          try simp only [Act.put, List.setIfInBounds_toArray, List.set_cons_zero, List.set_cons_succ]
          refine wpAnyH_take (i := 5) (oi := { dst := some 65, op := _, type := _, pos := _, after := _, guard := _ }) (v := ?_) rfl (by kernel_rfl) (by kernel_rfl) (by kernel_rfl) (fun _ _ _ h => h) (Or.inl ⟨by kernel_rfl, ?_⟩) (by assumption) ?_
          rotate_left
          · (intro w hSw; go_simp; try with_reducible rfl)
          try simp only [Act.put, List.setIfInBounds_toArray, List.set_cons_zero, List.set_cons_succ]
          refine wpAnyH_take (i := 6) (oi := { dst := some 66, op := _, type := _, pos := _, after := _, guard := _ }) (v := ?_) rfl (by kernel_rfl) (by kernel_rfl) (by kernel_rfl) (fun _ _ _ h => h) (Or.inl ⟨by kernel_rfl, ?_⟩) (by assumption) ?_
          rotate_left
          · (intro w hSw; go_simp; try with_reducible rfl)
          try simp only [Act.put, List.setIfInBounds_toArray, List.set_cons_zero, List.set_cons_succ]
          refine wpAnyH_take (i := 7) (oi := { dst := some 67, op := _, type := _, pos := _, after := _, guard := _ }) (v := .pointer (some ⟨g, 2 * r * 32, none⟩)) rfl (by kernel_rfl) (by kernel_rfl) (by kernel_rfl) (fun _ _ _ h => h) (Or.inl ⟨by kernel_rfl, ?_⟩) (by assumption) ?_
          · (intro w hSw; go_simp; rw [if_pos (by omega), show (2 * (r : Int)).toNat = 2 * r by omega])
          try simp only [Act.put, List.setIfInBounds_toArray, List.set_cons_zero, List.set_cons_succ]
          refine wpAnyH_take (i := 8) (oi := { dst := some 68, op := _, type := _, pos := _, after := _, guard := _ }) (v := .agg ((u8s (nf (2 * r))).toArray)) rfl (by kernel_rfl) (by kernel_rfl) (by kernel_rfl) (fun _ _ _ h => h) (yieldsIf_load_mid (cs := u8s (nf (2 * r))) (by rfl) _ _ rfl _ _ rfl _ (fun w' hSw => ((Hid.out hSw).row.rng (r := 2 * r) H2R.out.1 H2R.out.2.1)) Tryd.underlying26 rfl NA.out) (by assumption) ?_
          try simp only [Act.put, List.setIfInBounds_toArray, List.set_cons_zero, List.set_cons_succ]
          refine wpAnyH_take (i := 9) (oi := { dst := some 69, op := _, type := _, pos := _, after := _, guard := _ }) (v := ?_) rfl (by kernel_rfl) (by kernel_rfl) (by kernel_rfl) (fun _ _ _ h => h) (Or.inl ⟨by kernel_rfl, ?_⟩) (by assumption) ?_
          rotate_left
          · (intro w hSw; go_simp; try with_reducible rfl)
          try simp only [Act.put, List.setIfInBounds_toArray, List.set_cons_zero, List.set_cons_succ]
          refine wpAnyH_take (i := 10) (oi := { dst := some 70, op := _, type := _, pos := _, after := _, guard := _ }) (v := ?_) rfl (by kernel_rfl) (by kernel_rfl) (by kernel_rfl) (fun _ _ _ h => h) (Or.inl ⟨by kernel_rfl, ?_⟩) (by assumption) ?_
          rotate_left
          · (intro w hSw; go_simp; try with_reducible rfl)
          try simp only [Act.put, List.setIfInBounds_toArray, List.set_cons_zero, List.set_cons_succ]
          refine wpAnyH_take (i := 11) (oi := { dst := some 71, op := _, type := _, pos := _, after := _, guard := _ }) (v := ?_) rfl (by kernel_rfl) (by kernel_rfl) (by kernel_rfl) (fun _ _ _ h => h) (Or.inl ⟨by kernel_rfl, ?_⟩) (by assumption) ?_
          rotate_left
          · (intro w hSw; go_simp; try with_reducible rfl)
          try simp only [Act.put, List.setIfInBounds_toArray, List.set_cons_zero, List.set_cons_succ]
          refine wpAnyH_take (i := 12) (oi := { dst := some 72, op := _, type := _, pos := _, after := _, guard := _ }) (v := ?_) rfl (by kernel_rfl) (by kernel_rfl) (by kernel_rfl) (fun _ _ _ h => h) (Or.inl ⟨by kernel_rfl, ?_⟩) (by assumption) ?_
          rotate_left
          · (intro w hSw; go_simp; try with_reducible rfl)
          try simp only [Act.put, List.setIfInBounds_toArray, List.set_cons_zero, List.set_cons_succ]
          refine wpAnyH_take (i := 13) (oi := { dst := some 73, op := _, type := _, pos := _, after := _, guard := _ }) (v := .pointer (some ⟨g, (2 * r + 1) * 32, none⟩)) rfl (by kernel_rfl) (by kernel_rfl) (by kernel_rfl) (fun _ _ _ h => h) (Or.inl ⟨by kernel_rfl, ?_⟩) (by assumption) ?_
          · (intro w hSw; go_simp; (try rw [if_pos (by omega)]); (try rw [show (2 * (r : Int) + 1).toNat = 2 * r + 1 by omega]))
          try simp only [Act.put, List.setIfInBounds_toArray, List.set_cons_zero, List.set_cons_succ]
          refine wpAnyH_take (i := 14) (oi := { dst := some 74, op := _, type := _, pos := _, after := _, guard := _ }) (v := .agg ((u8s (nf (2 * r + 1))).toArray)) rfl (by kernel_rfl) (by kernel_rfl) (by kernel_rfl) (fun _ _ _ h => h) (yieldsIf_load_mid (cs := u8s (nf (2 * r + 1))) (by rfl) _ _ rfl _ _ rfl _ (fun w' hSw => ((Hid.out hSw).row.rng (r := 2 * r + 1) H2R.out.2.2.1 H2R.out.2.2.2.1)) Tryd.underlying26 rfl NB.out) (by assumption) ?_
          try simp only [Act.put, List.setIfInBounds_toArray, List.set_cons_zero, List.set_cons_succ]
          refine wpAnyH_ready (rs := [15]) (by kernel_rfl) (by simp) ?_
          refine (AllReadyH.cons (o := { dst := some 75, op := _, type := _, pos := _, after := _, guard := _ }) rfl (fun Qc hQc => ?_) AllReadyH.nil)
          rw [if_pos (by rfl)]
          refine wp_hashes_two (.tmp 68) (.tmp 74) rfl (nf (2 * r)) (nf (2 * r + 1)) (NK.out _) (NK.out _) rfl rfl ?_
          have Gx1 := hid (Gx0.out.alloc (.cells (u8s (nf (2 * r) ++ nf (2 * r + 1))).toArray 26))
          have PB := hid (Blk.new x0 26 (u8s (nf (2 * r) ++ nf (2 * r + 1))).toArray)
          refine hQc.out _ _ Gx1 (fun hHeld => ?_)
          clear hQc Qc Gx0
          generalize x0.alloc (.cells (u8s (nf (2 * r) ++ nf (2 * r + 1))).toArray 26) = x1 at Gx1 PB hHeld ⊢
          generalize x0.heap.size = gl at PB ⊢
          try simp only [Act.put, List.setIfInBounds_toArray, List.set_cons_zero, List.set_cons_succ]
          refine wpAnyH_ready (rs := [16]) (by kernel_rfl) (by simp) ?_
          refine (AllReadyH.cons (o := { dst := some 76, op := _, type := _, pos := _, after := _, guard := _ }) rfl (fun Qc hQc => ?_) AllReadyH.nil)
          go_simp
          go_at_call 62; refine (CNR.out gl _ PB.out Gx1.out.bl).mono ?_; rintro e x2 ⟨rfl, hbx2⟩
          have Gx2 := hid (Gx1.out.below hbx2)
          have PB := hid (PB.out.below hbx2)
          clear hbx2
          go_wp2_with fail
          refine hQc.out _ _ Gx2 (fun hHeld => ?_)
          clear hQc Qc Gx1
          try simp only [Act.put, List.setIfInBounds_toArray, List.set_cons_zero, List.set_cons_succ]
          refine wpAnyH_take (i := 17) (oi := { dst := some 77, op := _, type := _, pos := _, after := _, guard := _ }) (v := ?_) rfl (by kernel_rfl) (by kernel_rfl) (by kernel_rfl) (fun _ _ _ h => h) (Or.inl ⟨by kernel_rfl, ?_⟩) (by assumption) ?_
          rotate_left
          · (intro w hSw; go_simp; try with_reducible rfl)
          try simp only [Act.put, List.setIfInBounds_toArray, List.set_cons_zero, List.set_cons_succ]
          refine wpAnyH_ready (rs := [18]) (by kernel_rfl) (by simp) ?_
          refine (AllReadyH.cons (o := { dst := none, op := _, type := _, pos := _, after := _, guard := _ }) rfl (fun Qc hQc => ?_) AllReadyH.nil)
          rw [if_pos (by rfl)]
          refine wp_store_hash (.tmp 77) (.tmp 76) rfl g (2 * j) _ nf r rfl rfl NK.out H2R.out.2.2.2.2 Gx2.out.row ?_
          intro x3 hr7 ho7
          have GF := hid (Gx2.out.only ho7 hr7)
          have Gx3 : Hid (NwS id sd g (2 * j) (fun x => r < x) nf w x3) := GF.out.mono (fun x h1 h2 => .inl h2)
          clear hr7 ho7
          refine hQc.out _ _ Gx3 (fun hHeld => ?_)
          clear hQc Qc Gx2
          try simp only [Act.put, List.setIfInBounds_toArray, List.set_cons_zero, List.set_cons_succ]
          refine wpAnyH_done (by kernel_rfl) ?_ _
          try simp only [Act.put, List.setIfInBounds_toArray, List.set_cons_zero, List.set_cons_succ]
          go_wp2_with fail
          exact ⟨⟨r - 1, by omega, congrArg (fun q => Value.int .i64 q) (by omega), GF.out.mono (fun x h1 h2 => by omega)⟩, by simp [intOf]; omega⟩
        · have hr0 : r = 0 := by omega
          subst hr0
          have HTBg := HTB.out g
          clear hr1 CN HBR
          go_wp2_with (first
            | (refine load_at rfl 23 (.tmp 6) rfl w.heap.size 0 rfl (u8s id) _ (blk_row HG.out.b0) Tryd.underlying23 rfl IDI.out (u8s id).toArray rfl ?_)
            | (refine load_at rfl 26 (.tmp 7) rfl (w.heap.size + 1) 0 rfl (u8s sd) _ (blk_row HG.out.b1) Tryd.underlying26 rfl SDI.out (u8s sd).toArray rfl ?_)
            | (refine wpList_build rfl 97 _ rfl (by simp [Act.eval, HTBg]) ?_))
          have HT := hid (HFIN.out wr.heap.size g _ (Blk.new wr 97 (treeC h k id sd g (2 * j))) ((HG.out.alloc (.cells (treeC h k id sd g (2 * j)) 97)).row.mono (fun r h1 h2 => by omega)))
          have HB := hid (HG.out.bl.alloc HG.out.bl.size (.cells (treeC h k id sd g (2 * j)) 97))
          have HZ := hid HG.out.bl.size
          generalize wr.alloc (.cells (treeC h k id sd g (2 * j)) 97) = wz at HT HB ⊢
          go_ret2
          exact ⟨wr.heap.size, rfl, HZ.out, HT.out, HB.out⟩
end Go.Proofs.YtobceieadjpaaaaDoor
/-
  What is proved here: the fixed fact that each statement on trees of keys asks first; which trees are looked at; a nil tree has no keys, and signs nothing.
-/
namespace Go.Proofs.YtobceieadjpaaaaDoor
open Go.ChangeShapes Go.WideShapes Go.ChangeAt Go.RowKit
set_option linter.unusedVariables false
set_option maxRecDepth 20000

theorem zero_I : ∃ Z : Array Value, Hid (Z = (u8s (List.replicate 16 0)).toArray) ∧ (¬ Z = #[]) ∧ ∀ w : World, Sem.run Tryd.prog (zeroValue 23) w = Result.ok (.agg Z) w := by
  refine ⟨(List.replicate 16 (.int .u8 0)).toArray, ?_, by simp [List.replicate], fun w => by kernel_rfl⟩
  show _ = _
  unfold u8s
  rw [List.map_replicate]
theorem idn_zero : Idn (List.replicate 16 0) := ⟨by simp, fun v hv => by have := List.eq_of_mem_replicate hv; omega⟩
set_option maxHeartbeats 4000000 in
theorem sawake_any (w : World) (ht : Tab w) : Calls Tryd.prog 15 #[] w fun e w' => e = .returned (.bool true) ∧ Below w.heap.size w w' := by
  obtain ⟨Z, HZ, hZ0, hZs⟩ := zero_H
  obtain ⟨ZI, HZI, hZI0, hZIs⟩ := zero_I
  have C1 : Hid (∀ w1, Below w.heap.size w w1 → Calls Tryd.prog 18 #[.int .i64 1, .int .i64 1, .agg ZI, .agg Z] w1 fun e w' => ∃ t, e = .returned (.tuple #[.pointer (some ⟨t, 0, none⟩), .int .i64 0]) ∧ w1.heap.size ≤ t ∧ TreeAt w' t 1 1 (List.replicate 16 0) (List.replicate 32 0) ∧ Below w1.heap.size w1 w') := fun w1 hb => by
    rw [HZ.out, HZI.out]
    exact sNew_kd 1 1 _ _ w1 (by decide) (.inl rfl) idn_zero ky_zero (ht.below hb)
  have C2 : Hid (∀ t w1, TreeAt w1 t 1 1 (List.replicate 16 0) (List.replicate 32 0) → Calls Tryd.prog 50 #[.pointer (some ⟨t, 0, none⟩)] w1 fun e w' => e = .returned (.int .i64 2) ∧ w1 = w') := fun t w1 h => sKeys_at t 1 1 _ _ w1 idn_zero ky_zero h
  have C3 : Hid (∀ t w1, TreeAt w1 t 1 1 (List.replicate 16 0) (List.replicate 32 0) → Calls Tryd.prog 20 #[.pointer (some ⟨t, 0, none⟩)] w1 fun e w' => ∃ g, e = .returned (.slice (some ⟨g, 0, none⟩) 56 56) ∧ w1.heap.size ≤ g ∧ Blk w' g 5 (u8s (pbt 1 1 (List.replicate 16 0) (List.replicate 32 0))).toArray ∧ Below w1.heap.size w1 w') := fun t w1 h => sPublic_at t 1 1 _ _ w1 (by decide) (.inl rfl) idn_zero ky_zero h
  clear ht
  go_enter Tryd.func15, Tryd.ntmps15
  go_wp2_with (first
    | (go_at_call 18; refine (C1.out _ (Below.refl _ _)).mono ?_; rintro e w1 ⟨t, rfl, _, ht, hb1⟩; have HT := hid ht; have H1 := hid hb1; clear hb1 ht)
    | (go_at_call 50; refine (C2.out _ _ HT.out).mono ?_; rintro e w2 ⟨rfl, rfl⟩)
    | (go_at_call 20; refine (C3.out _ _ HT.out).mono ?_; rintro e w3 ⟨g, rfl, _, _, hb3⟩; have H3 := hid (H1.out.trans (hb3.mono H1.out.size)); clear hb3))
  go_ret
  exact ⟨rfl, H3.out⟩
/-- which trees are looked at -/
def sml (h k : Int) : Bool := decide (h ≤ 2) && (decide (k < 4) || decide (h ≤ 1))
end Go.Proofs.YtobceieadjpaaaaDoor
