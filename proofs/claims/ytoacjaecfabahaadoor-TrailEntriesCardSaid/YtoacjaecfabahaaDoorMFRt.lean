/-
  What is proved here: a range's root, as the code reckons it.
-/
import Derived.Test.YtoacjaecfabahaaDoorMFQ
import Derived.Test.YtoacjaecfabahaaDoorMF1
import Derived.Test.YtoacjaecfabahaaDoorMF4
import Derived.Test.YtoacjaecfabahaaDoorMFE1
set_option linter.unusedSimpArgs false
set_option linter.unusedVariables false
namespace Go.Proofs.YtoacjaecfabahaaDoor
open Go.ChangeShapes Go.WideShapes Go.ChangeAt Go.RowKit Go.Shelf
set_option linter.unusedVariables false
set_option linter.unusedSimpArgs false
set_option maxRecDepth 20000
attribute [local go_sem] Oper.semAt_some

theorem foldH_ok : ∀ {L : List (List Int)}, (∀ q ∈ L, H32 q) → H32 (foldR ndF emp L)
  | [], _ => emp_ok
  | [h], hL => hL h (by simp)
  | h :: k :: L, hL => h32_sum _
theorem zipH2 (T : Array Value) (a b : Nat) (u v : Value) : Array.foldl (fun t (x : Nat × Value) => t.setIfInBounds x.1 x.2) T (#[a, b].zip #[u, v]) = (T.setIfInBounds a u).setIfInBounds b v := by simp
/-- between two of the hashes -/
def RtI (w : World) (g1 g5 : Nat) (Z : Array Value) (L : List (List Int)) (m : Nat) (pre : List (Fin m)) (W : World) : Prop :=
  Below w.heap.size w W ∧ Blk W g1 33 Z ∧ ∃ R, H32 R ∧ Blk W g5 33 (hc32 R) ∧ (pre.map (·.val) = downH m pre.length → R = foldR ndF emp (L.drop (m - pre.length)))
theorem RtI.own {w : World} {g1 g5 : Nat} {Z : Array Value} {L : List (List Int)} {m B : Nat} (hB : w.heap.size ≤ B) : OwnFrom B (RtI w g1 g5 Z L m) := fun pre W W' row h hg hr => by
  obtain ⟨h1, h2, R, h3, h4, h5⟩ := h
  exact ⟨h1.grown hg h1.size (fun k e => Nat.le_trans hB (hr k e).1), h2.ownH hg (fun r e => (hr r e).2), R, h3, h4.ownH hg (fun r e => (hr r e).2), h5⟩
theorem RtI.below {w : World} {g1 g5 : Nat} {Z : Array Value} {L : List (List Int)} {m : Nat} {pre : List (Fin m)} {W W' : World} (h : RtI w g1 g5 Z L m pre W) (hb : Below W.heap.size W W') : RtI w g1 g5 Z L m pre W' := by
  obtain ⟨h1, h2, R, h3, h4, h5⟩ := h
  exact ⟨h1.trans (hb.mono h1.size), h2.below hb, R, h3, h4.below hb, h5⟩
theorem downH_next {n j : Nat} {pre : List (Fin n)} {x : Fin n} (hj : pre.length = j) (h : (pre ++ [x]).map (·.val) = downH n (pre ++ [x]).length) : pre.map (·.val) = downH n pre.length ∧ x.val = n - 1 - j := by
  rw [List.map_append, List.length_append, List.length_singleton, downH_succ] at h
  have := List.append_inj h (by rw [List.length_map, downH_length])
  refine ⟨this.1, ?_⟩
  have h2 := this.2
  simp only [List.map_cons, List.map_nil, List.cons.injEq, and_true] at h2
  omega
theorem fold_next {L : List (List Int)} {m : Nat} {pre : List (Fin m)} {x : Fin m} {R K : List Int} (hl : L.length = m + 1) (hlt : pre.length < m) (hK : L[x.val]? = some K) (hR : pre.map (·.val) = downH m pre.length → R = foldR ndF emp (L.drop (m - pre.length))) :
    (pre ++ [x]).map (·.val) = downH m (pre ++ [x]).length → ndF K R = foldR ndF emp (L.drop (m - (pre ++ [x]).length)) := fun hd => by
  obtain ⟨h1, h2⟩ := downH_next rfl hd
  have h3 := hR h1
  have e : m - (pre ++ [x]).length = x.val := by rw [List.length_append, List.length_singleton]; omega
  have hx : x.val < L.length := by have := x.isLt; omega
  have e2 : L[x.val] = K := by rw [List.getElem?_eq_getElem hx] at hK; injection hK
  rw [e, List.drop_eq_getElem_cons hx, e2, foldR_cons (by
    intro hc
    have := congrArg List.length hc
    rw [List.length_drop] at this
    simp at this
    omega), h3]
  have e3 : m - pre.length = x.val + 1 := by omega
  rw [e3]
set_option maxHeartbeats 16000000 in
theorem fRoot_more {w : World} {z n c : Nat} {A : Option Addr} {L : List (List Int)} (hL : InH w A n L) (hz : z ≤ 2147483647) (hn : n = (seg 0 z).length) (hc : n ≤ c) (h0 : 0 < n) (hTb : Tab w) (hTd : TabD w) :
    Calls Tryd.prog 15 #[.agg (rgc 0 (z : Int) (.slice A n c))] w fun e w' => e = .returned (.tuple #[hV (foldR ndF emp L), .int .i64 0]) ∧ Below w.heap.size w w' := by
  obtain ⟨Z, HZ, hZ0, hZs⟩ := zero_Hash
  have k1 := (Blk.new w 25 (rgc 0 (z : Int) (.slice A n c))).alloc (.cells Z 33)
  have k2 := Blk.new (w.alloc (.cells (rgc 0 (z : Int) (.slice A n c)) 25)) 33 Z
  rw [show (w.alloc (.cells (rgc 0 (z : Int) (.slice A n c)) 25)).heap.size = w.heap.size + 1 by simp] at k2
  have b1 : Below w.heap.size w ((w.alloc (.cells (rgc 0 (z : Int) (.slice A n c)) 25)).alloc (.cells Z 33)) := ((Below.refl _ _).alloc (Nat.le_refl _) _).alloc (by simp) _
  have K1 := hid k1; have K2 := hid k2; have B1 := hid b1
  have HI1 := hid (info_fRng 0 (z : Int) (.slice A n c))
  have f1 := frm_of (x := 0) (y := z) (Nat.zero_le _) hz hn
  have hn62 : n ≤ 62 := by rw [hn]; exact seg_few (by omega)
  have CF := hid (fun (w1 : World) (hb : Below w.heap.size w w1) => fFormed_any 0 (z : Int) A n c w1 (hTd.below hb) (by omega))
  rw [show ((0 : Nat) : Int) = 0 from rfl] at f1
  rw [f1] at CF
  have HS := foldH_ok hL.ok
  have HIS := hid (info_hash (foldR ndF emp L) HS.len)
  have HZS := hid (hz_size HZ HS)
  obtain ⟨m, rfl⟩ : ∃ m, n = m + 1 := ⟨n - 1, by omega⟩
  have hll := hL.1
  obtain ⟨b, o, K, rfl, hK, h32, hblt, hr⟩ := hL.at (k := m) (by omega)
  have HR := hid (fun (w' : World) (hb : Below w.heap.size w w') => show w'.rangeAt b (o + m * 32) (u8s K) from fun j v hv => (World.cell?_of_block (w := w) (hb.block b hblt)).trans (hr j v hv))
  have HIK := hid (info_hash K h32.len); have HKS := hid (hz_size HZ h32)
  have HH := hid hL; have HTb := hid hTb; have HLL := hid hll; have HK := hid hK; have H32K := hid h32
  have HMC := hid (show m ≤ c by omega)
  have hb0 := (hL.cut (c := c) (l := 0) (m := m) (by omega) hc)
  rw [List.drop_zero] at hb0
  have HCUT := hid hb0
  have HBLT := hid hblt
  have hm1 : ¬ ((m : Int) + 1 = 0) := by omega
  have hml : (m : Int) < (m : Int) + 1 := by omega
  clear k1 k2 b1 f1 hn hc h0 hTb hTd hL hll hK h32 hblt hr hb0 HS
  refine (callsIn_wide (n := 2)).1 ?_
  refine callsIn_of_wp_marks Tryd.func15 rfl trivial ?_ rfl
  simp only [Tryd.ntmps15, List.size_toArray, List.length_cons, List.length_nil, Nat.reduceAdd, Nat.reduceSub, Array.replicate_succ, Array.replicate_zero, List.push_toArray, List.append_toArray, List.nil_append, List.cons_append]
  refine (wpIn_wide (n := 2)).2 ?_
  go_wp2_with (first
    | (refine load_at rfl 25 (.tmp 1) rfl w.heap.size 0 rfl _ _ (fblk_rng K1.out) Tryd.underlying25 rfl HI1.out (rgc 0 (z : Int) (.slice (some ⟨b, o, none⟩) (m + 1) c)) rfl ?_)
    | (go_at_call 18; refine (CF.out _ B1.out).mono ?_; rintro e w2 ⟨rfl, hb⟩; have B2 := hid (B1.out.trans (hb.mono B1.out.size)); have J1 := hid (K1.out.below hb); have J2 := hid (K2.out.below hb); have d0 : w2.cell? ⟨w.heap.size, 0, none⟩ = some (.int .i64 0) := J1.out.cell 0; have d2 : w2.cell? ⟨w.heap.size, 2, none⟩ = some (.slice (some ⟨b, o, none⟩) (m + 1) c) := J1.out.cell 2; have HR2 := hid (HR.out w2 B2.out); have NB := hid (Blk.new w2 33 Z); have hb3 := below_setRow ((Below.refl w2.heap.size w2).alloc (Nat.le_refl _) (.cells Z 33)) (Nat.le_refl _) (hc32 K); have NB3 := hid (NB.out.row (hc32 K)); have B3 := hid (B2.out.trans (hb3.mono B2.out.size)); have L1 := hid (J1.out.below hb3); have L2 := hid (J2.out.below hb3); clear hb hb3)
    | (refine load_at rfl 33 (.tmp 29) rfl b (o + m * 32) rfl (u8s K) _ HR2.out Tryd.underlying33 rfl HIK.out (hc32 K) rfl ?_)
    | (refine wpList_store_row rfl 33 (.tmp 5) (.tmp 30) rfl w2.heap.size (hc32 K) rfl rfl 33 Z NB.out HIK.out HKS.out (u8s_all K) ?_; generalize (w2.alloc (.cells Z 33)).setRow w2.heap.size (hc32 K) = w3 at NB3 B3 L1 L2 ⊢; have d3 : w3.cell? ⟨w.heap.size, 2, none⟩ = some (.slice (some ⟨b, o, none⟩) (m + 1) c) := L1.out.cell 2)
    | (refine cutH_at rfl (.tmp 32) (.tmp 33) rfl (some ⟨b, o, none⟩) (m + 1) c m rfl rfl HMC.out ?_)
    | (go_at_call 43; refine (hback_any _ _ _ _).mono ?_; rintro e w4 ⟨rfl, hw4⟩; have HW4 := hid hw4; clear hw4))
  have BL4 : Hid (Below w3.heap.size w3 w4) := by show Below _ _ _; rw [HW4.out]; exact (Below.refl _ _).alloc (Nat.le_refl _) _
  have KB4 : Hid (Blk w4 w3.heap.size 22 #[.slice (slA (some ⟨b, o, none⟩) 0 c 32) m c]) := by show Blk _ _ _ _; rw [HW4.out]; exact Blk.new w3 22 _
  have B4 := hid (B3.out.trans (BL4.out.mono B3.out.size))
  have M2 := hid (L2.out.below BL4.out)
  have N4 := hid (NB3.out.below BL4.out)
  have LT5 : Hid (w2.heap.size < w3.heap.size) := NB3.out.lt
  have LT2 : Hid (w.heap.size + 1 < w2.heap.size) := J2.out.lt
  have IT : Hid (ItH w3.heap.size (slA (some ⟨b, o, none⟩) 0 c 32) m c (L.take m) w4) := ⟨KB4.out, HCUT.out.below B4.out⟩
  clear HW4 BL4 L1 L2 NB NB3 B1 K1 K2 J1 J2
  obtain ⟨bs, hbs⟩ : ∃ bs, bs = w3.heap.size := ⟨_, rfl⟩
  rw [← hbs] at KB4 IT LT5 ⊢
  clear hbs
  have HIT : Hid (∀ k, ItW2 bs (slA (some ⟨b, o, none⟩) 0 c 32) m k → k < w4.heap.size ∧ k ≠ w2.heap.size) := fun k hk => by
    rcases hk with rfl | ⟨hm, a, ha, rfl⟩
    · exact ⟨KB4.out.lt, by have := LT5.out; omega⟩
    · obtain ⟨b', o', e, hlt, _⟩ := HCUT.out.2.2.2 hm
      rw [ha] at e
      injection e with e
      subst e
      have : (⟨b', o', none⟩ : Addr).block = b' := rfl
      rw [this]
      exact ⟨Nat.lt_of_lt_of_le hlt B4.out.size, by have := LT2.out; omega⟩
  have I4 : Hid (RtI w (w.heap.size + 1) w2.heap.size Z L m ([] : List (Fin m)) w4) := ⟨B4.out, M2.out, K, H32K.out, N4.out, fun _ => by
    have e1 : L.drop (m - ([] : List (Fin m)).length) = [K] := by
      rw [List.length_nil, Nat.sub_zero, List.drop_eq_getElem_cons (by have := HLL.out; omega)]
      have e2 := HK.out
      rw [List.getElem?_eq_getElem (by have := HLL.out; omega)] at e2
      injection e2 with e2
      rw [e2, List.drop_of_length_le (by have := HLL.out; omega)]
    rw [e1]; rfl⟩
  have HX : Hid (w.heap.size ≤ w4.heap.size ∧ w2.heap.size < w4.heap.size ∧ w.heap.size ≤ w2.heap.size) := ⟨B4.out.size, Nat.lt_trans LT5.out KB4.out.lt, B2.out.size⟩
  have HZZ : Hid (Z = hc32 (List.replicate 32 0)) := HZ.out
  have HNM : Hid (m < 1000000) := by show m < _; omega
  clear M2 N4 KB4 LT5
  refine (wpIn_wide (n := 2)).1 ?_
  refine range_boxH (n := 2) (by omega) (gf := 63) (lb := #[.pointer (some ⟨bs, 0, none⟩)]) rfl (enters_of Tryd.func63 (by kernel_rfl) rfl) (SS := ItW2 bs (slA (some ⟨b, o, none⟩) 0 c 32) m)
    (hback_stops (m := m) HNM.out bs _ c (L.take m) w4 IT.out) (fun k hk => (HIT.out k hk).1) (Below.refl _ _) (fun _ => rfl) (RtI w (w.heap.size + 1) w2.heap.size Z L m) (fun _ _ => False) (RtI.own HX.out.1) (fun _ _ _ _ h _ _ => h) (fun _ _ _ h hb => h.below hb) I4.out ?F 33 (fun x => hc32 (hAt (L.take m) x.val)) ?assign ?body ?done ?stop
  case assign =>
    intro l x W K' hK'
    have HKK := hid hK'
    clear hK'
    dsimp only [encH]
    rw [zipH2]
    simp only [List.setIfInBounds_toArray, List.set_cons_succ, List.set_cons_zero]
    have hxn := x.isLt
    obtain ⟨q, hqe⟩ : ∃ q, q = hAt (L.take m) x.val := ⟨_, rfl⟩
    have hq32 : H32 q := by
      rw [hqe]
      unfold hAt
      have hlt : x.val < (L.take m).length := by rw [List.length_take]; have := HLL.out; omega
      rw [List.getElem?_eq_getElem hlt]
      exact HH.out.ok _ (List.mem_of_mem_take (List.getElem_mem hlt))
    rw [← hqe] at HKK
    rw [← hqe]
    have HQI := hid (info_hash q hq32.len); have HQS := hid (hz_size (Z := Z) HZZ.out hq32)
    obtain ⟨g8, hg8⟩ : ∃ g8, W.heap.size = g8 := ⟨_, rfl⟩
    have hnb : Blk (W.alloc (.cells Z 33)) g8 33 Z := by rw [← hg8]; exact Blk.new W 33 Z
    have hb1 : Blk ((W.alloc (.cells Z 33)).setRow g8 (hc32 q)) g8 33 (hc32 q) := hnb.row _
    have hb3 : W.heap.size ≤ g8 := by rw [hg8]; exact Nat.le_refl _
    have hb2 : Below W.heap.size W ((W.alloc (.cells Z 33)).setRow g8 (hc32 q)) := below_setRow ((Below.refl _ _).alloc (Nat.le_refl _) _) hb3 _
    have HB1 := hid hb1; have HB2 := hid hb2; have HB3 := hid hb3; have HNB := hid hnb
    clear hb1 hb2 hb3 hnb hxn hq32
    refine wpInH_cut K' (plainH_ (L := [_, _]) (by rfl) ?_) (fun _ _ h => h)
    go_wp2_with (refine wpList_store_row rfl 33 (.tmp 7) (.tmp 37) rfl g8 (hc32 q) rfl rfl 33 Z HNB.out HQI.out HQS.out (u8s_all q) ?_)
    try simp only [QrH]
    subst hqe
    exact HKK.out g8 _ HB1.out HB2.out HB3.out
  case body =>
    rintro l pre x g8 W hWs hI hb8 hle hlen
    obtain ⟨hbl, hk2, R, hR, hkR, hRI⟩ := hI
    obtain ⟨q, hqe⟩ : ∃ q, q = hAt (L.take m) x.val := ⟨_, rfl⟩
    have hLx : L[x.val]? = some q := by
      have hxn := x.isLt
      have hll := HLL.out
      have hlt : x.val < L.length := by omega
      rw [hqe]
      unfold hAt
      rw [List.getElem?_take_of_lt hxn, List.getElem?_eq_getElem hlt]
      rfl
    have hq32 : H32 q := HH.out.ok _ (List.mem_of_getElem? hLx)
    rw [← hqe] at hb8
    have HNX := hid (fold_next (x := x) (R := R) (K := q) HLL.out hlen hLx hRI)
    have hnd : H32 (ndF q R) := h32_sum _
    have hcn := fNode_any hq32 hR (HTb.out.below hbl)
    obtain ⟨S, hS⟩ : ∃ S, S = ndF q R := ⟨_, rfl⟩
    rw [← hS] at HNX hnd hcn
    clear hS
    have HIQ := hid (info_hash q hq32.len); have HIR := hid (info_hash R hR.len); have HIN := hid (info_hash S hnd.len)
    have HRS : Hid ((hc32 R).size = (hc32 S).size) := (hz_size HZ hR).symm.trans (hz_size HZ hnd)
    have HQ32 := hid hq32; have HR32 := hid hR; have HND := hid hnd; have HBL := hid hbl; have HK2 := hid hk2; have HKR := hid hkR; have HB8 := hid hb8
    have CN : Hid (Calls Tryd.prog 44 #[.agg (hc32 q), .agg (hc32 R)] W fun e w' => e = .returned (.agg (hc32 S)) ∧ Below W.heap.size W w') := hcn
    clear hcn
    have HWS := hid hWs
    have HTW : Hid (∀ k, (k = w2.heap.size) → k < w4.heap.size) := fun k hk => by rw [hk]; exact HX.out.2.1
    clear hqe hbl hk2 hR hkR hRI hLx hq32 hb8 hnd hWs hle hlen d0 d2 d3 hm1 hml hZ0 hZs
    refine wpIn_block ?_
    refine wpInH_cut (fun _ W' => KeepsFrom w4.heap.size W W' ∧ KpH (ItW2 bs (slA (some ⟨b, o, none⟩) 0 c 32) m) W W' ∧ RtI w (w.heap.size + 1) w2.heap.size Z L m (pre ++ [x]) W') (plainH_ (L := [_, _, _, _]) (by rfl) ?_) (fun _ _ h => h)
    go_wp2_with (first
      | (refine wpList_load_row rfl 33 (.tmp 7) rfl g8 rfl 33 (hc32 q) (0, 0) _ HB8.out Tryd.underlying33 rfl HIQ.out ?_)
      | (refine wpList_load_row rfl 33 (.tmp 5) rfl w2.heap.size rfl 33 (hc32 R) (0, 0) _ HKR.out Tryd.underlying33 rfl HIR.out ?_)
      | (go_at_call 44; go_loud (with_reducible refine CN.out.mono ?_); rintro e W1 ⟨rfl, hb⟩; have HB1 := hid hb; have HKR1 := hid (HKR.out.below hb); clear hb)
      | (refine wpList_store_row rfl 33 (.tmp 5) (.tmp 40) rfl w2.heap.size (hc32 S) rfl rfl 33 (hc32 R) HKR1.out HIN.out HRS.out (u8s_all _) ?_))
    try simp only [QrH]
    have OS : OnlyS (fun k => k = w2.heap.size) W (W1.setRow w2.heap.size (hc32 S)) :=
      (OnlyS.of_below HB1.out (Nat.le_refl _)).trans ⟨(setRow_only _ _ _).os, (setRow_only _ _ _).tape, (setRow_only _ _ _).output, (setRow_only _ _ _).size, fun k hk hn => (setRow_only W1 w2.heap.size (hc32 S)).block k hk hn⟩
    refine ⟨keepsH_only OS HTW.out, KpH.only OS (fun k hk => (HIT.out k hk).2), HBL.out.trans (OS.below HBL.out.size (fun k hk => by rw [hk]; exact HX.out.2.2)), ?_, S, HND.out, HKR1.out.row _, HNX.out⟩
    exact (HK2.out.below HB1.out).rowFar (by have := LT2.out; omega) _
  case done =>
    rintro D xs W hD hxs hI hK'
    obtain ⟨hbl, hk2, R, hR, hkR, hRI⟩ := hI
    have hl : xs.length = m := by
      have := congrArg List.length hxs
      rw [List.length_map, downH_length] at this
      exact this
    have hRe : R = foldR ndF emp L := by
      have := hRI (by rw [hl]; exact hxs)
      rw [hl, Nat.sub_self, List.drop_zero] at this
      exact this
    subst hRe
    have HIR := hid (info_hash (foldR ndF emp L) hR.len)
    have HBL := hid hbl; have HK2 := hid hk2; have HKR := hid hkR; have HKD := hid hK'; have HDD := hid hD
    clear hbl hk2 hR hkR hRI hl hxs hK' hD d0 d2 d3 hm1 hml hZ0 hZs
    go_wp2_with (first
      | (refine wpList_load_row rfl 33 (.tmp 5) rfl w2.heap.size rfl 33 (hc32 (foldR ndF emp L)) (0, 0) _ HKR.out Tryd.underlying33 rfl HIR.out ?_)
      | (refine wpList_store_row rfl 33 (.tmp 2) (.tmp 41) rfl (w.heap.size + 1) (hc32 (foldR ndF emp L)) rfl rfl 33 Z HK2.out HIR.out HZS.out (u8s_all _) ?_))
    have BW : Below w.heap.size w (W.setRow (w.heap.size + 1) (hc32 (foldR ndF emp L))) := below_setRow HBL.out (Nat.le_succ _) _
    have KF := hid (HK2.out.row (hc32 (foldR ndF emp L)))
    have hK9 : (W.setRow (w.heap.size + 1) (hc32 (foldR ndF emp L))).heap[D]? = some (.deferred (some [])) := (setRow_other W (w.heap.size + 1) D _ (by have := HX.out; have := HDD.out; have := LT2.out; omega)).trans HKD.out
    have hdw : w.heap.size ≤ D := by have := HX.out; have := HDD.out; omega
    generalize W.setRow (w.heap.size + 1) (hc32 (foldR ndF emp L)) = W9 at BW KF hK9 ⊢
    try go_frame
    refine ⟨by simp, .inl ⟨_, _, rfl, run_takeDeferred hK9, ?_⟩⟩
    have hg := grownBy_putObj' W9 D (.deferred none)
    have hr : ∀ r, some D = some r → ∃ o : Obj, W9.heap[r]? = some o ∧ o.isCells = false := fun r e => by cases e; exact ⟨_, hK9, rfl⟩
    exact ⟨_, results_cell_slot Tryd.results15 _ _ (w.heap.size + 1) 33 (hc32 (foldR ndF emp L)) (0, 0) _ rfl (KF.out.ownH hg hr) Tryd.underlying33 rfl HIR.out, rfl, BW.grown hg BW.size (fun k e => by cases e; exact hdw)⟩
  case stop =>
    rintro D pre W hD _ hF _
    exact hF.elim
end Go.Proofs.YtoacjaecfabahaaDoor
