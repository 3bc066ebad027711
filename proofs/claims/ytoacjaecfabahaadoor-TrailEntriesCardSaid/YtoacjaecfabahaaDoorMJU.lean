/-
  What is proved here: the trails that are told of a list, by the document, in the same words as the code's; whether two trails are the same.
-/
import Derived.Test.YtoacjaecfabahaaDoorMJT
import Derived.Test.YtoacjaecfabahaaDoorMFOh
import Derived.Test.YtoacjaecfabahaaDoorMF5
set_option linter.unusedSimpArgs false
set_option linter.unusedVariables false
namespace Go.Proofs.YtoacjaecfabahaaDoor
open Go.ChangeShapes Go.WideShapes Go.ChangeAt Go.RowKit
set_option linter.unusedVariables false
set_option linter.unusedSimpArgs false
set_option maxRecDepth 20000

theorem zero_jrTrail (w : World) : Sem.run Tryd.prog (zeroValue 51) w = Result.ok (.agg #[.slice none 0 0, .slice none 0 0]) w := by kernel_rfl
theorem built_jrTrail (A B : Option Addr) (n c m d : Nat) : Tryd.prog.built 51 [(0, .slice A n c), (1, .slice B m d)] = some (tlc A n c B m d) := by kernel_rfl
theorem built_jrTrail0 : Tryd.prog.built 51 [] = some (tlc none 0 0 none 0 0) := by kernel_rfl
theorem info_jrTrail (v u : Value) : (Tryd.prog.info? 51).map (·.size) = some (#[v, u] : Array Value).size := by kernel_rfl
set_option maxHeartbeats 16000000 in
theorem jrEntry_any {w : World} {A : Option Addr} {n c : Nat} {i : Int} {L : List (List Int)} (hin : InH w A n L) (hn : n ≤ 100) (hc : n ≤ c) :
    Calls Tryd.prog 27 #[.slice A n c, .int .i64 i] w (TlA w (enA i L) (enE i L) (enQ i n)) := by
  have hl := hin.1
  have KT := hid (Blk.new w 51 (tlc none 0 0 none 0 0))
  have B1 := hid ((Below.refl w.heap.size w).alloc (Nat.le_refl _) (.cells (tlc none 0 0 none 0 0) 51))
  have hz := zero_jrTrail; have hz2 := zero_gRng
  unfold TlA enA enE enQ
  rw [hl]
  by_cases hb : enB i n
  · simp only [if_pos hb]
    unfold enB at hb
    obtain ⟨a, rfl⟩ : ∃ a : Nat, i = (a : Int) := ⟨i.toNat, by omega⟩
    rw [Int.toNat_natCast]
    obtain ⟨b, hbb⟩ : ∃ b, b = a + 1 := ⟨_, rfl⟩
    have q1 : (a : Int) + 1 = (b : Int) := by omega
    have h1 : ¬ ((a : Int) < 0) := by omega
    have h2 : ¬ ((n : Int) ≤ (a : Int)) := by omega
    have hw1 : IntKind.i64.wrap (b : Int) = (b : Int) := IntWalk.i64_in _ (by omega)
    have hb9 : b ≤ 101 := by omega
    rw [← hbb]
    have cf1 := fun (w' : World) (hb' : Below w.heap.size w w') => gOf_x (a := 0) (c := c) ((cut_front hin (show a ≤ n by omega) hc).below hb') (by omega) (show a ≤ c by omega) (by omega)
    have cf2 := fun (w' : World) (hb' : Below w.heap.size w w') => gOf_x (a := (b : Int)) (c := c - b) ((cut_rest hin (show b ≤ n by omega) hc).below hb') (by omega) (show n - b ≤ c - b by omega) (by omega)
    generalize ofH 0 (L.take a) = Y1 at cf1 ⊢
    generalize ofH (b : Int) (L.drop b) = Y2 at cf2 ⊢
    generalize ofX 0 a = x1 at cf1
    generalize ofY 0 a = y1 at cf1
    generalize ofQ 0 a = q1' at cf1
    generalize ofX (b : Int) (n - b) = x2 at cf2
    generalize ofY (b : Int) (n - b) = y2 at cf2
    generalize ofQ (b : Int) (n - b) = q2 at cf2
    have CF1 := hid cf1; have CF2 := hid cf2
    have HAC := hid (show a ≤ c by omega); have HBN := hid (show b ≤ n by omega)
    unfold OfA at CF1 CF2
    clear cf1 cf2 hbb hb hin hl hn hc
    go_enter Tryd.func27, Tryd.ntmps27
    go_upto_region 4 with (first
      | (refine cutH_at rfl (.tmp 20) (.tmp 21) rfl A n c a rfl rfl HAC.out ?_)
      | (go_at_call 14; go_loud (have hj := CF1.out _ B1.out; refine hj.mono ?_; clear hj); intro e w3 hq; obtain ⟨A5, n5, c5, he, hi, hc, hb, hge⟩ := hq; subst he; have hb' := hb.alloc hb.size (.cells (rgc x1 y1 (.slice A5 n5 c5)) 29); have K3 := hid (Blk.new w3 29 (rgc x1 y1 (.slice A5 n5 c5))); have I3 := hid (hi.below ((Below.refl _ _).alloc (Nat.le_refl _) (.cells (rgc x1 y1 (.slice A5 n5 c5)) 29))); have B3 := hid (B1.out.trans (hb'.mono B1.out.size)); have KT3 := hid (KT.out.below hb'); have HC5 := hid hc; have HG5 := hid (fun b' o (e : A5 = some ⟨b', o, none⟩) => show w.heap.size < b' from by have h1 := hge b' o e; have h2 := KT.out.lt; omega); clear hi hc hb hb' hge))
    go_upto_region 5 with (first
      | (refine cutL_at rfl (.tmp 29) (.tmp 31) rfl A n c b rfl rfl HBN.out ?_)
      | (go_at_call 14; go_loud (have hj := CF2.out _ B3.out; with_reducible refine hj.mono ?_; clear hj); intro e w4 hq; obtain ⟨A7, n7, c7, he, hi, hc, hb, hge⟩ := hq; subst he; have hb' := hb.alloc hb.size (.cells (rgc x2 y2 (.slice A7 n7 c7)) 29); have K4 := hid (Blk.new w4 29 (rgc x2 y2 (.slice A7 n7 c7))); have I4 := hid (hi.below ((Below.refl _ _).alloc (Nat.le_refl _) (.cells (rgc x2 y2 (.slice A7 n7 c7)) 29))); have B4 := hid (B3.out.trans (hb'.mono B3.out.size)); have KT4 := hid (KT3.out.below hb'); have K34 := hid (K3.out.below hb'); have I34 := hid (I3.out.below hb'); have HC7 := hid hc; have HG7 := hid (fun b' o (e : A7 = some ⟨b', o, none⟩) => show w.heap.size < b' from by have h1 := hge b' o e; have h2 := KT3.out.lt; omega); clear hi hc hb hb' hge))
    have c1 : (w4.alloc (.cells (rgc x2 y2 (.slice A7 n7 c7)) 29)).cell? ⟨w3.heap.size, 2, none⟩ = some (.slice A5 n5 c5) := K34.out.cell 2
    have c2 : (w4.alloc (.cells (rgc x2 y2 (.slice A7 n7 c7)) 29)).cell? ⟨w4.heap.size, 2, none⟩ = some (.slice A7 n7 c7) := K4.out.cell 2
    have HIV := hid (info_jrTrail (.slice A5 n5 c5) (.slice A7 n7 c7))
    clear CF1 CF2 KT B1 K3 I3 B3 KT3
    go_wp2_with (first
      | (refine wpList_build rfl 51 _ rfl (built_jrTrail _ _ _ _ _ _) ?_)
      | (refine wpList_store_row rfl 51 (.tmp 4) (.tmp 40) rfl w.heap.size (tlc A5 n5 c5 A7 n7 c7) rfl rfl 51 (tlc none 0 0 none 0 0) KT4.out HIV.out rfl (tl_ones _ _ _ _ _ _) ?_))
    try go_frame
    refine bodyPost_ret (results_cell_slot Tryd.results27 _ _ w.heap.size 51 (tlc A5 n5 c5 A7 n7 c7) (0, 0) _ rfl (KT4.out.row _) Tryd.underlying51 rfl HIV.out) rfl ?_
    exact ⟨A5, n5, c5, A7, n7, c7, rfl, inh_row I34.out (fun b o e => by have := HG5.out b o e; omega), HC5.out, inh_row I4.out (fun b o e => by have := HG7.out b o e; omega), HC7.out, below_setRow B4.out (Nat.le_refl _) _⟩
  · simp only [if_neg hb]
    unfold enB at hb
    have HI0 := hid (info_jrTrail (.slice none 0 0) (.slice none 0 0))
    clear hin hl
    by_cases h1 : i < 0
    · clear hb
      go_enter Tryd.func27, Tryd.ntmps27
      go_wp2_with (first
        | (refine wpList_build rfl 51 _ rfl built_jrTrail0 ?_)
        | (refine wpList_store_row rfl 51 (.tmp 4) (.tmp 18) rfl w.heap.size (tlc none 0 0 none 0 0) rfl rfl 51 (tlc none 0 0 none 0 0) KT.out HI0.out rfl (tl_ones _ _ _ _ _ _) ?_))
      try go_frame
      refine bodyPost_ret (results_cell_slot Tryd.results27 _ _ w.heap.size 51 (tlc none 0 0 none 0 0) (0, 0) _ rfl (KT.out.row _) Tryd.underlying51 rfl HI0.out) rfl ?_
      exact ⟨none, 0, 0, none, 0, 0, rfl, InH.nil _ _, Nat.le_refl _, InH.nil _ _, Nat.le_refl _, below_setRow B1.out (Nat.le_refl _) _⟩
    · have h2 : (n : Int) ≤ i := by omega
      clear hb
      go_enter Tryd.func27, Tryd.ntmps27
      go_wp2_with (first
        | (refine wpList_build rfl 51 _ rfl built_jrTrail0 ?_)
        | (refine wpList_store_row rfl 51 (.tmp 4) (.tmp 18) rfl w.heap.size (tlc none 0 0 none 0 0) rfl rfl 51 (tlc none 0 0 none 0 0) KT.out HI0.out rfl (tl_ones _ _ _ _ _ _) ?_))
      try go_frame
      refine bodyPost_ret (results_cell_slot Tryd.results27 _ _ w.heap.size 51 (tlc none 0 0 none 0 0) (0, 0) _ rfl (KT.out.row _) Tryd.underlying51 rfl HI0.out) rfl ?_
      exact ⟨none, 0, 0, none, 0, 0, rfl, InH.nil _ _, Nat.le_refl _, InH.nil _ _, Nat.le_refl _, below_setRow B1.out (Nat.le_refl _) _⟩
set_option maxHeartbeats 16000000 in
theorem jrGrowth_any {w : World} {A : Option Addr} {n c : Nat} {i : Int} {L : List (List Int)} (hin : InH w A n L) (hn : n ≤ 100) (hc : n ≤ c) :
    Calls Tryd.prog 29 #[.slice A n c, .int .i64 i] w (TlA w (gwA i L) (gwE i L) (gwQ i n)) := by
  have hl := hin.1
  have KT := hid (Blk.new w 51 (tlc none 0 0 none 0 0))
  have B1 := hid ((Below.refl w.heap.size w).alloc (Nat.le_refl _) (.cells (tlc none 0 0 none 0 0) 51))
  have hz := zero_jrTrail; have hz2 := zero_gRng
  unfold TlA gwA gwE gwQ
  rw [hl]
  by_cases hb : gwB i n
  · simp only [if_pos hb]
    unfold gwB at hb
    obtain ⟨a, rfl⟩ : ∃ a : Nat, i = (a : Int) := ⟨i.toNat, by omega⟩
    rw [Int.toNat_natCast]
    have h1 : ¬ ((a : Int) < 0) := by omega
    have h2 : ¬ ((n : Int) < (a : Int)) := by omega
    have hw1 : IntKind.i64.wrap (a : Int) = (a : Int) := IntWalk.i64_in _ (by omega)
    have hb9 : a ≤ 101 := by omega
    have cf1 := fun (w' : World) (hb' : Below w.heap.size w w') => gOf_x (a := 0) (c := c) ((cut_front hin (show a ≤ n by omega) hc).below hb') (by omega) (show a ≤ c by omega) (by omega)
    have cf2 := fun (w' : World) (hb' : Below w.heap.size w w') => gOf_x (a := (a : Int)) (c := c - a) ((cut_rest hin (show a ≤ n by omega) hc).below hb') (by omega) (show n - a ≤ c - a by omega) (by omega)
    generalize ofH 0 (L.take a) = Y1 at cf1 ⊢
    generalize ofH (a : Int) (L.drop a) = Y2 at cf2 ⊢
    generalize ofX 0 a = x1 at cf1
    generalize ofY 0 a = y1 at cf1
    generalize ofQ 0 a = q1' at cf1
    generalize ofX (a : Int) (n - a) = x2 at cf2
    generalize ofY (a : Int) (n - a) = y2 at cf2
    generalize ofQ (a : Int) (n - a) = q2 at cf2
    have CF1 := hid cf1; have CF2 := hid cf2
    have HAC := hid (show a ≤ c by omega); have HBN := hid (show a ≤ n by omega)
    unfold OfA at CF1 CF2
    clear cf1 cf2 hb hin hl hn hc
    go_enter Tryd.func29, Tryd.ntmps29
    go_upto_region 4 with (first
      | (refine cutH_at rfl (.tmp 20) (.tmp 21) rfl A n c a rfl rfl HAC.out ?_)
      | (go_at_call 14; go_loud (have hj := CF1.out _ B1.out; refine hj.mono ?_; clear hj); intro e w3 hq; obtain ⟨A5, n5, c5, he, hi, hc, hb, hge⟩ := hq; subst he; have hb' := hb.alloc hb.size (.cells (rgc x1 y1 (.slice A5 n5 c5)) 29); have K3 := hid (Blk.new w3 29 (rgc x1 y1 (.slice A5 n5 c5))); have I3 := hid (hi.below ((Below.refl _ _).alloc (Nat.le_refl _) (.cells (rgc x1 y1 (.slice A5 n5 c5)) 29))); have B3 := hid (B1.out.trans (hb'.mono B1.out.size)); have KT3 := hid (KT.out.below hb'); have HC5 := hid hc; have HG5 := hid (fun b' o (e : A5 = some ⟨b', o, none⟩) => show w.heap.size < b' from by have h1 := hge b' o e; have h2 := KT.out.lt; omega); clear hi hc hb hb' hge))
    go_upto_region 5 with (first
      | (refine cutL_at rfl (.tmp 28) (.tmp 29) rfl A n c a rfl rfl HBN.out ?_)
      | (go_at_call 14; go_loud (have hj := CF2.out _ B3.out; with_reducible refine hj.mono ?_; clear hj); intro e w4 hq; obtain ⟨A7, n7, c7, he, hi, hc, hb, hge⟩ := hq; subst he; have hb' := hb.alloc hb.size (.cells (rgc x2 y2 (.slice A7 n7 c7)) 29); have K4 := hid (Blk.new w4 29 (rgc x2 y2 (.slice A7 n7 c7))); have I4 := hid (hi.below ((Below.refl _ _).alloc (Nat.le_refl _) (.cells (rgc x2 y2 (.slice A7 n7 c7)) 29))); have B4 := hid (B3.out.trans (hb'.mono B3.out.size)); have KT4 := hid (KT3.out.below hb'); have K34 := hid (K3.out.below hb'); have I34 := hid (I3.out.below hb'); have HC7 := hid hc; have HG7 := hid (fun b' o (e : A7 = some ⟨b', o, none⟩) => show w.heap.size < b' from by have h1 := hge b' o e; have h2 := KT3.out.lt; omega); clear hi hc hb hb' hge))
    have c1 : (w4.alloc (.cells (rgc x2 y2 (.slice A7 n7 c7)) 29)).cell? ⟨w3.heap.size, 2, none⟩ = some (.slice A5 n5 c5) := K34.out.cell 2
    have c2 : (w4.alloc (.cells (rgc x2 y2 (.slice A7 n7 c7)) 29)).cell? ⟨w4.heap.size, 2, none⟩ = some (.slice A7 n7 c7) := K4.out.cell 2
    have HIV := hid (info_jrTrail (.slice A5 n5 c5) (.slice A7 n7 c7))
    clear CF1 CF2 KT B1 K3 I3 B3 KT3
    go_wp2_with (first
      | (refine wpList_build rfl 51 _ rfl (built_jrTrail _ _ _ _ _ _) ?_)
      | (refine wpList_store_row rfl 51 (.tmp 4) (.tmp 38) rfl w.heap.size (tlc A5 n5 c5 A7 n7 c7) rfl rfl 51 (tlc none 0 0 none 0 0) KT4.out HIV.out rfl (tl_ones _ _ _ _ _ _) ?_))
    try go_frame
    refine bodyPost_ret (results_cell_slot Tryd.results29 _ _ w.heap.size 51 (tlc A5 n5 c5 A7 n7 c7) (0, 0) _ rfl (KT4.out.row _) Tryd.underlying51 rfl HIV.out) rfl ?_
    exact ⟨A5, n5, c5, A7, n7, c7, rfl, inh_row I34.out (fun b o e => by have := HG5.out b o e; omega), HC5.out, inh_row I4.out (fun b o e => by have := HG7.out b o e; omega), HC7.out, below_setRow B4.out (Nat.le_refl _) _⟩
  · simp only [if_neg hb]
    unfold gwB at hb
    have HI0 := hid (info_jrTrail (.slice none 0 0) (.slice none 0 0))
    clear hin hl
    by_cases h1 : i < 0
    · clear hb
      go_enter Tryd.func29, Tryd.ntmps29
      go_wp2_with (first
        | (refine wpList_build rfl 51 _ rfl built_jrTrail0 ?_)
        | (refine wpList_store_row rfl 51 (.tmp 4) (.tmp 18) rfl w.heap.size (tlc none 0 0 none 0 0) rfl rfl 51 (tlc none 0 0 none 0 0) KT.out HI0.out rfl (tl_ones _ _ _ _ _ _) ?_))
      try go_frame
      refine bodyPost_ret (results_cell_slot Tryd.results29 _ _ w.heap.size 51 (tlc none 0 0 none 0 0) (0, 0) _ rfl (KT.out.row _) Tryd.underlying51 rfl HI0.out) rfl ?_
      exact ⟨none, 0, 0, none, 0, 0, rfl, InH.nil _ _, Nat.le_refl _, InH.nil _ _, Nat.le_refl _, below_setRow B1.out (Nat.le_refl _) _⟩
    · have h2 : (n : Int) < i := by omega
      clear hb
      go_enter Tryd.func29, Tryd.ntmps29
      go_wp2_with (first
        | (refine wpList_build rfl 51 _ rfl built_jrTrail0 ?_)
        | (refine wpList_store_row rfl 51 (.tmp 4) (.tmp 18) rfl w.heap.size (tlc none 0 0 none 0 0) rfl rfl 51 (tlc none 0 0 none 0 0) KT.out HI0.out rfl (tl_ones _ _ _ _ _ _) ?_))
      try go_frame
      refine bodyPost_ret (results_cell_slot Tryd.results29 _ _ w.heap.size 51 (tlc none 0 0 none 0 0) (0, 0) _ rfl (KT.out.row _) Tryd.underlying51 rfl HI0.out) rfl ?_
      exact ⟨none, 0, 0, none, 0, 0, rfl, InH.nil _ _, Nat.le_refl _, InH.nil _ _, Nat.le_refl _, below_setRow B1.out (Nat.le_refl _) _⟩
set_option maxHeartbeats 4000000 in
theorem jrSame_any {w : World} {A B C D : Option Addr} {n c m d p e' q f : Nat} {L M : List (List Int)} (h1 : InH w A n L) (h2 : InH w B m M) (h3 : InH w C p L) (h4 : InH w D q M) (hn : n < 1000000) (hm : m < 1000000) (hp : p < 1000000) (hq : q < 1000000) :
    Calls Tryd.prog 30 #[.agg (tlc A n c B m d), .agg (tlc C p e' D q f)] w fun e w' => e = .returned (.bool true) ∧ Below w.heap.size w w' := by
  have k1 := (Blk.new w 51 (tlc A n c B m d)).alloc (.cells (tlc C p e' D q f) 51)
  have k2 := Blk.new (w.alloc (.cells (tlc A n c B m d) 51)) 51 (tlc C p e' D q f)
  rw [show (w.alloc (.cells (tlc A n c B m d) 51)).heap.size = w.heap.size + 1 by simp] at k2
  have hb : Below w.heap.size w ((w.alloc (.cells (tlc A n c B m d) 51)).alloc (.cells (tlc C p e' D q f) 51)) := ((Below.refl _ _).alloc (Nat.le_refl _) _).alloc (by simp) _
  have K1 := hid k1; have K2 := hid k2; have B2 := hid hb
  have cs1 := fun (w' : World) (hb' : Below w.heap.size w w') => gSame_any (c := c) (d := e') (h1.below hb') (h3.below hb') hn hp
  have cs2 := fun (w' : World) (hb' : Below w.heap.size w w') => gSame_any (c := d) (d := f) (h2.below hb') (h4.below hb') hm hq
  simp only [decide_true] at cs1 cs2
  have CS1 := hid cs1; have CS2 := hid cs2
  have a0 := k1.cell 0; have b0 := k2.cell 0
  have e0 : (tlc A n c B m d)[0]? = some (.slice A n c) := rfl
  have e1 : (tlc C p e' D q f)[0]? = some (.slice C p e') := rfl
  rw [e0] at a0; rw [e1] at b0
  clear k1 k2 hb h1 h2 h3 h4 hn hm hp hq cs1 cs2 e0 e1
  go_enter Tryd.func30, Tryd.ntmps30
  go_wp2_with (go_at_call 24; first
    | (refine (CS1.out _ B2.out).mono ?_; rintro e w3 ⟨rfl, hb⟩; have B3 := hid (B2.out.trans (hb.mono B2.out.size)); have a1 : w3.cell? ⟨w.heap.size, 1, none⟩ = some (.slice B m d) := (K1.out.below hb).cell 1; have b1 : w3.cell? ⟨w.heap.size + 1, 1, none⟩ = some (.slice D q f) := (K2.out.below hb).cell 1; clear hb a0 b0 CS1)
    | (refine (CS2.out _ B3.out).mono ?_; rintro e w4 ⟨rfl, hb⟩; have B4 := hid (B3.out.trans (hb.mono B3.out.size)); clear hb))
  go_ret
  exact ⟨rfl, B4.out⟩
end Go.Proofs.YtoacjaecfabahaaDoor
