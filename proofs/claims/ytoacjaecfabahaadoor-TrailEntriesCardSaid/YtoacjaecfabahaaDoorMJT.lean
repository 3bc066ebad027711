/-
  What is proved here: the trails that are told of a list, by the code and by the document, in the same words; whether two trails are the same.
-/
import Derived.Test.YtoacjaecfabahaaDoorMJW
import Derived.Test.YtoacjaecfabahaaDoorMFOh
set_option linter.unusedSimpArgs false
set_option linter.unusedVariables false
namespace Go.Proofs.YtoacjaecfabahaaDoor
open Go.ChangeShapes Go.WideShapes Go.ChangeAt Go.RowKit
set_option linter.unusedVariables false
set_option linter.unusedSimpArgs false
set_option maxRecDepth 20000

theorem zero_jTrail (w : World) : Sem.run Tryd.prog (zeroValue 48) w = Result.ok (.agg #[.slice none 0 0, .slice none 0 0]) w := by kernel_rfl
theorem built_jTrail (A B : Option Addr) (n c m d : Nat) : Tryd.prog.built 48 [(0, .slice A n c), (1, .slice B m d)] = some (tlc A n c B m d) := by kernel_rfl
theorem tl_ones (A B : Option Addr) (n c m d : Nat) : (tlc A n c B m d).all (·.oneCell') = true := by
  rw [Array.all_eq_true']
  intro x hx
  simp only [tlc, List.mem_toArray, List.mem_cons, List.not_mem_nil, or_false] at hx
  rcases hx with rfl | rfl <;> rfl
/-- what a call that tells a trail answers -/
def ArA (w : World) (Ah Be : List (List Int)) (e : Ending) (w' : World) : Prop := ∃ A n c B m d, e = .returned (.agg (tlc A n c B m d)) ∧ InH w' A n Ah ∧ n ≤ c ∧ InH w' B m Be ∧ m ≤ d ∧ Below w.heap.size w w' ∧ (∀ b o, A = some ⟨b, o, none⟩ → w.heap.size ≤ b) ∧ ∀ b o, B = some ⟨b, o, none⟩ → w.heap.size ≤ b
def TlA (w : World) (Ah Be : List (List Int)) (q : Int) (e : Ending) (w' : World) : Prop := ∃ A n c B m d, e = .returned (.tuple #[.agg (tlc A n c B m d), .int .i64 q]) ∧ InH w' A n Ah ∧ n ≤ c ∧ InH w' B m Be ∧ m ≤ d ∧ Below w.heap.size w w'
theorem cut_front {w : World} {A : Option Addr} {n c a : Nat} {L : List (List Int)} (h : InH w A n L) (ha : a ≤ n) (hc : n ≤ c) : InH w (slA A 0 c 32) a (L.take a) := by
  have h1 := h.cut (c := c) (l := 0) (m := a) (by omega) hc
  rw [List.drop_zero] at h1
  exact h1
theorem cut_rest {w : World} {A : Option Addr} {n c b : Nat} {L : List (List Int)} (h : InH w A n L) (hb : b ≤ n) (hc : n ≤ c) : InH w (slA A b c 32) (n - b) (L.drop b) := by
  have h1 := h.cut (c := c) (l := b) (m := n - b) (by omega) hc
  rw [List.take_of_length_le (by rw [List.length_drop]; have := h.1; omega)] at h1
  exact h1
theorem inh_row {x : World} {g n : Nat} {A : Option Addr} {H : List (List Int)} {cs' : Array Value} (h : InH x A n H) (hg : ∀ b o, A = some ⟨b, o, none⟩ → b ≠ g) : InH (x.setRow g cs') A n H :=
  h.keep (by simp) (fun b o e => setRow_other x g b _ (hg b o e))
set_option maxHeartbeats 16000000 in
theorem jAround_any {w : World} {A : Option Addr} {n c a b : Nat} {L : List (List Int)} (hin : InH w A n L) (hn : n ≤ 100) (hc : n ≤ c) (ha : a ≤ n) (hb : b ≤ n) (hT : Tab w) :
    Calls Tryd.prog 54 #[.slice A n c, .int .i64 (a : Int), .int .i64 (b : Int)] w (ArA w (ofH 0 (L.take a)) (ofH (b : Int) (L.drop b))) := by
  have cf1 := fun (w' : World) (hb' : Below w.heap.size w w') => fOf_x (a := 0) (c := c) ((cut_front hin ha hc).below hb') (by omega) (hT.below hb')
  have cf2 := fun (w' : World) (hb' : Below w.heap.size w w') => fOf_x (a := (b : Int)) (c := c - b) ((cut_rest hin hb hc).below hb') (by omega) (hT.below hb')
  generalize ofH 0 (L.take a) = Y1 at cf1 ⊢
  generalize ofH (b : Int) (L.drop b) = Y2 at cf2 ⊢
  generalize ofX 0 a = x1 at cf1
  generalize ofY 0 a = y1 at cf1
  generalize ofQ 0 a = q1 at cf1
  generalize ofX (b : Int) (n - b) = x2 at cf2
  generalize ofY (b : Int) (n - b) = y2 at cf2
  generalize ofQ (b : Int) (n - b) = q2 at cf2
  have CF1 := hid cf1; have CF2 := hid cf2
  have KT := hid (Blk.new w 48 (tlc none 0 0 none 0 0))
  have B1 := hid ((Below.refl w.heap.size w).alloc (Nat.le_refl _) (.cells (tlc none 0 0 none 0 0) 48))
  have HAC := hid (show a ≤ c by omega); have HBN := hid hb
  have hz := zero_jTrail; have hz2 := zero_fRng
  clear cf1 cf2 hin hn hc ha hb hT
  unfold OfA at CF1 CF2
  unfold ArA
  go_enter Tryd.func54, Tryd.ntmps54
  go_upto_region 2 with (first
    | (refine cutH_at rfl (.tmp 12) (.tmp 13) rfl A n c a rfl rfl HAC.out ?_)
    | (go_at_call 13; go_loud (have hj := CF1.out _ B1.out; refine hj.mono ?_; clear hj); intro e w3 hq; obtain ⟨A5, n5, c5, he, hi, hc, hb, hge⟩ := hq; subst he; have hb' := hb.alloc hb.size (.cells (rgc x1 y1 (.slice A5 n5 c5)) 25); have K3 := hid (Blk.new w3 25 (rgc x1 y1 (.slice A5 n5 c5))); have I3 := hid (hi.below ((Below.refl _ _).alloc (Nat.le_refl _) (.cells (rgc x1 y1 (.slice A5 n5 c5)) 25))); have B3 := hid (B1.out.trans (hb'.mono B1.out.size)); have KT3 := hid (KT.out.below hb'); have HC5 := hid hc; have HG5 := hid (fun b' o (e : A5 = some ⟨b', o, none⟩) => show w.heap.size < b' from by have h1 := hge b' o e; have h2 := KT.out.lt; omega); clear hi hc hb hb' hge))
  go_upto_region 3 with (first
    | (refine cutL_at rfl (.tmp 20) (.tmp 21) rfl A n c b rfl rfl HBN.out ?_)
    | (go_at_call 13; go_loud (have hj := CF2.out _ B3.out; refine hj.mono ?_; clear hj); intro e w4 hq; obtain ⟨A7, n7, c7, he, hi, hc, hb, hge⟩ := hq; subst he; have hb' := hb.alloc hb.size (.cells (rgc x2 y2 (.slice A7 n7 c7)) 25); have K4 := hid (Blk.new w4 25 (rgc x2 y2 (.slice A7 n7 c7))); have I4 := hid (hi.below ((Below.refl _ _).alloc (Nat.le_refl _) (.cells (rgc x2 y2 (.slice A7 n7 c7)) 25))); have B4 := hid (B3.out.trans (hb'.mono B3.out.size)); have KT4 := hid (KT3.out.below hb'); have K34 := hid (K3.out.below hb'); have I34 := hid (I3.out.below hb'); have HC7 := hid hc; have HG7 := hid (fun b' o (e : A7 = some ⟨b', o, none⟩) => show w.heap.size < b' from by have h1 := hge b' o e; have h2 := KT3.out.lt; omega); clear hi hc hb hb' hge))
  have c1 : (w4.alloc (.cells (rgc x2 y2 (.slice A7 n7 c7)) 25)).cell? ⟨w3.heap.size, 2, none⟩ = some (.slice A5 n5 c5) := K34.out.cell 2
  have c2 : (w4.alloc (.cells (rgc x2 y2 (.slice A7 n7 c7)) 25)).cell? ⟨w4.heap.size, 2, none⟩ = some (.slice A7 n7 c7) := K4.out.cell 2
  have HIV := hid (info_jTrail (.slice A5 n5 c5) (.slice A7 n7 c7))
  clear CF1 CF2 KT B1 K3 I3 B3 KT3
  go_wp2_with (first
    | (refine wpList_build rfl 48 _ rfl (built_jTrail _ _ _ _ _ _) ?_)
    | (refine wpList_store_row rfl 48 (.tmp 6) (.tmp 30) rfl w.heap.size (tlc A5 n5 c5 A7 n7 c7) rfl rfl 48 (tlc none 0 0 none 0 0) KT4.out HIV.out rfl (tl_ones _ _ _ _ _ _) ?_))
  try go_frame
  refine bodyPost_ret (results_cell_row Tryd.results54 _ _ w.heap.size 48 (tlc A5 n5 c5 A7 n7 c7) (0, 0) _ rfl (KT4.out.row _) Tryd.underlying48 rfl HIV.out) rfl ?_
  exact ⟨A5, n5, c5, A7, n7, c7, rfl, inh_row I34.out (fun b o e => by have := HG5.out b o e; omega), HC5.out, inh_row I4.out (fun b o e => by have := HG7.out b o e; omega), HC7.out, below_setRow B4.out (Nat.le_refl _) _, fun b o e => by have := HG5.out b o e; omega, fun b o e => by have := HG7.out b o e; omega⟩
/-- what Entry and Growth answer -/
def enB (i : Int) (n : Nat) : Prop := 0 ≤ i ∧ i < (n : Int)
def gwB (m : Int) (n : Nat) : Prop := 0 ≤ m ∧ m ≤ (n : Int)
instance (i : Int) (n : Nat) : Decidable (enB i n) := by unfold enB; infer_instance
instance (i : Int) (n : Nat) : Decidable (gwB i n) := by unfold gwB; infer_instance
def enA (i : Int) (L : List (List Int)) : List (List Int) := if enB i L.length then ofH 0 (L.take i.toNat) else []
def enE (i : Int) (L : List (List Int)) : List (List Int) := if enB i L.length then ofH ((i.toNat + 1 : Nat) : Int) (L.drop (i.toNat + 1)) else []
def enQ (i : Int) (n : Nat) : Int := if enB i n then 0 else 4
def gwA (i : Int) (L : List (List Int)) : List (List Int) := if gwB i L.length then ofH 0 (L.take i.toNat) else []
def gwE (i : Int) (L : List (List Int)) : List (List Int) := if gwB i L.length then ofH (i.toNat : Int) (L.drop i.toNat) else []
def gwQ (i : Int) (n : Nat) : Int := if gwB i n then 0 else 4
set_option maxHeartbeats 16000000 in
theorem jEntry_any {w : World} {A : Option Addr} {n c : Nat} {i : Int} {L : List (List Int)} (hin : InH w A n L) (hn : n ≤ 100) (hc : n ≤ c) (hT : Tab w) :
    Calls Tryd.prog 26 #[.slice A n c, .int .i64 i] w (TlA w (enA i L) (enE i L) (enQ i n)) := by
  have hl := hin.1
  have KT := hid (Blk.new w 48 (tlc none 0 0 none 0 0))
  have B1 := hid ((Below.refl w.heap.size w).alloc (Nat.le_refl _) (.cells (tlc none 0 0 none 0 0) 48))
  have hz := zero_jTrail
  unfold TlA enA enE enQ
  rw [hl]
  by_cases hb : enB i n
  · simp only [if_pos hb]
    unfold enB at hb
    obtain ⟨a, rfl⟩ : ∃ a : Nat, i = (a : Int) := ⟨i.toNat, by omega⟩
    rw [Int.toNat_natCast]
    obtain ⟨b, hbb⟩ : ∃ b, b = a + 1 := ⟨_, rfl⟩
    have q1 : (a : Int) + 1 = (b : Int) := by omega
    have h1 : ¬ ((a : Int) < 0) := by omega
    have h2 : ¬ ((n : Int) ≤ (a : Int)) := by omega
    have ca := jAround_any (hin.below B1.out) hn hc (show a ≤ n by omega) (show b ≤ n by omega) (hT.below B1.out)
    have hw1 : IntKind.i64.wrap (b : Int) = (b : Int) := IntWalk.i64_in _ (by omega)
    have hb9 : b ≤ 101 := by omega
    rw [← hbb]
    generalize ofH 0 (L.take a) = Y1 at ca ⊢
    generalize ofH (b : Int) (L.drop b) = Y2 at ca ⊢
    have CA := hid ca
    unfold ArA at CA
    clear ca hbb hb hin hl hT
    go_enter Tryd.func26, Tryd.ntmps26
    go_wp2_with (first
      | (go_at_call 54; go_loud (have hj := CA.out; with_reducible refine hj.mono ?_; clear hj); intro e w3 hq; obtain ⟨A5, n5, c5, A7, n7, c7, he, h3, h4, h5, h6, hb, h7, h8⟩ := hq; subst he; have I5 := hid h3; have HC5 := hid h4; have I7 := hid h5; have HC7 := hid h6; have KT3 := hid (KT.out.below hb); have B3 := hid (B1.out.trans (hb.mono B1.out.size)); have HIV := hid (info_jTrail (.slice A5 n5 c5) (.slice A7 n7 c7)); have HG5 := hid (fun b' o (e : A5 = some ⟨b', o, none⟩) => show b' ≠ w.heap.size from fun he => by have h1 := h7 b' o e; have h2 := KT.out.lt; omega); have HG7 := hid (fun b' o (e : A7 = some ⟨b', o, none⟩) => show b' ≠ w.heap.size from fun he => by have h1 := h8 b' o e; have h2 := KT.out.lt; omega); clear h3 h4 h5 h6 hb h7 h8)
      | (refine wpList_store_row rfl 48 (.tmp 4) (.tmp 19) rfl w.heap.size (tlc A5 n5 c5 A7 n7 c7) rfl rfl 48 (tlc none 0 0 none 0 0) KT3.out HIV.out rfl (tl_ones _ _ _ _ _ _) ?_))
    try go_frame
    refine bodyPost_ret (results_cell_slot Tryd.results26 _ _ w.heap.size 48 (tlc A5 n5 c5 A7 n7 c7) (0, 0) _ rfl (KT3.out.row _) Tryd.underlying48 rfl HIV.out) rfl ?_
    exact ⟨A5, n5, c5, A7, n7, c7, rfl, inh_row I5.out HG5.out, HC5.out, inh_row I7.out HG7.out, HC7.out, below_setRow B3.out (Nat.le_refl _) _⟩
  · simp only [if_neg hb]
    unfold enB at hb
    have HI0 := hid (info_jTrail (.slice none 0 0) (.slice none 0 0))
    clear hin hl hT
    by_cases h1 : i < 0
    · clear hb
      go_enter Tryd.func26, Tryd.ntmps26
      go_wp2_with (first
        | (refine wpList_build rfl 48 _ rfl built_jTrail0 ?_)
        | (refine wpList_store_row rfl 48 (.tmp 4) (.tmp 14) rfl w.heap.size (tlc none 0 0 none 0 0) rfl rfl 48 (tlc none 0 0 none 0 0) KT.out HI0.out rfl (tl_ones _ _ _ _ _ _) ?_))
      try go_frame
      refine bodyPost_ret (results_cell_slot Tryd.results26 _ _ w.heap.size 48 (tlc none 0 0 none 0 0) (0, 0) _ rfl (KT.out.row _) Tryd.underlying48 rfl HI0.out) rfl ?_
      exact ⟨none, 0, 0, none, 0, 0, rfl, InH.nil _ _, Nat.le_refl _, InH.nil _ _, Nat.le_refl _, below_setRow B1.out (Nat.le_refl _) _⟩
    · have h2 : (n : Int) ≤ i := by omega
      clear hb
      go_enter Tryd.func26, Tryd.ntmps26
      go_wp2_with (first
        | (refine wpList_build rfl 48 _ rfl built_jTrail0 ?_)
        | (refine wpList_store_row rfl 48 (.tmp 4) (.tmp 14) rfl w.heap.size (tlc none 0 0 none 0 0) rfl rfl 48 (tlc none 0 0 none 0 0) KT.out HI0.out rfl (tl_ones _ _ _ _ _ _) ?_))
      try go_frame
      refine bodyPost_ret (results_cell_slot Tryd.results26 _ _ w.heap.size 48 (tlc none 0 0 none 0 0) (0, 0) _ rfl (KT.out.row _) Tryd.underlying48 rfl HI0.out) rfl ?_
      exact ⟨none, 0, 0, none, 0, 0, rfl, InH.nil _ _, Nat.le_refl _, InH.nil _ _, Nat.le_refl _, below_setRow B1.out (Nat.le_refl _) _⟩
set_option maxHeartbeats 16000000 in
theorem jGrowth_any {w : World} {A : Option Addr} {n c : Nat} {i : Int} {L : List (List Int)} (hin : InH w A n L) (hn : n ≤ 100) (hc : n ≤ c) (hT : Tab w) :
    Calls Tryd.prog 28 #[.slice A n c, .int .i64 i] w (TlA w (gwA i L) (gwE i L) (gwQ i n)) := by
  have hl := hin.1
  have KT := hid (Blk.new w 48 (tlc none 0 0 none 0 0))
  have B1 := hid ((Below.refl w.heap.size w).alloc (Nat.le_refl _) (.cells (tlc none 0 0 none 0 0) 48))
  have hz := zero_jTrail
  unfold TlA gwA gwE gwQ
  rw [hl]
  by_cases hb : gwB i n
  · simp only [if_pos hb]
    unfold gwB at hb
    obtain ⟨a, rfl⟩ : ∃ a : Nat, i = (a : Int) := ⟨i.toNat, by omega⟩
    rw [Int.toNat_natCast]
    have h1 : ¬ ((a : Int) < 0) := by omega
    have h2 : ¬ ((n : Int) < (a : Int)) := by omega
    have ca := jAround_any (hin.below B1.out) hn hc (show a ≤ n by omega) (show a ≤ n by omega) (hT.below B1.out)
    have hw1 : IntKind.i64.wrap (a : Int) = (a : Int) := IntWalk.i64_in _ (by omega)
    have hb9 : a ≤ 101 := by omega
    generalize ofH 0 (L.take a) = Y1 at ca ⊢
    generalize ofH (a : Int) (L.drop a) = Y2 at ca ⊢
    have CA := hid ca
    unfold ArA at CA
    clear ca hb hin hl hT
    go_enter Tryd.func28, Tryd.ntmps28
    go_wp2_with (first
      | (go_at_call 54; go_loud (have hj := CA.out; with_reducible refine hj.mono ?_; clear hj); intro e w3 hq; obtain ⟨A5, n5, c5, A7, n7, c7, he, h3, h4, h5, h6, hb, h7, h8⟩ := hq; subst he; have I5 := hid h3; have HC5 := hid h4; have I7 := hid h5; have HC7 := hid h6; have KT3 := hid (KT.out.below hb); have B3 := hid (B1.out.trans (hb.mono B1.out.size)); have HIV := hid (info_jTrail (.slice A5 n5 c5) (.slice A7 n7 c7)); have HG5 := hid (fun b' o (e : A5 = some ⟨b', o, none⟩) => show b' ≠ w.heap.size from fun he => by have h1 := h7 b' o e; have h2 := KT.out.lt; omega); have HG7 := hid (fun b' o (e : A7 = some ⟨b', o, none⟩) => show b' ≠ w.heap.size from fun he => by have h1 := h8 b' o e; have h2 := KT.out.lt; omega); clear h3 h4 h5 h6 hb h7 h8)
      | (refine wpList_store_row rfl 48 (.tmp 4) (.tmp 18) rfl w.heap.size (tlc A5 n5 c5 A7 n7 c7) rfl rfl 48 (tlc none 0 0 none 0 0) KT3.out HIV.out rfl (tl_ones _ _ _ _ _ _) ?_))
    try go_frame
    refine bodyPost_ret (results_cell_slot Tryd.results28 _ _ w.heap.size 48 (tlc A5 n5 c5 A7 n7 c7) (0, 0) _ rfl (KT3.out.row _) Tryd.underlying48 rfl HIV.out) rfl ?_
    exact ⟨A5, n5, c5, A7, n7, c7, rfl, inh_row I5.out HG5.out, HC5.out, inh_row I7.out HG7.out, HC7.out, below_setRow B3.out (Nat.le_refl _) _⟩
  · simp only [if_neg hb]
    unfold gwB at hb
    have HI0 := hid (info_jTrail (.slice none 0 0) (.slice none 0 0))
    clear hin hl hT
    by_cases h1 : i < 0
    · clear hb
      go_enter Tryd.func28, Tryd.ntmps28
      go_wp2_with (first
        | (refine wpList_build rfl 48 _ rfl built_jTrail0 ?_)
        | (refine wpList_store_row rfl 48 (.tmp 4) (.tmp 14) rfl w.heap.size (tlc none 0 0 none 0 0) rfl rfl 48 (tlc none 0 0 none 0 0) KT.out HI0.out rfl (tl_ones _ _ _ _ _ _) ?_))
      try go_frame
      refine bodyPost_ret (results_cell_slot Tryd.results28 _ _ w.heap.size 48 (tlc none 0 0 none 0 0) (0, 0) _ rfl (KT.out.row _) Tryd.underlying48 rfl HI0.out) rfl ?_
      exact ⟨none, 0, 0, none, 0, 0, rfl, InH.nil _ _, Nat.le_refl _, InH.nil _ _, Nat.le_refl _, below_setRow B1.out (Nat.le_refl _) _⟩
    · have h2 : (n : Int) < i := by omega
      clear hb
      go_enter Tryd.func28, Tryd.ntmps28
      go_wp2_with (first
        | (refine wpList_build rfl 48 _ rfl built_jTrail0 ?_)
        | (refine wpList_store_row rfl 48 (.tmp 4) (.tmp 14) rfl w.heap.size (tlc none 0 0 none 0 0) rfl rfl 48 (tlc none 0 0 none 0 0) KT.out HI0.out rfl (tl_ones _ _ _ _ _ _) ?_))
      try go_frame
      refine bodyPost_ret (results_cell_slot Tryd.results28 _ _ w.heap.size 48 (tlc none 0 0 none 0 0) (0, 0) _ rfl (KT.out.row _) Tryd.underlying48 rfl HI0.out) rfl ?_
      exact ⟨none, 0, 0, none, 0, 0, rfl, InH.nil _ _, Nat.le_refl _, InH.nil _ _, Nat.le_refl _, below_setRow B1.out (Nat.le_refl _) _⟩
end Go.Proofs.YtoacjaecfabahaaDoor
