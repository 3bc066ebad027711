/-
  What is proved here: what the document's own bytes of a field are.
-/
import Derived.Test.YtoandanalfalaaaNum
import Derived.Deep.RegionWith
namespace Go.Proofs.Ytoandanalfalaaa
open Go.ChangeShapes Go.WideShapes Go.ChangeAt Go.RowKit
set_option linter.unusedVariables false

def BytesPost (w : World) (k x : Int) (bb : List Int) (e : Ending) (w' : World) : Prop :=
  ∃ A c ys ok, e = .returned (.tuple #[.slice A ys.length c, .bool ok]) ∧ Rp w' none A ys ∧ Below w.heap.size w w' ∧ fb k x bb = (if ok = true then some ys else none)
theorem Fresh.rp0 {w w' : World} {A : Option Addr} {xs : List Int} (h : Fresh w w' A xs) : Rp w' none A xs := h.rp (p := none) (fun g _ _ ⟨a, e, _⟩ => by cases e)

theorem run_append_nil' {P : Program} (w : World) (base : Nat) (t ty e : TypeId) (i : TypeInfo) (size : Nat) (ht : P.underlying t = some (.slice e)) (hi : P.info? e = some i)
    (v : Value) (n : Nat) (xs : List Value) (hown : w.ownsRow base e size v n xs) (c : Nat) : (Builtin.append_ #[t, t] ty #[v, .slice none 0 c]).run P w = .ok v w := by
  rcases hown.2 with ⟨rfl, _⟩ | ⟨g, cap, cur, rfl, _, _, hnc, _⟩
  · simp [Builtin.append_, run_underlying ht, sizeOf, typeInfo, hi, Builtin.lenOf, Builtin.firstCells]
  · simp [Builtin.append_, run_underlying ht, sizeOf, typeInfo, hi, Builtin.lenOf, Builtin.firstCells, hnc, storeCells]
theorem wpList_append_nil' {P : Program} {w : World} {ops : Array Oper} {rest : List Oper} {o : Oper} {a : Act} {Q : Exit → Act → World → Prop} (hgd : o.guard = none) (s x : Operand) (t : TypeId)
    (ho : o.op = .call { callee := .builtin .append, args := #[s, x], argTypes := #[t, t] })
    (base : Nat) (e : TypeId) (i : TypeInfo) (size : Nat) (ht : P.underlying t = some (.slice e)) (hi : P.info? e = some i)
    (v : Value) (n : Nat) (xs : List Value) (c : Nat) (hs : a.eval s = v) (hown : w.ownsRow base e size v n xs) (hx : a.eval x = .slice none 0 c)
    (h : wpList P ops Q rest (a.put o.dst v) w) : wpList P ops Q (o :: rest) a w := by
  refine wpList_plain hgd fun K hK => ?_
  have hrun := run_append_nil' (P := P) w base t o.type e i size ht hi v n xs hown c
  unfold Oper.wp
  simp [execOp, ho, resolve, invoke, builtin, hs, hx, hrun, Result.andThen]
  exact hK _ _ h

set_option maxRecDepth 5000 in
set_option maxHeartbeats 2000000 in
theorem bytes_1 (x : Int) (bb : List Int) (B : Option Addr) (cc : Nat) (w : World) (hx : 0 ≤ x ∧ x ≤ 4611686018427387904) :
    Calls Try.prog 32 #[.agg #[.int .i64 1, .int .u64 x, .slice B bb.length cc]] w (BytesPost w 1 x bb) := by
  have HN := hid (fun wx => Number_any x 1 wx ⟨hx.1, by omega⟩ (by omega))
  have hw : wrap64 x = x := wrap_small x hx.1 hx.2
  have hfb : fb 1 x bb = (if decide (x ≤ 255) = true then some (be x 1) else none) := by
    show (if wrap64 x < 0 ∨ 255 < wrap64 x then none else some (be (wrap64 x) 1)) = _
    rw [hw]
    by_cases h : x ≤ 255
    · rw [if_neg (by omega), if_pos (by simpa using h)]
    · rw [if_pos (by omega), if_neg (by simpa using h)]
  have HFB := hid hfb
  have HBK := hid (Blk.new w 35 #[.int .i64 1, .int .u64 x, .slice B bb.length cc])
  have B0 : Below w.heap.size w (w.alloc (.cells #[.int .i64 1, .int .u64 x, .slice B bb.length cc] 35)) := (Below.refl _ _).alloc (Nat.le_refl _) _
  obtain ⟨hx0, hx1⟩ := hx
  clear hfb hw hx1
  go_enter Try.func32, Try.ntmps32
  go_wp2
  go_region_with (go_at_call 47; refine (HN.out _).mono ?_; rintro e w2 ⟨A2, c2, rfl, hc2, hf2, hb2⟩; have HC2 := hid hc2; have HF2 := hid hf2; have HB2 := hid (B0.drew.trans (hb2.mono B0.drew.size)); have k1 := (HBK.out.drew.same (hb2.block w.heap.size (by simp))).cell 1; simp only [List.getElem?_toArray, List.getElem?_cons_zero, List.getElem?_cons_succ] at k1; clear hc2 hf2 hb2)
  all_goals go_wp2
  all_goals go_ret2
  all_goals exact ⟨A2, c2, be x 1, decide (x ≤ 255), rfl, HF2.out.rp0, HB2.out, HFB.out⟩

set_option maxRecDepth 5000 in
set_option maxHeartbeats 2000000 in
theorem bytes_2 (x : Int) (bb : List Int) (B : Option Addr) (cc : Nat) (w : World) (hx : 0 ≤ x ∧ x ≤ 4611686018427387904) :
    Calls Try.prog 32 #[.agg #[.int .i64 2, .int .u64 x, .slice B bb.length cc]] w (BytesPost w 2 x bb) := by
  have HN := hid (fun wx => Number_any x 2 wx ⟨hx.1, by omega⟩ (by omega))
  have hw : wrap64 x = x := wrap_small x hx.1 hx.2
  have hfb : fb 2 x bb = (if decide (x ≤ 65535) = true then some (be x 2) else none) := by
    show (if wrap64 x < 0 ∨ 65535 < wrap64 x then none else some (be (wrap64 x) 2)) = _
    rw [hw]
    by_cases h : x ≤ 65535
    · rw [if_neg (by omega), if_pos (by simpa using h)]
    · rw [if_pos (by omega), if_neg (by simpa using h)]
  have HFB := hid hfb
  have HBK := hid (Blk.new w 35 #[.int .i64 2, .int .u64 x, .slice B bb.length cc])
  have B0 : Below w.heap.size w (w.alloc (.cells #[.int .i64 2, .int .u64 x, .slice B bb.length cc] 35)) := (Below.refl _ _).alloc (Nat.le_refl _) _
  obtain ⟨hx0, hx1⟩ := hx
  clear hfb hw hx1
  go_enter Try.func32, Try.ntmps32
  go_wp2
  go_region_with (go_at_call 47; refine (HN.out _).mono ?_; rintro e w2 ⟨A2, c2, rfl, hc2, hf2, hb2⟩; have HC2 := hid hc2; have HF2 := hid hf2; have HB2 := hid (B0.drew.trans (hb2.mono B0.drew.size)); have k1 := (HBK.out.drew.same (hb2.block w.heap.size (by simp))).cell 1; simp only [List.getElem?_toArray, List.getElem?_cons_zero, List.getElem?_cons_succ] at k1; clear hc2 hf2 hb2)
  all_goals go_wp2
  all_goals go_ret2
  all_goals exact ⟨A2, c2, be x 2, decide (x ≤ 65535), rfl, HF2.out.rp0, HB2.out, HFB.out⟩

set_option maxRecDepth 5000 in
set_option maxHeartbeats 2000000 in
theorem bytes_8 (x : Int) (bb : List Int) (B : Option Addr) (cc : Nat) (w : World) (hx : 0 ≤ x ∧ x ≤ 4611686018427387904) :
    Calls Try.prog 32 #[.agg #[.int .i64 8, .int .u64 x, .slice B bb.length cc]] w (BytesPost w 8 x bb) := by
  have HN := hid (fun wx => Number_any x 2 wx ⟨hx.1, by omega⟩ (by omega))
  have hw : wrap64 x = x := wrap_small x hx.1 hx.2
  have hfb : fb 8 x bb = (if decide (x ≤ 4096) = true then some (be x 2) else none) := by
    show (if wrap64 x < 0 ∨ 4096 < wrap64 x then none else some (be (wrap64 x) 2)) = _
    rw [hw]
    by_cases h : x ≤ 4096
    · rw [if_neg (by omega), if_pos (by simpa using h)]
    · rw [if_pos (by omega), if_neg (by simpa using h)]
  have HFB := hid hfb
  have HBK := hid (Blk.new w 35 #[.int .i64 8, .int .u64 x, .slice B bb.length cc])
  have B0 : Below w.heap.size w (w.alloc (.cells #[.int .i64 8, .int .u64 x, .slice B bb.length cc] 35)) := (Below.refl _ _).alloc (Nat.le_refl _) _
  obtain ⟨hx0, hx1⟩ := hx
  clear hfb hw hx1
  go_enter Try.func32, Try.ntmps32
  go_wp2
  go_region_with (go_at_call 47; refine (HN.out _).mono ?_; rintro e w2 ⟨A2, c2, rfl, hc2, hf2, hb2⟩; have HC2 := hid hc2; have HF2 := hid hf2; have HB2 := hid (B0.drew.trans (hb2.mono B0.drew.size)); have k1 := (HBK.out.drew.same (hb2.block w.heap.size (by simp))).cell 1; simp only [List.getElem?_toArray, List.getElem?_cons_zero, List.getElem?_cons_succ] at k1; clear hc2 hf2 hb2)
  all_goals go_wp2
  all_goals go_ret2
  all_goals exact ⟨A2, c2, be x 2, decide (x ≤ 4096), rfl, HF2.out.rp0, HB2.out, HFB.out⟩

set_option maxRecDepth 5000 in
set_option maxHeartbeats 2000000 in
theorem bytes_3 (x : Int) (bb : List Int) (B : Option Addr) (cc : Nat) (w : World) (hx : 0 ≤ x ∧ x < 18446744073709551616) :
    Calls Try.prog 32 #[.agg #[.int .i64 3, .int .u64 x, .slice B bb.length cc]] w (BytesPost w 3 x bb) := by
  have HN := hid (fun wx => Number_any (x % 4294967296) 4 wx (by omega) (by omega))
  have hfb : fb 3 x bb = (if true = true then some (be (x % 4294967296) 4) else none) := rfl
  have HFB := hid hfb
  have B0 : Below w.heap.size w (w.alloc (.cells #[.int .i64 3, .int .u64 x, .slice B bb.length cc] 35)) := (Below.refl _ _).alloc (Nat.le_refl _) _
  obtain ⟨hx0, hx1⟩ := hx
  clear hfb hx1
  go_enter Try.func32, Try.ntmps32
  go_wp2_with (go_at_call 47; refine (HN.out _).mono ?_; rintro e w2 ⟨A2, c2, rfl, hc2, hf2, hb2⟩; have HF2 := hid hf2; have HB2 := hid (B0.trans (hb2.mono B0.size)); clear hc2 hf2 hb2)
  go_ret2
  exact ⟨A2, c2, be (x % 4294967296) 4, true, rfl, HF2.out.rp0, HB2.out, HFB.out⟩

set_option maxRecDepth 5000 in
set_option maxHeartbeats 2000000 in
theorem bytes_4 (x : Int) (bb : List Int) (B : Option Addr) (cc : Nat) (w : World) (hx : 0 ≤ x ∧ x < 18446744073709551616) :
    Calls Try.prog 32 #[.agg #[.int .i64 4, .int .u64 x, .slice B bb.length cc]] w (BytesPost w 4 x bb) := by
  have HN := hid (fun wx => Number_any (x) 8 wx (by omega) (by omega))
  have hfb : fb 4 x bb = (if true = true then some (be (x) 8) else none) := rfl
  have HFB := hid hfb
  have B0 : Below w.heap.size w (w.alloc (.cells #[.int .i64 4, .int .u64 x, .slice B bb.length cc] 35)) := (Below.refl _ _).alloc (Nat.le_refl _) _
  obtain ⟨hx0, hx1⟩ := hx
  clear hfb hx1
  go_enter Try.func32, Try.ntmps32
  go_wp2_with (go_at_call 47; refine (HN.out _).mono ?_; rintro e w2 ⟨A2, c2, rfl, hc2, hf2, hb2⟩; have HF2 := hid hf2; have HB2 := hid (B0.trans (hb2.mono B0.size)); clear hc2 hf2 hb2)
  go_ret2
  exact ⟨A2, c2, be (x) 8, true, rfl, HF2.out.rp0, HB2.out, HFB.out⟩

set_option maxRecDepth 5000 in
set_option maxHeartbeats 2000000 in
theorem bytes_5 (x : Int) (bb : List Int) (B : Option Addr) (cc : Nat) (w : World) (hx : 0 ≤ x ∧ x < 18446744073709551616) :
    Calls Try.prog 32 #[.agg #[.int .i64 5, .int .u64 x, .slice B bb.length cc]] w (BytesPost w 5 x bb) := by
  have HN := hid (fun wx => Number_any (x % 2) 1 wx (by omega) (by omega))
  have hfb : fb 5 x bb = (if true = true then some (be (x % 2) 1) else none) := by show some [x % 2] = some [x % 2 / 256 ^ 0 % 256]; congr 2; omega
  have HFB := hid hfb
  have B0 : Below w.heap.size w (w.alloc (.cells #[.int .i64 5, .int .u64 x, .slice B bb.length cc] 35)) := (Below.refl _ _).alloc (Nat.le_refl _) _
  obtain ⟨hx0, hx1⟩ := hx
  clear hfb hx1
  go_enter Try.func32, Try.ntmps32
  go_wp2_with (go_at_call 47; refine (HN.out _).mono ?_; rintro e w2 ⟨A2, c2, rfl, hc2, hf2, hb2⟩; have HF2 := hid hf2; have HB2 := hid (B0.trans (hb2.mono B0.size)); clear hc2 hf2 hb2)
  go_ret2
  exact ⟨A2, c2, be (x % 2) 1, true, rfl, HF2.out.rp0, HB2.out, HFB.out⟩

set_option maxRecDepth 5000 in
set_option maxHeartbeats 2000000 in
theorem bytes_6 (x : Int) (bb : List Int) (B : Option Addr) (cc : Nat) (w : World) (hr : Rp w none B bb) :
    Calls Try.prog 32 #[.agg #[.int .i64 6, .int .u64 x, .slice B bb.length cc]] w (BytesPost w 6 x bb) := by
  have B0 : Below w.heap.size w (w.alloc (.cells #[.int .i64 6, .int .u64 x, .slice B bb.length cc] 35)) := (Below.refl _ _).alloc (Nat.le_refl _) _
  have HR := hid (Rp.below hr B0)
  clear hr
  go_enter Try.func32, Try.ntmps32
  go_wp2
  go_ret2
  exact ⟨B, cc, bb, true, rfl, HR.out, B0, rfl⟩

set_option maxRecDepth 5000 in
set_option maxHeartbeats 2000000 in
theorem bytes_7 (x : Int) (bb : List Int) (B : Option Addr) (cc : Nat) (w : World) (hr : Rp w none B bb) (hb : bb.length ≤ 9000) :
    Calls Try.prog 32 #[.agg #[.int .i64 7, .int .u64 x, .slice B bb.length cc]] w (BytesPost w 7 x bb) := by
  have B0 : Below w.heap.size w (w.alloc (.cells #[.int .i64 7, .int .u64 x, .slice B bb.length cc] 35)) := (Below.refl _ _).alloc (Nat.le_refl _) _
  have hfb : fb 7 x bb = (if 8192 < bb.length then none else some (be bb.length 2 ++ bb)) := rfl
  have HR := hid hr
  have HBK := hid (Blk.new w 35 #[.int .i64 7, .int .u64 x, .slice B bb.length cc])
  clear hr
  by_cases hbig : 8192 < bb.length
  · rw [if_pos hbig] at hfb
    have HFB := hid hfb
    clear hfb
    go_enter Try.func32, Try.ntmps32
    go_wp2
    go_ret2
    exact ⟨none, 0, [], false, rfl, Rp.nil _ _ _, B0, by rw [HFB.out]; rfl⟩
  · rw [if_neg hbig] at hfb
    have HFB := hid hfb
    have HN := hid (fun wx => Number_own bb.length 2 wx ⟨by omega, by omega⟩ (by omega))
    obtain ⟨i0, hi, hz0, hz1, hz2⟩ := info_parts info_u8
    clear hfb
    cases B with
    | none =>
      have h0 : bb = [] := by
        cases bb with
        | nil => rfl
        | cons y bb => obtain ⟨ad, e, _⟩ := HR.out (by simp); cases e
      subst h0
      go_enter Try.func32, Try.ntmps32
      go_wp2_with (first
        | (go_at_call 47; refine (HN.out _).mono ?_; rintro e w2 ⟨v2, rfl, ho2, hb2⟩; have HO2 := hid ho2; have HB2 := hid (B0.trans (hb2.mono B0.size)); have k2 := (HBK.out.same (hb2.block w.heap.size (by simp))).cell 2; simp only [List.getElem?_toArray, List.getElem?_cons_zero, List.getElem?_cons_succ] at k2; clear ho2 hb2)
        | (at_builtin; refine wpList_append_nil' rfl (.tmp 55) (.tmp 57) 33 rfl _ 5 i0 1 Try.underlying33 hi _ 2 _ cc rfl HO2.out rfl ?_))
      go_ret2
      obtain ⟨A3, c3, rfl, hl3, _, hf3⟩ := fresh_of_own HO2.out B0.size
      exact ⟨A3, c3, be 0 2, true, rfl, hf3.rp0, HB2.out, by rw [HFB.out, if_pos rfl]; simp⟩
    | some ad =>
      have HC : Hid (∀ w1 : World, Below w.heap.size w w1 → ∀ j u, (u8s bb)[j]? = some u → w1.cell? (ad.add j) = some u) := by
        intro w1 hb j u hu
        rcases Nat.lt_or_ge j bb.length with hj | hj
        · obtain ⟨ad', e', hc⟩ := (HR.out.belowN hb).get (by omega)
          injection e' with e'; subst e'
          rw [hc j hj, ← hu, u8s_get _ _ hj]
        · rw [List.getElem?_eq_none (by rw [u8s_length]; exact hj)] at hu; cases hu
      have LN : Hid ((u8s bb).length = bb.length * 1) := by show _ = _; rw [u8s_length]; omega
      have HBIG := hid hbig
      go_enter Try.func32, Try.ntmps32
      go_wp2_with (first
        | (go_at_call 47; refine (HN.out _).mono ?_; rintro e w2 ⟨v2, rfl, ho2, hb2⟩; have HO2 := hid ho2; have HB2 := hid (B0.trans (hb2.mono B0.size)); have k2 := (HBK.out.same (hb2.block w.heap.size (by simp))).cell 2; simp only [List.getElem?_toArray, List.getElem?_cons_zero, List.getElem?_cons_succ] at k2; have HSZ := hid hb2.size; clear ho2 hb2)
        | (at_builtin; refine wpList_append_own _ rfl (.tmp 55) (.tmp 57) 33 rfl _ 5 i0 (.int .u8 0) 1 1 Try.underlying33 hi hz0 hz1 hz2 rfl (by decide) _ 2 _ rfl HO2.out ad bb.length cc (u8s bb) rfl LN.out (HC.out _ HB2.out) (u8s_one _) (by unfold maxLen; omega) (by omega) HSZ.out ?_; intro v3 w3 hown3 hg3 _; have HOWN3 := hid hown3; have HB3 := hid (HB2.out.grown hg3 HB2.out.size (fun b hb => Nat.le_trans B0.size (HO2.out.lt b hb).1)); clear hown3 hg3))
      go_ret2
      have ho := HOWN3.out
      have e : u8s (be bb.length 2) ++ u8s bb = u8s (be bb.length 2 ++ bb) := by simp [u8s]
      rw [e] at ho
      obtain ⟨A3, c3, rfl, hl3, _, hf3⟩ := fresh_of_own ho B0.size
      exact ⟨A3, c3, be bb.length 2 ++ bb, true, by rw [hl3]; rfl, hf3.rp0, HB3.out, by rw [HFB.out, if_pos rfl]⟩

set_option maxRecDepth 5000 in
set_option maxHeartbeats 2000000 in
theorem bytes_any (k x : Int) (bb : List Int) (B : Option Addr) (cc : Nat) (w : World) (hx : 0 ≤ x ∧ x < 18446744073709551616) (hs : x ≤ 4611686018427387904 ∨ k = 4) (hr : Rp w none B bb) (hb : bb.length ≤ 9000) :
    Calls Try.prog 32 #[.agg #[.int .i64 k, .int .u64 x, .slice B bb.length cc]] w (BytesPost w k x bb) := by
  by_cases h1 : k = 1
  · subst h1; exact bytes_1 x bb B cc w ⟨hx.1, by omega⟩
  by_cases h2 : k = 2
  · subst h2; exact bytes_2 x bb B cc w ⟨hx.1, by omega⟩
  by_cases h3 : k = 3
  · subst h3; exact bytes_3 x bb B cc w hx
  by_cases h4 : k = 4
  · subst h4; exact bytes_4 x bb B cc w hx
  by_cases h5 : k = 5
  · subst h5; exact bytes_5 x bb B cc w hx
  by_cases h6 : k = 6
  · subst h6; exact bytes_6 x bb B cc w hr
  by_cases h7 : k = 7
  · subst h7; exact bytes_7 x bb B cc w hr hb
  by_cases h8 : k = 8
  · subst h8; exact bytes_8 x bb B cc w ⟨hx.1, by omega⟩
  have hfb : fb k x bb = some [] := by unfold fb; rw [if_neg h1, if_neg h2, if_neg h3, if_neg h4, if_neg h5, if_neg h6, if_neg h7, if_neg h8]
  have B0 : Below w.heap.size w (w.alloc (.cells #[.int .i64 k, .int .u64 x, .slice B bb.length cc] 35)) := (Below.refl _ _).alloc (Nat.le_refl _) _
  have HFB := hid hfb
  have b1 : (k == 1) = false := by simpa using h1
  have b2 : (k == 2) = false := by simpa using h2
  have b3 : (k == 3) = false := by simpa using h3
  have b4 : (k == 4) = false := by simpa using h4
  have b5 : (k == 5) = false := by simpa using h5
  have b6 : (k == 6) = false := by simpa using h6
  have b7 : (k == 7) = false := by simpa using h7
  have b8 : (k == 8) = false := by simpa using h8
  clear hfb hx hs hr h1 h2 h3 h4 h5 h6 h7 h8
  go_enter Try.func32, Try.ntmps32
  go_wp2
  go_ret2
  exact ⟨none, 0, [], true, rfl, Rp.nil _ _ _, B0, HFB.out⟩
end Go.Proofs.Ytoandanalfalaaa
