/-
  What is proved here: two segments side by side made one, as the document makes them.
-/
import Derived.Test.YtoacjaecfabahaaDoorMJF
import Derived.Test.YtoacjaecfabahaaDoorMFE1
set_option linter.unusedSimpArgs false
set_option linter.unusedVariables false
namespace Go.Proofs.YtoacjaecfabahaaDoor
open Go.ChangeShapes Go.WideShapes Go.ChangeAt Go.RowKit
set_option linter.unusedVariables false
set_option linter.unusedSimpArgs false
set_option maxRecDepth 20000

theorem run_sizeI (w : World) : (sizeOf 3).run Tryd.prog w = .ok 1 w := by
  obtain ⟨i0, hi, hz0, hz1, hz2⟩ := info_parts info_i64
  simp [sizeOf, typeInfo, hi, hz1]
theorem elemI : Tryd.prog.elem 71 = 3 := by kernel_rfl
theorem run_cutI (A : Option Addr) (n c h : Nat) (h2 : h ≤ c) (w : World) :
    (Instr.sliceAt 71 (.slice A n c) none (some (.int .i64 (h : Int))) none).run Tryd.prog w = .ok (.slice (slA A 0 c 1) h c) w := by
  have ht : Tryd.prog.underlying 71 = some (.slice (Tryd.prog.elem 71)) := by rw [elemI]; exact Tryd.underlying71
  rw [run_sliceAt_slice w 71 _ _ _ _ ht, run_slice_h w 71 A n c ht .i64 _ (by omega) (by omega), elemI, run_sizeI, Result.andThen_ok, Int.toNat_natCast]
  rfl
theorem run_cutIL (A : Option Addr) (n c l : Nat) (h1 : l ≤ n) (w : World) :
    (Instr.sliceAt 71 (.slice A n c) (some (.int .i64 (l : Int))) none none).run Tryd.prog w = .ok (.slice (slA A l c 1) (n - l) (c - l)) w := by
  have ht : Tryd.prog.underlying 71 = some (.slice (Tryd.prog.elem 71)) := by rw [elemI]; exact Tryd.underlying71
  rw [run_sliceAt_slice w 71 _ _ _ _ ht, run_slice_l w 71 A n c ht .i64 _ (by omega) (by omega), elemI, run_sizeI, Result.andThen_ok, Int.toNat_natCast]
  rfl
section
variable {ops : Array Oper} {rest : List Oper} {o : Oper} {a : Act} {w : World} {Q : Exit → Act → World → Prop}
theorem cutI_at (hgd : o.guard = none) (x h : Operand) (ho : o.op = .slice 71 x none (some h) none) (A : Option Addr) (n c hi : Nat) (hx : a.eval x = .slice A n c) (hh : a.eval h = .int .i64 (hi : Int)) (h2 : hi ≤ c)
    (k : wpList Tryd.prog ops Q rest (a.put o.dst (.slice (slA A 0 c 1) hi c)) w) : wpList Tryd.prog ops Q (o :: rest) a w := by
  refine wpList_plain hgd fun _ hK => ?_
  unfold Oper.wp execOp
  simp only [ho, Option.map_some, Option.map_none, hx, hh, Sem.run_bind, run_cutI A n c hi h2 w, Result.andThen_ok]
  exact hK _ _ k
theorem cutIL_at (hgd : o.guard = none) (x l : Operand) (ho : o.op = .slice 71 x (some l) none none) (A : Option Addr) (n c lo : Nat) (hx : a.eval x = .slice A n c) (hl : a.eval l = .int .i64 (lo : Int)) (h1 : lo ≤ n)
    (k : wpList Tryd.prog ops Q rest (a.put o.dst (.slice (slA A lo c 1) (n - lo) (c - lo))) w) : wpList Tryd.prog ops Q (o :: rest) a w := by
  refine wpList_plain hgd fun _ hK => ?_
  unfold Oper.wp execOp
  simp only [ho, Option.map_some, Option.map_none, hx, hl, Sem.run_bind, run_cutIL A n c lo h1 w, Result.andThen_ok]
  exact hK _ _ k
end
theorem InI.cut {w : World} {A : Option Addr} {n c l m : Nat} {L : List Int} (h : InI w A n L) (h1 : l + m ≤ n) (h2 : n ≤ c) : InI w (slA A l c 1) m ((L.drop l).take m) := by
  have hlen := h.1
  refine ⟨by rw [List.length_take, List.length_drop]; omega, by have := h.2.1; omega, fun hm => ?_⟩
  obtain ⟨b, o, e, hlt, hat⟩ := h.2.2 (by omega)
  refine ⟨b, o + l, ?_, hlt, fun i K hi => ?_⟩
  · unfold slA
    rw [if_neg (by omega), e, Option.map_some, Addr.add_lit, Nat.mul_one]
  · have hi2 : i < m := by
      rcases Nat.lt_or_ge i m with h3 | h3
      · exact h3
      · rw [List.getElem?_eq_none (by rw [List.length_take]; omega)] at hi; cases hi
    rw [List.getElem?_take, if_pos hi2, List.getElem?_drop] at hi
    have := hat _ _ hi
    rw [show o + l + i = o + (l + i) by omega]
    exact this
theorem szs_app (E F : List Nat) : szs (E ++ F) = szs E ++ szs F := by simp [szs]
theorem szs_cut (E : List Nat) (l m : Nat) : ((szs E).drop l).take m = szs ((E.drop l).take m) := by simp [szs, List.map_take, List.map_drop]
theorem szs_md {E : List Nat} {i m z : Nat} (h : E[i]? = some m) (hz : z = 2 ^ m) : (szs (E.take i) ++ [2 * (z : Int)]) ++ szs (E.drop (i + 2)) = szs (mdE E i) := by
  have e : szs [m + 1] = [2 * (z : Int)] := by rw [hz]; simp [szs, Nat.pow_succ]; omega
  unfold mdE
  rw [h, ← e, ← szs_app, ← szs_app]
  congr 1
  simp
/-- the document's Made at work -/
structure MdI (w : World) (v8 : Value) (X : List Int) (v9 : Value) (L : List (List Int)) (b o1 o2 : Nat) (K1 K2 : List Int) (W : World) : Prop where
  oi : OwI w.heap.size W v8 X
  oh : OwH w.heap.size W v9 L
  bl : Below w.heap.size w W
  r1 : W.rangeAt b o1 (u8s K1)
  r2 : W.rangeAt b o2 (u8s K2)
  hb : b < w.heap.size
theorem rng_below {w w' : World} {b o : Nat} {cs : List Value} {B : Nat} (h : w.rangeAt b o cs) (hb : Below B w w') (hlt : b < B) : w'.rangeAt b o cs := fun j v hv =>
  (World.cell?_of_block (w := w) (hb.block b hlt)).trans (h j v hv)
theorem MdI.below {w x y : World} {v8 v9 : Value} {X : List Int} {L : List (List Int)} {b o1 o2 : Nat} {K1 K2 : List Int} (H : MdI w v8 X v9 L b o1 o2 K1 K2 x) (hb : Below x.heap.size x y) : MdI w v8 X v9 L b o1 o2 K1 K2 y := by
  have h9 : b < x.heap.size := Nat.lt_of_lt_of_le H.hb H.bl.size
  exact ⟨H.oi.below hb, H.oh.below hb, H.bl.trans (hb.mono H.bl.size), rng_below H.r1 hb h9, rng_below H.r2 hb h9, H.hb⟩
theorem OwI.grown_h {n0 n1 : Nat} {x y : World} {v v8 : Value} {X : List Int} {L : List (List Int)} (H : OwI n0 x v8 X) (H2 : OwH n1 x v L) (hg : x.grownBy y v.ownBlock) : OwI n0 y v8 X := by
  refine H.keep (fun k hk => ?_)
  obtain ⟨_, C, hC⟩ := H.ty k hk
  refine hg.block k hC.lt (fun e => ?_)
  obtain ⟨_, D, hD⟩ := H2.ty k e.symm
  exact hC.ne hD (by decide) rfl
/-- what Made answers -/
def MdA (w : World) (E : List Nat) (L : List (List Int)) (i : Nat) (e : Ending) (w' : World) : Prop := ∃ v1 v2, e = .returned (.tuple #[v1, v2]) ∧ OwI w.heap.size w' v1 (szs (mdE E i)) ∧ OwH w.heap.size w' v2 (mdL ndF [] L i) ∧ Below w.heap.size w w'
set_option maxHeartbeats 16000000 in
theorem gMade_any {w : World} {n c d i : Nat} {A B : Option Addr} {E : List Nat} {L : List (List Int)} (hI : InI w A n (szs E)) (hL : InH w B n L) (hE : ∀ m ∈ E, m ≤ 31) (hc : n ≤ c) (hd : n ≤ d) (hi : i + 1 < n) (hn : n < 1000) :
    Calls Tryd.prog 51 #[.slice A n c, .slice B n d, .int .i64 (i : Int)] w (MdA w E L i) := by
  have hel : E.length = n := by have := hI.1; rw [szs_len] at this; exact this
  have hll := hL.1
  obtain ⟨k1, hk1⟩ : ∃ k1, k1 = i + 1 := ⟨_, rfl⟩
  obtain ⟨k2, hk2⟩ : ∃ k2, k2 = i + 2 := ⟨_, rfl⟩
  have q1 : (i : Int) + 1 = (k1 : Int) := by omega
  have q2 : (i : Int) + 2 = (k2 : Int) := by omega
  obtain ⟨ba, oa, hA, hba, hata⟩ := hI.2.2 (by omega)
  obtain ⟨m, hm⟩ : ∃ m, E[i]? = some m := ⟨_, List.getElem?_eq_getElem (by omega)⟩
  obtain ⟨z, hz⟩ : ∃ z, z = 2 ^ m := ⟨_, rfl⟩
  have hzb : z ≤ 2147483648 := by rw [hz]; exact pow_mono2 (hE m (List.mem_of_getElem? hm))
  have hcz := hata i _ (szs_get hm)
  rw [← hz] at hcz
  obtain ⟨b, o, K1, hB, hK1, h1, hb, hr1⟩ := hL.at (k := i) (by omega)
  obtain ⟨b', o', K2, hB', hK2, h2, _, hr2⟩ := hL.at (k := k1) (by omega)
  subst hA; subst hB
  injection hB' with hB'
  injection hB' with e1 e2
  subst e1; subst e2
  obtain ⟨f, hf⟩ : ∃ f, f = ndF K1 K2 := ⟨_, rfl⟩
  have HF32 := hid (show H32 f from by rw [hf]; exact h32_sum _)
  have hcn := fun (w' : World) => gNode_any h1 h2 (w := w')
  simp only [← hf] at hcn
  have CN := hid hcn
  have HEE := hid (szs_md hm hz)
  have HLE : Hid ((L.take i ++ [f]) ++ L.drop k2 = mdL ndF [] L i) := by
    show _ = _
    unfold mdL
    rw [hK1, ← hk1, hK2, hf, hk2]
    simp
  rw [← hk2] at HEE
  have i1 := hI.cut (c := c) (l := 0) (m := i) (by omega) hc
  have i3 := hI.cut (c := c) (l := k2) (m := n - k2) (by omega) hc
  have b1 := hL.cut (c := d) (l := 0) (m := i) (by omega) hd
  have b3 := hL.cut (c := d) (l := k2) (m := n - k2) (by omega) hd
  rw [szs_cut, List.drop_zero] at i1
  rw [szs_cut, List.take_of_length_le (by rw [List.length_drop]; omega)] at i3
  rw [List.drop_zero] at b1
  rw [List.take_of_length_le (by rw [List.length_drop]; omega)] at b3
  have HI1' := hid i1; have HI3 := hid i3; have HB1 := hid b1; have HB3 := hid b3
  have HCZ := hid (fun (w' : World) (hb : Below w.heap.size w w') => show w'.cell? ⟨ba, oa + i, none⟩ = some (.int .i64 (z : Int)) from (World.cell?_of_block (w := w) (hb.block ba hba)).trans hcz)
  have HI1 := hid (info_hash K1 h1.len); have HI2 := hid (info_hash K2 h2.len)
  have HR1 := hid hr1; have HR2 := hid hr2; have HBB := hid hb
  have HIC := hid (show i ≤ c by omega); have HID := hid (show i ≤ d by omega); have HK2N := hid (show k2 ≤ n by omega)
  have HX1 := hid (show (szs (E.take i)).length = i by rw [szs_len, List.length_take]; omega)
  have HX3 := hid (show (szs (E.drop k2)).length = n - k2 by rw [szs_len, List.length_drop]; omega)
  have HN := hid hn
  have HL1 : Hid ((L.take i).length = i) := by show _ = _; rw [List.length_take]; omega
  have HLL : Hid ((L.take i).length + 1 < 1000000) := by show _ < _; rw [HL1.out]; omega
  have HLL3 : Hid ((L.take i ++ [f]).length + (n - k2) < 1000000) := by show _ < _; rw [List.length_append, HL1.out]; simp; omega
  have hlt0 : (i : Int) < (n : Int) := by omega
  have hlt1 : (k1 : Int) < (n : Int) := by omega
  have hk9 : (k2 : Int) ≤ 1000 := by omega
  have hw1 : IntKind.i64.wrap (k1 : Int) = (k1 : Int) := IntWalk.i64_in _ (by omega)
  have hn1 : k1 < n := by omega
  have hn0 : i < n := by omega
  clear hel hll hk1 hk2 hba hata hm hz hE hcz hK1 hK2 h1 h2 hb hr1 hr2 hf hcn i1 i3 b1 b3 hI hL hc hd hi hn
  unfold MdA
  go_enter Tryd.func51, Tryd.ntmps51
  go_upto_region 4 with (first
    | (refine cutI_at rfl (.tmp 11) (.tmp 12) rfl (some ⟨ba, oa, none⟩) n c i rfl rfl HIC.out ?_)
    | (at_builtin; refine append_i rfl (.tmp 10) (.tmp 13) rfl w.heap.size (.slice none 0 0) [] rfl (OwI.nil _ _) _ _ _ (szs (E.take i)) HI1'.out rfl (by have := HN.out; simp; omega) (Nat.le_refl _) ?_; intro v3 w3 ho hg _; rw [List.nil_append] at ho; have O3 := hid ho; have B3 := hid ((Below.refl w.heap.size w).grown hg (Nat.le_refl _) (fun k e => ((OwI.nil w.heap.size w).lt k e).1)); clear ho hg))
  have cz := HCZ.out w3 B3.out
  go_upto_region 5 with (first
    | (at_builtin; refine append_i rfl (.tmp 15) (.tmp 21) rfl w.heap.size v3 (szs (E.take i)) rfl (O3.out.below ((Below.refl _ _).alloc (Nat.le_refl _) _)) _ _ _ [2 * (z : Int)] (ini_one _ _) rfl (by have := HN.out; have := HX1.out; omega) (by have := B3.out.size; simp; omega) ?_; intro v4 w4 ho hg _; have O4 := hid ho; have B4 := hid ((B3.out.alloc B3.out.size (.cells #[.int .i64 (2 * (z : Int))] 3)).grown hg (by have := B3.out.size; simp; omega) (fun k e => (O3.out.lt k e).1)); clear ho hg))
  clear cz
  have IC5 := hid (HI3.out.below B4.out)
  go_upto_region 6 with (first
    | (refine cutIL_at rfl (.tmp 24) (.tmp 26) rfl (some ⟨ba, oa, none⟩) n c k2 rfl rfl HK2N.out ?_)
    | (at_builtin; refine append_i rfl (.tmp 23) (.tmp 27) rfl w.heap.size v4 (szs (E.take i) ++ [2 * (z : Int)]) rfl O4.out _ _ _ (szs (E.drop k2)) IC5.out rfl (by have := HN.out; have := HX1.out; rw [List.length_append]; simp; omega) B4.out.size ?_; intro v5 w5 ho hg _; have O5 := hid ho; have B5 := hid (B4.out.grown hg B4.out.size (fun k e => (O4.out.lt k e).1)); clear ho hg))
  have IC6 := hid (HB1.out.below B5.out)
  go_upto_region 7 with (first
    | (refine cutH_at rfl (.tmp 30) (.tmp 31) rfl (some ⟨b, o, none⟩) n d i rfl rfl HID.out ?_)
    | (at_builtin; go_loud (refine append_h rfl (.tmp 29) (.tmp 32) rfl w.heap.size (.slice none 0 0) [] rfl (OwH.nil _ _) _ _ _ (L.take i) IC6.out rfl (by have := HN.out; simp; omega) B5.out.size ?_); intro v6 w6 ho hg _; rw [List.nil_append] at ho; have O6 := hid ho; have hn0 := OwH.nil w.heap.size w5; have h6 := OwI.grown_h O5.out hn0 hg; have I6 := hid h6; clear h6 hn0; have B6 := hid (B5.out.grown hg B5.out.size (fun k e => ((OwH.nil w.heap.size w5).lt k e).1)); clear ho hg))
  obtain ⟨X5, hX5⟩ : ∃ X5, X5 = szs (E.take i) ++ [2 * (z : Int)] ++ szs (E.drop k2) := ⟨_, rfl⟩
  rw [← hX5] at I6 HEE
  have PX : Hid (MdI w v5 X5 v6 (L.take i) b (o + i * 32) (o + k1 * 32) K1 K2 w6) := ⟨I6.out, O6.out, B6.out, rng_below HR1.out B6.out HBB.out, rng_below HR2.out B6.out HBB.out, HBB.out⟩
  clear O3 B3 O4 B4 O5 B5 O6 I6 B6 IC5 IC6 hX5 HCZ HR1 HR2
  refine wp_region_L (B := fun w' => Hid (MdI w v5 X5 v6 (L.take i) b (o + i * 32) (o + k1 * 32) K1 K2 w')) [12] (by kernel_rfl) ?_
  change wpAnyL _ _ _ _ _ _ _ _ _ w6.drew
  have Gx0 : Hid (MdI w v5 X5 v6 (L.take i) b (o + i * 32) (o + k1 * 32) K1 K2 w6.drew) := PX.out.below ((Below.refl _ _).drew)
  have PX' : Hid (MdI w v5 X5 v6 (L.take i) b (o + i * 32) (o + k1 * 32) K1 K2 w6.drew) := PX.out.below ((Below.refl _ _).drew)
  clear PX
  have PX := PX'
  clear PX'
  generalize w6.drew = x0 at Gx0 PX ⊢
  refine wpAnyL_pure (i := 0) (oi := { dst := some 34, op := _, type := _, pos := _, after := _, guard := _ }) (v := ?_) rfl (by kernel_rfl) (by kernel_rfl) (by kernel_rfl) (by rfl) (fun _ _ _ h => h) (Or.inl ⟨by kernel_rfl, ?_⟩) (fun _ => Gx0) ?_
  rotate_left
  · (intro w _; go_simp; try with_reducible rfl)
  try simp only [Act.put, List.setIfInBounds_toArray, List.set_cons_zero, List.set_cons_succ]
  refine wpAnyL_pure (i := 1) (oi := { dst := some 35, op := _, type := _, pos := _, after := _, guard := _ }) (v := ?_) rfl (by kernel_rfl) (by kernel_rfl) (by kernel_rfl) (by rfl) (fun _ _ _ h => h) (Or.inl ⟨by kernel_rfl, ?_⟩) (fun _ => Gx0) ?_
  rotate_left
  · (intro w _; go_simp; try with_reducible rfl)
  try simp only [Act.put, List.setIfInBounds_toArray, List.set_cons_zero, List.set_cons_succ]
  refine wpAnyL_pure (i := 2) (oi := { dst := some 36, op := _, type := _, pos := _, after := _, guard := _ }) (v := ?_) rfl (by kernel_rfl) (by kernel_rfl) (by kernel_rfl) (by rfl) (fun _ _ _ h => h) (Or.inl ⟨by kernel_rfl, ?_⟩) (fun _ => Gx0) ?_
  rotate_left
  · (intro w _; go_simp; try with_reducible rfl)
  try simp only [Act.put, List.setIfInBounds_toArray, List.set_cons_zero, List.set_cons_succ]
  refine wpAnyL_pure (i := 3) (oi := { dst := some 37, op := _, type := _, pos := _, after := _, guard := _ }) (v := ?_) rfl (by kernel_rfl) (by kernel_rfl) (by kernel_rfl) (by rfl) (fun _ _ _ h => h) (Or.inl ⟨by kernel_rfl, ?_⟩) (fun _ => Gx0) ?_
  rotate_left
  · (intro w _; go_simp; try with_reducible rfl)
  try simp only [Act.put, List.setIfInBounds_toArray, List.set_cons_zero, List.set_cons_succ]
  refine wpAnyL_take (i := 4) (oi := { dst := some 38, op := _, type := _, pos := _, after := _, guard := _ }) (v := .agg (hc32 K1)) [10, 11, 12, 13] rfl (by kernel_rfl) (by kernel_rfl) (by kernel_rfl) (by kernel_rfl) (fun _ _ _ h => h) (yieldsIf_load_mid (cs := u8s K1) (by rfl) _ _ rfl _ _ rfl _ (fun w' hSw => hSw.out.r1) Tryd.underlying33 rfl HI1.out) Gx0 ?_
  try simp only [Act.put, List.setIfInBounds_toArray, List.set_cons_zero, List.set_cons_succ]
  refine wpAnyL_pure (i := 5) (oi := { dst := some 39, op := _, type := _, pos := _, after := _, guard := _ }) (v := ?_) rfl (by kernel_rfl) (by kernel_rfl) (by kernel_rfl) (by rfl) (fun _ _ _ h => h) (Or.inl ⟨by kernel_rfl, ?_⟩) (fun _ => Gx0) ?_
  rotate_left
  · (intro w _; go_simp; try with_reducible rfl)
  try simp only [Act.put, List.setIfInBounds_toArray, List.set_cons_zero, List.set_cons_succ]
  refine wpAnyL_pure (i := 6) (oi := { dst := some 40, op := _, type := _, pos := _, after := _, guard := _ }) (v := ?_) rfl (by kernel_rfl) (by kernel_rfl) (by kernel_rfl) (by rfl) (fun _ _ _ h => h) (Or.inl ⟨by kernel_rfl, ?_⟩) (fun _ => Gx0) ?_
  rotate_left
  · (intro w _; go_simp; try with_reducible rfl)
  try simp only [Act.put, List.setIfInBounds_toArray, List.set_cons_zero, List.set_cons_succ]
  refine wpAnyL_pure (i := 7) (oi := { dst := some 41, op := _, type := _, pos := _, after := _, guard := _ }) (v := ?_) rfl (by kernel_rfl) (by kernel_rfl) (by kernel_rfl) (by rfl) (fun _ _ _ h => h) (Or.inl ⟨by kernel_rfl, ?_⟩) (fun _ => Gx0) ?_
  rotate_left
  · (intro w _; go_simp; try with_reducible rfl)
  try simp only [Act.put, List.setIfInBounds_toArray, List.set_cons_zero, List.set_cons_succ]
  refine wpAnyL_pure (i := 8) (oi := { dst := some 42, op := _, type := _, pos := _, after := _, guard := _ }) (v := ?_) rfl (by kernel_rfl) (by kernel_rfl) (by kernel_rfl) (by rfl) (fun _ _ _ h => h) (Or.inl ⟨by kernel_rfl, ?_⟩) (fun _ => Gx0) ?_
  rotate_left
  · (intro w _; go_simp; try with_reducible rfl)
  try simp only [Act.put, List.setIfInBounds_toArray, List.set_cons_zero, List.set_cons_succ]
  refine wpAnyL_take (i := 9) (oi := { dst := some 43, op := _, type := _, pos := _, after := _, guard := _ }) (v := .agg (hc32 K2)) [10, 11, 12, 13] rfl (by kernel_rfl) (by kernel_rfl) (by kernel_rfl) (by kernel_rfl) (fun _ _ _ h => h) (yieldsIf_load_mid (cs := u8s K2) (by rfl) _ _ rfl _ _ rfl _ (fun w' hSw => hSw.out.r2) Tryd.underlying33 rfl HI2.out) Gx0 ?_
  try simp only [Act.put, List.setIfInBounds_toArray, List.set_cons_zero, List.set_cons_succ]
  refine wpAnyL_ready (rs := [10]) (by kernel_rfl) (by simp) ?_
  refine (AllReadyL.cons (o := { dst := some 44, op := _, type := _, pos := _, after := _, guard := _ }) rfl (fun Qc hQc => ?_) AllReadyL.nil)
  go_simp
  go_at_call 48
  refine (CN.out x0).mono ?_
  rintro e1 x1 ⟨rfl, hb⟩
  have PY := hid (PX.out.below hb)
  have Gx1 := PY
  clear hb PX
  have PX := PY
  clear PY
  go_wp2_with fail
  refine hQc.out _ _ (fun _ => Gx1) ?_
  clear hQc Qc
  try simp only [Act.put, List.setIfInBounds_toArray, List.set_cons_zero, List.set_cons_succ]
  refine wpAnyL_ready (rs := [11]) (by kernel_rfl) (by simp) ?_
  refine (AllReadyL.cons (o := { dst := some 45, op := _, type := _, pos := _, after := _, guard := _ }) rfl (fun Qc hQc => ?_) AllReadyL.nil)
  rw [if_pos (by rfl)]
  refine wp_hash_one (.tmp 44) rfl f HF32.out rfl ?_
  have NB : Hid (Blk (x1.alloc (.cells (hcs [f]).toArray 33)) x1.heap.size 33 (hcs [f]).toArray) := Blk.new x1 33 (hcs [f]).toArray
  have hb : Below x1.heap.size x1 (x1.alloc (.cells (hcs [f]).toArray 33)) := (Below.refl _ _).alloc (Nat.le_refl _) _
  have PY := hid (PX.out.below hb)
  have Gx2 := PY
  clear hb PX
  refine hQc.out _ _ (fun _ => Gx2) ?_
  clear hQc Qc
  generalize x1.heap.size = g9 at NB ⊢
  generalize x1.alloc (.cells (hcs [f]).toArray 33) = x2 at NB PY Gx2 ⊢
  have PX := PY
  clear PY
  try simp only [Act.put, List.setIfInBounds_toArray, List.set_cons_zero, List.set_cons_succ]
  refine wpAnyL_ready (rs := [12]) (by kernel_rfl) (by simp) ?_
  refine (AllReadyL.cons (o := { dst := some 46, op := _, type := _, pos := _, after := _, guard := _ }) rfl (fun Qc hQc => ?_) AllReadyL.nil)
  rw [if_pos (by rfl)]
  refine wp_app_h1 (.tmp 34) (.tmp 45) rfl w.heap.size v6 (L.take i) rfl PX.out.oh g9 f HF32.out NB.out rfl HLL.out PX.out.bl.size ?_
  intro v7 x3 ho hg _
  have O7 := hid ho
  have I7 := hid (PX.out.oi.grown_h PX.out.oh hg)
  have B7 := hid (PX.out.bl.grown hg PX.out.bl.size (fun k e => (PX.out.oh.lt k e).1))
  clear ho hg NB PX
  refine hQc.out _ _ (unl_no (d := 12) (by rfl) (by kernel_rfl)) ?_
  clear hQc Qc
  try simp only [Act.put, List.setIfInBounds_toArray, List.set_cons_zero, List.set_cons_succ]
  refine wpAnyL_pure (i := 13) (oi := { dst := some 9, op := _, type := _, pos := _, after := _, guard := _ }) (v := ?_) rfl (by kernel_rfl) (by kernel_rfl) (by kernel_rfl) (by rfl) (fun _ _ _ h => h) (Or.inl ⟨by kernel_rfl, ?_⟩) (unl_no (d := 12) (by rfl) (by kernel_rfl)) ?_
  rotate_left
  · (intro w _; go_simp; try with_reducible rfl)
  try simp only [Act.put, List.setIfInBounds_toArray, List.set_cons_zero, List.set_cons_succ]
  refine wpAnyL_done (by kernel_rfl) ?_ _
  try simp only [Act.put, List.setIfInBounds_toArray, List.set_cons_zero, List.set_cons_succ]
  have IC := hid (HB3.out.below B7.out)
  go_wp2_with (first
    | (refine cutL_at rfl (.tmp 48) (.tmp 50) rfl (some ⟨b, o, none⟩) n d k2 rfl rfl HK2N.out ?_)
    | (at_builtin; refine append_h rfl (.tmp 47) (.tmp 51) rfl w.heap.size v7 (L.take i ++ [f]) rfl O7.out _ _ _ (L.drop k2) IC.out rfl HLL3.out B7.out.size ?_; intro v9 w9 ho hg _; have O9 := hid ho; have I9 := hid (I7.out.grown_h O7.out hg); have B9 := hid (B7.out.grown hg B7.out.size (fun k e => (O7.out.lt k e).1)); clear ho hg))
  go_ret2
  exact ⟨v5, v9, rfl, by rw [← HEE.out]; exact I9.out, by rw [← HLE.out]; exact O9.out, B9.out⟩
end Go.Proofs.YtoacjaecfabahaaDoor
