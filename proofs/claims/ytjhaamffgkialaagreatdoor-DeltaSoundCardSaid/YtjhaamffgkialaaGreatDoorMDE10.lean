/-
  What is proved here: a program that does something answers so.
-/
import Derived.Test.YtjhaamffgkialaaGreatDoorMDE4
import Derived.Test.YtjhaamffgkialaaGreatDoorMX19
import Derived.Deep.RegionLaw
set_option linter.unusedSimpArgs false
set_option linter.unusedVariables false
namespace Go.Proofs.YtjhaamffgkialaaGreatDoor
open Go.ChangeShapes Go.WideShapes Go.ChangeAt Go.RowKit Go.Shelf
set_option linter.unusedVariables false
set_option linter.unusedSimpArgs false
set_option maxRecDepth 20000

theorem info_yp : (Tryz.prog.info? 43).map (fun i => (i.zero, i.size, i.bytes)) = some (some (.agg (kvc (z32, z32)).toArray), 64, 64) := by kernel_rfl
theorem yp_len {q : KV} (h : Ky q.1 ∧ Ky q.2) : (kvc q).length = 64 := by unfold kvc; rw [List.length_append, u8s_length, u8s_length, h.1.len, h.2.len]
theorem built_yp : Tryz.prog.built 43 [(0, .agg (kc (k1 1)))] = some (kvc (k1 1, z32)).toArray := by kernel_rfl
theorem wpList_yp_one {ops : Array Oper} {rest : List Oper} {o : Oper} {a : Act} {w : World} {Q : Exit → Act → World → Prop} (hgd : o.guard = none) (x : Operand) (ho : o.op = .buildSlice 22 1 #[(0, x)]) (q : KV) (hq : Ky q.1 ∧ Ky q.2) (hx : a.eval x = .agg (kvc q).toArray)
    (h : wpList Tryz.prog ops Q rest (a.put o.dst (.slice (some ⟨w.heap.size, 0, none⟩) 1 1)) (w.alloc (.cells (kvc q).toArray 43))) : wpList Tryz.prog ops Q (o :: rest) a w := by
  refine wpList_plain hgd fun _ hK => ?_
  obtain ⟨i0, hi, hz0, hz1, hz2⟩ := info_parts info_yp
  have hl := yp_len hq
  refine wp_buildSlice 22 43 1 #[(0, x)] ho (kvc q).toArray i0 _ Tryz.underlying22 hi hz0 (by rw [hz1]; decide) (by rw [hz1]; decide) ?_ (hK _ _ h)
  have hp : (#[(0, x)].map fun ((i, x) : Nat × Operand) => (i, a.eval x)).toList = [(0, Value.agg (kvc q).toArray)] := by simp [hx]
  rw [hp, hz1]
  have h := Great.fill_whole (s := 64) (by decide) [Value.agg (kvc q).toArray] ((Array.range (1 * 64)).map ((Value.agg (kvc (z32, z32)).toArray).cells[· % (Value.agg (kvc (z32, z32)).toArray).cells.size]!)) (fun v hv => by
    rw [List.mem_singleton.1 hv]; exact hl) (by simp)
  simp only [List.flatMap_cons, List.flatMap_nil, List.append_nil] at h
  exact h
theorem all_one (q : KV) : allL [q] = [q] := rfl
theorem tree_one {T : Option Tr} {q : KV} (h : lstO T = [q]) : T = some (.leaf q.1 q.2) := by
  cases T with
  | none => cases h
  | some t =>
    cases t with
    | leaf k v =>
      have h' : [(k, v)] = [q] := h
      injection h' with h1
      rw [← h1]
    | inner n b l r =>
      have h' : l.list ++ r.list = [q] := h
      have := congrArg List.length h'
      rw [List.length_append] at this
      have := l.pos; have := r.pos
      simp at *
      omega
theorem sort_one (i : Nat) : sortI [i] = [(i : Int)] := by
  have h := sortI_len [i]
  match hs : sortI [i], h with
  | [z], _ =>
    obtain ⟨k, hk, e⟩ := sortI_mem (L := [i]) (z := z) (by rw [hs]; simp)
    rw [List.mem_singleton.1 hk] at e
    rw [e]
set_option maxHeartbeats 4000000 in
theorem dawake_any (w : World) (ht : Tab w) : Calls Tryz.prog 4 #[] w fun e w' => e = .returned (.bool true) ∧ Below w.heap.size w w' := by
  have hb1 := built_k1 1
  have hb2 := built_yp
  have HKK : Hid (Ky (k1 1)) := k1_ky 1 (by decide)
  have HQ : Hid (Ky (k1 1) ∧ Ky z32) := ⟨HKK.out, ky_zero⟩
  obtain ⟨K, hK⟩ : ∃ K, K = k1 1 := ⟨_, rfl⟩
  rw [← hK] at hb1 hb2 HQ
  clear hK HKK
  obtain ⟨H1, hH1⟩ : ∃ H1, H1 = kc K := ⟨_, rfl⟩
  rw [← hH1] at hb1 hb2
  have B1 : Hid (Below w.heap.size w (w.alloc (.cells (kvc (K, z32)).toArray 43))) := (Below.refl _ _).alloc (Nat.le_refl _) _
  have HI : Hid (InP (w.alloc (.cells (kvc (K, z32)).toArray 43)) (some ⟨w.heap.size, 0, none⟩) 1 [(K, z32)]) := by
    have hB := Blk.new w 43 (kvc (K, z32)).toArray
    refine ⟨rfl, by decide, fun q hq => by rw [List.mem_singleton.1 hq]; exact HQ.out, fun _ => ⟨_, _, rfl, hB.lt, fun i q hq => ?_⟩⟩
    cases i with
    | zero =>
      injection hq with hq
      subst hq
      intro j v hv
      rw [Nat.zero_mul, Nat.add_zero, hB.cell, Nat.zero_add, List.getElem?_toArray]; exact hv
    | succ n => simp at hq
  have CB := hid (xBuilt_any (c0 := 1) HI.out (by decide) (ht.below B1.out))
  have HT := hid (ht.below B1.out)
  clear ht hH1 HI
  go_enter Tryz.func4, Tryz.ntmps4
  go_upto_region 2 with (first
    | (refine wpList_buildC rfl 25 _ rfl H1 ?hc ?_; case hc => (simp only [List.map_toArray, List.map_cons, List.map_nil, Act.eval]; exact hb1))
    | (refine wpList_buildC rfl 43 _ rfl (kvc (K, z32)).toArray ?hc ?_; case hc => (simp only [List.map_toArray, List.map_cons, List.map_nil, Act.eval]; exact hb2))
    | (refine wpList_yp_one rfl (.tmp 7) rfl (K, z32) HQ.out rfl ?_)
    | (go_at_call 5; refine CB.out.mono ?_; rintro e w2 ⟨f, ti, g, b, N, A, c, tv, T, rfl, bt⟩; have BT := hid bt; clear bt))
  have HL : lstO T = [(K, z32)] := by rw [BT.out.l]; exact all_one _
  have HTT := tree_one HL
  subst HTT
  obtain ⟨i, hi, hr, hok⟩ := BT.out.t
  have hi' : ti = (i : Int) := hi
  subst hi'
  have en : numO N 0 ((i : Int), some (.leaf K z32)) = [i] := by
    show numT N 0 _ _ = _
    unfold numT
    rw [Int.toNat_natCast, if_neg (by omega)]
  have er : rowsS N (sortI [i]) = [rwL K z32] := by
    rw [sort_one]
    show [rowN N ((i : Int)).toNat] = _
    rw [Int.toNat_natCast]
    have hq : N[i]? = some (ndL K z32 (hLf K z32)) := hr
    unfold rowN; rw [hq]; rfl
  have cs := since_any (sz := 0) BT.out.fo BT.out.fr BT.out.t (Int.le_refl _) (by show 1 < 90000; decide) (by rw [en]; exact (by decide : 1 < 90000)) (HT.out.below BT.out.bl)
  rw [en, er] at cs
  have CS := hid cs
  have B2 := hid (B1.out.trans (BT.out.bl.mono B1.out.size))
  clear cs en er hr hok hi HL BT CB HT B1 hb1 hb2
  unfold SnA at CS
  go_upto_region 3 with (go_at_call 12; refine CS.out.mono ?_; rintro e w3 ⟨v, rfl, ho, hb⟩; have HO := hid ho; have B3 := hid (B2.out.trans (hb.mono B2.out.size)); clear ho hb)
  obtain ⟨A3, c3, hv⟩ := HO.out.len
  have hv' : v = .slice A3 1 c3 := hv
  subst hv'
  have row := HO.out.row
  rcases row.2 with ⟨_, h0⟩ | ⟨g3, cap, cur, hv, _⟩
  · exact absurd h0 (by simp)
  injection hv with hA hn3 hc3
  subst hA
  clear hn3 hc3
  have cl : w3.cell? ⟨g3, 0, none⟩ = some (.bool true) := by
    have h2 := row.cells (g := g3) rfl 0 (.bool true) rfl
    rw [Addr.add_lit] at h2
    exact h2
  clear row hv HO CS
  go_wp2
  go_ret
  exact ⟨rfl, B3.out⟩
end Go.Proofs.YtjhaamffgkialaaGreatDoor
