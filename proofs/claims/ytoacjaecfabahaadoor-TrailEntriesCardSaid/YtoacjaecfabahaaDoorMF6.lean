/-
  What is proved here: what the arguments of the statements on ranges hold when they are read. Nothing of the program is walked here.
-/
import Derived.Test.YtoacjaecfabahaaDoorMF1
import Derived.ChangeOld
import Derived.Test.YtoacjaecfabahaaDoorMA2
import Derived.Test.YtoacjaecfabahaaDoorTie
import Derived.Test.YtoacjaecfabahaaDoorCards
import Derived.LaidMore
import Derived.Stop.Joined
import Derived.SevenTiedAt
import Derived.MakeChecks
set_option linter.unusedSimpArgs false
set_option linter.unusedVariables false
namespace Go.Proofs.YtoacjaecfabahaaDoor
open Go.ChangeShapes Go.WideShapes Go.ChangeAt Go.RowKit
set_option linter.unusedVariables false
set_option maxRecDepth 20000

section
variable {H : Type} {enc : TypeId × Value → H} {w : World} {base : Nat} {spare : Nat → Bool} {held : Bool}
theorem fopen_arr {T m : Nat} {fuel : Nat} {cs : List Value} {x : DataW H × List MemPlace} (hu : Tryd.prog.underlying T = some (.array m 5)) (hct : Tryd.prog.cellsOf T = m) (h : DataW.trod enc Tryd.prog w base spare held fuel T cs = some x) : ∃ K : List Int, K.length = m ∧ Bs K ∧ cs = u8s K := by
  obtain ⟨xs, n, _, _, hl, hn, he⟩ := DataW.trod_array hu h
  rw [hct] at hl
  have hc : Tryd.prog.cellsOf 5 = 1 := by kernel_rfl
  have each : ∀ i : Nat, ∃ v : Int, i < m → cs[i]? = some (.int .u8 v) ∧ 0 ≤ v ∧ v < 256 := by
    intro i
    by_cases hi : i < m
    · have h1 := he i hi
      rw [hc, Nat.mul_one, List.getElem?_eq_getElem (by omega : i < xs.length)] at h1
      obtain ⟨v, hv, _, hw⟩ := DataW.trod_int Tryd.underlying5 h1
      have b := bounds_u8 hw
      refine ⟨v, fun _ => ⟨?_, b.1, by omega⟩⟩
      have h2 := congrArg (fun l => l[0]?) hv
      simpa [List.getElem?_take, List.getElem?_drop] using h2
    · exact ⟨0, fun h => absurd h hi⟩
  obtain ⟨F, hF⟩ := Classical.axiomOfChoice each
  refine ⟨(List.range m).map F, by simp, fun v hv => ?_, ?_⟩
  · simp only [List.mem_map, List.mem_range] at hv
    obtain ⟨i, hi, rfl⟩ := hv
    exact (hF i hi).2
  · apply List.ext_getElem?
    intro i
    by_cases hi : i < m
    · rw [(hF i hi).1]
      simp [u8s, hi]
    · rw [List.getElem?_eq_none (by omega), List.getElem?_eq_none (by simp [u8s]; omega)]
theorem open_h32 {fuel : Nat} {cs : List Value} {x : DataW H × List MemPlace} (h : DataW.trod enc Tryd.prog w base spare held fuel 33 cs = some x) : ∃ K, H32 K ∧ cs = u8s K := by
  obtain ⟨K, h1, h2, h3⟩ := fopen_arr Tryd.underlying33 (by kernel_rfl) h
  exact ⟨K, ⟨h1, h2⟩, h3⟩
theorem open_hashes {fuel : Nat} {cs : List Value} {x : DataW H × List MemPlace} (h : DataW.trod enc Tryd.prog w base spare held fuel 22 cs = some x) :
    ∃ A n c L, cs = [.slice A n c] ∧ InH w A n L ∧ n ≤ c := by
  have hc4 : Tryd.prog.cellsOf 33 = 32 := by kernel_rfl
  rcases Deep.open_slice Tryd.underlying22 h with ⟨hcs, _⟩ | ⟨a, len, cap, m, n, D, Pl, hcs, hb, hl, hm, hmm, _, hx⟩
  · exact ⟨none, 0, 0, [], hcs, InH.nil _ _, Nat.le_refl _⟩
  · have each : ∀ i : Nat, ∃ K : List Int, H32 K ∧ (i < len → ∀ j v, (u8s K)[j]? = some v → w.cell? (a.add (i * 32 + j)) = some v) := by
      intro i
      by_cases hi : i < len
      · obtain ⟨cs', h1, h2⟩ := hx i (by rw [hmm]; split <;> omega)
        obtain ⟨K, hK, rfl⟩ := open_h32 h2
        refine ⟨K, hK, fun _ j v hv => ?_⟩
        rw [hc4] at h1
        obtain ⟨hlen, _, hcell⟩ := World.cells?_some h1
        have hj : j < 32 := by
          rcases Nat.lt_or_ge j 32 with h3 | h3
          · exact h3
          · rw [List.getElem?_eq_none (by rw [u8s_length, hK.len]; exact h3)] at hv; cases hv
        have z := hcell j hj
        rw [add_add] at z
        rw [z]
        exact hv
      · exact ⟨List.replicate 32 0, ⟨by simp, fun v hv => by rw [(List.mem_replicate.1 hv).2]; decide⟩, fun h => absurd h hi⟩
    obtain ⟨F, hF⟩ := Classical.axiomOfChoice each
    refine ⟨some a, len, cap, (List.range len).map F, hcs, ⟨by simp, by unfold maxLen at hm; omega, fun f hf => ?_, fun hpos => ?_⟩, hl⟩
    · simp only [List.mem_map, List.mem_range] at hf
      obtain ⟨i, _, rfl⟩ := hf
      exact (hF i).1
    · have hq0 := (hF 0).1
      have hc0 := (hF 0).2 hpos
      obtain ⟨b, o, s⟩ := a
      have hl0 : (u8s (F 0)).length = 32 := by rw [u8s_length, hq0.len]
      have h00 := hc0 0 _ (List.getElem?_eq_getElem (by omega))
      have hs : s = none := by simpa [Addr.add] using World.cell?_spot h00
      subst hs
      refine ⟨b, o, rfl, by have := block_lt_of_cell h00; rwa [add_block] at this, fun i K hK => ?_⟩
      have hi : i < len := by
        rcases Nat.lt_or_ge i len with h3 | h3
        · exact h3
        · rw [List.getElem?_eq_none (by simp; exact h3)] at hK; cases hK
      have e : F i = K := by
        rw [List.getElem?_map, List.getElem?_range hi] at hK
        injection hK
      intro j u hu
      have := (hF i).2 hi j u (by rw [e]; exact hu)
      rw [Addr.add_lit, ← Nat.add_assoc] at this
      exact this
theorem fdrop_cons {α : Type} {cs : List α} {k : Nat} {x : α} (h : (cs.drop k).take 1 = [x]) : cs.drop k = x :: cs.drop (k + 1) := by
  cases hd : cs.drop k with
  | nil => rw [hd] at h; simp at h
  | cons y r =>
    rw [hd] at h
    simp at h
    rw [h, ← List.drop_drop, hd]
    rfl
theorem open_rng {fuel : Nat} {cs : List Value} {x : DataW H × List MemPlace} (h : DataW.trod enc Tryd.prog w base spare held fuel 29 cs = some x) :
    ∃ (a b : Int) (A : Option Addr) (n c : Nat) (L : List (List Int)), cs = [.int .i64 a, .int .i64 b, .slice A n c] ∧ InH w A n L ∧ n ≤ c := by
  obtain ⟨xs, n, _, _, hl, hn, he⟩ := DataW.trod_struct Tryd.underlying29 h
  rw [show Tryd.prog.cellsOf 29 = 3 by kernel_rfl] at hl
  have ci : Tryd.prog.cellsOf 3 = 1 := by kernel_rfl
  have cb : Tryd.prog.cellsOf 22 = 1 := by kernel_rfl
  match xs, hn with
  | [y0, y1, y2], _ =>
    have e0 : DataW.trod enc Tryd.prog w base spare held n 3 ((cs.drop 0).take (Tryd.prog.cellsOf 3)) = some y0 := he 0 _ rfl
    have e1 : DataW.trod enc Tryd.prog w base spare held n 3 ((cs.drop 1).take (Tryd.prog.cellsOf 3)) = some y1 := he 1 _ rfl
    have e2 : DataW.trod enc Tryd.prog w base spare held n 22 ((cs.drop 2).take (Tryd.prog.cellsOf 22)) = some y2 := he 2 _ rfl
    rw [ci] at e0 e1; rw [cb] at e2
    obtain ⟨a, h0, _, w0⟩ := DataW.trod_int Tryd.underlying3 e0
    obtain ⟨b, h1, _, w1⟩ := DataW.trod_int Tryd.underlying3 e1
    obtain ⟨A, m, c, L, h2, hin, hmc⟩ := open_hashes e2
    refine ⟨a, b, A, m, c, L, ?_, hin, hmc⟩
    have d0 := fdrop_cons h0
    have d1 := fdrop_cons h1
    have d2 := fdrop_cons h2
    have d3 : cs.drop (2 + 1) = [] := List.drop_of_length_le (by omega)
    rw [List.drop_zero] at d0
    rw [d0, d1, d2, d3]
theorem fagg_of {r : Reach} {b0 : Nat} {t : TypeId} {v : Value} {d : TypeDesc} (hu : Tryd.prog.underlying t = some d) (hd : d.isRow = true) (h : Value.okWide Tryd.prog w r b0 t v) : ∃ cs, v = .agg cs := by
  unfold Value.okWide at h
  rw [hu] at h
  cases d <;> simp at hd
  all_goals
    obtain ⟨cs, h, _⟩ := h
    exact ⟨cs, h⟩
end
theorem farr_of {cs : Array Value} {X : List Value} (h : cs.toList = X) : cs = X.toArray := by rw [← h]
end Go.Proofs.YtoacjaecfabahaaDoor
/-
  What is proved here: the listed tables of constants, as the condition lays them, hold the document's constants and the library's; and the heap that the door leaves meets the condition.
-/
namespace Go.Proofs.YtoacjaecfabahaaDoor
open Go.ChangeShapes Go.WideShapes Go.ChangeAt Go.RowKit
set_option linter.unusedVariables false
set_option maxRecDepth 20000

noncomputable def laidL1 : List (String × DataW Unit) := [("rolodex/hash.rounds", Rows.laid_rolodex_hash_rounds)]
noncomputable def laidL2 : List (String × DataW Unit) := [("math/bits.deBruijn32tab", Rows.laid_math_bits_deBruijn32tab), ("rolodex/hash.rounds", Rows.laid_rolodex_hash_rounds)]
theorem fgRounds : Tryd.prog.globalNamed "rolodex/hash.rounds" = some 0 := by kernel_rfl
theorem ftRounds : (Tryd.prog.globals[0]?).map (·.type) = some 107 := by kernel_rfl
theorem fgBruijn : Tryd.prog.globalNamed "math/bits.deBruijn32tab" = some 1 := by kernel_rfl
theorem ftBruijn : (Tryd.prog.globals[1]?).map (·.type) = some 32 := by kernel_rfl
theorem flaid_r : (Rows.laid_rolodex_hash_rounds : DataW Unit) = .agg (K64.map fun x => .lit (.int .u32 (u x))) := by kernel_rfl
theorem flaid_b : (Rows.laid_math_bits_deBruijn32tab : DataW Unit) = .agg (Lib.deBruijn32tab.map fun x => .lit (.int .u8 (x : Nat))) := by kernel_rfl
theorem door_met1 (os : Os) (args : Array Value) : laidMetH Tryd.prog laidL1 ((World.doorLaid Tryd.prog 400 os).forCall (fun _ _ => 0) ⟨#[], args, []⟩).memory :=
  laidMetH_of_parts3 (fuel := 8) (laidMet_of_run' 8 (by kernel_rfl) (by kernel_rfl)) (by kernel_rfl) (by kernel_rfl)
theorem door_met2 (os : Os) (args : Array Value) : laidMetH Tryd.prog laidL2 ((World.doorLaid Tryd.prog 400 os).forCall (fun _ _ => 0) ⟨#[], args, []⟩).memory :=
  laidMetH_of_parts3 (fuel := 8) (laidMet_of_run' 8 (by kernel_rfl) (by kernel_rfl)) (by kernel_rfl) (by kernel_rfl)
theorem tab_of {W : World} {cs0 : Array Value} {f0 : Nat} {p0 : List MemPlace} (hv0 : W.var? Tryd.prog "rolodex/hash.rounds" = some cs0) (hd0 : DataW.trod (fun _ => ()) Tryd.prog W 0 (fun _ => true) false f0 107 cs0.toList = some (Rows.laid_rolodex_hash_rounds, p0)) : Tab W := by
  obtain ⟨xs, m1, rfl, hx1, hlen, hn, hel⟩ := DataW.trod_array Tryd.underlying107 hd0
  have c1 : Tryd.prog.cellsOf 94 = 1 := by kernel_rfl
  have c64 : Tryd.prog.cellsOf 107 = 64 := by kernel_rfl
  rw [flaid_r] at hx1
  simp only [Prod.mk.injEq, DataW.agg.injEq] at hx1
  intro j hj
  have hcell := World.var?_cell fgRounds hv0 j
  have hj1 := hel j hj
  rw [c1, Nat.mul_one] at hj1
  have hcl : cs0.size = 64 := by rw [c64] at hlen; simpa using hlen
  have hd : (cs0.toList.drop j).take 1 = [cs0[j]] := by
    rw [List.drop_eq_getElem_cons (by simpa using (show j < cs0.size by omega))]
    simp
  rw [hd, List.getElem?_eq_getElem (by omega)] at hj1
  obtain ⟨k, e1, e2, _⟩ := DataW.trod_int Tryd.underlying94 hj1
  injection e1 with e1
  have hk : (K64.map fun x => (DataW.lit (.int .u32 (u x)) : DataW Unit))[j]? = (xs.map (·.1))[j]? := by rw [hx1.1]
  have hK : j < K64.length := by show j < 64; exact hj
  rw [List.getElem?_map, List.getElem?_map, List.getElem?_eq_getElem hK, List.getElem?_eq_getElem (by omega)] at hk
  simp only [Option.map_some, Option.some.injEq] at hk
  rw [e2] at hk
  have hku : u K64[j] = k := by
    simpa using hk
  rw [hcell, Array.getElem?_eq_getElem (by omega), e1, ← hku, List.getElem?_eq_getElem hK]
  rfl
theorem tabD_of {W : World} {cs0 : Array Value} {f0 : Nat} {p0 : List MemPlace} (hv0 : W.var? Tryd.prog "math/bits.deBruijn32tab" = some cs0) (hd0 : DataW.trod (fun _ => ()) Tryd.prog W 0 (fun _ => true) false f0 32 cs0.toList = some (Rows.laid_math_bits_deBruijn32tab, p0)) : TabD W := by
  obtain ⟨xs, m1, rfl, hx1, hlen, hn, hel⟩ := DataW.trod_array Tryd.underlying32 hd0
  have c1 : Tryd.prog.cellsOf 5 = 1 := by kernel_rfl
  have c64 : Tryd.prog.cellsOf 32 = 32 := by kernel_rfl
  rw [flaid_b] at hx1
  simp only [Prod.mk.injEq, DataW.agg.injEq] at hx1
  intro j hj
  have hj32 : j < 32 := hj
  have hcell := World.var?_cell fgBruijn hv0 j
  have hj1 := hel j hj
  rw [c1, Nat.mul_one] at hj1
  have hcl : cs0.size = 32 := by rw [c64] at hlen; simpa using hlen
  have hd : (cs0.toList.drop j).take 1 = [cs0[j]] := by
    rw [List.drop_eq_getElem_cons (by simpa using (show j < cs0.size by omega))]
    simp
  rw [hd, List.getElem?_eq_getElem (by omega)] at hj1
  obtain ⟨k, e1, e2, _⟩ := DataW.trod_int Tryd.underlying5 hj1
  injection e1 with e1
  have hk : (Lib.deBruijn32tab.map fun x => (DataW.lit (.int .u8 (x : Nat)) : DataW Unit))[j]? = (xs.map (·.1))[j]? := by rw [hx1.1]
  have hK : j < Lib.deBruijn32tab.length := hj
  rw [List.getElem?_map, List.getElem?_map, List.getElem?_eq_getElem hK, List.getElem?_eq_getElem (by omega)] at hk
  simp only [Option.map_some, Option.some.injEq] at hk
  rw [e2] at hk
  have hku : ((Lib.deBruijn32tab[j] : Nat) : Int) = k := by
    simpa using hk
  have h32 : Lib.deBruijn32tab.length = 32 := by decide
  rw [hcell, Array.getElem?_eq_getElem (by omega), e1, ← hku, List.getD_eq_getElem?_getD, List.getElem?_eq_getElem hK]
  rfl
theorem of_laid1 {W : World} (h : laidMetH Tryd.prog laidL1 W) : Tab W := by
  rw [MakeChecks.laidMetH_plain _ _ _ (by kernel_rfl)] at h
  obtain ⟨ps, ⟨g0, t0, cs0, f0, p0, q0, hg0, ht0, hv0, hd0, _⟩, _, _⟩ := h
  obtain rfl := Option.some.inj (fgRounds.symm.trans hg0)
  obtain rfl := Option.some.inj (ftRounds.symm.trans ht0)
  exact tab_of hv0 hd0
theorem of_laid2 {W : World} (h : laidMetH Tryd.prog laidL2 W) : Tab W ∧ TabD W := by
  rw [MakeChecks.laidMetH_plain _ _ _ (by kernel_rfl)] at h
  obtain ⟨ps, ⟨g0, t0, cs0, f0, p0, q0, hg0, ht0, hv0, hd0, ⟨g1, t1, cs1, f1, p1, q1, hg1, ht1, hv1, hd1, _⟩, _⟩, _, _⟩ := h
  obtain rfl := Option.some.inj (fgBruijn.symm.trans hg0)
  obtain rfl := Option.some.inj (ftBruijn.symm.trans ht0)
  obtain rfl := Option.some.inj (fgRounds.symm.trans hg1)
  obtain rfl := Option.some.inj (ftRounds.symm.trans ht1)
  exact ⟨tab_of hv1 hd1, tabD_of hv0 hd0⟩
end Go.Proofs.YtoacjaecfabahaaDoor
