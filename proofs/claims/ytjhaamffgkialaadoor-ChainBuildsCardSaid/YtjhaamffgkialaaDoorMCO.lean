/-
  What is proved here: what the arguments of the statements on chains hold when they are read. Nothing of the program is walked here.
-/
import Derived.Test.YtjhaamffgkialaaDoorMC1
import Derived.Test.YtjhaamffgkialaaDoorMA2
import Derived.ChangeOld
set_option linter.unusedSimpArgs false
set_option linter.unusedVariables false
namespace Go.Proofs.YtjhaamffgkialaaDoor
open Go.ChangeShapes Go.WideShapes Go.ChangeAt Go.RowKit
set_option linter.unusedVariables false
set_option maxRecDepth 20000

section
variable {H : Type} {enc : TypeId × Value → H} {w : World} {base : Nat} {spare : Nat → Bool} {held : Bool}
theorem open_hh {fuel : Nat} {cs : List Value} {x : DataW H × List MemPlace} (h : DataW.trod enc Tryd.prog w base spare held fuel 26 cs = some x) : ∃ K, Hh K ∧ cs = u8s K := by
  obtain ⟨xs, m, _, _, hl, hn, he⟩ := DataW.trod_array Tryd.underlying26 h
  rw [show Tryd.prog.cellsOf 26 = 32 by kernel_rfl] at hl
  have hc : Tryd.prog.cellsOf 5 = 1 := by kernel_rfl
  have each : ∀ i : Nat, ∃ v : Int, i < 32 → cs[i]? = some (.int .u8 v) ∧ 0 ≤ v ∧ v < 256 := by
    intro i
    by_cases hi : i < 32
    · have h1 := he i hi
      rw [hc, Nat.mul_one, List.getElem?_eq_getElem (by omega : i < xs.length)] at h1
      obtain ⟨v, hv, _, hw⟩ := DataW.trod_int Tryd.underlying5 h1
      have b := bounds_u8 hw
      refine ⟨v, fun _ => ⟨?_, b.1, by omega⟩⟩
      have h2 := congrArg (fun l => l[0]?) hv
      simpa [List.getElem?_take, List.getElem?_drop] using h2
    · exact ⟨0, fun h => absurd h hi⟩
  obtain ⟨F, hF⟩ := Classical.axiomOfChoice each
  refine ⟨(List.range 32).map F, ⟨by simp, fun v hv => ?_⟩, ?_⟩
  · simp only [List.mem_map, List.mem_range] at hv
    obtain ⟨i, hi, rfl⟩ := hv
    exact (hF i hi).2
  · apply List.ext_getElem?
    intro i
    by_cases hi : i < 32
    · rw [(hF i hi).1]
      simp [u8s, hi]
    · rw [List.getElem?_eq_none (by omega), List.getElem?_eq_none (by simp [u8s]; omega)]
theorem carr_of {cs : Array Value} {K : List Int} (h : cs.toList = u8s K) : cs = (u8s K).toArray := by rw [← h]
theorem cdrop_cons {α : Type} {cs : List α} {k : Nat} {x : α} (h : (cs.drop k).take 1 = [x]) : cs.drop k = x :: cs.drop (k + 1) := by
  cases hd : cs.drop k with
  | nil => rw [hd] at h; simp at h
  | cons y r =>
    rw [hd] at h
    simp at h
    rw [h, ← List.drop_drop, hd]
    rfl
theorem cdrop_app {α : Type} {cs X : List α} {k n : Nat} (h : (cs.drop k).take n = X) (hl : X.length = n) : cs.drop k = X ++ cs.drop (k + n) := by
  rw [← List.take_append_drop n (cs.drop k), h, List.drop_drop]
theorem open_cver {fuel : Nat} {cs : List Value} {x : DataW H × List MemPlace} (h : DataW.trod enc Tryd.prog w base spare held fuel 69 cs = some x) : ∃ V q, VArg w V q ∧ cs = vcs V q := by
  obtain ⟨xs, n, _, _, hl, hn, he⟩ := DataW.trod_struct Tryd.underlying69 h
  rw [show Tryd.prog.cellsOf 69 = 67 by kernel_rfl] at hl
  have ci : Tryd.prog.cellsOf 3 = 1 := by kernel_rfl
  have ch : Tryd.prog.cellsOf 26 = 32 := by kernel_rfl
  have cb : Tryd.prog.cellsOf 23 = 1 := by kernel_rfl
  match xs, hn with
  | [y0, y1, y2, y3, y4], _ =>
    have e0 : DataW.trod enc Tryd.prog w base spare held n 3 ((cs.drop 0).take (Tryd.prog.cellsOf 3)) = some y0 := he 0 _ rfl
    have e1 : DataW.trod enc Tryd.prog w base spare held n 3 ((cs.drop 1).take (Tryd.prog.cellsOf 3)) = some y1 := he 1 _ rfl
    have e2 : DataW.trod enc Tryd.prog w base spare held n 26 ((cs.drop 2).take (Tryd.prog.cellsOf 26)) = some y2 := he 2 _ rfl
    have e3 : DataW.trod enc Tryd.prog w base spare held n 26 ((cs.drop 34).take (Tryd.prog.cellsOf 26)) = some y3 := he 3 _ rfl
    have e4 : DataW.trod enc Tryd.prog w base spare held n 23 ((cs.drop 66).take (Tryd.prog.cellsOf 23)) = some y4 := he 4 _ rfl
    rw [ci] at e0 e1; rw [ch] at e2 e3; rw [cb] at e4
    obtain ⟨a, h0, _, w0⟩ := DataW.trod_int Tryd.underlying3 e0
    obtain ⟨b, h1, _, w1⟩ := DataW.trod_int Tryd.underlying3 e1
    obtain ⟨s, hs, h2⟩ := open_hh e2
    obtain ⟨b2, hb, h3⟩ := open_hh e3
    obtain ⟨B, m, d, v, h4, hin, hmd⟩ := open_bytes e4
    obtain ⟨hv1, hv2, hv3, hv4⟩ := hin
    have b0 := bounds_i64 w0
    have b1 := bounds_i64 w1
    refine ⟨.slice B m d, ⟨a, b, s, b2, v⟩, ⟨⟨⟨b0.1, by show a ≤ _; omega⟩, ⟨b1.1, by show b ≤ _; omega⟩, hs, hb, hv3⟩, B, d, by rw [hv1], by show v.length ≤ d; omega, hv4⟩, ?_⟩
    have d0 := cdrop_cons h0
    have d1 := cdrop_cons h1
    have d2 := cdrop_app h2 (by rw [u8s_length, hs.len])
    have d3 := cdrop_app h3 (by rw [u8s_length, hb.len])
    have d4 := cdrop_cons h4
    have d5 : cs.drop (66 + 1) = [] := List.drop_of_length_le (by omega)
    rw [List.drop_zero] at d0
    rw [d0, d1, d2, d3, d4, d5]
    rfl
theorem open_cvers {fuel : Nat} {cs : List Value} {x : DataW H × List MemPlace} (h : DataW.trod enc Tryd.prog w base spare held fuel 81 cs = some x) :
    ∃ A n c L, cs = [.slice A n c] ∧ InV w A n L ∧ n ≤ c := by
  have hc4 : Tryd.prog.cellsOf 69 = 67 := by kernel_rfl
  rcases Deep.open_slice Tryd.underlying81 h with ⟨hcs, _⟩ | ⟨a, len, cap, m, n, D, Pl, hcs, hb, hl, hm, hmm, _, hx⟩
  · exact ⟨none, 0, 0, [], hcs, InV.nil _ _, Nat.le_refl _⟩
  · have each : ∀ i : Nat, ∃ q : Vs, i < len → ∃ V, VArg w V q ∧ ∀ j v, (vcs V q)[j]? = some v → w.cell? (a.add (i * 67 + j)) = some v := by
      intro i
      by_cases hi : i < len
      · obtain ⟨cs', h1, h2⟩ := hx i (by rw [hmm]; split <;> omega)
        obtain ⟨V, q, hq, rfl⟩ := open_cver h2
        refine ⟨q, fun _ => ⟨V, hq, fun j v hv => ?_⟩⟩
        rw [hc4] at h1
        obtain ⟨hlen, _, hcell⟩ := World.cells?_some h1
        have hj : j < 67 := by
          rcases Nat.lt_or_ge j 67 with h3 | h3
          · exact h3
          · rw [List.getElem?_eq_none (by rw [vcs_length V hq.ok]; exact h3)] at hv; cases hv
        have z := hcell j hj
        rw [add_add] at z
        rw [z]
        exact hv
      · exact ⟨vZ, fun h => absurd h hi⟩
    obtain ⟨F, hF⟩ := Classical.axiomOfChoice each
    refine ⟨some a, len, cap, (List.range len).map F, hcs, ⟨by simp, by unfold maxLen at hm; omega, fun hpos => ?_⟩, hl⟩
    obtain ⟨V0, hq0, hc0⟩ := hF 0 hpos
    obtain ⟨b, o, s⟩ := a
    have hl0 := vcs_length V0 hq0.ok
    have h00 := hc0 0 _ (List.getElem?_eq_getElem (by omega))
    have hs : s = none := by simpa [Addr.add] using World.cell?_spot h00
    subst hs
    refine ⟨b, o, rfl, by have := block_lt_of_cell h00; rwa [add_block] at this, fun i q hq => ?_⟩
    have hi : i < len := by
      rcases Nat.lt_or_ge i len with h3 | h3
      · exact h3
      · rw [List.getElem?_eq_none (by simp; exact h3)] at hq; cases hq
    have e : F i = q := by
      rw [List.getElem?_map, List.getElem?_range hi] at hq
      injection hq
    obtain ⟨V, hv, hc⟩ := hF i hi
    rw [e] at hv hc
    refine ⟨V, fun j u hu => ?_, hv⟩
    have := hc j u hu
    rw [Addr.add_lit, ← Nat.add_assoc] at this
    exact this
/-- what a chain is made longer by -/
structure Gw where
  s : List Int
  e : Int
  v : List Int
def gcs (V : Value) (g : Gw) : List Value := u8s g.s ++ [.int .i64 g.e, V]
structure GArg (w : World) (V : Value) (g : Gw) : Prop where
  s : Hh g.s
  e : I64 g.e
  v : Bs g.v
  val : ∃ B d, V = .slice B g.v.length d ∧ g.v.length ≤ d ∧ Rp w none B g.v
theorem GArg.below {w w' : World} {V : Value} {g : Gw} (h : GArg w V g) (hb : Below w.heap.size w w') : GArg w' V g := by
  obtain ⟨a, b, c, B, d, e, hd, hr⟩ := h
  exact ⟨a, b, c, B, d, e, hd, hr.belowN hb⟩
theorem gcs_length (V : Value) {g : Gw} (h : Hh g.s) : (gcs V g).length = 34 := by simp [gcs, u8s_length, h.len]
theorem open_grown {fuel : Nat} {cs : List Value} {x : DataW H × List MemPlace} (h : DataW.trod enc Tryd.prog w base spare held fuel 71 cs = some x) : ∃ V g, GArg w V g ∧ cs = gcs V g := by
  obtain ⟨xs, n, _, _, hl, hn, he⟩ := DataW.trod_struct Tryd.underlying71 h
  rw [show Tryd.prog.cellsOf 71 = 34 by kernel_rfl] at hl
  have ci : Tryd.prog.cellsOf 3 = 1 := by kernel_rfl
  have ch : Tryd.prog.cellsOf 26 = 32 := by kernel_rfl
  have cb : Tryd.prog.cellsOf 23 = 1 := by kernel_rfl
  match xs, hn with
  | [y0, y1, y2], _ =>
    have e0 : DataW.trod enc Tryd.prog w base spare held n 26 ((cs.drop 0).take (Tryd.prog.cellsOf 26)) = some y0 := he 0 _ rfl
    have e1 : DataW.trod enc Tryd.prog w base spare held n 3 ((cs.drop 32).take (Tryd.prog.cellsOf 3)) = some y1 := he 1 _ rfl
    have e2 : DataW.trod enc Tryd.prog w base spare held n 23 ((cs.drop 33).take (Tryd.prog.cellsOf 23)) = some y2 := he 2 _ rfl
    rw [ci] at e1; rw [ch] at e0; rw [cb] at e2
    obtain ⟨s, hs, h0⟩ := open_hh e0
    obtain ⟨a, h1, _, w0⟩ := DataW.trod_int Tryd.underlying3 e1
    obtain ⟨B, m, d, v, h2, hin, hmd⟩ := open_bytes e2
    obtain ⟨hv1, hv2, hv3, hv4⟩ := hin
    have b0 := bounds_i64 w0
    refine ⟨.slice B m d, ⟨s, a, v⟩, ⟨hs, ⟨b0.1, by show a ≤ _; omega⟩, hv3, B, d, by rw [hv1], by show v.length ≤ d; omega, hv4⟩, ?_⟩
    have d0 := cdrop_app h0 (by rw [u8s_length, hs.len])
    have d1 := cdrop_cons h1
    have d2 := cdrop_cons h2
    have d3 : cs.drop (33 + 1) = [] := List.drop_of_length_le (by omega)
    rw [List.drop_zero, Nat.zero_add] at d0
    rw [d0, d1, d2, d3]
    rfl
/-- a list of what chains are made longer by -/
structure InG (w : World) (A : Option Addr) (n : Nat) (L : List Gw) : Prop where
  len : L.length = n
  max : n ≤ 9223372036854775807
  at' : 0 < n → ∃ b o, A = some ⟨b, o, none⟩ ∧ b < w.heap.size ∧ ∀ (i : Nat) (q : Gw), L[i]? = some q → ∃ V, w.rangeAt b (o + i * 34) (gcs V q) ∧ GArg w V q
theorem open_growns {fuel : Nat} {cs : List Value} {x : DataW H × List MemPlace} (h : DataW.trod enc Tryd.prog w base spare held fuel 99 cs = some x) :
    ∃ A n c L, cs = [.slice A n c] ∧ InG w A n L := by
  have hc4 : Tryd.prog.cellsOf 71 = 34 := by kernel_rfl
  rcases Deep.open_slice Tryd.underlying99 h with ⟨hcs, _⟩ | ⟨a, len, cap, m, n, D, Pl, hcs, hb, hl, hm, hmm, _, hx⟩
  · exact ⟨none, 0, 0, [], hcs, ⟨rfl, by omega, fun h => by omega⟩⟩
  · have each : ∀ i : Nat, ∃ q : Gw, i < len → ∃ V, GArg w V q ∧ ∀ j v, (gcs V q)[j]? = some v → w.cell? (a.add (i * 34 + j)) = some v := by
      intro i
      by_cases hi : i < len
      · obtain ⟨cs', h1, h2⟩ := hx i (by rw [hmm]; split <;> omega)
        obtain ⟨V, q, hq, rfl⟩ := open_grown h2
        refine ⟨q, fun _ => ⟨V, hq, fun j v hv => ?_⟩⟩
        rw [hc4] at h1
        obtain ⟨hlen, _, hcell⟩ := World.cells?_some h1
        have hj : j < 34 := by
          rcases Nat.lt_or_ge j 34 with h3 | h3
          · exact h3
          · rw [List.getElem?_eq_none (by rw [gcs_length V hq.s]; exact h3)] at hv; cases hv
        have z := hcell j hj
        rw [add_add] at z
        rw [z]
        exact hv
      · exact ⟨⟨[], 0, []⟩, fun h => absurd h hi⟩
    obtain ⟨F, hF⟩ := Classical.axiomOfChoice each
    refine ⟨some a, len, cap, (List.range len).map F, hcs, ⟨by simp, by unfold maxLen at hm; omega, fun hpos => ?_⟩⟩
    obtain ⟨V0, hq0, hc0⟩ := hF 0 hpos
    obtain ⟨b, o, s⟩ := a
    have hl0 := gcs_length V0 hq0.s
    have h00 := hc0 0 _ (List.getElem?_eq_getElem (by omega))
    have hs : s = none := by simpa [Addr.add] using World.cell?_spot h00
    subst hs
    refine ⟨b, o, rfl, by have := block_lt_of_cell h00; rwa [add_block] at this, fun i q hq => ?_⟩
    have hi : i < len := by
      rcases Nat.lt_or_ge i len with h3 | h3
      · exact h3
      · rw [List.getElem?_eq_none (by simp; exact h3)] at hq; cases hq
    have e : F i = q := by
      rw [List.getElem?_map, List.getElem?_range hi] at hq
      injection hq
    obtain ⟨V, hv, hc⟩ := hF i hi
    rw [e] at hv hc
    refine ⟨V, fun j u hu => ?_, hv⟩
    have := hc j u hu
    rw [Addr.add_lit, ← Nat.add_assoc] at this
    exact this
theorem cagg_of {r : Reach} {b0 : Nat} {t : TypeId} {v : Value} {d : TypeDesc} (hu : Tryd.prog.underlying t = some d) (hd : d.isRow = true) (h : Value.okWide Tryd.prog w r b0 t v) : ∃ cs, v = .agg cs := by
  unfold Value.okWide at h
  rw [hu] at h
  cases d <;> simp at hd
  all_goals
    obtain ⟨cs, h, _⟩ := h
    exact ⟨cs, h⟩
end
theorem ver_of {cs : Array Value} {V : Value} {q : Vs} (h : cs.toList = vcs V q) : cs = (vcs V q).toArray := by rw [← h]
theorem grown_of {cs : Array Value} {V : Value} {q : Gw} (h : cs.toList = gcs V q) : cs = (gcs V q).toArray := by rw [← h]
end Go.Proofs.YtjhaamffgkialaaDoor
