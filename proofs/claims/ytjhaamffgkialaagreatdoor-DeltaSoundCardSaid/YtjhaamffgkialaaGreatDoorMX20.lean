/-
  What is proved here: the fixed question that all statements of the layer ask first.
-/
import Derived.Test.YtjhaamffgkialaaGreatDoorMX14
import Derived.Test.YtjhaamffgkialaaGreatDoorMP1
import Derived.Test.YtjhaamffgkialaaGreatDoorMA2
import Derived.ChangeOld
import Derived.Test.YtjhaamffgkialaaGreatDoorMX1
set_option linter.unusedSimpArgs false
set_option linter.unusedVariables false
namespace Go.Proofs.YtjhaamffgkialaaGreatDoor
open Go.ChangeShapes Go.WideShapes Go.ChangeAt Go.RowKit
set_option linter.unusedVariables false
set_option linter.unusedSimpArgs false
set_option maxRecDepth 20000

def k1 (x : Int) : List Int := x :: List.replicate 31 0
theorem k1_ky (x : Int) (h : 0 ≤ x ∧ x < 256) : Ky (k1 x) := ⟨rfl, fun v hv => by
  rcases List.mem_cons.1 hv with rfl | hv
  · exact h
  · rw [List.eq_of_mem_replicate hv]; decide⟩
theorem built_k1 (x : Int) : Tryz.prog.built 25 [(0, .int .u8 x)] = some (kc (k1 x)) := by kernel_rfl
/-- a new forest -/
theorem fo_new {w : World} {f : Nat} (h : Blk w f 53 #[.slice none 0 0, .pointer none]) : Fo w f f f [] none 0 (.pointer none) :=
  ⟨h, ⟨rfl, .inl ⟨rfl, rfl⟩⟩, .inl ⟨rfl, rfl, rfl, rfl, rfl, rfl⟩, fun q hq => by simp at hq, by simp, ⟨by simp, by decide⟩⟩
theorem fr_new : FrOk hLf hIn [] := FrOk.nil hLf hIn
theorem built_forest : Tryz.prog.built 53 [] = some #[.slice none 0 0, .pointer none] := by kernel_rfl
end Go.Proofs.YtjhaamffgkialaaGreatDoor
/-
  What is proved here: all nodes have the text that the chapter says: the walk of the statement.
-/
namespace Go.Proofs.YtjhaamffgkialaaGreatDoor
open Go.ChangeShapes Go.WideShapes Go.ChangeAt Go.RowKit
set_option linter.unusedVariables false
set_option linter.unusedSimpArgs false
set_option maxRecDepth 20000

theorem exec_build {P : Program} {o : Oper} {a : Act} (t : TypeId) (parts : Array (Nat × Operand)) (ho : o.op = .build t parts) (cells : Array Value) (hb : P.built t (parts.map fun (i, x) => (i, a.eval x)).toList = some cells) (w : World) : (execOp a.eval o).run P w = .ok (.value (.agg cells)) w := by
  unfold execOp
  simp only [ho, Sem.run_bind, run_build w t _ cells hb, Result.andThen_ok]
  rfl
theorem info_pair : (Tryz.prog.info? 43).map (fun i => (i.zero, i.size, i.bytes)) = some (some (.agg (kvc (z32, z32)).toArray), 64, 64) := by kernel_rfl
theorem pair_places : ∃ fields, Tryz.prog.underlying 43 = some (.struct fields) ∧ fields.toList.mapM (fun f => (Tryz.prog.info? f.type).map fun i => (f.offset, i.size)) = some [(0, 32), (32, 32)] := ⟨_, Tryz.underlying43, by kernel_rfl⟩
theorem kvc_len {q : KV} (h1 : Ky q.1) (h2 : Ky q.2) : (kvc q).length = 64 := by unfold kvc; rw [List.length_append, u8s_length, u8s_length, h1.len, h2.len]
theorem pair_built {k v : List Int} (hk : Ky k) (hv : Ky v) : Tryz.prog.built 43 [(0, .agg (kc k)), (1, .agg (kc v))] = some (kvc (k, v)).toArray := by
  obtain ⟨i0, hi, hz0, hz1, hz2⟩ := info_parts info_pair
  obtain ⟨fields, hu, hpl⟩ := pair_places
  unfold Program.built
  rw [hi, hu]
  simp only [hz0, hpl]
  have e3 : (Value.agg (kvc (z32, z32)).toArray).cells = (kvc (z32, z32)).toArray := rfl
  have sz : (kvc (z32, z32)).toArray.size = 64 := rfl
  rw [e3, fill_step (v := .agg (kc k)) (off := 0) (size := 32) rfl (kc_size hk) (by simp only [putRow_len, sz]; decide), fill_step (v := .agg (kc v)) (off := 32) (size := 32) rfl (kc_size hv) (by simp only [putRow_len, sz]; decide), fill_end]
  have c1 : (Value.agg (kc k)).cells.toList = u8s k := rfl
  have c2 : (Value.agg (kc v)).cells.toList = u8s v := rfl
  rw [c1, c2]
  have p1 : putRow (kvc (z32, z32)).toArray 0 (u8s k) = (u8s k ++ u8s z32).toArray := putRow_mid (A := []) (M := u8s z32) (M' := u8s k) (C := u8s z32) rfl (by rw [u8s_length, u8s_length, hk.len]; rfl)
  have p2 : putRow (u8s k ++ (u8s z32 ++ [])).toArray 32 (u8s v) = (u8s k ++ (u8s v ++ [])).toArray := putRow_mid (A := u8s k) (M := u8s z32) (by rw [u8s_length, hk.len]) (by rw [u8s_length, u8s_length, hv.len]; rfl)
  rw [List.append_nil, List.append_nil] at p2
  rw [p1, p2]
  rfl
end Go.Proofs.YtjhaamffgkialaaGreatDoor
/-
  What is proved here: what the arguments of the statements on prefixes hold when they are read: a key, a beginning.
-/
namespace Go.Proofs.YtjhaamffgkialaaGreatDoor
open Go.ChangeShapes Go.WideShapes Go.ChangeAt Go.RowKit
set_option linter.unusedVariables false
set_option maxRecDepth 20000

section
variable {H : Type} {enc : TypeId × Value → H} {w : World} {base : Nat} {spare : Nat → Bool} {held : Bool}
theorem open_key {fuel : Nat} {cs : List Value} {x : DataW H × List MemPlace} (h : DataW.trod enc Tryz.prog w base spare held fuel 25 cs = some x) : ∃ K, Ky K ∧ cs = u8s K := by
  obtain ⟨xs, m, _, _, hl, hn, he⟩ := DataW.trod_array Tryz.underlying25 h
  rw [show Tryz.prog.cellsOf 25 = 32 by kernel_rfl] at hl
  have hc : Tryz.prog.cellsOf 5 = 1 := by kernel_rfl
  have each : ∀ i : Nat, ∃ v : Int, i < 32 → cs[i]? = some (.int .u8 v) ∧ 0 ≤ v ∧ v < 256 := by
    intro i
    by_cases hi : i < 32
    · have h1 := he i hi
      rw [hc, Nat.mul_one, List.getElem?_eq_getElem (by omega : i < xs.length)] at h1
      obtain ⟨v, hv, _, hw⟩ := DataW.trod_int Tryz.underlying5 h1
      have b := bounds_u8 hw
      refine ⟨v, fun _ => ⟨?_, b.1, by omega⟩⟩
      have h2 := congrArg (fun l => l[0]?) hv
      simpa [List.getElem?_take, List.getElem?_drop] using h2
    · exact ⟨0, fun h => absurd h hi⟩
  obtain ⟨F, hF⟩ := Classical.axiomOfChoice each
  refine ⟨(List.range 32).map F, ⟨by simp, fun v hv => ?_⟩, ?_⟩
  · simp only [List.mem_map, List.mem_range] at hv
    obtain ⟨i, hi, rfl⟩ := hv
    exact (hF i hi).2
  · apply List.ext_getElem?
    intro i
    by_cases hi : i < 32
    · rw [(hF i hi).1]
      simp [u8s, hi]
    · rw [List.getElem?_eq_none (by omega), List.getElem?_eq_none (by simp [u8s]; omega)]
theorem open_pre {fuel : Nat} {cs : List Value} {x : DataW H × List MemPlace} (h : DataW.trod enc Tryz.prog w base spare held fuel 47 cs = some x) : ∃ l B, Ky B ∧ cs = .int .i64 l :: u8s B := by
  obtain ⟨xs, n, _, _, hl, hn, he⟩ := DataW.trod_struct Tryz.underlying47 h
  rw [show Tryz.prog.cellsOf 47 = 33 by kernel_rfl] at hl
  match xs, hn with
  | [y0, y1], _ =>
    have e0 : DataW.trod enc Tryz.prog w base spare held n 3 ((cs.drop 0).take (Tryz.prog.cellsOf 3)) = some y0 := he 0 _ rfl
    have e1 : DataW.trod enc Tryz.prog w base spare held n 25 ((cs.drop 1).take (Tryz.prog.cellsOf 25)) = some y1 := he 1 _ rfl
    rw [show Tryz.prog.cellsOf 3 = 1 by kernel_rfl] at e0
    rw [show Tryz.prog.cellsOf 25 = 32 by kernel_rfl, List.take_of_length_le (by rw [List.length_drop]; omega)] at e1
    obtain ⟨l, hc, _, _⟩ := DataW.trod_int Tryz.underlying3 e0
    obtain ⟨B, hB, hb⟩ := open_key e1
    refine ⟨l, B, hB, ?_⟩
    match cs, hl with
    | c :: r, _ =>
      simp at hc hb
      rw [hc, hb]
theorem agg_of {r : Reach} {b0 : Nat} {t : TypeId} {v : Value} {d : TypeDesc} (hu : Tryz.prog.underlying t = some d) (hd : d.isRow = true) (h : Value.okWide Tryz.prog w r b0 t v) : ∃ cs, v = .agg cs := by
  unfold Value.okWide at h
  rw [hu] at h
  cases d <;> simp at hd
  all_goals
    obtain ⟨cs, h, _⟩ := h
    exact ⟨cs, h⟩
end
theorem kc_of {cs : Array Value} {K : List Int} (h : cs.toList = u8s K) : cs = kc K := by
  unfold kc
  rw [← h]
theorem pc_of {cs : Array Value} {l : Int} {B : List Int} (h : cs.toList = .int .i64 l :: u8s B) : cs = pc l B := by
  unfold pc
  rw [← h]
end Go.Proofs.YtjhaamffgkialaaGreatDoor
/-
  What is proved here: what the arguments of the layer's statements hold when they are read: a node, a list of pairs.
-/
namespace Go.Proofs.YtjhaamffgkialaaGreatDoor
open Go.ChangeShapes Go.WideShapes Go.ChangeAt Go.RowKit
set_option linter.unusedVariables false
set_option maxRecDepth 20000

section
variable {H : Type} {enc : TypeId × Value → H} {w : World} {base : Nat} {spare : Nat → Bool} {held : Bool}
theorem arr_of {cs : Array Value} {K : List Int} (h : cs.toList = u8s K) : cs = (u8s K).toArray := by rw [← h]
theorem drop_cons {α : Type} {cs : List α} {k : Nat} {x : α} (h : (cs.drop k).take 1 = [x]) : cs.drop k = x :: cs.drop (k + 1) := by
  cases hd : cs.drop k with
  | nil => rw [hd] at h; simp at h
  | cons y r =>
    rw [hd] at h
    simp at h
    rw [h, ← List.drop_drop, hd]
    rfl
theorem drop_app {α : Type} {cs X : List α} {k n : Nat} (h : (cs.drop k).take n = X) (hl : X.length = n) : cs.drop k = X ++ cs.drop (k + n) := by
  rw [← List.take_append_drop n (cs.drop k), h, List.drop_drop]
theorem open_node {fuel : Nat} {cs : List Value} {x : DataW H × List MemPlace} (h : DataW.trod enc Tryz.prog w base spare held fuel 63 cs = some x) : ∃ q, NdOk q ∧ cs = nc q := by
  obtain ⟨xs, n, _, _, hl, hn, he⟩ := DataW.trod_struct Tryz.underlying63 h
  rw [show Tryz.prog.cellsOf 63 = 132 by kernel_rfl] at hl
  have c1 : Tryz.prog.cellsOf 4 = 1 := by kernel_rfl
  have ci : Tryz.prog.cellsOf 3 = 1 := by kernel_rfl
  have ch : Tryz.prog.cellsOf 25 = 32 := by kernel_rfl
  have cp : Tryz.prog.cellsOf 47 = 33 := by kernel_rfl
  match xs, hn with
  | [y0, y1, y2, y3, y4, y5, y6], _ =>
    have e0 : DataW.trod enc Tryz.prog w base spare held n 4 ((cs.drop 0).take (Tryz.prog.cellsOf 4)) = some y0 := he 0 _ rfl
    have e1 : DataW.trod enc Tryz.prog w base spare held n 25 ((cs.drop 1).take (Tryz.prog.cellsOf 25)) = some y1 := he 1 _ rfl
    have e2 : DataW.trod enc Tryz.prog w base spare held n 25 ((cs.drop 33).take (Tryz.prog.cellsOf 25)) = some y2 := he 2 _ rfl
    have e3 : DataW.trod enc Tryz.prog w base spare held n 47 ((cs.drop 65).take (Tryz.prog.cellsOf 47)) = some y3 := he 3 _ rfl
    have e4 : DataW.trod enc Tryz.prog w base spare held n 3 ((cs.drop 98).take (Tryz.prog.cellsOf 3)) = some y4 := he 4 _ rfl
    have e5 : DataW.trod enc Tryz.prog w base spare held n 3 ((cs.drop 99).take (Tryz.prog.cellsOf 3)) = some y5 := he 5 _ rfl
    have e6 : DataW.trod enc Tryz.prog w base spare held n 25 ((cs.drop 100).take (Tryz.prog.cellsOf 25)) = some y6 := he 6 _ rfl
    rw [c1] at e0; rw [ch] at e1 e2 e6; rw [cp] at e3; rw [ci] at e4 e5
    obtain ⟨lf, h0, _⟩ := DataW.trod_bool Tryz.underlying4 e0
    obtain ⟨k, hk, h1⟩ := open_key e1
    obtain ⟨v, hv, h2⟩ := open_key e2
    obtain ⟨pn, pb, hp, h3⟩ := open_pre e3
    obtain ⟨l, h4, _, _⟩ := DataW.trod_int Tryz.underlying3 e4
    obtain ⟨r, h5, _, _⟩ := DataW.trod_int Tryz.underlying3 e5
    obtain ⟨hh, hhh, h6⟩ := open_key e6
    refine ⟨⟨lf, k, v, pn, pb, l, r, hh⟩, ⟨hk, hv, hp, hhh⟩, ?_⟩
    have d0 := drop_cons h0
    have d1 := drop_app h1 (by rw [u8s_length, hk.len])
    have d2 := drop_app h2 (by rw [u8s_length, hv.len])
    have d3 := drop_app h3 (by rw [List.length_cons, u8s_length, hp.len])
    have d4 := drop_cons h4
    have d5 := drop_cons h5
    have d6 := drop_app h6 (by rw [u8s_length, hhh.len])
    have d7 : cs.drop (100 + 32) = [] := List.drop_of_length_le (by omega)
    rw [List.drop_zero] at d0
    rw [d0, d1, d2, d3, d4, d5, d6, d7]
    unfold nc
    simp
theorem node_of {cs : Array Value} {q : Nd} (h : cs.toList = nc q) : cs = (nc q).toArray := by rw [← h]
end
end Go.Proofs.YtjhaamffgkialaaGreatDoor
