/-
  What is proved here: the fixed question that all statements of the layer ask first.
-/
import Derived.Test.YtjhaamffgkialaaDoorMX14
import Derived.Test.YtjhaamffgkialaaDoorMP1
import Derived.Test.YtjhaamffgkialaaDoorMA2
import Derived.ChangeOld
import Derived.Test.YtjhaamffgkialaaDoorMX1
set_option linter.unusedSimpArgs false
set_option linter.unusedVariables false
namespace Go.Proofs.YtjhaamffgkialaaDoor
open Go.ChangeShapes Go.WideShapes Go.ChangeAt Go.RowKit
set_option linter.unusedVariables false
set_option linter.unusedSimpArgs false
set_option maxRecDepth 20000

def k1 (x : Int) : List Int := x :: List.replicate 31 0
theorem k1_ky (x : Int) (h : 0 ≤ x ∧ x < 256) : Ky (k1 x) := ⟨rfl, fun v hv => by
  rcases List.mem_cons.1 hv with rfl | hv
  · exact h
  · rw [List.eq_of_mem_replicate hv]; decide⟩
theorem built_k1 (x : Int) : Tryd.prog.built 26 [(0, .int .u8 x)] = some (kc (k1 x)) := by kernel_rfl
/-- a new forest -/
theorem fo_new {w : World} {f : Nat} (h : Blk w f 106 #[.slice none 0 0, .pointer none]) : Fo w f f f [] none 0 (.pointer none) :=
  ⟨h, ⟨rfl, .inl ⟨rfl, rfl⟩⟩, .inl ⟨rfl, rfl, rfl, rfl, rfl, rfl⟩, fun q hq => by simp at hq, by simp, ⟨by simp, by decide⟩⟩
theorem fr_new : FrOk hLf hIn [] := FrOk.nil hLf hIn
theorem built_forest : Tryd.prog.built 106 [] = some #[.slice none 0 0, .pointer none] := by kernel_rfl
set_option maxHeartbeats 4000000 in
theorem xawake_any (w : World) (ht : Tab w) : Calls Tryd.prog 11 #[] w fun e w' => e = .returned (.bool true) ∧ Below w.heap.size w w' := by
  have KF : Hid (Blk (w.alloc (.cells #[.slice none 0 0, .pointer none] 106)) w.heap.size 106 #[.slice none 0 0, .pointer none]) := Blk.new w 106 _
  have B0 : Hid (Below w.heap.size w (w.alloc (.cells #[.slice none 0 0, .pointer none] 106))) := (Below.refl _ _).alloc (Nat.le_refl _) _
  have CP := hid (put_none (fo_new KF.out) fr_new (k1_ky 1 (by decide)) (k1_ky 2 (by decide)) (by show (0 : Nat) < 100000; decide) (ht.below B0.out))
  have hb0 := built_forest
  have hb1 := built_k1 1
  have hb2 := built_k1 2
  obtain ⟨H1, hH1⟩ : ∃ H1, H1 = kc (k1 1) := ⟨_, rfl⟩
  obtain ⟨H2, hH2⟩ : ∃ H2, H2 = kc (k1 2) := ⟨_, rfl⟩
  rw [← hH1] at hb1 CP
  rw [← hH2] at hb2 CP
  clear ht hH1 hH2
  go_enter Tryd.func11, Tryd.ntmps11
  go_wp2_with (first
    | (refine wpList_buildC rfl 106 _ rfl #[.slice none 0 0, .pointer none] ?hc ?_; case hc => (simp only [List.map_toArray, List.map_cons, List.map_nil, Act.eval]; exact hb0))
    | (refine wpList_buildC rfl 26 _ rfl H1 ?hc ?_; case hc => (simp only [List.map_toArray, List.map_cons, List.map_nil, Act.eval]; exact hb1))
    | (refine wpList_buildC rfl 26 _ rfl H2 ?hc ?_; case hc => (simp only [List.map_toArray, List.map_cons, List.map_nil, Act.eval]; exact hb2))
    | (go_at_call 54; refine CP.out.mono ?_; rintro e w2 ⟨M, top, rfl, ⟨g', b', A', c', tv', hfo, hg, hb, ho⟩, hrep, hfr, hm⟩; have CZ := hid (xSize_at hfo); have h1 := hrep.lt; rw [List.nil_append] at h1; have ht0 : top = 0 := (by omega); subst ht0; have hM : ([] ++ M).length = 1 := (by rw [List.nil_append]; omega); rw [hM] at CZ; have B2 := hid (B0.out.trans (ho.below (B := w.heap.size) (by simp) (fun k hk => (by rcases hk with h | h | h <;> omega)))); clear hfo hg hb ho hrep hfr hm h1 hM)
    | (go_at_call 28; refine CZ.out.mono ?_; rintro e w3 ⟨rfl, rfl⟩))
  go_ret
  exact ⟨rfl, B2.out⟩
end Go.Proofs.YtjhaamffgkialaaDoor
/-
  What is proved here: all nodes have the text that the chapter says: the walk of the statement.
-/
namespace Go.Proofs.YtjhaamffgkialaaDoor
open Go.ChangeShapes Go.WideShapes Go.ChangeAt Go.RowKit
set_option linter.unusedVariables false
set_option linter.unusedSimpArgs false
set_option maxRecDepth 20000

theorem exec_build {P : Program} {o : Oper} {a : Act} (t : TypeId) (parts : Array (Nat × Operand)) (ho : o.op = .build t parts) (cells : Array Value) (hb : P.built t (parts.map fun (i, x) => (i, a.eval x)).toList = some cells) (w : World) : (execOp a.eval o).run P w = .ok (.value (.agg cells)) w := by
  unfold execOp
  simp only [ho, Sem.run_bind, run_build w t _ cells hb, Result.andThen_ok]
  rfl
theorem info_pair : (Tryd.prog.info? 28).map (fun i => (i.zero, i.size, i.bytes)) = some (some (.agg (kvc (z32, z32)).toArray), 64, 64) := by kernel_rfl
theorem pair_places : ∃ fields, Tryd.prog.underlying 28 = some (.struct fields) ∧ fields.toList.mapM (fun f => (Tryd.prog.info? f.type).map fun i => (f.offset, i.size)) = some [(0, 32), (32, 32)] := ⟨_, Tryd.underlying28, by kernel_rfl⟩
theorem kvc_len {q : KV} (h1 : Ky q.1) (h2 : Ky q.2) : (kvc q).length = 64 := by unfold kvc; rw [List.length_append, u8s_length, u8s_length, h1.len, h2.len]
theorem pair_built {k v : List Int} (hk : Ky k) (hv : Ky v) : Tryd.prog.built 28 [(0, .agg (kc k)), (1, .agg (kc v))] = some (kvc (k, v)).toArray := by
  obtain ⟨i0, hi, hz0, hz1, hz2⟩ := info_parts info_pair
  obtain ⟨fields, hu, hpl⟩ := pair_places
  unfold Program.built
  rw [hi, hu]
  simp only [hz0, hpl]
  have e3 : (Value.agg (kvc (z32, z32)).toArray).cells = (kvc (z32, z32)).toArray := rfl
  have sz : (kvc (z32, z32)).toArray.size = 64 := rfl
  rw [e3, fill_step (v := .agg (kc k)) (off := 0) (size := 32) rfl (kc_size hk) (by simp only [putRow_len, sz]; decide), fill_step (v := .agg (kc v)) (off := 32) (size := 32) rfl (kc_size hv) (by simp only [putRow_len, sz]; decide), fill_end]
  have c1 : (Value.agg (kc k)).cells.toList = u8s k := rfl
  have c2 : (Value.agg (kc v)).cells.toList = u8s v := rfl
  rw [c1, c2]
  have p1 : putRow (kvc (z32, z32)).toArray 0 (u8s k) = (u8s k ++ u8s z32).toArray := putRow_mid (A := []) (M := u8s z32) (M' := u8s k) (C := u8s z32) rfl (by rw [u8s_length, u8s_length, hk.len]; rfl)
  have p2 : putRow (u8s k ++ (u8s z32 ++ [])).toArray 32 (u8s v) = (u8s k ++ (u8s v ++ [])).toArray := putRow_mid (A := u8s k) (M := u8s z32) (by rw [u8s_length, hk.len]) (by rw [u8s_length, u8s_length, hv.len]; rfl)
  rw [List.append_nil, List.append_nil] at p2
  rw [p1, p2]
  rfl
theorem same_yes {A B : Option Addr} {c d : Nat} {X : List Int} {w : World} (hx : Rp w none A X) (hy : Rp w none B X) (hl : X.length < 1000000000000) :
    Calls Tryd.prog 38 #[.slice A X.length c, .slice B X.length d] w fun e w' => e = .returned (.bool true) ∧ Below w.heap.size w w' :=
  (Same_quiet A B c d X X w hx hy hl hl).mono fun e w' ⟨he, q, hw⟩ => ⟨by rw [he, decide_eq_true rfl], by rw [hw]; exact pbelow_drewN (Below.refl _ _) q⟩
end Go.Proofs.YtjhaamffgkialaaDoor
/-
  What is proved here: what the arguments of the statements on prefixes hold when they are read: a key, a beginning.
-/
namespace Go.Proofs.YtjhaamffgkialaaDoor
open Go.ChangeShapes Go.WideShapes Go.ChangeAt Go.RowKit
set_option linter.unusedVariables false
set_option maxRecDepth 20000

section
variable {H : Type} {enc : TypeId × Value → H} {w : World} {base : Nat} {spare : Nat → Bool} {held : Bool}
theorem open_key {fuel : Nat} {cs : List Value} {x : DataW H × List MemPlace} (h : DataW.trod enc Tryd.prog w base spare held fuel 26 cs = some x) : ∃ K, Ky K ∧ cs = u8s K := by
  obtain ⟨xs, m, _, _, hl, hn, he⟩ := DataW.trod_array Tryd.underlying26 h
  rw [show Tryd.prog.cellsOf 26 = 32 by kernel_rfl] at hl
  have hc : Tryd.prog.cellsOf 5 = 1 := by kernel_rfl
  have each : ∀ i : Nat, ∃ v : Int, i < 32 → cs[i]? = some (.int .u8 v) ∧ 0 ≤ v ∧ v < 256 := by
    intro i
    by_cases hi : i < 32
    · have h1 := he i hi
      rw [hc, Nat.mul_one, List.getElem?_eq_getElem (by omega : i < xs.length)] at h1
      obtain ⟨v, hv, _, hw⟩ := DataW.trod_int Tryd.underlying5 h1
      have b := bounds_u8 hw
      refine ⟨v, fun _ => ⟨?_, b.1, by omega⟩⟩
      have h2 := congrArg (fun l => l[0]?) hv
      simpa [List.getElem?_take, List.getElem?_drop] using h2
    · exact ⟨0, fun h => absurd h hi⟩
  obtain ⟨F, hF⟩ := Classical.axiomOfChoice each
  refine ⟨(List.range 32).map F, ⟨by simp, fun v hv => ?_⟩, ?_⟩
  · simp only [List.mem_map, List.mem_range] at hv
    obtain ⟨i, hi, rfl⟩ := hv
    exact (hF i hi).2
  · apply List.ext_getElem?
    intro i
    by_cases hi : i < 32
    · rw [(hF i hi).1]
      simp [u8s, hi]
    · rw [List.getElem?_eq_none (by omega), List.getElem?_eq_none (by simp [u8s]; omega)]
theorem open_pre {fuel : Nat} {cs : List Value} {x : DataW H × List MemPlace} (h : DataW.trod enc Tryd.prog w base spare held fuel 42 cs = some x) : ∃ l B, Ky B ∧ cs = .int .i64 l :: u8s B := by
  obtain ⟨xs, n, _, _, hl, hn, he⟩ := DataW.trod_struct Tryd.underlying42 h
  rw [show Tryd.prog.cellsOf 42 = 33 by kernel_rfl] at hl
  match xs, hn with
  | [y0, y1], _ =>
    have e0 : DataW.trod enc Tryd.prog w base spare held n 3 ((cs.drop 0).take (Tryd.prog.cellsOf 3)) = some y0 := he 0 _ rfl
    have e1 : DataW.trod enc Tryd.prog w base spare held n 26 ((cs.drop 1).take (Tryd.prog.cellsOf 26)) = some y1 := he 1 _ rfl
    rw [show Tryd.prog.cellsOf 3 = 1 by kernel_rfl] at e0
    rw [show Tryd.prog.cellsOf 26 = 32 by kernel_rfl, List.take_of_length_le (by rw [List.length_drop]; omega)] at e1
    obtain ⟨l, hc, _, _⟩ := DataW.trod_int Tryd.underlying3 e0
    obtain ⟨B, hB, hb⟩ := open_key e1
    refine ⟨l, B, hB, ?_⟩
    match cs, hl with
    | c :: r, _ =>
      simp at hc hb
      rw [hc, hb]
theorem agg_of {r : Reach} {b0 : Nat} {t : TypeId} {v : Value} {d : TypeDesc} (hu : Tryd.prog.underlying t = some d) (hd : d.isRow = true) (h : Value.okWide Tryd.prog w r b0 t v) : ∃ cs, v = .agg cs := by
  unfold Value.okWide at h
  rw [hu] at h
  cases d <;> simp at hd
  all_goals
    obtain ⟨cs, h, _⟩ := h
    exact ⟨cs, h⟩
end
theorem kc_of {cs : Array Value} {K : List Int} (h : cs.toList = u8s K) : cs = kc K := by
  unfold kc
  rw [← h]
theorem pc_of {cs : Array Value} {l : Int} {B : List Int} (h : cs.toList = .int .i64 l :: u8s B) : cs = pc l B := by
  unfold pc
  rw [← h]
end Go.Proofs.YtjhaamffgkialaaDoor
/-
  What is proved here: what the arguments of the layer's statements hold when they are read: a node, a list of pairs.
-/
namespace Go.Proofs.YtjhaamffgkialaaDoor
open Go.ChangeShapes Go.WideShapes Go.ChangeAt Go.RowKit
set_option linter.unusedVariables false
set_option maxRecDepth 20000

section
variable {H : Type} {enc : TypeId × Value → H} {w : World} {base : Nat} {spare : Nat → Bool} {held : Bool}
theorem arr_of {cs : Array Value} {K : List Int} (h : cs.toList = u8s K) : cs = (u8s K).toArray := by rw [← h]
theorem drop_cons {α : Type} {cs : List α} {k : Nat} {x : α} (h : (cs.drop k).take 1 = [x]) : cs.drop k = x :: cs.drop (k + 1) := by
  cases hd : cs.drop k with
  | nil => rw [hd] at h; simp at h
  | cons y r =>
    rw [hd] at h
    simp at h
    rw [h, ← List.drop_drop, hd]
    rfl
theorem drop_app {α : Type} {cs X : List α} {k n : Nat} (h : (cs.drop k).take n = X) (hl : X.length = n) : cs.drop k = X ++ cs.drop (k + n) := by
  rw [← List.take_append_drop n (cs.drop k), h, List.drop_drop]
theorem open_node {fuel : Nat} {cs : List Value} {x : DataW H × List MemPlace} (h : DataW.trod enc Tryd.prog w base spare held fuel 111 cs = some x) : ∃ q, NdOk q ∧ cs = nc q := by
  obtain ⟨xs, n, _, _, hl, hn, he⟩ := DataW.trod_struct Tryd.underlying111 h
  rw [show Tryd.prog.cellsOf 111 = 132 by kernel_rfl] at hl
  have c1 : Tryd.prog.cellsOf 4 = 1 := by kernel_rfl
  have ci : Tryd.prog.cellsOf 3 = 1 := by kernel_rfl
  have ch : Tryd.prog.cellsOf 26 = 32 := by kernel_rfl
  have cp : Tryd.prog.cellsOf 42 = 33 := by kernel_rfl
  match xs, hn with
  | [y0, y1, y2, y3, y4, y5, y6], _ =>
    have e0 : DataW.trod enc Tryd.prog w base spare held n 4 ((cs.drop 0).take (Tryd.prog.cellsOf 4)) = some y0 := he 0 _ rfl
    have e1 : DataW.trod enc Tryd.prog w base spare held n 26 ((cs.drop 1).take (Tryd.prog.cellsOf 26)) = some y1 := he 1 _ rfl
    have e2 : DataW.trod enc Tryd.prog w base spare held n 26 ((cs.drop 33).take (Tryd.prog.cellsOf 26)) = some y2 := he 2 _ rfl
    have e3 : DataW.trod enc Tryd.prog w base spare held n 42 ((cs.drop 65).take (Tryd.prog.cellsOf 42)) = some y3 := he 3 _ rfl
    have e4 : DataW.trod enc Tryd.prog w base spare held n 3 ((cs.drop 98).take (Tryd.prog.cellsOf 3)) = some y4 := he 4 _ rfl
    have e5 : DataW.trod enc Tryd.prog w base spare held n 3 ((cs.drop 99).take (Tryd.prog.cellsOf 3)) = some y5 := he 5 _ rfl
    have e6 : DataW.trod enc Tryd.prog w base spare held n 26 ((cs.drop 100).take (Tryd.prog.cellsOf 26)) = some y6 := he 6 _ rfl
    rw [c1] at e0; rw [ch] at e1 e2 e6; rw [cp] at e3; rw [ci] at e4 e5
    obtain ⟨lf, h0, _⟩ := DataW.trod_bool Tryd.underlying4 e0
    obtain ⟨k, hk, h1⟩ := open_key e1
    obtain ⟨v, hv, h2⟩ := open_key e2
    obtain ⟨pn, pb, hp, h3⟩ := open_pre e3
    obtain ⟨l, h4, _, _⟩ := DataW.trod_int Tryd.underlying3 e4
    obtain ⟨r, h5, _, _⟩ := DataW.trod_int Tryd.underlying3 e5
    obtain ⟨hh, hhh, h6⟩ := open_key e6
    refine ⟨⟨lf, k, v, pn, pb, l, r, hh⟩, ⟨hk, hv, hp, hhh⟩, ?_⟩
    have d0 := drop_cons h0
    have d1 := drop_app h1 (by rw [u8s_length, hk.len])
    have d2 := drop_app h2 (by rw [u8s_length, hv.len])
    have d3 := drop_app h3 (by rw [List.length_cons, u8s_length, hp.len])
    have d4 := drop_cons h4
    have d5 := drop_cons h5
    have d6 := drop_app h6 (by rw [u8s_length, hhh.len])
    have d7 : cs.drop (100 + 32) = [] := List.drop_of_length_le (by omega)
    rw [List.drop_zero] at d0
    rw [d0, d1, d2, d3, d4, d5, d6, d7]
    unfold nc
    simp
theorem node_of {cs : Array Value} {q : Nd} (h : cs.toList = nc q) : cs = (nc q).toArray := by rw [← h]
end
end Go.Proofs.YtjhaamffgkialaaDoor
