/-
  What is proved here: rows of a delta, a node's hash, and a node's row.
-/
import Derived.Test.YtjhaamffgkialaaGreatDoorMX26
import Derived.Test.YtjhaamffgkialaaGreatDoorMX20
import Derived.Deep.MidRow
import Derived.Deep.DeepCutAuto
import Derived.Deep.RegionLaw
import Derived.Test.YtjhaamffgkialaaGreatDoorMX11
import Derived.RangeFuncNested
import Derived.Test.YtjhaamffgkialaaGreatDoorMX21
import Derived.Deep.LoopGhost
import Derived.Maps.AppendAt
set_option linter.unusedSimpArgs false
set_option linter.unusedVariables false
namespace Go.Proofs.YtjhaamffgkialaaGreatDoor
open Go.ChangeShapes Go.WideShapes Go.ChangeAt Go.RowKit
set_option linter.unusedVariables false
set_option linter.unusedSimpArgs false
set_option maxRecDepth 20000

/-- a row: whether it is a leaf's; key and value; prefix; its children's hashes -/
structure Rw where
  leaf : Bool
  k : List Int
  v : List Int
  n : Int
  b : List Int
  l : List Int
  r : List Int
def rwc (q : Rw) : List Value := .bool q.leaf :: (u8s q.k ++ (u8s q.v ++ ((.int .i64 q.n :: u8s q.b) ++ (u8s q.l ++ u8s q.r))))
structure RwOk (q : Rw) : Prop where
  k : Ky q.k
  v : Ky q.v
  b : Ky q.b
  l : Ky q.l
  r : Ky q.r
def rwZ : Rw := ⟨false, z32, z32, 0, z32, z32, z32⟩
theorem rwZ_ok : RwOk rwZ := ⟨ky_zero, ky_zero, ky_zero, ky_zero, ky_zero⟩
theorem RwOk.len {q : Rw} (h : RwOk q) : (rwc q).length = 162 := by
  unfold rwc
  simp only [List.length_cons, List.length_append, u8s_length, h.k.len, h.v.len, h.b.len, h.l.len, h.r.len]
theorem rwc_one (q : Rw) : (rwc q).toArray.all (·.oneCell') = true := by
  rw [Array.all_eq_true']
  intro v hv
  have hv' : v ∈ rwc q := by simpa using hv
  have u : ∀ x : List Int, v ∈ u8s x → v.oneCell' = true := fun x hx => by
    obtain ⟨y, _, rfl⟩ := List.mem_map.1 hx; rfl
  unfold rwc at hv'
  simp only [List.mem_cons, List.mem_append] at hv'
  rcases hv' with rfl | h | h | (rfl | h) | h | h
  · rfl
  · exact u _ h
  · exact u _ h
  · rfl
  · exact u _ h
  · exact u _ h
  · exact u _ h
theorem info_drow : (Tryz.prog.info? 49).map (fun i => (i.zero, i.size, i.bytes)) = some (some (.agg (rwc rwZ).toArray), 162, 176) := by kernel_rfl
theorem drow_places : ∃ fields, Tryz.prog.underlying 49 = some (.struct fields) ∧ fields.toList.mapM (fun f => (Tryz.prog.info? f.type).map fun i => (f.offset, i.size)) = some [(0, 1), (1, 32), (33, 32), (65, 33), (98, 32), (130, 32)] := ⟨_, Tryz.underlying49, by kernel_rfl⟩
theorem drow_info {q : Rw} (h : RwOk q) : (Tryz.prog.info? 49).map (·.size) = some (rwc q).length := by rw [h.len]; kernel_rfl
theorem drow_info2 {q : Rw} (h : RwOk q) : (Tryz.prog.info? 49).map (·.size) = some (rwc q).toArray.size := by rw [List.size_toArray, h.len]; kernel_rfl
theorem zero_drow : ∃ Z : Array Value, Hid (Z = (rwc rwZ).toArray) ∧ (¬ Z = #[]) ∧ ∀ w : World, Sem.run Tryz.prog (zeroValue 49) w = Result.ok (.agg Z) w := by
  refine ⟨(rwc rwZ).toArray, rfl, fun h => ?_, fun w => by kernel_rfl⟩
  have := congrArg Array.size h
  rw [List.size_toArray, rwZ_ok.len] at this
  simp at this
section
variable {q : Rw}
theorem rwc_0 (x : Bool) : putRow (rwc q).toArray 0 [.bool x] = (rwc { q with leaf := x }).toArray :=
  putRow_mid (A := []) (M := [.bool q.leaf]) rfl rfl
theorem rwc_1 {x : List Int} (hq : Ky q.k) (hx : Ky x) : putRow (rwc q).toArray 1 (u8s x) = (rwc { q with k := x }).toArray :=
  putRow_mid (A := [.bool q.leaf]) (M := u8s q.k) rfl (by rw [u8s_length, u8s_length, hq.len, hx.len])
theorem rwc_2 {x : List Int} (h1 : Ky q.k) (hq : Ky q.v) (hx : Ky x) : putRow (rwc q).toArray 33 (u8s x) = (rwc { q with v := x }).toArray :=
  putRow_mid (A := .bool q.leaf :: u8s q.k) (M := u8s q.v) (by rw [List.length_cons, u8s_length, h1.len]) (by rw [u8s_length, u8s_length, hq.len, hx.len])
theorem rwc_3 {n : Int} {x : List Int} (h1 : Ky q.k) (h2 : Ky q.v) (hq : Ky q.b) (hx : Ky x) : putRow (rwc q).toArray 65 (.int .i64 n :: u8s x) = (rwc { q with n := n, b := x }).toArray := by
  have := putRow_mid (A := .bool q.leaf :: (u8s q.k ++ u8s q.v)) (M := .int .i64 q.n :: u8s q.b) (M' := .int .i64 n :: u8s x) (C := u8s q.l ++ u8s q.r) (o := 65) (by rw [List.length_cons, List.length_append, u8s_length, u8s_length, h1.len, h2.len]) (by rw [List.length_cons, List.length_cons, u8s_length, u8s_length, hq.len, hx.len])
  simpa only [rwc, List.cons_append, List.append_assoc] using this
theorem rwc_4 {x : List Int} (h1 : Ky q.k) (h2 : Ky q.v) (h3 : Ky q.b) (hq : Ky q.l) (hx : Ky x) : putRow (rwc q).toArray 98 (u8s x) = (rwc { q with l := x }).toArray := by
  have := putRow_mid (A := .bool q.leaf :: (u8s q.k ++ (u8s q.v ++ (.int .i64 q.n :: u8s q.b)))) (M := u8s q.l) (M' := u8s x) (C := u8s q.r) (o := 98) (by simp [u8s_length, h1.len, h2.len, h3.len]) (by rw [u8s_length, u8s_length, hq.len, hx.len])
  simpa only [rwc, List.cons_append, List.append_assoc, List.nil_append] using this
theorem rwc_5 {x : List Int} (h1 : Ky q.k) (h2 : Ky q.v) (h3 : Ky q.b) (h4 : Ky q.l) (hq : Ky q.r) (hx : Ky x) : putRow (rwc q).toArray 130 (u8s x) = (rwc { q with r := x }).toArray := by
  have := putRow_mid (A := .bool q.leaf :: (u8s q.k ++ (u8s q.v ++ ((.int .i64 q.n :: u8s q.b) ++ u8s q.l)))) (M := u8s q.r) (M' := u8s x) (C := []) (o := 130) (by simp [u8s_length, h1.len, h2.len, h3.len, h4.len]) (by rw [u8s_length, u8s_length, hq.len, hx.len])
  simpa only [rwc, List.cons_append, List.append_assoc, List.nil_append, List.append_nil] using this
end
def rwL (k v : List Int) : Rw := ⟨true, k, v, 0, z32, z32, z32⟩
def rwI (n : Int) (b l r : List Int) : Rw := ⟨false, z32, z32, n, b, l, r⟩
theorem rwL_ok {k v : List Int} (hk : Ky k) (hv : Ky v) : RwOk (rwL k v) := ⟨hk, hv, ky_zero, ky_zero, ky_zero⟩
theorem rwI_ok {n : Int} {b l r : List Int} (hb : Ky b) (hl : Ky l) (hr : Ky r) : RwOk (rwI n b l r) := ⟨ky_zero, ky_zero, hb, hl, hr⟩
theorem rowL_built {k v : List Int} (hk : Ky k) (hv : Ky v) : Tryz.prog.built 49 [(0, .bool true), (1, .agg (kc k)), (2, .agg (kc v))] = some (rwc (rwL k v)).toArray := by
  obtain ⟨i0, hi, hz0, hz1, hz2⟩ := info_parts info_drow
  obtain ⟨fields, hu, hpl⟩ := drow_places
  unfold Program.built
  rw [hi, hu]
  simp only [hz0, hpl]
  have e3 : (Value.agg (rwc rwZ).toArray).cells = (rwc rwZ).toArray := rfl
  have sz : (rwc rwZ).toArray.size = 162 := rfl
  rw [e3, fill_step (v := .bool true) (off := 0) (size := 1) rfl rfl (by simp only [putRow_len, sz]; decide), fill_step (v := .agg (kc k)) (off := 1) (size := 32) rfl (kc_size hk) (by simp only [putRow_len, sz]; decide), fill_step (v := .agg (kc v)) (off := 33) (size := 32) rfl (kc_size hv) (by simp only [putRow_len, sz]; decide), fill_end]
  have c1 : (Value.agg (kc k)).cells.toList = u8s k := rfl
  have c2 : (Value.agg (kc v)).cells.toList = u8s v := rfl
  have c0 : (Value.bool true).cells.toList = [.bool true] := rfl
  rw [c0, c1, c2, rwc_0, rwc_1 ky_zero hk, rwc_2 hk ky_zero hv]
  rfl
theorem rowI_built {n : Int} {b l r : List Int} (hb : Ky b) (hl : Ky l) (hr : Ky r) : Tryz.prog.built 49 [(3, .agg (pc n b)), (4, .agg (kc l)), (5, .agg (kc r))] = some (rwc (rwI n b l r)).toArray := by
  obtain ⟨i0, hi, hz0, hz1, hz2⟩ := info_parts info_drow
  obtain ⟨fields, hu, hpl⟩ := drow_places
  unfold Program.built
  rw [hi, hu]
  simp only [hz0, hpl]
  have e3 : (Value.agg (rwc rwZ).toArray).cells = (rwc rwZ).toArray := rfl
  have sz : (rwc rwZ).toArray.size = 162 := rfl
  rw [e3, fill_step (v := .agg (pc n b)) (off := 65) (size := 33) rfl (pc_size n hb) (by simp only [putRow_len, sz]; decide), fill_step (v := .agg (kc l)) (off := 98) (size := 32) rfl (kc_size hl) (by simp only [putRow_len, sz]; decide), fill_step (v := .agg (kc r)) (off := 130) (size := 32) rfl (kc_size hr) (by simp only [putRow_len, sz]; decide), fill_end]
  have c1 : (Value.agg (pc n b)).cells.toList = .int .i64 n :: u8s b := rfl
  have c2 : (Value.agg (kc l)).cells.toList = u8s l := rfl
  have c3 : (Value.agg (kc r)).cells.toList = u8s r := rfl
  rw [c1, c2, c3, rwc_3 ky_zero ky_zero ky_zero hb, rwc_4 ky_zero ky_zero hb ky_zero hl, rwc_5 ky_zero ky_zero hb hl ky_zero hr]
  rfl
/-- while a row is made -/
structure DrS (w : World) (g5 : Nat) (q : Nd) (x : World) : Prop where
  bl : Below w.heap.size w x
  nb : Blk x g5 63 (nc q).toArray
  kz : ∃ cs, Blk x w.heap.size 49 cs ∧ cs.size = 162
theorem DrS.below {w x y : World} {g5 : Nat} {q : Nd} (h : DrS w g5 q x) (hb : Below x.heap.size x y) : DrS w g5 q y := by
  obtain ⟨h1, h2, cs, h3, h4⟩ := h
  exact ⟨h1.trans (hb.mono h1.size), h2.below hb, cs, h3.below hb, h4⟩
theorem DrS.set {w x : World} {g5 : Nat} {q : Nd} {R : Rw} (h : DrS w g5 q x) (hn : w.heap.size < g5) (hs : (rwc R).toArray.size = 162) : DrS w g5 q (x.setRow w.heap.size (rwc R).toArray) := by
  obtain ⟨h1, h2, cs, h3, h4⟩ := h
  exact ⟨below_setRow h1 (Nat.le_refl _) _, h2.same (setRow_other x w.heap.size g5 _ (by omega)), _, h3.row _, hs⟩
theorem exec_build1 {P : Program} {o : Oper} {a : Act} (t : TypeId) (parts : Array (Nat × Operand)) (ho : o.op = .build t parts) (cells : Array Value) (hb : P.built t (parts.map fun (i, x) => (i, a.eval x)).toList = some cells) (w : World) : (execOp a.eval o).run P w = .ok (.value (.agg cells)) w := by
  unfold execOp
  simp only [ho, Sem.run_bind, run_build w t _ cells hb, Result.andThen_ok]
  rfl
section
variable {w : World} {f g b0 : Nat} {N : List Nd} {A : Option Addr} {c : Nat} {tv : Value}
set_option maxHeartbeats 4000000 in
theorem dhash_at (h : Fo w f g b0 N A c tv) (i : Nat) (q : Nd) (hi : N[i]? = some q) : Calls Tryz.prog 16 #[.pointer (some ⟨f, 0, none⟩), .int .i64 i] w fun e w' => e = .returned (.agg (kc q.h)) ∧ Below w.heap.size w w' := by
  obtain ⟨Z, HZ, hZ0, hZs⟩ := zero_key
  obtain ⟨X, HX, hX0, hXs⟩ := zero_node
  have hq := h.ok q (List.mem_of_getElem? hi)
  have KZ : Hid (Blk (w.alloc (.cells Z 25)) w.heap.size 25 Z) := Blk.new w 25 Z
  have B0 : Hid (Below w.heap.size w (w.alloc (.cells Z 25))) := (Below.refl _ _).alloc (Nat.le_refl _) _
  have CN0 := xNode_at (h.below B0.out) i q hi
  unfold ndV at CN0
  have CN := hid CN0
  have HQ := hid hq
  have HNI := hid (node_info hq); have HN2 := hid (node_info2 hq)
  have HNZ : Hid (X.size = (nc q).toArray.size) := by show _ = _; rw [HX.out, List.size_toArray, List.size_toArray, ndZ_ok.nc, hq.nc]
  have HN3 : Hid ((nc q).toArray.all (·.oneCell') = true) := by
    show _ = _
    rw [Array.all_eq_true']
    intro v hv
    exact nc_one _ v (by simpa using hv)
  have HHI := hid (u8s_info hq.h); have HHK := hid (kc_info hq.h)
  have HHZ : Hid (Z.size = (kc q.h).size) := by show _ = _; rw [HZ.out, kc_size zk_ky, kc_size hq.h]
  clear CN0 h hi hq
  go_enter Tryz.func16, Tryz.ntmps16
  go_upto_region 2 with (first
    | (go_at_call 33; refine CN.out.mono ?_; rintro e w1 ⟨rfl, hb⟩; have KZ1 := hid (KZ.out.below hb); have B1 := hid (B0.out.trans (hb.mono B0.out.size)); clear hb)
    | (refine wpList_store_row rfl 63 (.tmp 5) (.tmp 11) rfl w1.heap.size (nc q).toArray rfl rfl 63 X (Blk.new w1 63 X) HN2.out HNZ.out HN3.out ?_))
  have BX : Hid (Below w1.heap.size w1 ((w1.alloc (.cells X 63)).setRow w1.heap.size (nc q).toArray)) := below_setRow ((Below.refl _ _).alloc (Nat.le_refl _) _) (Nat.le_refl _) _
  have NB : Hid (NodeAt ((w1.alloc (.cells X 63)).setRow w1.heap.size (nc q).toArray) w1.heap.size 0 q) := ((Blk.new w1 63 X).row _).node HQ.out
  have KZ2 := hid (KZ1.out.below BX.out); have B2 := hid (B1.out.trans (BX.out.mono B1.out.size))
  clear BX KZ1 B1 KZ B0 CN
  generalize (w1.alloc (.cells X 63)).setRow w1.heap.size (nc q).toArray = w2 at NB KZ2 B2 ⊢
  generalize w1.heap.size = g5 at NB ⊢
  have NH : Hid (w2.rangeAt g5 100 (u8s q.h)) := by have := NB.out.hash; rwa [Nat.zero_add] at this
  go_wp2_with (first
    | (refine load_at rfl 25 (.tmp 13) rfl g5 100 rfl (u8s q.h) _ NH.out Tryz.underlying25 rfl HHI.out (kc q.h) rfl ?_)
    | (refine wpList_store_row rfl 25 (.tmp 4) (.tmp 14) rfl w.heap.size (kc q.h) rfl rfl 25 Z KZ2.out HHK.out HHZ.out (kc_one _) ?_))
  try go_frame
  refine bodyPost_ret (results_cell_row Tryz.results16 _ _ w.heap.size 25 (kc q.h) (0, 0) _ rfl (KZ2.out.row _) Tryz.underlying25 rfl HHK.out) rfl ?_
  exact ⟨rfl, below_setRow B2.out (Nat.le_refl _) _⟩
set_option maxHeartbeats 4000000 in
theorem drow_leaf (h : Fo w f g b0 N A c tv) (i : Nat) (q : Nd) (hi : N[i]? = some q) (hl : q.leaf = true) : Calls Tryz.prog 25 #[.pointer (some ⟨f, 0, none⟩), .int .i64 i] w fun e w' => e = .returned (.agg (rwc (rwL q.k q.v)).toArray) ∧ Below w.heap.size w w' := by
  obtain ⟨Z, HZ, hZ0, hZs⟩ := zero_drow
  obtain ⟨X, HX, hX0, hXs⟩ := zero_node
  have hq := h.ok q (List.mem_of_getElem? hi)
  have KZ : Hid (Blk (w.alloc (.cells Z 49)) w.heap.size 49 Z) := Blk.new w 49 Z
  have B0 : Hid (Below w.heap.size w (w.alloc (.cells Z 49))) := (Below.refl _ _).alloc (Nat.le_refl _) _
  have CN0 := xNode_at (h.below B0.out) i q hi
  unfold ndV at CN0
  have CN := hid CN0
  have HQ := hid hq
  have HNI := hid (node_info hq); have HN2 := hid (node_info2 hq)
  have HNZ : Hid (X.size = (nc q).toArray.size) := by show _ = _; rw [HX.out, List.size_toArray, List.size_toArray, ndZ_ok.nc, hq.nc]
  have HN3 := hid (nc_one2 q)
  have HPB := hid (rowL_built hq.k hq.v)
  have HRI := hid (drow_info2 (rwL_ok hq.k hq.v)); have HRZ : Hid (Z.size = (rwc (rwL q.k q.v)).toArray.size) := by show _ = _; rw [HZ.out, List.size_toArray, List.size_toArray, rwZ_ok.len, (rwL_ok hq.k hq.v).len]
  have HKI := hid (u8s_info hq.k); have HVI := hid (u8s_info hq.v)
  have HR1 := hid (rwc_one (rwL q.k q.v))
  have HL := hid hl
  clear CN0 h hi hq hl
  generalize rwL q.k q.v = R at HPB HRI HRZ HR1 ⊢
  go_enter Tryz.func25, Tryz.ntmps25
  go_upto_region 2 with (first
    | (go_at_call 33; refine CN.out.mono ?_; rintro e w1 ⟨rfl, hb⟩; have KZ1 := hid (KZ.out.below hb); have B1 := hid (B0.out.trans (hb.mono B0.out.size)); clear hb)
    | (refine wpList_store_row rfl 63 (.tmp 5) (.tmp 11) rfl w1.heap.size (nc q).toArray rfl rfl 63 X (Blk.new w1 63 X) HN2.out HNZ.out HN3.out ?_))
  have NE0 : Hid (w.heap.size < w1.heap.size) := KZ1.out.lt
  have BX : Hid (Below w1.heap.size w1 ((w1.alloc (.cells X 63)).setRow w1.heap.size (nc q).toArray)) := below_setRow ((Below.refl _ _).alloc (Nat.le_refl _) _) (Nat.le_refl _) _
  have NQ : Hid (Blk ((w1.alloc (.cells X 63)).setRow w1.heap.size (nc q).toArray) w1.heap.size 63 (nc q).toArray) := (Blk.new w1 63 X).row _
  have NB := hid (NQ.out.node HQ.out)
  have KZ2 := hid (KZ1.out.below BX.out); have B2 := hid (B1.out.trans (BX.out.mono B1.out.size))
  clear BX KZ1 B1 KZ B0 CN
  generalize (w1.alloc (.cells X 63)).setRow w1.heap.size (nc q).toArray = w2 at NB NQ KZ2 B2 ⊢
  generalize w1.heap.size = g5 at NB NQ NE0 ⊢
  have cl := NB.out.leaf
  rw [HL.out] at cl
  have NK : Hid (w2.rangeAt g5 1 (u8s q.k)) := by have := NB.out.key; rwa [Nat.zero_add] at this
  have NV : Hid (w2.rangeAt g5 33 (u8s q.v)) := by have := NB.out.val; rwa [Nat.zero_add] at this
  go_wp2_with (first
    | (refine load_at rfl 25 (.tmp 15) rfl g5 1 rfl (u8s q.k) _ NK.out Tryz.underlying25 rfl HKI.out (kc q.k) rfl ?_)
    | (refine load_at rfl 25 (.tmp 17) rfl g5 33 rfl (u8s q.v) _ NV.out Tryz.underlying25 rfl HVI.out (kc q.v) rfl ?_)
    | (refine wpList_buildC rfl 49 _ rfl (rwc R).toArray ?hc ?_; case hc => (simp only [List.map_toArray, List.map_cons, List.map_nil, Act.eval]; exact HPB.out))
    | (refine wpList_store_row rfl 49 (.tmp 4) (.tmp 19) rfl w.heap.size (rwc R).toArray rfl rfl 49 Z KZ2.out HRI.out HRZ.out HR1.out ?_))
  try go_frame
  first | rw [Exit.noGoto_ret] | skip
  refine bodyPost_ret (results_cell_row Tryz.results25 _ _ w.heap.size 49 (rwc R).toArray (0, 0) _ rfl (KZ2.out.row _) Tryz.underlying49 rfl HRI.out) rfl ?_
  exact ⟨rfl, below_setRow B2.out (Nat.le_refl _) _⟩
set_option maxHeartbeats 4000000 in
theorem drow_inner (h : Fo w f g b0 N A c tv) (i : Nat) (q : Nd) (hi : N[i]? = some q) (hl : q.leaf = false) {a d : Nat} {qa qd : Nd} (hla : q.l = (a : Nat)) (hrd : q.r = (d : Nat)) (ha : N[a]? = some qa) (hd : N[d]? = some qd) :
    Calls Tryz.prog 25 #[.pointer (some ⟨f, 0, none⟩), .int .i64 i] w fun e w' => e = .returned (.agg (rwc (rwI q.n q.b qa.h qd.h)).toArray) ∧ Below w.heap.size w w' := by
  obtain ⟨Z, HZ, hZ0, hZs⟩ := zero_drow
  obtain ⟨X, HX, hX0, hXs⟩ := zero_node
  have hq := h.ok q (List.mem_of_getElem? hi)
  have hqa := h.ok qa (List.mem_of_getElem? ha); have hqd := h.ok qd (List.mem_of_getElem? hd)
  have CA := hid (fun w1 (hb : Below w.heap.size w w1) => dhash_at (h.below hb) a qa ha)
  have CD := hid (fun w1 (hb : Below w.heap.size w w1) => dhash_at (h.below hb) d qd hd)
  have KZ : Hid (Blk (w.alloc (.cells Z 49)) w.heap.size 49 Z) := Blk.new w 49 Z
  have B0 : Hid (Below w.heap.size w (w.alloc (.cells Z 49))) := (Below.refl _ _).alloc (Nat.le_refl _) _
  have CN0 := xNode_at (h.below B0.out) i q hi
  unfold ndV at CN0
  have CN := hid CN0
  have HQ := hid hq
  have HNI := hid (node_info hq); have HN2 := hid (node_info2 hq)
  have HNZ : Hid (X.size = (nc q).toArray.size) := by show _ = _; rw [HX.out, List.size_toArray, List.size_toArray, ndZ_ok.nc, hq.nc]
  have HN3 := hid (nc_one2 q)
  have HPB := hid (rowI_built (n := q.n) hq.b hqa.h hqd.h)
  have HRI := hid (drow_info2 (rwI_ok (n := q.n) hq.b hqa.h hqd.h)); have HRZ : Hid (Z.size = (rwc (rwI q.n q.b qa.h qd.h)).toArray.size) := by show _ = _; rw [HZ.out, List.size_toArray, List.size_toArray, rwZ_ok.len, (rwI_ok hq.b hqa.h hqd.h).len]
  have HPI := hid (pcl_info q.n hq.b)
  have HR1 := hid (rwc_one (rwI q.n q.b qa.h qd.h))
  have HL := hid hl; have HLA := hid hla; have HRD := hid hrd
  clear CN0 h hi hq hl hqa hqd ha hd hla hrd
  generalize rwI q.n q.b qa.h qd.h = R at HPB HRI HRZ HR1 ⊢
  go_enter Tryz.func25, Tryz.ntmps25
  go_upto_region 2 with (first
    | (go_at_call 33; refine CN.out.mono ?_; rintro e w1 ⟨rfl, hb⟩; have KZ1 := hid (KZ.out.below hb); have B1 := hid (B0.out.trans (hb.mono B0.out.size)); clear hb)
    | (refine wpList_store_row rfl 63 (.tmp 5) (.tmp 11) rfl w1.heap.size (nc q).toArray rfl rfl 63 X (Blk.new w1 63 X) HN2.out HNZ.out HN3.out ?_))
  have NE0 : Hid (w.heap.size < w1.heap.size) := KZ1.out.lt
  have BX : Hid (Below w1.heap.size w1 ((w1.alloc (.cells X 63)).setRow w1.heap.size (nc q).toArray)) := below_setRow ((Below.refl _ _).alloc (Nat.le_refl _) _) (Nat.le_refl _) _
  have NQ : Hid (Blk ((w1.alloc (.cells X 63)).setRow w1.heap.size (nc q).toArray) w1.heap.size 63 (nc q).toArray) := (Blk.new w1 63 X).row _
  have NB := hid (NQ.out.node HQ.out)
  have KZ2 := hid (KZ1.out.below BX.out); have B2 := hid (B1.out.trans (BX.out.mono B1.out.size))
  clear BX KZ1 B1 KZ B0 CN
  generalize (w1.alloc (.cells X 63)).setRow w1.heap.size (nc q).toArray = w2 at NB NQ KZ2 B2 ⊢
  generalize w1.heap.size = g5 at NB NQ NE0 ⊢
  have cl := NB.out.leaf
  rw [HL.out] at cl
  have NE5 : Hid (w.heap.size < g5) := NE0.out
  have HRS : Hid ((rwc R).toArray.size = 162) := by show _ = _; rw [← HRZ.out, HZ.out, List.size_toArray, rwZ_ok.len]
  have D2 : Hid (DrS w g5 q w2) := ⟨B2.out, NQ.out, Z, KZ2.out, by rw [HZ.out, List.size_toArray, rwZ_ok.len]⟩
  go_upto_region 4 with (fail)
  clear cl NB NQ KZ2 B2
  refine wp_region_held (S := fun w' => Hid (DrS w g5 q w')) (by kernel_rfl) ?_
  change wpAnyH _ _ _ _ _ _ _ _ w2.drew
  have Gx0 : Hid (DrS w g5 q w2.drew) := D2.out.below (Below.refl _ _).drew
  generalize w2.drew = x0 at Gx0  ⊢
  refine wpAnyH_take (i := 0) (oi := { dst := some 20, op := _, type := _, pos := _, after := _, guard := _ }) (v := ?_) rfl (by kernel_rfl) (by kernel_rfl) (by kernel_rfl) (fun _ _ _ h => h) (Or.inl ⟨by kernel_rfl, ?_⟩) Gx0 ?_
  rotate_left
  · (intro w hSw; go_simp; try with_reducible rfl)
  try simp only [Act.put, List.setIfInBounds_toArray, List.set_cons_zero, List.set_cons_succ]
  refine wpAnyH_take (i := 1) (oi := { dst := some 21, op := _, type := _, pos := _, after := _, guard := _ }) (v := .agg ((pc q.n q.b))) rfl (by kernel_rfl) (by kernel_rfl) (by kernel_rfl) (fun _ _ _ h => h) (yieldsIf_load_mid (cs := .int .i64 q.n :: u8s q.b) (by rfl) _ _ rfl _ _ rfl _ (fun w' hSw => (hSw.out.nb.node HQ.out).pre) Tryz.underlying47 rfl HPI.out) Gx0 ?_
  try simp only [Act.put, List.setIfInBounds_toArray, List.set_cons_zero, List.set_cons_succ]
  refine wpAnyH_take (i := 2) (oi := { dst := some 22, op := _, type := _, pos := _, after := _, guard := _ }) (v := ?_) rfl (by kernel_rfl) (by kernel_rfl) (by kernel_rfl) (fun _ _ _ h => h) (Or.inl ⟨by kernel_rfl, ?_⟩) Gx0 ?_
  rotate_left
  · (intro w hSw; go_simp; try with_reducible rfl)
  try simp only [Act.put, List.setIfInBounds_toArray, List.set_cons_zero, List.set_cons_succ]
  refine wpAnyH_take (i := 3) (oi := { dst := some 23, op := _, type := _, pos := _, after := _, guard := _ }) (v := ?_) rfl (by kernel_rfl) (by kernel_rfl) (by kernel_rfl) (fun _ _ _ h => h) (Or.inl ⟨by kernel_rfl, ?_⟩) Gx0 ?_
  rotate_left
  · (intro w hSw; go_simp; try with_reducible rfl)
  try simp only [Act.put, List.setIfInBounds_toArray, List.set_cons_zero, List.set_cons_succ]
  refine wpAnyH_take (i := 4) (oi := { dst := some 24, op := _, type := _, pos := _, after := _, guard := _ }) (v := .int .i64 (a : Nat)) rfl (by kernel_rfl) (by kernel_rfl) (by kernel_rfl) (fun _ _ _ h => h) (Or.inl ⟨by kernel_rfl, ?_⟩) Gx0 ?_
  · (intro w hSw; have c9 := (hSw.out.nb.node HQ.out).left; rw [HLA.out] at c9; go_simp; try with_reducible rfl)
  try simp only [Act.put, List.setIfInBounds_toArray, List.set_cons_zero, List.set_cons_succ]
  refine wpAnyH_take (i := 6) (oi := { dst := some 26, op := _, type := _, pos := _, after := _, guard := _ }) (v := ?_) rfl (by kernel_rfl) (by kernel_rfl) (by kernel_rfl) (fun _ _ _ h => h) (Or.inl ⟨by kernel_rfl, ?_⟩) Gx0 ?_
  rotate_left
  · (intro w hSw; go_simp; try with_reducible rfl)
  try simp only [Act.put, List.setIfInBounds_toArray, List.set_cons_zero, List.set_cons_succ]
  refine wpAnyH_take (i := 7) (oi := { dst := some 27, op := _, type := _, pos := _, after := _, guard := _ }) (v := ?_) rfl (by kernel_rfl) (by kernel_rfl) (by kernel_rfl) (fun _ _ _ h => h) (Or.inl ⟨by kernel_rfl, ?_⟩) Gx0 ?_
  rotate_left
  · (intro w hSw; go_simp; try with_reducible rfl)
  try simp only [Act.put, List.setIfInBounds_toArray, List.set_cons_zero, List.set_cons_succ]
  refine wpAnyH_take (i := 8) (oi := { dst := some 28, op := _, type := _, pos := _, after := _, guard := _ }) (v := .int .i64 (d : Nat)) rfl (by kernel_rfl) (by kernel_rfl) (by kernel_rfl) (fun _ _ _ h => h) (Or.inl ⟨by kernel_rfl, ?_⟩) Gx0 ?_
  · (intro w hSw; have c9 := (hSw.out.nb.node HQ.out).right; rw [HRD.out] at c9; go_simp; try with_reducible rfl)
  try simp only [Act.put, List.setIfInBounds_toArray, List.set_cons_zero, List.set_cons_succ]
  refine wpAnyH_ready (rs := [5]) (by kernel_rfl) (by simp) ?_
  refine (AllReadyH.cons (o := { dst := some 25, op := _, type := _, pos := _, after := _, guard := _ }) rfl (fun Qc hQc => ?_) AllReadyH.nil)
  go_simp
  go_at_call 16
  refine (CA.out _ Gx0.out.bl).mono ?_
  rintro e x1 ⟨rfl, hb⟩
  have Gx1 := hid (Gx0.out.below hb)
  clear hb
  go_wp2_with fail
  refine hQc.out _ _ Gx1 (fun hHeld => ?_)
  clear hQc Qc hHeld
  try simp only [Act.put, List.setIfInBounds_toArray, List.set_cons_zero, List.set_cons_succ]
  refine wpAnyH_ready (rs := [9]) (by kernel_rfl) (by simp) ?_
  refine (AllReadyH.cons (o := { dst := some 29, op := _, type := _, pos := _, after := _, guard := _ }) rfl (fun Qc hQc => ?_) AllReadyH.nil)
  go_simp
  go_at_call 16
  refine (CD.out _ Gx1.out.bl).mono ?_
  rintro e x2 ⟨rfl, hb⟩
  have Gx2 := hid (Gx1.out.below hb)
  clear hb
  go_wp2_with fail
  refine hQc.out _ _ Gx2 (fun hHeld => ?_)
  clear hQc Qc hHeld
  try simp only [Act.put, List.setIfInBounds_toArray, List.set_cons_zero, List.set_cons_succ]
  refine wpAnyH_take (i := 10) (oi := { dst := some 30, op := _, type := _, pos := _, after := _, guard := _ }) (v := .agg (rwc R).toArray) rfl (by kernel_rfl) (by kernel_rfl) (by kernel_rfl) (fun _ _ _ h => h) (Or.inl ⟨by kernel_rfl, ?_⟩) Gx2 ?_
  · (intro w hSw; have hbw := HPB.out; exact exec_build1 49 #[(3, .tmp 21), (4, .tmp 25), (5, .tmp 29)] rfl _ (by simp only [List.map_toArray, List.map_cons, List.map_nil, Act.eval]; exact hbw) w)
  try simp only [Act.put, List.setIfInBounds_toArray, List.set_cons_zero, List.set_cons_succ]
  refine wpAnyH_ready (rs := [11]) (by kernel_rfl) (by simp) ?_
  refine (AllReadyH.cons (o := { dst := none, op := _, type := _, pos := _, after := _, guard := _ }) rfl (fun Qc hQc => ?_) AllReadyH.nil)
  rw [if_pos (by rfl)]
  obtain ⟨cs, hk, hcs⟩ := Gx2.out.kz
  refine wp_store_row 49 (.tmp 4) (.tmp 30) rfl w.heap.size (rwc R).toArray rfl rfl 49 cs hk HRI.out (by rw [hcs, HRS.out]) HR1.out ?_
  have Gx3 : Hid (DrS w g5 q (x2.setRow w.heap.size (rwc R).toArray)) := Gx2.out.set NE5.out HRS.out
  have KF : Hid (Blk (x2.setRow w.heap.size (rwc R).toArray) w.heap.size 49 (rwc R).toArray) := hk.row _
  clear hk hcs
  refine hQc.out _ _ Gx3 (fun hHeld => ?_)
  clear hQc Qc hHeld
  generalize x2.setRow w.heap.size (rwc R).toArray = x3 at Gx3 KF ⊢
  try simp only [Act.put, List.setIfInBounds_toArray, List.set_cons_zero, List.set_cons_succ]
  refine wpAnyH_done (by kernel_rfl) ?_ _
  try simp only [Act.put, List.setIfInBounds_toArray, List.set_cons_zero, List.set_cons_succ]
  go_wp2
  try go_frame
  first | rw [Exit.noGoto_ret] | skip
  refine bodyPost_ret (results_cell_row Tryz.results25 _ _ w.heap.size 49 (rwc R).toArray (0, 0) _ rfl KF.out Tryz.underlying49 rfl HRI.out) rfl ?_
  exact ⟨rfl, Gx3.out.bl⟩
end
end Go.Proofs.YtjhaamffgkialaaGreatDoor
/-
  What this file is for: a range over a function whose iterator writes memory of its own between two rounds (a stack, say): the caller's invariant is told which blocks those are. Nothing of the program is walked here.
-/
namespace Go.Proofs.YtjhaamffgkialaaGreatDoor
open Go.ChangeShapes Go.WideShapes Go.ChangeAt Go.RowKit Go.Shelf
set_option linter.unusedVariables false
set_option linter.unusedSimpArgs false
set_option maxRecDepth 20000

/-- an invariant over what has come, that bears the iterator's writing into Z, and that new blocks become Z's -/
structure GhJ {α : Type} (J : (Nat → Prop) → List α → World → Prop) : Prop where
  only : ∀ Z s W W', J Z s W → OnlyS Z W W' → J Z s W'
  more : ∀ Z s W k, J Z s W → W.heap.size ≤ k → J (fun j => Z j ∨ j = k) s W
/-- what an iterator is worth to whoever ranges over it to its end: SS is what it reads from the outset, Z what it has laid -/
def SeqZ {α : Type} (n : Nat) (P : Program) (gf : Nat) (lb : Array Value) (encs : α → Array Value) (SS : Nat → Prop) (S : List α → Prop) (N : Nat) (w : World) : Prop :=
  ∀ (l : Nat) (J : (Nat → Prop) → List α → World → Prop) (W : World), Below w.heap.size w W → GhJ J →
    (∀ Z pre x W1, J Z pre W1 → (∀ k, Z k → k < W1.heap.size) → pre.length < N → YieldAt Fence.wide (n - 1) P l (encs x) W1 fun e W' => e = .returned (.bool true) ∧ J Z (pre ++ [x]) W' ∧ KpS (fun k => SS k ∨ Z k) W1 W') →
    J (fun _ => False) [] W →
    CallsIn Fence.wide n P gf (#[.func (.yield l) #[] #[]] ++ lb) W fun e W' => (∃ v, e = .returned v) ∧ ∃ Z xs, S xs ∧ J Z xs W'
theorem range_ghost {α : Type} {P : Program} {n : Nat} {g : Operand} {ps : Array Tmp} {assign body : Code} {Q : Exit → Act → World → Prop} {a : Act} {w : World} (h1 : 1 ≤ n) {gf : Nat} {lb : Array Value} (hg : a.eval g = .func (.func gf) #[] lb) (eg : ∀ args w, (callFunc gf args).run P w = .ok (.enter gf args) w)
    {encs : α → Array Value} {SS : Nat → Prop} {S : List α → Prop} {N : Nat} {w0 : World} (hseq : SeqZ (n - 1) P gf lb encs SS S N w0) (hSS : ∀ k, SS k → k < w.heap.size) (hb0 : Below w0.heap.size w0 w) (hps : ∀ x, (encs x).size = ps.size)
    (I : (Nat → Prop) → List α → World → Prop) (hI : GhJ I) (hO : ∀ Z, OwnFrom w.heap.size (I Z)) (h0 : I (fun _ => False) [] w) (a₁ : α → Act)
    (hassign : ∀ (l : Nat) (x : α) (W : World) (K : Act → World → Prop), K (a₁ x) W → assign.wpIn (Fence.wide.inRound l) (n - 1 - 1) P (Exit.then K (fun _ _ _ => False)) { tmps := (ps.zip (encs x)).foldl (fun t (p, v) => t.setIfInBounds p v) a.tmps, defers := [] } W)
    (hbody : ∀ (l : Nat) (Z : Nat → Prop) (pre : List α) (x : α) (W : World), w.heap.size ≤ W.heap.size → I Z pre W → (∀ k, Z k → k < W.heap.size) → pre.length < N → body.wpIn (Fence.wide.inRound l) (n - 1 - 1) P (fun e _ W' => e = .normal ∧ KeepsFrom w.heap.size W W' ∧ KpS (fun k => SS k ∨ Z k) W W' ∧ I Z (pre ++ [x]) W') (a₁ x) W)
    (hdone : ∀ (D : Nat) (Z : Nat → Prop) (xs : List α) (W : World), w.heap.size ≤ D → S xs → I Z xs W → W.heap[D]? = some (.deferred (some [])) → Q .normal { a with defers := { target := .collected D, args := #[] } :: a.defers } W) :
    (Code.rangeFunc g ps assign body).wpIn Fence.wide n P Q a w := by
  refine wpIn_rangeFunc fun fn hfn => ?_
  obtain ⟨rec, hrec⟩ : ∃ rec : LoopState → Option Code → Loop, rec = fun st pe => { state := st, pending := pe, fn, tmps := a.tmps, params := ps, assign, body, defers := w.heap.size } := ⟨_, rfl⟩
  obtain ⟨W1, hW1⟩ : ∃ W1, (w.alloc (.deferred (some []))).alloc (.loop (rec .ready none)) = W1 := ⟨_, rfl⟩
  have sz0 : (w.alloc (.deferred (some []))).heap.size = w.heap.size + 1 := World.size_alloc ..
  have sz1 : W1.heap.size = w.heap.size + 1 + 1 := by rw [← hW1, World.size_alloc, sz0]
  have lp1 : W1.heap[w.heap.size + 1]? = some (.loop (rec .ready none)) := by rw [← hW1, ← sz0]; exact World.alloc_heap_new _ _
  have df1 : W1.heap[w.heap.size]? = some (.deferred (some [])) := by rw [← hW1, Below.heap_alloc _ _ _ (by rw [sz0]; omega)]; exact World.alloc_heap_new w _
  have i1 : I (fun _ => False) [] W1 := by rw [← hW1]; exact (hO _).alloc _ ((hO _).alloc _ h0)
  have b1 : Below w0.heap.size w0 W1 := by rw [← hW1]; exact (hb0.alloc hb0.size _).alloc (Nat.le_trans hb0.size (by rw [sz0]; omega)) _
  -- the loop's two blocks are none of the iterator's
  obtain ⟨J, hJ⟩ : ∃ J : (Nat → Prop) → List α → World → Prop, J = fun Z pre W => I Z pre W ∧ (¬ Z w.heap.size ∧ ¬ Z (w.heap.size + 1)) ∧ w.heap.size + 1 < W.heap.size ∧ W.heap[w.heap.size + 1]? = some (.loop (rec .ready none)) ∧ W.heap[w.heap.size]? = some (.deferred (some [])) := ⟨_, rfl⟩
  have gJ : GhJ J := by
    subst hJ
    refine ⟨fun Z s W W' ⟨hi, hz, hs, hl, hd⟩ ho => ⟨hI.only Z s W W' hi ho, hz, Nat.lt_of_lt_of_le hs ho.size, (ho.block _ hs hz.2).trans hl, (ho.block _ (by omega) hz.1).trans hd⟩, fun Z s W k ⟨hi, hz, hs, hl, hd⟩ hk => ⟨hI.more Z s W k hi hk, ⟨fun h => ?_, fun h => ?_⟩, hs, hl, hd⟩⟩
    · rcases h with h | h
      · exact hz.1 h
      · omega
    · rcases h with h | h
      · exact hz.2 h
      · omega
  refine ⟨w.heap.size + 1, [{ target := .collected w.heap.size, args := #[] }], W1, { target := .fn (.func gf) lb, args := #[.func (.yield (w.heap.size + 1)) #[] #[]] }, W1, gf, #[.func (.yield (w.heap.size + 1)) #[] #[]] ++ lb, W1, ?_, ?_, ?_, ?_, fun _ => h1, ?_⟩
  · rw [← hW1, hrec]; exact run_enterLoop_outer _ _ _ _ _
  · simp only [resolve, hg]
    simp [go_sem]
  · intro f' hf'; simp [Target.leads] at hf'; subst hf'; trivial
  · simp [invoke, go_sem, eg]
  · refine (hseq (w.heap.size + 1) J W1 b1 gJ (fun Z pre x W hj hzl hlen => ?_) (by subst hJ; exact ⟨i1, ⟨id, id⟩, by omega, lp1, df1⟩)).mono ?_
    · rw [hJ] at hj
      obtain ⟨hi, hz, hs, hl, hd⟩ := hj
      have hy := run_yield (P := P) (args := encs x) hl (by rw [hrec]; exact hps x)
      rw [hrec] at hy
      refine ⟨fn, _, assign, body, hy, roundIn_of_wpIn hfn (hassign _ x W _ ?_)⟩
      clear hy
      refine ⟨_, run_beginRound hl (by rw [hrec]), ?_⟩
      -- what a turn of the record leaves
      have turn : ∀ (X : World) (o o' : Obj), w.heap.size + 1 < X.heap.size → X.heap[w.heap.size + 1]? = some o → KpS (fun k => SS k ∨ Z k) X (X.putObj (w.heap.size + 1) o') := fun X o o' hx ho => ⟨by simp, fun k hk hlt => World.putObj_heap_other (fun e => by
        subst e
        rcases hk with h | h
        · have := hSS _ h; omega
        · exact hz.2 h)⟩
      have l2 : (W.putObj (w.heap.size + 1) (.loop { rec .ready none with state := .busy })).heap[w.heap.size + 1]? = some (.loop { rec .ready none with state := .busy }) := World.putObj_heap_same hs
      have d2 : (W.putObj (w.heap.size + 1) (.loop { rec .ready none with state := .busy })).heap[w.heap.size]? = some (.deferred (some [])) := (World.putObj_heap_other (by omega)).trans hd
      have s2 : w.heap.size + 1 < (W.putObj (w.heap.size + 1) (.loop { rec .ready none with state := .busy })).heap.size := (Array.getElem?_eq_some_iff.1 l2).1
      refine wpIn_mono (hbody _ Z pre x _ (by simp; omega) ((hO Z).putObj _ hi (by omega) hl rfl) (fun k hk => by have := hzl k hk; simpa using this) hlen) ?_
      rintro e a3 W3 ⟨rfl, hk3, hkp3, hi3⟩
      have l3 := hk3.same _ _ (by omega) l2 rfl
      have d3 := hk3.same _ _ (Nat.le_refl _) d2 rfl
      have s3 : w.heap.size + 1 < W3.heap.size := (Array.getElem?_eq_some_iff.1 l3).1
      have hr := run_endRound (P := P) none l3
      rw [hrec] at hr
      refine ⟨_, _, hr, rfl, ?_, ((turn W _ _ hs hl).t hkp3).t (turn W3 _ _ s3 l3)⟩
      rw [hJ]
      refine ⟨(hO Z).putObj _ hi3 (by omega) l3 rfl, hz, ?_, ?_, ?_⟩
      · simpa using s3
      · rw [hrec]; exact World.putObj_heap_same s3
      · exact (World.putObj_heap_other (by omega)).trans d3
    · rintro e W2 ⟨⟨v, rfl⟩, Z, xs, hS, hj⟩
      rw [hJ] at hj
      obtain ⟨hi, hz, hs, hl, hd⟩ := hj
      have hr := run_endLoop (P := P) hl (by rw [hrec]; simp)
      rw [hrec] at hr
      exact ⟨none, _, hr, hdone _ Z xs _ (Nat.le_refl _) hS ((hO Z).putObj _ hi (by omega) hl rfl) ((World.putObj_heap_other (by omega)).trans hd)⟩
end Go.Proofs.YtjhaamffgkialaaGreatDoor
/-
  What is proved here: the numbers of a tree's nodes, one by one, for whatever loop's body.
-/
namespace Go.Proofs.YtjhaamffgkialaaGreatDoor
open Go.ChangeShapes Go.WideShapes Go.ChangeAt Go.RowKit Go.Shelf
set_option linter.unusedVariables false
set_option linter.unusedSimpArgs false
set_option maxRecDepth 20000
attribute [local go_sem] Oper.semAt_some

abbrev ItN := Int × Option Tr
/-- the numbers that are size and more: a node, then what is right of it, then what is left -/
def numT (N : List Nd) (sz : Int) : Tr → Nat → List Nat
  | .leaf _ _, i => if (i : Int) < sz then [] else [i]
  | .inner _ _ l r, i => if (i : Int) < sz then [] else i :: (numT N sz r (N[i]?.getD ndZ).r.toNat ++ numT N sz l (N[i]?.getD ndZ).l.toNat)
def numO (N : List Nd) (sz : Int) : ItN → List Nat
  | (_, none) => []
  | (i, some t) => numT N sz t i.toNat
def remS (N : List Nd) (sz : Int) : List ItN → List Nat
  | [] => []
  | x :: r => remS N sz r ++ numO N sz x
theorem remS_snoc (N : List Nd) (sz : Int) (x : ItN) : ∀ st, remS N sz (st ++ [x]) = numO N sz x ++ remS N sz st
  | [] => by simp [remS]
  | y :: r => by simp only [List.cons_append, remS, remS_snoc N sz x r, List.append_assoc]
def wtT : Tr → Nat
  | .leaf _ _ => 1
  | .inner _ _ l r => 1 + wtT l + wtT r
def wtO : Option Tr → Nat
  | none => 1
  | some t => wtT t
theorem wtTpos (t : Tr) : 1 ≤ wtT t := by cases t <;> simp [wtT] <;> omega
theorem wtO_pos (T : Option Tr) : 1 ≤ wtO T := by cases T with | none => exact Nat.le_refl _ | some t => exact wtTpos t
theorem wtTlen : ∀ t : Tr, wtT t + 1 = 2 * t.list.length
  | .leaf _ _ => rfl
  | .inner _ _ l r => by
    have h1 := wtTlen l; have h2 := wtTlen r
    show 1 + wtT l + wtT r + 1 = 2 * (l.list ++ r.list).length
    rw [List.length_append]; omega
def wtS : List ItN → Nat
  | [] => 0
  | x :: r => wtO x.2 + wtS r
theorem wtS_snoc (x : ItN) : ∀ st, wtS (st ++ [x]) = wtS st + wtO x.2
  | [] => by simp [wtS]
  | y :: r => by simp only [List.cons_append, wtS, wtS_snoc x r]; omega
theorem wtS_len : ∀ st : List ItN, st.length ≤ wtS st
  | [] => Nat.le_refl _
  | y :: r => by have := wtS_len r; have := wtO_pos y.2; simp only [List.length_cons, wtS]; omega
def NmS (bt bs bf f g b k : Nat) : Prop := k = bt ∨ k = bs ∨ k = bf ∨ Ow f g b k
/-- what it reads: its boxes, and the forest -/
structure NmI (bt bs bf f g b : Nat) (N : List Nd) (A : Option Addr) (c : Nat) (tv : Value) (ti sz : Int) (W : World) : Prop where
  kt : Blk W bt 3 #[.int .i64 ti]
  ks : Blk W bs 3 #[.int .i64 sz]
  kf : Blk W bf 27 #[.pointer (some ⟨f, 0, none⟩)]
  fo : Fo W f g b N A c tv
section
variable {bt bs bf f g b c : Nat} {N : List Nd} {A : Option Addr} {tv : Value} {ti sz : Int} {W W' : World}
theorem NmI.below (h : NmI bt bs bf f g b N A c tv ti sz W) (hb : Below W.heap.size W W') : NmI bt bs bf f g b N A c tv ti sz W' := ⟨h.kt.below hb, h.ks.below hb, h.kf.below hb, h.fo.below hb⟩
theorem NmI.lt (h : NmI bt bs bf f g b N A c tv ti sz W) : ∀ k, NmS bt bs bf f g b k → k < W.heap.size := fun k hk => by
  obtain ⟨h1, h2, h3⟩ := h.fo.lts
  rcases hk with rfl | rfl | rfl | rfl | rfl | rfl
  · exact h.kt.lt
  · exact h.ks.lt
  · exact h.kf.lt
  · exact h1
  · exact h2
  · exact h3
theorem NmI.keep (h : NmI bt bs bf f g b N A c tv ti sz W) (hk : ∀ k, NmS bt bs bf f g b k → W'.heap[k]? = W.heap[k]?) : NmI bt bs bf f g b N A c tv ti sz W' :=
  ⟨h.kt.same (hk _ (.inl rfl)), h.ks.same (hk _ (.inr (.inl rfl))), h.kf.same (hk _ (.inr (.inr (.inl rfl)))), h.fo.keep (fun k ho => hk k (.inr (.inr (.inr ho))))⟩
end
/-- a block that was the iterator's, or is new, is the iterator's -/
theorem gh_grow {α : Type} {J : (Nat → Prop) → List α → World → Prop} (hJ : GhJ J) {Z : Nat → Prop} {s : List α} {W W' : World} {k B : Nat} (h : J Z s W) (ho : OnlyS Z W W') (hk : Z k ∨ W.heap.size ≤ k) (hlt : k < W'.heap.size) (hz : ∀ j, Z j → B ≤ j ∧ j < W.heap.size) (hB : B ≤ W.heap.size) :
    ∃ Z' : Nat → Prop, Z' k ∧ J Z' s W' ∧ ∀ j, Z' j → B ≤ j ∧ j < W'.heap.size := by
  rcases hk with hk | hk
  · exact ⟨Z, hk, hJ.only _ _ _ _ h ho, fun j hj => ⟨(hz j hj).1, Nat.lt_of_lt_of_le (hz j hj).2 ho.size⟩⟩
  · refine ⟨fun j => Z j ∨ j = k, .inr rfl, hJ.only _ _ _ _ (hJ.more _ _ _ _ h hk) (ho.mono (fun j _ hj => .inl hj)), fun j hj => ?_⟩
    rcases hj with hj | rfl
    · exact ⟨(hz j hj).1, Nat.lt_of_lt_of_le (hz j hj).2 ho.size⟩
    · exact ⟨Nat.le_trans hB hk, hlt⟩
/-- between two rounds -/
structure NmL (bt bs bf f g b : Nat) (N : List Nd) (A : Option Addr) (c : Nat) (tv : Value) (ti sz : Int) (B : Nat) (J : (Nat → Prop) → List Nat → World → Prop) (L : List Nat) (st : List ItN) (pre : List Nat) (Z : Nat → Prop) (A5 : Option Addr) (c5 : Nat) (wr : World) : Prop where
  ni : NmI bt bs bf f g b N A c tv ti sz wr
  row : wr.ownsRow B 3 1 (.slice A5 st.length c5) st.length (i64s (st.map (·.1)))
  zz : ∀ k, (Value.slice A5 st.length c5).ownBlock = some k → Z k
  zb : ∀ k, Z k → B ≤ k ∧ k < wr.heap.size
  its : ∀ p ∈ st, TAt N p.1 p.2
  eq : pre ++ remS N sz st = L
  j : J Z pre wr
theorem i64s_snoc (xs : List Int) (y : Int) : i64s (xs ++ [y]) = i64s xs ++ i64s [y] := by simp [i64s]
theorem row_last {w : World} {base m c : Nat} {A : Option Addr} {X : List Int} {y : Int} (h : w.ownsRow base 3 1 (.slice A (m + 1) c) (m + 1) (i64s (X ++ [y]))) (hX : X.length = m) :
    ∃ g, A = some ⟨g, 0, none⟩ ∧ base ≤ g ∧ m + 1 ≤ c ∧ w.cell? ⟨g, m, none⟩ = some (.int .i64 y) ∧ w.ownsRow base 3 1 (.slice A m c) m (i64s X) := by
  rcases h.2 with ⟨_, h0⟩ | ⟨g, cap, cur, hv, hb, hh, hnc, hcm, hcs, htk⟩
  · omega
  · injection hv with hA _ hc
    subst hc
    refine ⟨g, hA, hb, hnc, ?_, by rw [i64s_len, hX, Nat.mul_one], .inr ⟨g, c, cur, by rw [hA], hb, hh, by omega, hcm, hcs, ?_⟩⟩
    · have h2 := h.cells (g := g) (by rw [hA]; rfl) m (.int .i64 y) (by unfold i64s; rw [List.getElem?_map, List.getElem?_append_right (by omega), hX, Nat.sub_self]; rfl)
      rw [Addr.add_lit, Nat.zero_add] at h2
      exact h2
    · rw [Nat.mul_one] at htk ⊢
      have e := congrArg (List.take m) htk
      rw [List.take_take, Nat.min_eq_left (by omega), i64s_snoc, List.take_left' (by rw [i64s_len, hX])] at e
      exact e
theorem append_int2 {w : World} {ops : Array Oper} {rest : List Oper} {o : Oper} {a : Act} {Q : Exit → Act → World → Prop} (hgd : o.guard = none) (s x : Operand)
    (ho : o.op = .call { callee := .builtin .append, args := #[s, x], argTypes := #[71, 71] })
    (base : Nat) (A : Option Addr) (c : Nat) (xs : List Int) (n : Nat) (hn : n = xs.length) (hs : a.eval s = .slice A n c) (hown : w.ownsRow base 3 1 (.slice A n c) n (i64s xs))
    (y z : Int) (hx : a.eval x = .slice (some ⟨w.heap.size, 0, none⟩) 2 2) (h63 : n < 1000000) (hbase : base ≤ w.heap.size)
    (h : ∀ A' c' w', Hid (w'.ownsRow base 3 1 (.slice A' (n + 2) c') (n + 2) (i64s (xs ++ [y] ++ [z]))) → Hid (w.grownBy w' (Value.slice A n c).ownBlock) → Hid (∀ k, (Value.slice A' (n + 2) c').ownBlock = some k → (Value.slice A n c).ownBlock = some k ∨ w.heap.size ≤ k) → wpList Tryz.prog ops Q rest (a.put o.dst (.slice A' (n + 2) c')) w') : wpList Tryz.prog ops Q (o :: rest) a (w.alloc (.cells #[.int .i64 y, .int .i64 z] 3)) := by
  obtain ⟨i0, hi, hz0, hz1, hz2⟩ := info_parts info_int
  have hB := Blk.new w 3 #[.int .i64 y, .int .i64 z]
  have hb : Below w.heap.size w (w.alloc (.cells #[.int .i64 y, .int .i64 z] 3)) := (Below.refl _ _).alloc (Nat.le_refl _) _
  refine wpList_append_own_at _ hgd s x 71 ho base 3 i0 (.int .i64 0) 1 8 Tryz.underlying71 hi hz0 hz1 hz2 rfl (by decide) (.slice A n c) n (i64s xs) hs (own_below hown hb) ⟨w.heap.size, 0, none⟩ 2 2 (i64s [y, z]) hx (by rw [i64s_len]; simp) (fun j u hu => ?_) (i64s_one _) (by unfold maxLen; omega) (by omega) (Nat.le_trans hbase hb.size) ?_
  · rw [Addr.add_lit, Nat.zero_add, hB.cell, List.getElem?_toArray]; exact hu
  · intro v' w' h1 h2 _ h4
    have hv : ∃ A' c', v' = .slice A' (n + 2) c' := by
      rcases h1.2 with ⟨_, h5⟩ | ⟨g, cap, cur, hv, _⟩
      · omega
      · exact ⟨_, _, hv⟩
    obtain ⟨A', c', rfl⟩ := hv
    refine h A' c' w' (show World.ownsRow _ _ _ _ _ _ _ from ?_) ((World.grownBy_alloc w _ _).trans h2) (fun k hk => ?_)
    · rw [show i64s (xs ++ [y] ++ [z]) = i64s xs ++ i64s [y, z] by simp [i64s]]
      exact h1
    · rcases h4 with e | e
      · exact .inl (e.symm.trans hk)
      · rw [e] at hk; injection hk with hk; right; rw [← hk]; exact hb.size
end Go.Proofs.YtjhaamffgkialaaGreatDoor
/-
  What is proved here: the walk through a tree's numbers, for whatever loop's body.
-/
namespace Go.Proofs.YtjhaamffgkialaaGreatDoor
open Go.ChangeShapes Go.WideShapes Go.ChangeAt Go.RowKit Go.Shelf
set_option linter.unusedVariables false
set_option linter.unusedSimpArgs false
set_option maxRecDepth 20000
attribute [local go_sem] Oper.semAt_some

def encN (x : Nat) : Array Value := #[.int .i64 (x : Nat)]
theorem round_dep2 {m m' : Nat} {P : Program} {l : Nat} {f : FuncId} {tmps : Array Value} {assign body : Code} {w : World} {R : Ending → World → Prop} (h : RoundIn Fence.wide m P l f tmps assign body w R) : RoundIn Fence.wide m' P l f tmps assign body w R :=
  ⟨h.1, fun c cs _ => h.2 c cs (fun d h => by cases h)⟩
theorem concat_of {α : Type} : ∀ (l : List α), l ≠ [] → ∃ r x, l = r ++ [x]
  | [], h => absurd rfl h
  | [x], _ => ⟨[], x, rfl⟩
  | x :: y :: r, _ => by
    obtain ⟨r', z, e⟩ := concat_of (y :: r) (by simp)
    exact ⟨x :: r', z, by rw [e]; rfl⟩
theorem numTin {N : List Nd} {sz : Int} {n i : Nat} {b : List Int} {l r : Tr} (h : ¬ (i : Int) < sz) : numT N sz (.inner n b l r) i = i :: (numT N sz r (N[i]?.getD ndZ).r.toNat ++ numT N sz l (N[i]?.getD ndZ).l.toNat) := by
  show (if _ then _ else _) = _
  rw [if_neg h]
set_option maxHeartbeats 8000000 in
theorem nums_walk {bt bs bf f g b c : Nat} {N : List Nd} {A : Option Addr} {tv : Value} {ti sz : Int} {T : Option Tr} (hsz : 0 ≤ sz) (hT : TAt N ti T) (hsm : wtO T < 200000) (w : World) (hc : NmI bt bs bf f g b N A c tv ti sz w) :
    SeqZ 1 Tryz.prog 48 #[.pointer (some ⟨bt, 0, none⟩), .pointer (some ⟨bs, 0, none⟩), .pointer (some ⟨bf, 0, none⟩)] encN (NmS bt bs bf f g b) (fun xs => xs = numO N sz (ti, T)) (numO N sz (ti, T)).length w := by
  intro l J W hW hJ hY h0
  have HC := hid (hc.below hW)
  obtain ⟨L, hL⟩ : ∃ L, L = numO N sz (ti, T) := ⟨_, rfl⟩
  have HL := hid hL
  rw [← hL] at hY ⊢
  have HY := hid hY; have HJ := hid hJ; have HT := hid hT; have HSM := hid hsm
  have HSZ := hid hsz
  obtain ⟨X, HX, hX0, hXs⟩ := zero_node
  have c0 : W.cell? ⟨bt, 0, none⟩ = some (.int .i64 ti) := HC.out.kt.cell 0
  have ROW0 : Hid ((W.alloc (.cells #[.int .i64 ti] 3)).ownsRow W.heap.size 3 1 (.slice (some ⟨W.heap.size, 0, none⟩) 1 1) 1 (i64s [ti])) := ⟨rfl, .inr ⟨W.heap.size, 1, _, rfl, Nat.le_refl _, World.alloc_heap_new W _, Nat.le_refl _, by decide, rfl, rfl⟩⟩
  have J0 : Hid (∃ Z : Nat → Prop, Z W.heap.size ∧ J Z [] (W.alloc (.cells #[.int .i64 ti] 3)) ∧ ∀ j, Z j → W.heap.size ≤ j ∧ j < (W.alloc (.cells #[.int .i64 ti] 3)).heap.size) :=
    gh_grow hJ h0 ((OnlyS.refl _ _).alloc _) (.inr (Nat.le_refl _)) (by simp) (fun j h => h.elim) (Nat.le_refl _)
  have N0 : Hid (NmI bt bs bf f g b N A c tv ti sz (W.alloc (.cells #[.int .i64 ti] 3))) := HC.out.below ((Below.refl _ _).alloc (Nat.le_refl _) _)
  have SLT : Hid (∀ k, NmS bt bs bf f g b k → k < W.heap.size) := HC.out.lt
  clear hc hL hY hJ h0 hW HC hsm hsz
  refine callsIn_of_wp Tryz.func48 rfl trivial ?_ rfl
  simp only [Tryz.ntmps48, List.size_toArray, List.length_cons, List.length_nil, Nat.reduceAdd, Nat.reduceSub, Array.replicate_succ, Array.replicate_zero, List.push_toArray, List.append_toArray, List.nil_append, List.cons_append]
  refine (wpIn_wide (n := 1)).2 ?_
  go_wp2
  clear c0
  have HB : Hid (W.heap.size ≤ (W.alloc (.cells #[.int .i64 ti] 3)).heap.size) := by show _ ≤ _; simp
  obtain ⟨B, hB⟩ : ∃ B, B = W.heap.size := ⟨_, rfl⟩
  rw [← hB] at ROW0 J0 SLT HB ⊢
  clear hB
  generalize W.alloc (.cells #[.int .i64 ti] 3) = W1 at ROW0 J0 N0 HB ⊢
  go_loopg [5] (wtS [(ti, T)]) (fun k s5 wr => ∃ (st : List ItN) (A5 : Option Addr) (c5 : Nat) (Z : Nat → Prop) (pre : List Nat), s5 = .slice A5 st.length c5 ∧ k = wtS st ∧ k ≤ wtO T ∧ Hid (B ≤ wr.heap.size) ∧ Hid (NmL bt bs bf f g b N A c tv ti sz B J L st pre Z A5 c5 wr))
  case atStart =>
    obtain ⟨Z, hz1, hz2, hz3⟩ := J0.out
    refine ⟨[(ti, T)], _, 1, Z, [], rfl, rfl, by simp [wtS], HB, N0.out, ROW0.out, fun k hk => by injection hk with hk; rw [← hk]; exact hz1, hz3, fun p hp => by rw [List.mem_singleton.1 hp]; exact HT.out, ?_, hz2⟩
    rw [HL.out]; simp [remS]
  case round =>
    obtain ⟨st, A5, c5, Z, pre, rfl, hgk, hle, HBr, NL⟩ := hrel
    clear ROW0 J0 N0 HB
    have HGK := hid hgk; have HLE := hid hle
    clear hgk hle
    by_cases hst : st = []
    · subst hst
      have HJE := hid NL.out.j
      have HEQ := hid NL.out.eq
      clear NL
      go_wp2
      go_end0
      exact ⟨⟨_, rfl⟩, Z, pre, by have := HEQ.out; simpa [remS] using this, HJE.out⟩
    · obtain ⟨st', it, hc⟩ := concat_of st hst
      subst hc
      obtain ⟨i, Ti⟩ := it
      obtain ⟨m, hm⟩ : ∃ m, m = st'.length := ⟨_, rfl⟩
      have hlen : (st' ++ [(i, Ti)]).length = m + 1 := by rw [hm]; simp
      have ROW := NL.out.row
      rw [hlen, List.map_append] at ROW
      obtain ⟨g5, rfl, hg5, hc5, ce, row'⟩ := row_last ROW (by rw [List.length_map, hm])
      have hZg : Z g5 := NL.out.zz g5 rfl
      have ROWM := hid row'; have HZG := hid hZg; have HM := hid hm; have HG5 := hid hg5
      have cs : wr.cell? ⟨bs, 0, none⟩ = some (.int .i64 sz) := NL.out.ni.ks.cell 0
      have HTI : Hid (TAt N i Ti) := NL.out.its (i, Ti) (List.mem_append_right _ (List.mem_singleton.2 rfl))
      have HITS : Hid (∀ p ∈ st', TAt N p.1 p.2) := fun p hp => NL.out.its p (List.mem_append_left _ hp)
      have HEQ : Hid (pre ++ (numO N sz (i, Ti) ++ remS N sz st') = L) := by show _ = _; rw [← remS_snoc]; exact NL.out.eq
      have HWT : Hid (gk = wtS st' + wtO Ti) := by show _ = _; rw [HGK.out, wtS_snoc]
      have NI := hid NL.out.ni; have ZB := hid NL.out.zb; have JJ := hid NL.out.j
      have hmb : m < 1000000 := by
        have h1 := wtS_len st'; have h2 := HWT.out; have h3 := HLE.out; have h4 := HSM.out
        omega
      clear NL ROW row' hZg hm hg5 hst HGK
      rw [hlen]
      clear hlen
      by_cases hi : i < sz
      · have HFL := hid (show NmL bt bs bf f g b N A c tv ti sz B J L st' pre Z (some ⟨g5, 0, none⟩) c5 wr from ⟨NI.out, by rw [← HM.out]; exact ROWM.out, fun k hk => by injection hk with hk; rw [← hk]; exact HZG.out, ZB.out, HITS.out, by
          have e := HEQ.out
          have e2 : numO N sz (i, Ti) = [] := by
            cases Ti with
            | none => rfl
            | some t =>
              obtain ⟨k, hk, _⟩ := HTI.out
              have hk' : i = (k : Int) := hk
              subst hk'
              cases t <;> (show numT N sz _ _ = []; unfold numT; rw [if_pos (by rw [Int.toNat_natCast]; exact hi)])
          rw [e2] at e; exact e, JJ.out⟩)
        go_wp2
        go_roundg (wtS st')
        case measure => have := HWT.out; have := wtO_pos Ti; omega
        case rel => exact ⟨st', _, c5, Z, pre, by rw [← HM.out], rfl, by have := HWT.out; have := HLE.out; omega, HBr, HFL⟩
      · have hT2 : ∃ t, Ti = some t := by
          cases Ti with
          | none => have h1 : i = -1 := HTI.out; have h2 := HSZ.out; omega
          | some t => exact ⟨t, rfl⟩
        obtain ⟨t, rfl⟩ := hT2
        obtain ⟨k, hk, hr, hok⟩ := HTI.out
        have hk' : i = (k : Int) := hk
        subst hk'
        cases t with
        | leaf K V =>
          obtain ⟨q, hq0⟩ : ∃ q, q = ndL K V (hLf K V) := ⟨_, rfl⟩
          have HQ0 : Hid (N[k]? = some q) := by rw [hq0]; exact hr
          have HLF : Hid (q.leaf = true) := by rw [hq0]; rfl
          have HNE : Hid (numO N sz ((k : Int), some (.leaf K V)) = [k]) := by
            show numT N sz _ _ = _
            unfold numT
            rw [if_neg (by rw [Int.toNat_natCast]; exact hi), Int.toNat_natCast]
          clear hq0 hr hok hk HTI
          have hq : N[k]? = some q := HQ0.out
          have hqo : NdOk q := NI.out.fo.ok q (List.mem_of_getElem? hq)
          have HQ := hid hqo
          have HN2 := hid (node_info2 hqo)
          have HNZ : Hid (X.size = (nc q).toArray.size) := by show _ = _; rw [HX.out, List.size_toArray, List.size_toArray, ndZ_ok.nc, hqo.nc]
          have CN0 := hid (fun W3 (h : NmI bt bs bf f g b N A c tv ti sz W3) => xNode_at h.fo k q hq)
          unfold ndV at CN0
          obtain ⟨fn, tmps, assign, body, hy, hR⟩ := HY.out Z pre k wr JJ.out (fun j hj => (ZB.out j hj).2) (by rw [← HEQ.out, HNE.out]; simp)
          have hy2 : (Instr.yield l #[.int .i64 (k : Int)]).run Tryz.prog wr = .ok (.round l fn tmps assign body) wr := hy
          have HR := hid hR
          clear hy hR hq hqo
          go_upto_region 6 with (fail)
          refine (wpIn_wide (n := 1)).1 ?_
          gi_wp2
          refine (round_dep2 HR.out).mono ?_
          rintro e W3 ⟨rfl, hj3, hk3⟩
          have J3 := hid hj3
          have NI3 := hid (NI.out.keep (fun j hj => hk3.2 j (.inl hj) (NI.out.lt j hj)))
          have ROW3 := hid (own_keep ROWM.out (fun j hj => hk3.2 j (.inr (by injection hj with hj; rw [← hj]; exact HZG.out)) (by injection hj with hj; rw [← hj]; exact (ZB.out _ HZG.out).2)))
          have S3 : Hid (wr.heap.size ≤ W3.heap.size) := hk3.1
          have CN := hid (CN0.out W3 NI3.out)
          have cf : W3.cell? ⟨bf, 0, none⟩ = some (.pointer (some ⟨f, 0, none⟩)) := NI3.out.kf.cell 0
          clear hj3 hk3 hy2 cs ce HR CN0
          gi_wp2
          go_upto_region 8 with (first
            | (go_at_call 33; refine CN.out.mono ?_; rintro e W4 ⟨rfl, hb⟩; have B4 := hid hb; clear hb)
            | (refine wpList_store_row rfl 63 (.tmp 8) (.tmp 36) rfl W4.heap.size (nc q).toArray rfl rfl 63 X (Blk.new W4 63 X) HN2.out HNZ.out (nc_one2 _) ?_))
          have NQ : Hid (Blk ((W4.alloc (.cells X 63)).setRow W4.heap.size (nc q).toArray) W4.heap.size 63 (nc q).toArray) := (Blk.new W4 63 X).row _
          have B5 : Hid (Below W3.heap.size W3 ((W4.alloc (.cells X 63)).setRow W4.heap.size (nc q).toArray)) := below_setRow (B4.out.alloc B4.out.size _) B4.out.size _
          clear B4 CN cf
          generalize (W4.alloc (.cells X 63)).setRow W4.heap.size (nc q).toArray = W5 at NQ B5 ⊢
          generalize W4.heap.size = e8 at NQ ⊢
          have NB := hid (NQ.out.node HQ.out)
          have NI5 := hid (NI3.out.below B5.out)
          have ROW5 := hid (own_below ROW3.out B5.out)
          have J5 := hid (HJ.out.only _ _ _ _ J3.out (OnlyS.of_below B5.out (Nat.le_refl _)))
          have ZB5 : Hid (∀ j, Z j → B ≤ j ∧ j < W5.heap.size) := fun j hj => ⟨(ZB.out j hj).1, by have h1 := (ZB.out j hj).2; have h2 := S3.out; have h3 := B5.out.size; omega⟩
          have SB5 : Hid (B ≤ W5.heap.size) := by have h1 := HBr.out; have h2 := S3.out; have h3 := B5.out.size; show _ ≤ _; omega
          have cl := NB.out.leaf
          rw [HLF.out] at cl
          clear NI NI3 ROWM ROW3 J3 B5 S3 ZB HBr JJ NQ
          have HFL := hid (show NmL bt bs bf f g b N A c tv ti sz B J L st' (pre ++ [k]) Z (some ⟨g5, 0, none⟩) c5 W5 from ⟨NI5.out, by rw [← HM.out]; exact ROW5.out, fun k hk => by injection hk with hk; rw [← hk]; exact HZG.out, ZB5.out, HITS.out, by
            have e := HEQ.out
            rw [HNE.out] at e
            rw [← e, List.append_assoc], J5.out⟩)
          go_wp2
          go_roundg (wtS st')
          case measure => have := HWT.out; have h1 : wtO (some (Tr.leaf K V)) = 1 := rfl; omega
          case rel => exact ⟨st', _, c5, Z, pre ++ [k], by rw [← HM.out], rfl, by have := HWT.out; have := HLE.out; omega, SB5, HFL⟩
        | inner n0 b0 tl tr =>
          obtain ⟨a, d, hqi, ha, hd, hrl, hrr⟩ := hr
          obtain ⟨q, hq0⟩ : ∃ q, q = ndI n0 b0 a d ((Tr.inner n0 b0 tl tr).hash hLf hIn) := ⟨_, rfl⟩
          have HQ0 : Hid (N[k]? = some q) := by rw [hq0]; exact hqi
          have HLF : Hid (q.leaf = false) := by rw [hq0]; rfl
          have HQL : Hid (q.l = (a : Nat)) := by rw [hq0]; rfl
          have HQR : Hid (q.r = (d : Nat)) := by rw [hq0]; rfl
          have HNE : Hid (numO N sz ((k : Int), some (.inner n0 b0 tl tr)) = k :: (numT N sz tr d ++ numT N sz tl a)) := by
            show numT N sz _ _ = _
            rw [Int.toNat_natCast, numTin hi, hqi]
            rfl
          have HTL : Hid (TAt N (a : Nat) (some tl)) := ⟨a, rfl, hrl, hok.1⟩
          have HTR : Hid (TAt N (d : Nat) (some tr)) := ⟨d, rfl, hrr, hok.2.1⟩
          clear hq0 hqi hrl hrr hok hk HTI ha hd
          have hq : N[k]? = some q := HQ0.out
          have hqo : NdOk q := NI.out.fo.ok q (List.mem_of_getElem? hq)
          have HQ := hid hqo
          have HN2 := hid (node_info2 hqo)
          have HNZ : Hid (X.size = (nc q).toArray.size) := by show _ = _; rw [HX.out, List.size_toArray, List.size_toArray, ndZ_ok.nc, hqo.nc]
          have CN0 := hid (fun W3 (h : NmI bt bs bf f g b N A c tv ti sz W3) => xNode_at h.fo k q hq)
          unfold ndV at CN0
          obtain ⟨fn, tmps, assign, body, hy, hR⟩ := HY.out Z pre k wr JJ.out (fun j hj => (ZB.out j hj).2) (by rw [← HEQ.out, HNE.out]; simp)
          have hy2 : (Instr.yield l #[.int .i64 (k : Int)]).run Tryz.prog wr = .ok (.round l fn tmps assign body) wr := hy
          have HR := hid hR
          clear hy hR hq hqo
          go_upto_region 6 with (fail)
          refine (wpIn_wide (n := 1)).1 ?_
          gi_wp2
          refine (round_dep2 HR.out).mono ?_
          rintro e W3 ⟨rfl, hj3, hk3⟩
          have J3 := hid hj3
          have NI3 := hid (NI.out.keep (fun j hj => hk3.2 j (.inl hj) (NI.out.lt j hj)))
          have ROW3 := hid (own_keep ROWM.out (fun j hj => hk3.2 j (.inr (by injection hj with hj; rw [← hj]; exact HZG.out)) (by injection hj with hj; rw [← hj]; exact (ZB.out _ HZG.out).2)))
          have S3 : Hid (wr.heap.size ≤ W3.heap.size) := hk3.1
          have CN := hid (CN0.out W3 NI3.out)
          have cf : W3.cell? ⟨bf, 0, none⟩ = some (.pointer (some ⟨f, 0, none⟩)) := NI3.out.kf.cell 0
          clear hj3 hk3 hy2 cs ce HR CN0
          gi_wp2
          go_upto_region 8 with (first
            | (go_at_call 33; refine CN.out.mono ?_; rintro e W4 ⟨rfl, hb⟩; have B4 := hid hb; clear hb)
            | (refine wpList_store_row rfl 63 (.tmp 8) (.tmp 36) rfl W4.heap.size (nc q).toArray rfl rfl 63 X (Blk.new W4 63 X) HN2.out HNZ.out (nc_one2 _) ?_))
          have NQ : Hid (Blk ((W4.alloc (.cells X 63)).setRow W4.heap.size (nc q).toArray) W4.heap.size 63 (nc q).toArray) := (Blk.new W4 63 X).row _
          have B5 : Hid (Below W3.heap.size W3 ((W4.alloc (.cells X 63)).setRow W4.heap.size (nc q).toArray)) := below_setRow (B4.out.alloc B4.out.size _) B4.out.size _
          clear B4 CN cf
          generalize (W4.alloc (.cells X 63)).setRow W4.heap.size (nc q).toArray = W5 at NQ B5 ⊢
          generalize W4.heap.size = e8 at NQ ⊢
          have NB := hid (NQ.out.node HQ.out)
          have NI5 := hid (NI3.out.below B5.out)
          have ROW5 := hid (own_below ROW3.out B5.out)
          have J5 := hid (HJ.out.only _ _ _ _ J3.out (OnlyS.of_below B5.out (Nat.le_refl _)))
          have ZB5 : Hid (∀ j, Z j → B ≤ j ∧ j < W5.heap.size) := fun j hj => ⟨(ZB.out j hj).1, by have h1 := (ZB.out j hj).2; have h2 := S3.out; have h3 := B5.out.size; omega⟩
          have SB5 : Hid (B ≤ W5.heap.size) := by have h1 := HBr.out; have h2 := S3.out; have h3 := B5.out.size; show _ ≤ _; omega
          have cl := NB.out.leaf
          rw [HLF.out] at cl
          clear NI NI3 ROWM ROW3 J3 B5 S3 ZB HBr JJ NQ
          go_upto_region 9 with (fail)
          clear cl
          have c98 : W5.cell? ⟨e8, 98, none⟩ = some (.int .i64 (a : Nat)) := by have := NB.out.left; rw [HQL.out, Nat.zero_add] at this; exact this
          have c99 : W5.cell? ⟨e8, 99, none⟩ = some (.int .i64 (d : Nat)) := by have := NB.out.right; rw [HQR.out, Nat.zero_add] at this; exact this
          go_wp2_with (at_builtin; refine append_int2 rfl (.tmp 41) (.tmp 46) rfl B (some ⟨g5, 0, none⟩) c5 (st'.map (·.1)) m (by rw [List.length_map, HM.out]) rfl ROW5.out (a : Nat) (d : Nat) rfl hmb SB5.out ?_; intro A9 c9 W6 HROW HBUT HWH; obtain ⟨g9, e9, hg9, hc9, _, _⟩ := row_last (X := st'.map (·.1) ++ [((a : Nat) : Int)]) HROW.out (by rw [List.length_append, List.length_map, HM.out]; rfl); subst e9; have HG9 := hid hg9; clear hg9 hc9)
          have OZ : Hid (OnlyS Z W5 W6) := by
            obtain ⟨u1, u2, u3, u4, u5⟩ := HBUT.out
            exact ⟨u1, u2, u3, u4, fun j hj hn => u5 j hj (fun e => hn (by injection e with e; rw [e]; exact HZG.out))⟩
          have LT9 : Hid (g9 < W6.heap.size) := (HROW.out.lt g9 rfl).2
          obtain ⟨Z', hz1, hz2, hz3⟩ := gh_grow HJ.out J5.out OZ.out (k := g9) (B := B) (by
            rcases HWH.out g9 rfl with e | e
            · injection e with e; left; rw [← e]; exact HZG.out
            · exact .inr e) LT9.out ZB5.out SB5.out
          have NI6 := hid (NI5.out.keep (W' := W6) (fun j hj => OZ.out.block j (NI5.out.lt j hj) (fun hz => by have h1 := (ZB5.out j hz).1; have h2 := SLT.out j hj; omega)))
          have HFL := hid (show NmL bt bs bf f g b N A c tv ti sz B J L (st' ++ [(((a : Nat) : Int), some tl)] ++ [(((d : Nat) : Int), some tr)]) (pre ++ [k]) Z' (some ⟨g9, 0, none⟩) c9 W6 from ⟨NI6.out, by
            have e : (st' ++ [(((a : Nat) : Int), some tl)] ++ [(((d : Nat) : Int), some tr)]).length = m + 2 := by rw [HM.out]; simp
            rw [e, List.map_append, List.map_append]; exact HROW.out, fun k hk => by injection hk with hk; rw [← hk]; exact hz1, hz3, fun p hp => by
            rw [List.mem_append, List.mem_append, List.mem_singleton, List.mem_singleton] at hp
            rcases hp with (hp | rfl) | rfl
            · exact HITS.out p hp
            · exact HTL.out
            · exact HTR.out, by
            have e := HEQ.out
            rw [HNE.out] at e
            rw [← e, remS_snoc, remS_snoc]
            show pre ++ [k] ++ (numT N sz tr ((d : Nat) : Int).toNat ++ (numT N sz tl ((a : Nat) : Int).toNat ++ remS N sz st')) = _
            rw [Int.toNat_natCast, Int.toNat_natCast]
            simp, hz2⟩)
          have HWI : Hid (wtO (some (Tr.inner n0 b0 tl tr)) = 1 + wtT tl + wtT tr) := rfl
          have HWN : Hid (wtS (st' ++ [(((a : Nat) : Int), some tl)] ++ [(((d : Nat) : Int), some tr)]) = wtS st' + wtT tl + wtT tr) := by show _ = _; rw [wtS_snoc, wtS_snoc]; rfl
          have SB6 : Hid (B ≤ W6.heap.size) := by show _ ≤ _; have := SB5.out; have := OZ.out.size; omega
          clear hz1 hz2 hz3
          go_wp2
          go_roundg (wtS (st' ++ [(((a : Nat) : Int), some tl)] ++ [(((d : Nat) : Int), some tr)]))
          case measure => have := HWT.out; have := HWI.out; have := HWN.out; omega
          case rel => exact ⟨_, _, c9, Z', pre ++ [k], by rw [show (st' ++ [(((a : Nat) : Int), some tl)] ++ [(((d : Nat) : Int), some tr)]).length = m + 2 by rw [HM.out]; simp], rfl, by have := HWT.out; have := HLE.out; have := HWI.out; have := HWN.out; omega, SB6, HFL⟩
end Go.Proofs.YtjhaamffgkialaaGreatDoor
