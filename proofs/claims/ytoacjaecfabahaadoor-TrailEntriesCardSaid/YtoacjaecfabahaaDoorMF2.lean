/-
  What is proved here: the library's own Concat of some rows of bytes; rows of bytes as an argument.
-/
import Derived.Test.YtoacjaecfabahaaDoorMA2
import Derived.Test.YtoacjaecfabahaaDoorMF1
import Derived.Test.YtoacjaecfabahaaDoorMA1
import Derived.OrdersHeld
import Derived.Deep.RegionHeld3
set_option linter.unusedSimpArgs false
set_option linter.unusedVariables false
namespace Go.Proofs.YtoacjaecfabahaaDoor
open Go.ChangeShapes Go.WideShapes Go.ChangeAt Go.RowKit
set_option linter.unusedVariables false
set_option maxRecDepth 20000

theorem zero_cells_u8 (n : Nat) : Builtin.zeroCells (Value.int .u8 0).cells n = Array.replicate n (.int .u8 0) := by
  refine Array.ext (by simp [Builtin.zeroCells, Value.cells]) (fun j h1 h2 => ?_)
  simp [Builtin.zeroCells, Value.cells, Nat.mod_one]
theorem run_append_made (w : World) (n : Nat) (hn : 0 < n) (hn2 : n < 1000000000) (ty : TypeId) :
    ∃ c', n ≤ c' ∧ c' ≤ maxLen ∧ (Builtin.append_ #[89, 3] ty #[.slice none 0 0, .int .i64 (n : Int)]).run Tryd.prog w = .ok (.slice (some ⟨w.heap.size, 0, none⟩) n c') (w.drew.alloc (.cells (Array.replicate c' (.int .u8 0)) 5)) := by
  obtain ⟨i0, hi, hz0, hz1, hz2⟩ := info_parts info_u8
  have hw : IntKind.i64.wrap (n : Int) = (n : Int) := IntWalk.i64_in _ (by omega)
  have h0 : ¬ ((n : Int) < 0) := by omega
  have hge := grownCap_ge w n 0 5
  refine ⟨grownCap w n 0 5, hge, grownCap_le_maxLen w n 0 5 (by unfold maxLen; omega), ?_⟩
  have h48 : ¬ ((281474976710656 : Int) < (n : Int) * (1 : Nat)) := by omega
  have hnc : Builtin.nextslicecap n 0 = n := nextslicecap_zero hn
  have hne : n ≠ 0 := by omega
  have hnk : ¬ (281474976710656 < Builtin.nextslicecap n 0 * 1) := by rw [hnc]; omega
  have hu1 : ¬ (281474976710656 < n) := by omega
  have hle : ¬ ((n : Int) ≤ 0) := by omega
  have hi48 : ¬ ((281474976710656 : Int) < (n : Int)) := by omega
  have hmx : max (n : Int) 0 = (n : Int) := by omega
  have hbig : ¬ (9223372036854775807 < (n : Int)) := by omega
  simp [Builtin.append_, run_underlying Tryd.underlying89, run_underlying Tryd.underlying3, sizeOf, typeInfo, zeroValue, hi, hz0, hz1, hz2, asInt, asIntOf, hw, hle, hi48, hmx, h0, hnk, hnc, hne, Question.forced, run_firstCells_none, newRow, grownCap, h48, hu1, hbig, zero_cells_u8]
  rw [show n + (Question.cut _ (w.tape w.drawn _) - n) = _ from Nat.add_sub_cancel' hge]
theorem wpList_append_made {w : World} {ops : Array Oper} {rest : List Oper} {o : Oper} {a : Act} {Q : Exit → Act → World → Prop} (hgd : o.guard = none) (s x : Operand)
    (ho : o.op = .call { callee := .builtin .append, args := #[s, x], argTypes := #[89, 3] }) (n : Nat) (hn : 0 < n) (hn2 : n < 1000000000) (hs : a.eval s = .slice none 0 0) (hx : a.eval x = .int .i64 (n : Int))
    (h : ∀ c' w', Hid (w'.ownsRow w.heap.size 5 1 (.slice (some ⟨w.heap.size, 0, none⟩) 0 c') 0 (u8s [])) → Hid (Below w.heap.size w w') → wpList Tryd.prog ops Q rest (a.put o.dst (.slice (some ⟨w.heap.size, 0, none⟩) n c')) w') : wpList Tryd.prog ops Q (o :: rest) a w := by
  refine wpList_plain hgd fun K hK => ?_
  obtain ⟨c', h1, h2, hrun⟩ := run_append_made w n hn hn2 o.type
  unfold Oper.wp execOp
  simp only [ho, resolve, invoke, builtin, Sem.run_bind, Sem.run_pure, Result.andThen_ok, List.map_toArray, List.map_cons, List.map_nil, hs, hx, hrun]
  refine hK _ _ (h c' _ ?_ ?_)
  · exact (own_made w.drew c' w.heap.size h2 (Nat.le_refl _))
  · exact ((Below.refl _ _).drew).alloc (Nat.le_refl _) _
set_option maxHeartbeats 1000000 in
theorem Grow_any (n : Nat) (hn : n < 1000000000) (w : World) :
    Calls Tryd.prog 73 #[.slice none 0 0, .int .i64 (n : Int)] w fun e w' => ∃ v, e = .returned v ∧ w'.ownsRow w.heap.size 5 1 v 0 (u8s []) ∧ Below w.heap.size w w' := by
  by_cases h0 : n = 0
  · subst h0
    go_enter Tryd.func73, Tryd.ntmps73
    go_wp2
    go_ret
    exact ⟨_, rfl, own_none w w.heap.size, Below.refl _ _⟩
  · have hpos : 0 < n := by omega
    go_enter Tryd.func73, Tryd.ntmps73
    go_wp2_with (at_builtin; refine wpList_append_made rfl (.tmp 20) (.tmp 21) rfl n hpos hn rfl rfl ?_; intro c' w1 HO HB)
    go_ret
    exact ⟨_, rfl, HO.out, HB.out⟩
theorem flat_take (L : List (List Int)) (k : Nat) (xs : List Int) (h : L[k]? = some xs) : (L.take (k + 1)).flatten = (L.take k).flatten ++ xs := by
  have hk : k < L.length := by
    rcases Nat.lt_or_ge k L.length with h1 | h1
    · exact h1
    · rw [List.getElem?_eq_none h1] at h; cases h
  rw [List.take_succ_eq_append_getElem hk, List.flatten_append]
  have e : L[k] = xs := by rw [List.getElem?_eq_getElem hk] at h; injection h
  simp [e]
theorem flat_bound (L : List (List Int)) (h : ∀ f ∈ L, f.length < 3000000) (k : Nat) (hk : k ≤ L.length) : (L.take k).flatten.length ≤ 3000000 * k := by
  induction k with
  | zero => simp
  | succ k ih =>
    have hlt : k < L.length := by omega
    rw [flat_take L k L[k] (List.getElem?_eq_getElem hlt), List.length_append]
    have := ih (by omega)
    have := h L[k] (List.getElem_mem hlt)
    omega
theorem flat_bs (L : List (List Int)) (h : ∀ f ∈ L, Bs f) : Bs L.flatten := fun v hv => by
  obtain ⟨f, hf, hv⟩ := List.mem_flatten.1 hv
  exact h f hf v hv
set_option maxHeartbeats 2000000 in
theorem Concat_any (A : Option Addr) (n c : Nat) (L : List (List Int)) (w : World) (h : InR w A n L) (hn : n ≤ 100) (hL : ∀ f ∈ L, f.length < 3000000) :
    Calls Tryd.prog 64 #[.slice A n c] w fun e w' => ∃ A' c', e = .returned (.slice A' L.flatten.length c') ∧ L.flatten.length ≤ c' ∧ Rp w' none A' L.flatten ∧ Below w.heap.size w w' := by
  have hl := h.1
  have hb := fun k => flat_bound L hL k
  obtain ⟨T, hT⟩ : ∃ T, T = L.flatten.length := ⟨_, rfl⟩
  have hTb : T ≤ 300000000 := by have := hb L.length (Nat.le_refl _); rw [List.take_length] at this; omega
  have H := hid h; have HL := hid hl; have HT := hid hT; have HB := hid hb
  have CG := hid (fun w => Grow_any T (by omega) w)
  rw [← hT]
  clear h hl hT hb
  go_enter Tryd.func64, Tryd.ntmps64
  go_wp2
  go_loop [3, 5, 11] (fun s _ i => ∃ k : Nat, k ≤ n ∧ i = .int .i64 k ∧ s = .int .i64 ((L.take k).flatten.length : Nat)) (fun _ _ i => n - (intOf i).toNat)
  case atStart => exact ⟨0, Nat.zero_le _, rfl, by simp⟩
  case round =>
    obtain ⟨k, hk, rfl, rfl⟩ := hrel
    by_cases hlt : k < n
    · obtain ⟨b, o, rfl, hbl, hat⟩ := H.out.2.2 (by omega)
      obtain ⟨B, cc, xs, h1, h2, h3, h4, h5, h6⟩ := hat k hlt
      have hS := flat_take L k xs h1
      have h7 := HB.out (k + 1) (by rw [HL.out]; omega)
      rw [hS, List.length_append] at h7
      have HS : Hid ((L.take (k + 1)).flatten.length = (L.take k).flatten.length + xs.length) := by show _ = _; rw [hS, List.length_append]
      obtain ⟨m, hm⟩ : ∃ m, m = xs.length := ⟨_, rfl⟩
      rw [← hm] at HS h2 h7
      generalize (L.take k).flatten.length = S at HS h7 ⊢
      clear hat h1 h3 h4 h5 h6 hS hm hbl
      go_wp2
      go_round
      case rel => exact ⟨k + 1, by omega, by go_num, by rw [HS.out]; go_num⟩
      case measure => simp [intOf]; omega
    · obtain rfl : k = n := by omega
      have e : (L.take k).flatten.length = T := by rw [List.take_of_length_le (by rw [HL.out]; omega), HT.out]
      rw [e]
      clear e
      go_wp2_with (go_at_call 73; refine (CG.out _).mono ?_; rintro e w1 ⟨v, rfl, ho, hb1⟩; have HO := hid ho; have HB1 := hid hb1; clear ho hb1)
      go_loopw [6, 8, 27] (fun v _ i wr => ∃ j : Nat, j ≤ k ∧ i = .int .i64 j ∧ Hid (wr.ownsRow w.heap.size 5 1 v (L.take j).flatten.length (u8s (L.take j).flatten)) ∧ Hid (Below w.heap.size w wr)) (fun _ _ i _ => k - (intOf i).toNat)
      case atStart => exact ⟨0, Nat.zero_le _, rfl, HO.out, HB1.out⟩
      case round =>
        obtain ⟨j, hj, rfl, HO2, HBW⟩ := hrel
        by_cases hlt2 : j < k
        · obtain ⟨b, o, rfl, hbl, hat⟩ := (H.out.below HBW.out).2.2 (by omega)
          obtain ⟨B, cc, xs, h1, h2, h3, h4, h5, h6⟩ := hat j hlt2
          have HS := hid (flat_take L j xs h1)
          have HR := hid h4
          have h7 := HB.out (j + 1) (by rw [HL.out]; omega)
          rw [HS.out, List.length_append] at h7
          have H7 : Hid ((L.take j).flatten.length + xs.length < 1000000000000) := by show _ < _; omega
          have HSZ := hid HBW.out.size
          obtain ⟨m, hm⟩ : ∃ m, m = xs.length := ⟨_, rfl⟩
          rw [← hm] at h2
          have HM := hid hm
          clear hat h1 h3 h4 h5 h6 h7 hm hbl
          go_wp2_with (at_builtin; refine append_rpm rfl (.tmp 31) (.tmp 32) rfl w.heap.size w.heap.size _ (L.take j).flatten rfl HO2.out B m cc xs HM.out rfl HR.out H7.out HSZ.out (Nat.le_refl _) ?_; intro v9 w9 O9 B9)
          exact ⟨⟨j + 1, by omega, by go_num, by (show World.ownsRow _ _ _ _ _ _ _); rw [HS.out]; exact O9.out, HBW.out.trans B9.out⟩, by simp [intOf]; omega⟩
        · obtain rfl : j = k := by omega
          have e : (L.take j).flatten = L.flatten := by rw [List.take_of_length_le (by rw [HL.out]; omega)]
          have HE := hid e
          rw [HE.out, ← HT.out] at HO2
          obtain ⟨A9, c9, rfl, _, hc9, hf9⟩ := fresh_of_own (w := w) HO2.out (Nat.le_refl _)
          have F9 := hid hf9.rp0; have HC9 := hid hc9
          clear hc9 hf9 e
          go_wp2
          go_ret
          exact ⟨A9, c9, rfl, HC9.out, F9.out, HBW.out⟩
/-- a row of bytes as a cell -/
def rowCell (p : Option Addr × Nat × List Int) : Value := .slice p.1 p.2.2.length p.2.1
def RowOk (w : World) (p : Option Addr × Nat × List Int) : Prop := Rp w none p.1 p.2.2 ∧ Bs p.2.2 ∧ p.2.2.length ≤ p.2.1 ∧ p.2.2.length ≤ 9223372036854775807
theorem inR_of {w : World} {g : Nat} {t : TypeId} (ps : List (Option Addr × Nat × List Int)) (h : Blk w g t (ps.map rowCell).toArray) (hp : ∀ p ∈ ps, RowOk w p) (hl : ps.length ≤ 100) : InR w (some ⟨g, 0, none⟩) ps.length (ps.map (·.2.2)) := by
  refine ⟨by simp, by omega, fun _ => ⟨g, 0, rfl, h.lt, fun i hi => ?_⟩⟩
  have hpi := hp ps[i] (List.getElem_mem hi)
  refine ⟨ps[i].1, ps[i].2.1, ps[i].2.2, by simp [hi], ?_, hpi.2.1, hpi.1, hpi.2.2.1, hpi.2.2.2⟩
  rw [h.cell, Nat.zero_add, List.getElem?_toArray, List.getElem?_map, List.getElem?_eq_getElem hi]
  rfl
theorem inR_one {w : World} {A1 : Option Addr} {n1 c1 : Nat} {X : List Int} (e1 : n1 = X.length) (h1 : Rp w none A1 X) (b1 : Bs X) (k1 : X.length ≤ c1) (l1 : X.length < 3000000) :
    InR (w.alloc (.cells #[.slice A1 n1 c1] 89)) (some ⟨w.heap.size, 0, none⟩) 1 [X] := by
  subst e1
  have hb : Below w.heap.size w (w.alloc (.cells #[.slice A1 X.length c1] 89)) := (Below.refl _ _).alloc (Nat.le_refl _) _
  refine inR_of [(A1, c1, X)] (Blk.new w 89 #[.slice A1 X.length c1]) ?_ (by simp)
  intro p hp
  simp only [List.mem_cons, List.not_mem_nil, or_false] at hp
  subst hp
  exact ⟨h1.belowN hb, b1, k1, by show X.length ≤ _; omega⟩
theorem inR_two {w : World} {A1 A2 : Option Addr} {n1 n2 c1 c2 : Nat} {X Y : List Int} (e1 : n1 = X.length) (e2 : n2 = Y.length) (h1 : Rp w none A1 X) (h2 : Rp w none A2 Y) (b1 : Bs X) (b2 : Bs Y) (k1 : X.length ≤ c1) (k2 : Y.length ≤ c2) (l1 : X.length < 3000000) (l2 : Y.length < 3000000) :
    InR (w.alloc (.cells #[.slice A1 n1 c1, .slice A2 n2 c2] 89)) (some ⟨w.heap.size, 0, none⟩) 2 [X, Y] := by
  subst e1; subst e2
  have hb : Below w.heap.size w (w.alloc (.cells #[.slice A1 X.length c1, .slice A2 Y.length c2] 89)) := (Below.refl _ _).alloc (Nat.le_refl _) _
  refine inR_of [(A1, c1, X), (A2, c2, Y)] (Blk.new w 89 #[.slice A1 X.length c1, .slice A2 Y.length c2]) ?_ (by simp)
  intro p hp
  simp only [List.mem_cons, List.not_mem_nil, or_false] at hp
  rcases hp with rfl | rfl
  · exact ⟨h1.belowN hb, b1, k1, by show X.length ≤ _; omega⟩
  · exact ⟨h2.belowN hb, b2, k2, by show Y.length ≤ _; omega⟩
theorem inR_three {w : World} {A1 A2 A3 : Option Addr} {n1 n2 n3 c1 c2 c3 : Nat} {X Y Z : List Int} (e1 : n1 = X.length) (e2 : n2 = Y.length) (e3 : n3 = Z.length) (h1 : Rp w none A1 X) (h2 : Rp w none A2 Y) (h3 : Rp w none A3 Z) (b1 : Bs X) (b2 : Bs Y) (b3 : Bs Z) (k1 : X.length ≤ c1) (k2 : Y.length ≤ c2) (k3 : Z.length ≤ c3) (l1 : X.length < 3000000) (l2 : Y.length < 3000000) (l3 : Z.length < 3000000) :
    InR (w.alloc (.cells #[.slice A1 n1 c1, .slice A2 n2 c2, .slice A3 n3 c3] 89)) (some ⟨w.heap.size, 0, none⟩) 3 [X, Y, Z] := by
  subst e1; subst e2; subst e3
  have hb : Below w.heap.size w (w.alloc (.cells #[.slice A1 X.length c1, .slice A2 Y.length c2, .slice A3 Z.length c3] 89)) := (Below.refl _ _).alloc (Nat.le_refl _) _
  refine inR_of [(A1, c1, X), (A2, c2, Y), (A3, c3, Z)] (Blk.new w 89 #[.slice A1 X.length c1, .slice A2 Y.length c2, .slice A3 Z.length c3]) ?_ (by simp)
  intro p hp
  simp only [List.mem_cons, List.not_mem_nil, or_false] at hp
  rcases hp with rfl | rfl | rfl
  · exact ⟨h1.belowN hb, b1, k1, by show X.length ≤ _; omega⟩
  · exact ⟨h2.belowN hb, b2, k2, by show Y.length ≤ _; omega⟩
  · exact ⟨h3.belowN hb, b3, k3, by show Z.length ≤ _; omega⟩
end Go.Proofs.YtoacjaecfabahaaDoor
/-
  What is proved here: the hash of an entry and of two hashes, as the code and as the document tell it.
-/
namespace Go.Proofs.YtoacjaecfabahaaDoor
open Go.ChangeShapes Go.WideShapes Go.ChangeAt Go.RowKit
set_option linter.unusedVariables false
set_option linter.unusedSimpArgs false
set_option maxRecDepth 20000

def ndT (a b : List Int) : List Int := 1 :: (a ++ b)
def ndF (a b : List Int) : List Int := sum (ndT a b)
def leafF (b : List Int) : List Int := sum (0 :: b)
theorem h32_sum (x : List Int) : H32 (sum x) := ⟨sum_length x, sum_bs x⟩
theorem bs_cons {x : Int} {l : List Int} (hx : 0 ≤ x ∧ x < 256) (h : Bs l) : Bs (x :: l) := fun v hv => by
  rcases List.mem_cons.1 hv with rfl | hv
  · exact hx
  · exact h v hv
theorem ndt_bs {a b : List Int} (ha : H32 a) (hb : H32 b) : Bs (ndT a b) := bs_cons (by decide) (bs_append ha.bs hb.bs)
theorem ndt_len {a b : List Int} (ha : H32 a) (hb : H32 b) : (ndT a b).length = 65 := by unfold ndT; rw [List.length_cons, List.length_append, ha.len, hb.len]
theorem hz_size {Z : Array Value} (HZ : Hid (Z = (u8s (List.replicate 32 0)).toArray)) {S : List Int} (h : H32 S) : Z.size = (hc32 S).size := by
  rw [HZ.out, List.size_toArray, List.size_toArray, u8s_length, u8s_length, h.len]; simp
theorem sum_at {A : Option Addr} {n c : Nat} {x : List Int} {w : World} (hn : n = x.length) (hr : Rp w none A x) (hb : Bs x) (hl : x.length < 1000000000) (hc : n ≤ c) (ht : Tab w) :
    Calls Tryd.prog 42 #[.slice A n c] w fun e w' => e = .returned (hV (sum x)) ∧ Below w.heap.size w w' := by
  subst hn
  exact Sum_any A c x w hr hb (by omega) hc ht
theorem rsum_at {A : Option Addr} {n c : Nat} {x : List Int} {w : World} (hn : n = x.length) (hr : Rp w none A x) (hb : Bs x) (hl : x.length < 1000000000) :
    Calls Tryd.prog 47 #[.slice A n c] w fun e w' => e = .returned (hV (sum x)) ∧ Below w.heap.size w w' := by
  subst hn
  exact RSum_any A c x w hr hb hl
theorem f3blks (w : World) (A B C : Array Value) (t1 t2 t3 : TypeId) : Blk (((w.alloc (.cells A t1)).alloc (.cells B t2)).alloc (.cells C t3)) w.heap.size t1 A ∧ Blk (((w.alloc (.cells A t1)).alloc (.cells B t2)).alloc (.cells C t3)) (w.heap.size + 1) t2 B ∧ Blk (((w.alloc (.cells A t1)).alloc (.cells B t2)).alloc (.cells C t3)) (w.heap.size + 1 + 1) t3 C ∧ Below w.heap.size w (((w.alloc (.cells A t1)).alloc (.cells B t2)).alloc (.cells C t3)) := by
  have h1 := Blk.new w t1 A
  have h2 := Blk.new (w.alloc (.cells A t1)) t2 B
  have h3 := Blk.new ((w.alloc (.cells A t1)).alloc (.cells B t2)) t3 C
  rw [show (w.alloc (.cells A t1)).heap.size = w.heap.size + 1 by simp] at h2
  rw [show ((w.alloc (.cells A t1)).alloc (.cells B t2)).heap.size = w.heap.size + 1 + 1 by simp] at h3
  exact ⟨(h1.alloc _).alloc _, h2.alloc _, h3, (((Below.refl _ _).alloc (Nat.le_refl _) _).alloc (by simp) _).alloc (by simp; omega) _⟩
set_option maxHeartbeats 4000000 in
theorem fNode_any {a b : List Int} {w : World} (ha : H32 a) (hb : H32 b) (ht : Tab w) :
    Calls Tryd.prog 44 #[hV a, hV b] w fun e w' => e = .returned (hV (ndF a b)) ∧ Below w.heap.size w w' := by
  obtain ⟨Z, HZ, hZ0, hZs⟩ := zero_Hash
  have HS : H32 (ndF a b) := h32_sum _
  have hi32 := info_hash (ndF a b) HS.len
  have HI := hid hi32
  have HZ32 := hid (hz_size HZ HS)
  obtain ⟨k1, k2, k3, b1⟩ := f3blks w (hc32 a) (hc32 b) Z 33 33 33
  have KR := hid k3; have B1 := hid b1
  have HT1 := hid (ht.below b1)
  have SZ : Hid ((((w.alloc (.cells (hc32 a) 33)).alloc (.cells (hc32 b) 33)).alloc (.cells Z 33)).heap.size = w.heap.size + 1 + 1 + 1) := by show _ = _; simp
  have CC0 : Hid (∀ (x : World) (g1 : Nat), Below (((w.alloc (.cells (hc32 a) 33)).alloc (.cells (hc32 b) 33)).alloc (.cells Z 33)).heap.size (((w.alloc (.cells (hc32 a) 33)).alloc (.cells (hc32 b) 33)).alloc (.cells Z 33)) x → Blk x g1 5 #[.int .u8 1] → Calls Tryd.prog 64 #[.slice (some ⟨x.heap.size, 0, none⟩) 3 3] (x.alloc (.cells #[.slice (some ⟨g1, 0, none⟩) 1 1, .slice (some ⟨w.heap.size, 0, none⟩) 32 32, .slice (some ⟨w.heap.size + 1, 0, none⟩) 32 32] 89)) fun e w' => ∃ A' c', e = .returned (.slice A' (ndT a b).length c') ∧ (ndT a b).length ≤ c' ∧ Rp w' none A' (ndT a b) ∧ Below (((w.alloc (.cells (hc32 a) 33)).alloc (.cells (hc32 b) 33)).alloc (.cells Z 33)).heap.size (((w.alloc (.cells (hc32 a) 33)).alloc (.cells (hc32 b) 33)).alloc (.cells Z 33)) w') := by
    show ∀ (x : World) (g1 : Nat), _
    intro x g1 hx hg
    have la := ha.len; have lb := hb.len
    have hin := inR_three (A1 := some ⟨g1, 0, none⟩) (A2 := some ⟨w.heap.size, 0, none⟩) (A3 := some ⟨w.heap.size + 1, 0, none⟩) (n1 := 1) (n2 := 32) (n3 := 32) (c1 := 1) (c2 := 32) (c3 := 32) (X := [1]) (Y := a) (Z := b) rfl la.symm lb.symm (blk_rp (l := [1]) hg) (blk_rp (k1.below hx)) (blk_rp (k2.below hx)) (bs_cons (by decide) (fun v hv => by cases hv)) ha.bs hb.bs (Nat.le_refl _) (by omega) (by omega) (by decide) (by omega) (by omega)
    refine (Concat_any _ 3 3 [[1], a, b] _ hin (by decide) (fun f hf => by
      simp only [List.mem_cons, List.not_mem_nil, or_false] at hf
      rcases hf with rfl | rfl | rfl
      · decide
      · omega
      · omega)).mono ?_
    rintro e w' ⟨A', c', h1, h2, h3, h4⟩
    have e1 : [[1], a, b].flatten = ndT a b := by simp [ndT]
    rw [e1] at h1 h2 h3
    exact ⟨A', c', h1, h2, h3, (hx.alloc hx.size _).trans (h4.mono (Nat.le_trans hx.size (by simp)))⟩
  have HLN : Hid (ndF a b = sum (ndT a b)) := rfl
  have HXB : Hid (Bs (ndT a b)) := ndt_bs ha hb
  have HXL : Hid ((ndT a b).length < 1000000000) := by show _ < _; rw [ndt_len ha hb]; decide
  obtain ⟨X, hX⟩ : ∃ X, X = ndT a b := ⟨_, rfl⟩
  rw [← hX] at CC0 HLN HXB HXL
  clear hX k1 k2 k3 b1 hi32 HS ht ha hb
  generalize ndF a b = S at HI HZ32 HLN ⊢
  go_enter Tryd.func44, Tryd.ntmps44
  go_wp2
  generalize ((w.alloc (.cells (hc32 a) 33)).alloc (.cells (hc32 b) 33)).alloc (.cells Z 33) = w1 at KR B1 HT1 SZ CC0 ⊢
  have PX : Hid (Below w1.heap.size w1 w1) := Below.refl _ _
  refine wp_region_held (S := fun w' => Hid (Below w.heap.size w w')) (by kernel_rfl) ?_
  change wpAnyH _ _ _ _ _ _ _ _ w1.drew
  have Gx0 : Hid (Below w.heap.size w w1.drew) := B1.out.drew
  have PX' : Hid (Below w1.heap.size w1 w1.drew) := PX.out.drew
  clear PX
  have PX := PX'
  clear PX'
  generalize w1.drew = x0 at Gx0 PX ⊢
  refine wpAnyH_take (i := 1) (oi := { dst := some 6, op := _, type := _, pos := _, after := _, guard := _ }) (v := ?_) rfl (by kernel_rfl) (by kernel_rfl) (by kernel_rfl) (fun _ _ _ h => h) (Or.inl ⟨by kernel_rfl, ?_⟩) Gx0 ?_
  rotate_left
  · (intro w hSw; go_simp; try with_reducible rfl)
  try simp only [Act.put, List.setIfInBounds_toArray, List.set_cons_zero, List.set_cons_succ]
  refine wpAnyH_take (i := 2) (oi := { dst := some 7, op := _, type := _, pos := _, after := _, guard := _ }) (v := ?_) rfl (by kernel_rfl) (by kernel_rfl) (by kernel_rfl) (fun _ _ _ h => h) (Or.inl ⟨by kernel_rfl, ?_⟩) Gx0 ?_
  rotate_left
  · (intro w hSw; go_simp; try with_reducible rfl)
  try simp only [Act.put, List.setIfInBounds_toArray, List.set_cons_zero, List.set_cons_succ]
  refine wpAnyH_ready (rs := [0]) (by kernel_rfl) (by simp) ?_
  refine (AllReadyH.cons (o := { dst := some 5, op := _, type := _, pos := _, after := _, guard := _ }) rfl (fun Qc hQc => ?_) AllReadyH.nil)
  go_simp
  have NB1 : Hid (Blk (x0.alloc (.cells #[.int .u8 1] 5)) x0.heap.size 5 #[.int .u8 1]) := Blk.new x0 5 #[.int .u8 1]
  have PY := hid (PX.out.alloc PX.out.size (.cells #[.int .u8 1] 5))
  have Gx1 := hid (B1.out.trans (PY.out.mono B1.out.size))
  refine hQc.out _ _ Gx1 (fun hHeld => ?_)
  clear hQc Qc hHeld PX
  generalize x0.heap.size = g1 at NB1 ⊢
  generalize x0.alloc (.cells #[.int .u8 1] 5) = x1 at NB1 Gx1 PY ⊢
  have PX := PY
  clear PY
  try simp only [Act.put, List.setIfInBounds_toArray, List.set_cons_zero, List.set_cons_succ]
  refine wpAnyH_ready (rs := [3]) (by kernel_rfl) (by simp) ?_
  refine (AllReadyH.cons (o := { dst := some 8, op := _, type := _, pos := _, after := _, guard := _ }) rfl (fun Qc hQc => ?_) AllReadyH.nil)
  go_simp
  have CC := hid (CC0.out x1 g1 PX.out NB1.out)
  have PY := hid (PX.out.alloc PX.out.size (.cells #[.slice (some ⟨g1, 0, none⟩) 1 1, .slice (some ⟨w.heap.size, 0, none⟩) 32 32, .slice (some ⟨w.heap.size + 1, 0, none⟩) 32 32] 89))
  have Gx2 := hid (B1.out.trans (PY.out.mono B1.out.size))
  refine hQc.out _ _ Gx2 (fun hHeld => ?_)
  clear hQc Qc hHeld
  generalize x1.heap.size = g2 at CC ⊢
  generalize x1.alloc (.cells #[.slice (some ⟨g1, 0, none⟩) 1 1, .slice (some ⟨w.heap.size, 0, none⟩) 32 32, .slice (some ⟨w.heap.size + 1, 0, none⟩) 32 32] 89) = x2 at CC Gx2 PY ⊢
  clear PX
  have PX := PY
  clear PY
  try simp only [Act.put, List.setIfInBounds_toArray, List.set_cons_zero, List.set_cons_succ]
  refine wpAnyH_ready (rs := [4]) (by kernel_rfl) (by simp) ?_
  refine (AllReadyH.cons (o := { dst := some 9, op := _, type := _, pos := _, after := _, guard := _ }) rfl (fun Qc hQc => ?_) AllReadyH.nil)
  go_simp
  go_at_call 64
  refine CC.out.mono ?_
  rintro e x3 ⟨A2, c2, rfl, hc2, hr2, hb2⟩
  have PY : Hid (Below w1.heap.size w1 x3) := hb2
  have Gx3 := hid (B1.out.trans (PY.out.mono B1.out.size))
  have CS := hid (sum_at rfl hr2 HXB.out HXL.out hc2 (HT1.out.below PY.out))
  rw [← HLN.out] at CS
  clear hb2 hc2 hr2 CC PX
  have PX := PY
  clear PY
  go_wp2_with fail
  refine hQc.out _ _ Gx3 (fun hHeld => ?_)
  clear hQc Qc hHeld
  try simp only [Act.put, List.setIfInBounds_toArray, List.set_cons_zero, List.set_cons_succ]
  refine wpAnyH_ready (rs := [5]) (by kernel_rfl) (by simp) ?_
  refine (AllReadyH.cons (o := { dst := some 10, op := _, type := _, pos := _, after := _, guard := _ }) rfl (fun Qc hQc => ?_) AllReadyH.nil)
  go_simp
  go_at_call 42
  refine CS.out.mono ?_
  rintro e x4 ⟨rfl, hb2⟩
  have PY := hid (PX.out.trans (hb2.mono PX.out.size))
  have Gx4 := hid (B1.out.trans (PY.out.mono B1.out.size))
  clear hb2 CS PX
  have PX := PY
  clear PY
  go_wp2_with fail
  refine hQc.out _ _ Gx4 (fun hHeld => ?_)
  clear hQc Qc hHeld
  try simp only [Act.put, List.setIfInBounds_toArray, List.set_cons_zero, List.set_cons_succ]
  refine wpAnyH_ready (rs := [6]) (by kernel_rfl) (by simp) ?_
  refine (AllReadyH.cons (o := { dst := none, op := _, type := _, pos := _, after := _, guard := _ }) rfl (fun Qc hQc => ?_) AllReadyH.nil)
  rw [if_pos (by rfl)]
  have Kx5 := hid (KR.out.below PX.out)
  refine wp_store_row 33 (.tmp 4) (.tmp 10) rfl (w.heap.size + 1 + 1) (hc32 S) rfl rfl 33 Z Kx5.out HI.out HZ32.out (u8s_all S) ?_
  have KF := hid (Kx5.out.row (hc32 S))
  have Gx5 : Hid (Below w.heap.size w (x4.setRow (w.heap.size + 1 + 1) (hc32 S))) := below_setRow Gx4.out (by omega) _
  refine hQc.out _ _ Gx5 (fun hHeld => ?_)
  clear hQc Qc hHeld Kx5 PX
  generalize x4.setRow (w.heap.size + 1 + 1) (hc32 S) = x5 at KF Gx5 ⊢
  try simp only [Act.put, List.setIfInBounds_toArray, List.set_cons_zero, List.set_cons_succ]
  refine wpAnyH_done (by kernel_rfl) ?_ _
  try simp only [Act.put, List.setIfInBounds_toArray, List.set_cons_zero, List.set_cons_succ]
  go_wp2
  try go_frame
  refine bodyPost_ret (results_cell_row Tryd.results44 _ _ (w.heap.size + 1 + 1) 33 (hc32 S) (0, 0) _ rfl KF.out Tryd.underlying33 rfl HI.out) rfl ?_
  exact ⟨rfl, Gx5.out⟩
end Go.Proofs.YtoacjaecfabahaaDoor
/-
  What is proved here: the document's own hash of an entry and of two hashes.
-/
namespace Go.Proofs.YtoacjaecfabahaaDoor
open Go.ChangeShapes Go.WideShapes Go.ChangeAt Go.RowKit
set_option linter.unusedVariables false
set_option linter.unusedSimpArgs false
set_option maxRecDepth 20000

theorem own_blk {w : World} {g base : Nat} {l : List Int} (h : Blk w g 5 (u8s l).toArray) (hb : base ≤ g) (hl : l.length ≤ 1000) : w.ownsRow base 5 1 (.slice (some ⟨g, 0, none⟩) l.length l.length) l.length (u8s l) :=
  ⟨by rw [u8s_length, Nat.mul_one], .inr ⟨g, l.length, _, rfl, hb, h, Nat.le_refl _, by unfold maxLen; omega, by simp [u8s_length], by rw [List.take_of_length_le (by simp [u8s_length])]⟩⟩
set_option maxHeartbeats 4000000 in
theorem gText_any {a b : List Int} {w : World} (ha : H32 a) (hb : H32 b) :
    Calls Tryd.prog 58 #[hV a, hV b] w fun e w' => ∃ A' c', e = .returned (.slice A' (ndT a b).length c') ∧ (ndT a b).length ≤ c' ∧ Rp w' none A' (ndT a b) ∧ Below w.heap.size w w' := by
  have k1 := Blk.new w 33 (hc32 a)
  have k2 := Blk.new (w.alloc (.cells (hc32 a) 33)) 33 (hc32 b)
  rw [show (w.alloc (.cells (hc32 a) 33)).heap.size = w.heap.size + 1 by simp] at k2
  have K1 := hid (k1.alloc (.cells (hc32 b) 33)); have K2 := hid k2
  have B2 : Hid (Below w.heap.size w ((w.alloc (.cells (hc32 a) 33)).alloc (.cells (hc32 b) 33))) := ((Below.refl _ _).alloc (Nat.le_refl _) _).alloc (by simp) _
  have SZ : ((w.alloc (.cells (hc32 a) 33)).alloc (.cells (hc32 b) 33)).heap.size = w.heap.size + 1 + 1 := by simp
  have k3 := Blk.new ((w.alloc (.cells (hc32 a) 33)).alloc (.cells (hc32 b) 33)) 5 #[.int .u8 1]
  rw [SZ] at k3
  have O2 := hid (own_blk (base := w.heap.size + 1 + 1) (l := [1]) k3 (Nat.le_refl _) (by decide))
  have B3 := hid (B2.out.alloc B2.out.size (.cells #[.int .u8 1] 5))
  have K13 := hid (K1.out.alloc (.cells #[.int .u8 1] 5))
  have K23 := hid (K2.out.alloc (.cells #[.int .u8 1] 5))
  have SZ3 : Hid (w.heap.size + 1 + 1 ≤ (((w.alloc (.cells (hc32 a) 33)).alloc (.cells (hc32 b) 33)).alloc (.cells #[.int .u8 1] 5)).heap.size) := by show _ ≤ _; simp
  have LA := hid ha.len.symm; have LB := hid hb.len.symm
  have L65 := hid (ndt_len ha hb)
  obtain ⟨N1, hN1⟩ : ∃ N1, N1 = (1 : Int) :: a := ⟨_, rfl⟩
  have e1 : [(1 : Int)] ++ a = N1 := by rw [hN1]; rfl
  have e2 : N1 ++ b = ndT a b := by rw [hN1]; rfl
  have l1 : N1.length = 33 := by rw [hN1, List.length_cons, ha.len]
  have E1 := hid e1; have E2 := hid e2; have L1 := hid l1
  clear e1 e2 l1 hN1 k1 k2 k3 ha hb SZ
  generalize ndT a b = X at E2 L65 ⊢
  go_enter Tryd.func58, Tryd.ntmps58
  go_wp2_with (first
    | (at_builtin; refine append_rpm rfl (.tmp 7) (.tmp 8) rfl (w.heap.size + 1 + 1) (w.heap.size + 1 + 1) _ [1] rfl O2.out _ _ _ a LA.out rfl (blk_rp K13.out) (by rw [← LA.out]; decide) SZ3.out (Nat.le_refl _) ?_; intro v3 w3 o3 b3; rw [E1.out] at o3; have O3 := o3; have D3 := b3; have C3 := hid (blk_rp (K23.out.same (b3.out.block _ (by omega)))))
    | (at_builtin; refine append_rpm rfl (.tmp 10) (.tmp 11) rfl (w.heap.size + 1 + 1) (w.heap.size + 1 + 1) _ N1 rfl O3.out _ _ _ b LB.out rfl C3.out (by rw [← LB.out, L1.out]; decide) (Nat.le_trans SZ3.out D3.out.size) (Nat.le_refl _) ?_; intro v4 w4 o4 b4; rw [E2.out] at o4; have O4 := o4; have D4 := hid (B3.out.trans ((D3.out.trans b4.out).mono (by omega)))))
  go_ret
  obtain ⟨A9, c9, rfl, _, hc9, hf9⟩ := fresh_of_own (w := w) O4.out (by omega)
  exact ⟨A9, c9, rfl, hc9, hf9.rp0, D4.out⟩
set_option maxHeartbeats 4000000 in
theorem gNode_any {a b : List Int} {w : World} (ha : H32 a) (hb : H32 b) :
    Calls Tryd.prog 48 #[hV a, hV b] w fun e w' => e = .returned (hV (ndF a b)) ∧ Below w.heap.size w w' := by
  obtain ⟨Z, HZ, hZ0, hZs⟩ := zero_Hash
  have HS : H32 (ndF a b) := h32_sum _
  have hi32 := info_hash (ndF a b) HS.len
  have HI := hid hi32
  have HIA := hid (info_hash a ha.len); have HIB := hid (info_hash b hb.len)
  have HZ32 := hid (hz_size HZ HS)
  obtain ⟨k1, k2, k3, b1⟩ := f3blks w (hc32 a) (hc32 b) Z 33 33 33
  have K1 := hid k1; have K2 := hid k2; have K3 := hid k3; have B1 := hid b1
  have CT := hid (fun w2 => gText_any (w := w2) ha hb)
  have HLN : Hid (ndF a b = sum (ndT a b)) := rfl
  have HXB : Hid (Bs (ndT a b)) := ndt_bs ha hb
  have HXL : Hid ((ndT a b).length < 1000000000) := by show _ < _; rw [ndt_len ha hb]; decide
  generalize ndT a b = X at CT HLN HXB HXL
  clear k1 k2 k3 b1 hi32 HS ha hb
  generalize ndF a b = S at HI HZ32 HLN ⊢
  go_enter Tryd.func48, Tryd.ntmps48
  go_wp2_with (first
    | (refine load_at rfl 33 (.tmp 2) rfl w.heap.size 0 rfl (u8s a) _ (blk_row K1.out) Tryd.underlying33 rfl HIA.out (hc32 a) rfl ?_)
    | (refine load_at rfl 33 (.tmp 3) rfl (w.heap.size + 1) 0 rfl (u8s b) _ (blk_row K2.out) Tryd.underlying33 rfl HIB.out (hc32 b) rfl ?_)
    | (go_at_call 58; refine (CT.out _).mono ?_; rintro e w2 ⟨A2, c2, rfl, hc2, hr2, hb2⟩; have J3 := hid (K3.out.below hb2); have B2 := hid (B1.out.trans (hb2.mono B1.out.size)); have CS := hid (rsum_at (c := c2) rfl hr2 HXB.out HXL.out); rw [← HLN.out] at CS; clear hc2 hr2 hb2)
    | (go_at_call 47; refine CS.out.mono ?_; rintro e w3 ⟨rfl, hb3⟩; have I3 := hid (J3.out.below hb3); have B3 := hid (B2.out.trans (hb3.mono B2.out.size)); clear hb3)
    | (refine wpList_store_row rfl 33 (.tmp 4) (.tmp 8) rfl (w.heap.size + 1 + 1) (hc32 S) rfl rfl 33 Z I3.out HI.out HZ32.out (u8s_all S) ?_))
  try go_frame
  refine bodyPost_ret (results_cell_row Tryd.results48 _ _ (w.heap.size + 1 + 1) 33 (hc32 S) (0, 0) _ rfl (I3.out.row _) Tryd.underlying33 rfl HI.out) rfl ?_
  exact ⟨rfl, below_setRow B3.out (by omega) _⟩
end Go.Proofs.YtoacjaecfabahaaDoor
/-
  What is proved here: a region that draws its order, whose last operations store what its first ones loaded: a condition on the world that need hold only as long as none of those stores has come up. No program is named here.
-/
namespace Go.Proofs.YtoacjaecfabahaaDoor
set_option linter.unusedVariables false
set_option linter.unusedSimpArgs false
section
variable {P : Program} {ops : Array Oper} {Q : Exit → Act → World → Prop} {md : Region.Mode} {B : World → Prop} {D : List Nat}
/-- none of these has come up -/
def Unl (D : List Nat) (L : Array Bool) : Prop := ∀ d ∈ D, L.getD d true = false
def wpAnyL (P : Program) (md : Region.Mode) (ops : Array Oper) (Q : Exit → Act → World → Prop) (B : World → Prop) (D : List Nat) : Nat → Array Bool → Act → World → Prop
  | 0, L, a, w => Region.ready md ops L = [] ∧ Q .normal a w
  | fuel + 1, L, a, w =>
    (Region.ready md ops L = [] → Q .normal a w) ∧
    ∀ i ∈ Region.ready md ops L, wpOp P ops Q i (fun a' w' => (Unl D (L.setIfInBounds i true) → B w') ∧ wpAnyL P md ops Q B D fuel (L.setIfInBounds i true) a' w') a w
theorem wpAny_ofL : ∀ (fuel : Nat) (L : Array Bool) (a : Act) (w : World), wpAnyL P md ops Q B D fuel L a w → wpAny P md ops Q fuel L a w
  | 0, _, _, _, h => h
  | fuel + 1, _, _, _, h => ⟨h.1, fun i hi => wpOp_mono (fun a' w' h' => wpAny_ofL fuel _ a' w' h'.2) (h.2 i hi)⟩
/-- each of E waits for i, or for another one of E -/
def cloE (md : Region.Mode) (ops : Array Oper) (E : List Nat) (i : Nat) : Bool := E.all fun j => match ops[j]? with
  | some o => o.after.any fun e => Region.binds md e && (e.on == i || E.contains e.on)
  | none => false
theorem cloE_spec {E : List Nat} {i j : Nat} {oj : Oper} (h : cloE md ops E i = true) (hj : j ∈ E) (ho : ops[j]? = some oj) : ∃ e ∈ oj.after, Region.binds md e = true ∧ (e.on = i ∨ e.on ∈ E) := by
  unfold cloE at h
  rw [List.all_eq_true] at h
  have h1 := h j hj
  rw [ho] at h1
  simp only [Array.any_eq_true, Bool.and_eq_true, Bool.or_eq_true, beq_iff_eq, List.contains_iff_mem] at h1
  obtain ⟨k, hk, h2, h3⟩ := h1
  exact ⟨_, Array.getElem_mem hk, h2, h3⟩
theorem wpAnyL_first {i : Nat} {oi : Oper} {v : Value} {E : List Nat} (hi : ops[i]? = some oi) (hsel : ∀ (j : Nat) (o : Oper) cs b, ops[j]? = some o → o.op ≠ .select cs b)
    (hQ : ∀ c a w, Q (.panic c) (a.put oi.dst v) w → Q (.panic c) a w) (hDE : ∀ d ∈ D, d ∈ E) (hcl : cloE md ops E i = true) (hiE : ¬ i ∈ E) :
    ∀ (fuel : Nat) (L : Array Bool) (a : Act) (w : World),
      (∀ j oj, ops[j]? = some oj → j ≠ i → L.getD j true = false → (∀ e ∈ oj.after, Region.binds md e = true → e.on ≠ i) → oi.apart ops oj = true) →
      i ∈ Region.ready md ops L → Unl E L → YieldsIf P ops B oi v a → B w →
      wpAnyL P md ops Q B D fuel (L.setIfInBounds i true) (a.put oi.dst v) w → wpAnyL P md ops Q B D (fuel + 1) L a w := by
  intro fuel
  induction fuel with
  | zero =>
    intro L a w _ hr hu hy hS H
    refine ⟨fun h => (by rw [h] at hr; cases hr), fun j hj => ?_⟩
    by_cases hji : j = i
    · subst hji; exact hy.wpOp hi hS ⟨fun _ => hS, H⟩
    · have := ready_mono hj hji
      rw [H.1] at this
      cases this
  | succ fuel ih =>
    intro L a w hfree hr hu hy hS H
    refine ⟨fun h => (by rw [h] at hr; cases hr), fun j hj => ?_⟩
    by_cases hji : j = i
    · subst hji; exact hy.wpOp hi hS ⟨fun _ => hS, H⟩
    · have h1 := H.2 j (ready_mono hj hji)
      obtain ⟨hjun, oj, hoj, hall⟩ := mem_ready.1 hj
      have hiun := (mem_ready.1 hr).1
      have hL : ∀ k, L.getD k true = false → L.getD k false = true → False := fun k h0 h1 => by
        rcases Nat.lt_or_ge k L.size with h' | h'
        · simp [h'] at h0 h1; rw [h0] at h1; cases h1
        · simp [Array.getElem?_eq_none h'] at h0
      have hnot : ∀ e ∈ oj.after, Region.binds md e = true → e.on ≠ i := fun e he hb heq => by
        have h1 := hall e he hb
        have h0 := hiun
        rw [heq] at h1
        rcases Nat.lt_or_ge i L.size with h' | h'
        · simp [h'] at h0 h1; rw [h0] at h1; cases h1
        · simp [Array.getElem?_eq_none h'] at h1
      have hjE : ¬ j ∈ E := fun hjE => by
        obtain ⟨e, he, hb, hor⟩ := cloE_spec hcl hjE hoj
        rcases hor with h2 | h2
        · exact hnot e he hb h2
        · have h1 := hall e he hb
          have h0 := hu _ h2
          rcases Nat.lt_or_ge e.on L.size with h' | h'
          · simp [h'] at h0 h1; rw [h0] at h1; cases h1
          · simp [Array.getElem?_eq_none h'] at h1
      have h2 := wpOp_putIf hoj (hfree j oj hoj hji hjun hnot) (fun cs b => hsel i oi cs b hi) (fun cs b => hsel j oj cs b hoj) hQ hy h1
      have hfree' : ∀ k ok, ops[k]? = some ok → k ≠ i → (L.setIfInBounds j true).getD k true = false →
          (∀ e ∈ ok.after, Region.binds md e = true → e.on ≠ i) → oi.apart ops ok = true := fun k ok hk hki hun hno => by
        refine hfree k ok hk hki ?_ hno
        by_cases hjk : j = k
        · subst hjk; exact hjun
        · rw [getD_set_ne true hjk] at hun; exact hun
      have hu' : Unl E (L.setIfInBounds j true) := fun d hd => by
        rw [getD_set_ne true (fun e => hjE (by rw [e]; exact hd))]
        exact hu d hd
      have hu2 : Unl D ((L.setIfInBounds i true).setIfInBounds j true) := fun d hd => by
        have hd2 := hDE d hd
        rw [getD_set_ne true (fun e => hjE (by rw [e]; exact hd2)), getD_set_ne true (fun e => hiE (by rw [e]; exact hd2))]
        exact hu d hd2
      refine wpOp_mono (fun a' w' h3 => ⟨fun _ => h3.2.1 hu2, ih (L.setIfInBounds j true) a' w' hfree' (ready_mono hr (Ne.symm hji)) hu' h3.1 (h3.2.1 hu2) ?_⟩) h2
      rw [Array.setIfInBounds_comm _ _ hji]
      exact h3.2.2
theorem wpAnyL_take {i : Nat} {oi : Oper} {v : Value} {fuel : Nat} {L : Array Bool} {a : Act} {w : World} (E : List Nat) (hi : ops[i]? = some oi)
    (hs : Region.noSelect ops = true) (hf : Region.free md ops L i = true) (hr : (Region.ready md ops L).contains i = true) (hE : ((D.all fun d => E.contains d) && cloE md ops E i && !E.contains i && (E.all fun d => !(L.getD d true))) = true)
    (hQ : ∀ c a w, Q (.panic c) (a.put oi.dst v) w → Q (.panic c) a w) (hy : YieldsIf P ops B oi v a) (hS : B w)
    (h : wpAnyL P md ops Q B D fuel (L.setIfInBounds i true) (a.put oi.dst v) w) : wpAnyL P md ops Q B D (fuel + 1) L a w := by
  simp only [Bool.and_eq_true, List.all_eq_true, Bool.not_eq_true', List.contains_iff_mem, decide_eq_false_iff_not] at hE
  obtain ⟨⟨⟨h1, h2⟩, h3⟩, h4⟩ := hE
  exact wpAnyL_first hi (Region.noSelect_spec hs) hQ h1 h2 (by simpa using h3) fuel L a w (Region.free_spec hi hf) (by simpa using hr) h4 hy hS h
theorem wpAnyL_firstP {i : Nat} {oi : Oper} {v : Value} (hi : ops[i]? = some oi) (hsel : ∀ (j : Nat) (o : Oper) cs b, ops[j]? = some o → o.op ≠ .select cs b)
    (hQ : ∀ c a w, Q (.panic c) (a.put oi.dst v) w → Q (.panic c) a w) (hiD : ¬ i ∈ D) :
    ∀ (fuel : Nat) (L : Array Bool) (a : Act) (w : World),
      (∀ j oj, ops[j]? = some oj → j ≠ i → L.getD j true = false → (∀ e ∈ oj.after, Region.binds md e = true → e.on ≠ i) → oi.apart ops oj = true) →
      i ∈ Region.ready md ops L → YieldsIf P ops (fun _ => True) oi v a → (Unl D (L.setIfInBounds i true) → B w) →
      wpAnyL P md ops Q B D fuel (L.setIfInBounds i true) (a.put oi.dst v) w → wpAnyL P md ops Q B D (fuel + 1) L a w := by
  intro fuel
  induction fuel with
  | zero =>
    intro L a w _ hr hy hS H
    refine ⟨fun h => (by rw [h] at hr; cases hr), fun j hj => ?_⟩
    by_cases hji : j = i
    · subst hji; exact hy.wpOp hi trivial ⟨hS, H⟩
    · have := ready_mono hj hji
      rw [H.1] at this
      cases this
  | succ fuel ih =>
    intro L a w hfree hr hy hS H
    refine ⟨fun h => (by rw [h] at hr; cases hr), fun j hj => ?_⟩
    by_cases hji : j = i
    · subst hji; exact hy.wpOp hi trivial ⟨hS, H⟩
    · have h1 := H.2 j (ready_mono hj hji)
      obtain ⟨hjun, oj, hoj, hall⟩ := mem_ready.1 hj
      have hnot : ∀ e ∈ oj.after, Region.binds md e = true → e.on ≠ i := fun e he hb heq => by
        have h1 := hall e he hb
        have h0 := (mem_ready.1 hr).1
        rw [heq] at h1
        rcases Nat.lt_or_ge i L.size with h' | h'
        · simp [h'] at h0 h1; rw [h0] at h1; cases h1
        · simp [Array.getElem?_eq_none h'] at h1
      have h2 := wpOp_putIf hoj (hfree j oj hoj hji hjun hnot) (fun cs b => hsel i oi cs b hi) (fun cs b => hsel j oj cs b hoj) hQ hy h1
      have hfree' : ∀ k ok, ops[k]? = some ok → k ≠ i → (L.setIfInBounds j true).getD k true = false →
          (∀ e ∈ ok.after, Region.binds md e = true → e.on ≠ i) → oi.apart ops ok = true := fun k ok hk hki hun hno => by
        refine hfree k ok hk hki ?_ hno
        by_cases hjk : j = k
        · subst hjk; exact hjun
        · rw [getD_set_ne true hjk] at hun; exact hun
      refine wpOp_mono (fun a' w' h3 => ⟨fun hu => h3.2.1 (fun d hd => ?_), ih (L.setIfInBounds j true) a' w' hfree' (ready_mono hr (Ne.symm hji)) h3.1 (fun hu => h3.2.1 (fun d hd => ?_)) ?_⟩) h2
      · rw [Array.setIfInBounds_comm _ _ hji]
        exact h3.2.2
      · rw [Array.setIfInBounds_comm _ _ (Ne.symm hji), getD_set_ne true (fun e => hiD (by rw [e]; exact hd))]
        exact hu d hd
      · rw [Array.setIfInBounds_comm _ _ (Ne.symm hji)]
        exact hu d hd
theorem wpAnyL_pure {i : Nat} {oi : Oper} {v : Value} {fuel : Nat} {L : Array Bool} {a : Act} {w : World} (hi : ops[i]? = some oi)
    (hs : Region.noSelect ops = true) (hf : Region.free md ops L i = true) (hr : (Region.ready md ops L).contains i = true) (hD : (!D.contains i) = true)
    (hQ : ∀ c a w, Q (.panic c) (a.put oi.dst v) w → Q (.panic c) a w) (hy : YieldsIf P ops (fun _ => True) oi v a) (hS : Unl D (L.setIfInBounds i true) → B w)
    (h : wpAnyL P md ops Q B D fuel (L.setIfInBounds i true) (a.put oi.dst v) w) : wpAnyL P md ops Q B D (fuel + 1) L a w :=
  wpAnyL_firstP hi (Region.noSelect_spec hs) hQ (by simpa using hD) fuel L a w (Region.free_spec hi hf) (by simpa using hr) hy hS h
def AllReadyL (P : Program) (md : Region.Mode) (ops : Array Oper) (Q : Exit → Act → World → Prop) (B : World → Prop) (D : List Nat) (fuel : Nat) (L : Array Bool) (a : Act) (w : World) (rs : List Nat) : Prop :=
  ∀ i ∈ rs, wpOp P ops Q i (fun a' w' => (Unl D (L.setIfInBounds i true) → B w') ∧ wpAnyL P md ops Q B D fuel (L.setIfInBounds i true) a' w') a w
theorem AllReadyL.nil {fuel : Nat} {L : Array Bool} {a : Act} {w : World} : AllReadyL P md ops Q B D fuel L a w [] := fun _ h => by cases h
theorem AllReadyL.cons {fuel : Nat} {L : Array Bool} {a : Act} {w : World} {i : Nat} {o : Oper} {rs : List Nat} (ho : ops[i]? = some o)
    (h : ∀ K' : Act → World → Prop, Shut (∀ a w, (Unl D (L.setIfInBounds i true) → B w) → wpAnyL P md ops Q B D fuel (L.setIfInBounds i true) a w → K' a w) → if Region.wanted o (yielded ops a.tmps) = true then Oper.wp P o a w K' Q else K' (a.put o.dst undef) w)
    (hs : AllReadyL P md ops Q B D fuel L a w rs) : AllReadyL P md ops Q B D fuel L a w (i :: rs) := fun j hj => by
  rcases List.mem_cons.1 hj with rfl | hj
  · exact wpOp_step ho (fun K' hK => h K' (fun a w hS hW => hK a w ⟨hS, hW⟩))
  · exact hs j hj
theorem wpAnyL_ready {rs : List Nat} {fuel : Nat} {L : Array Bool} {a : Act} {w : World} (hr : Region.ready md ops L = rs) (hne : rs ≠ [])
    (h : AllReadyL P md ops Q B D fuel L a w rs) : wpAnyL P md ops Q B D (fuel + 1) L a w :=
  ⟨fun h0 => absurd (hr ▸ h0) hne, hr ▸ h⟩
theorem wpAnyL_done {L : Array Bool} {a : Act} {w : World} (hr : Region.ready md ops L = []) (h : Q .normal a w) : ∀ fuel, wpAnyL P md ops Q B D fuel L a w
  | 0 => ⟨hr, h⟩
  | _ + 1 => ⟨fun _ => h, by rw [hr]; simp⟩
theorem wp_region_L (D : List Nat) {id : Nat} {a : Act} {w : World} (hm : P.follows .mixedOrders = true)
    (h : wpAnyL P .any ops Q B D ops.size (Array.replicate ops.size false) a { w with drawn := w.drawn + 1 }) : (Code.region id ops true).wp P Q a w :=
  wp_region_any hm (wpAny_ofL _ _ _ _ h)
theorem unl_no {D : List Nat} {L : Array Bool} {B : Prop} {d : Nat} (hd : D.contains d = true) (hL : L.getD d true = true) : Unl D L → B := fun h => by
  have := h d (by simpa using hd)
  rw [hL] at this
  cases this
end
end Go.Proofs.YtoacjaecfabahaaDoor
/-
  What this file is for: the program's side by side in memory, and what each step of a put does to it. Nothing of the program is walked here.
-/
namespace Go.Proofs.YtoacjaecfabahaaDoor
open Go.ChangeShapes Go.WideShapes Go.ChangeAt Go.RowKit
set_option linter.unusedVariables false
set_option linter.unusedSimpArgs false
set_option maxRecDepth 20000

theorem fonly_grown {S : Nat → Prop} {a w w' : World} {row : Option Nat} (h : OnlyS S a w) (hg : w.grownBy w' row) (hr : ∀ k, row = some k → S k ∨ a.heap.size ≤ k) : OnlyS S a w' :=
  ⟨hg.os.trans h.os, hg.tape.trans h.tape, hg.output.trans h.output, Nat.le_trans h.size hg.size, fun k hk hn => (hg.block k (Nat.lt_of_lt_of_le hk h.size) (fun e => by
    rcases hr k e.symm with h1 | h1
    · exact hn h1
    · omega)).trans (h.block k hk hn)⟩
theorem fonly_setRow {S : Nat → Prop} {a w : World} (h : OnlyS S a w) {g : Nat} (hg : a.heap.size ≤ g) (cs : Array Value) : OnlyS S a (w.setRow g cs) :=
  ⟨h.os, h.tape, h.output, by simpa using h.size, fun k hk hn => (setRow_other w g k cs (by omega)).trans (h.block k hk hn)⟩
/-- the last one away -/
theorem fown_pop {w : World} {base t size n : Nat} {A : Option Addr} {c : Nat} {xs ys : List Value} (h : w.ownsRow base t size (.slice A (n + 1) c) (n + 1) (xs ++ ys)) (hx : xs.length = n * size) : w.ownsRow base t size (.slice A n c) n xs := by
  rcases h.2 with ⟨_, h0⟩ | ⟨g, cap, cur, hv, hb, hh, hnc, hcm, hcs, htk⟩
  · omega
  · injection hv with hA _ hc
    subst hc
    refine ⟨hx, .inr ⟨g, c, cur, by rw [hA], hb, hh, by omega, hcm, hcs, ?_⟩⟩
    have e := congrArg (List.take (n * size)) htk
    rw [List.take_take, Nat.min_eq_left (Nat.mul_le_mul_right _ (by omega)), List.take_left' hx] at e
    exact e
/-- the program's side by side -/
structure SdAt (w : World) (n0 g : Nat) (p : Int) (v1 v2 : Value) (S : List (Nat × List Int)) : Prop where
  kb : Blk w g 73 #[.int .i64 p, v1, v2]
  sz : OwI n0 w v1 (szs (exps S))
  hs : OwH n0 w v2 (hshs S)
  ng : n0 ≤ g
def SdO (g : Nat) (u1 u2 : Value) (k : Nat) : Prop := k = g ∨ u1.ownBlock = some k ∨ u2.ownBlock = some k
/-- within a put -/
structure PuS (n0 g e : Nat) (u1 u2 : Value) (w : World) (P : Int) (V1 V2 v1 v2 : Value) (X : List Int) (Y : List (List Int)) (h : List Int) (x : World) : Prop where
  kb : Blk x g 73 #[.int .i64 P, V1, V2]
  sz : OwI n0 x v1 X
  hs : OwH n0 x v2 Y
  box : Blk x e 33 (hc32 h)
  on : OnlyS (SdO g u1 u2) w x
  o1 : ∀ k, v1.ownBlock = some k → u1.ownBlock = some k ∨ w.heap.size ≤ k
  o2 : ∀ k, v2.ownBlock = some k → (u2.ownBlock = some k ∨ w.heap.size ≤ k) ∧ k ≠ e
  l1 : ∀ k, u1.ownBlock = some k → n0 ≤ k ∧ k < w.heap.size
  l2 : ∀ k, u2.ownBlock = some k → n0 ≤ k ∧ k < w.heap.size
  ng : n0 ≤ g
  gl : g < w.heap.size
  nw : n0 ≤ w.heap.size
  he : w.heap.size ≤ e
  hh : H32 h
section
variable {n0 g e : Nat} {u1 u2 : Value} {w : World} {P : Int} {V1 V2 v1 v2 : Value} {X : List Int} {Y : List (List Int)} {h : List Int} {x y : World}
theorem pus_of {p : Int} {v1 v2 : Value} {S : List (Nat × List Int)} (H : SdAt w n0 g p v1 v2 S) (hn : n0 ≤ w.heap.size) (hh : H32 h) :
    PuS n0 g w.heap.size v1 v2 w p v1 v2 v1 v2 (szs (exps S)) (hshs S) h (w.alloc (.cells (hc32 h) 33)) := by
  have hb : Below w.heap.size w (w.alloc (.cells (hc32 h) 33)) := (Below.refl _ _).alloc (Nat.le_refl _) _
  refine ⟨H.kb.below hb, H.sz.below hb, H.hs.below hb, Blk.new w 33 _, OnlyS.of_below hb (Nat.le_refl _), fun k hk => .inl hk, fun k hk => ⟨.inl hk, ?_⟩, H.sz.lt, H.hs.lt, H.ng, H.kb.lt, hn, Nat.le_refl _, hh⟩
  have := (H.hs.lt k hk).2
  omega
theorem PuS.done {S : List (Nat × List Int)} (H : PuS n0 g e u1 u2 w P v1 v2 v1 v2 (szs (exps S)) (hshs S) h x) : SdAt x n0 g P v1 v2 S := ⟨H.kb, H.sz, H.hs, H.ng⟩
theorem PuS.bel (H : PuS n0 g e u1 u2 w P V1 V2 v1 v2 X Y h x) : Below n0 w x := H.on.below H.nw (fun k hk => by
  rcases hk with rfl | hk | hk
  · exact H.ng
  · exact (H.l1 k hk).1
  · exact (H.l2 k hk).1)
theorem PuS.below (H : PuS n0 g e u1 u2 w P V1 V2 v1 v2 X Y h x) (hb : Below x.heap.size x y) : PuS n0 g e u1 u2 w P V1 V2 v1 v2 X Y h y :=
  ⟨H.kb.below hb, H.sz.below hb, H.hs.below hb, H.box.below hb, H.on.trans (OnlyS.of_below hb (Nat.le_refl _)), H.o1, H.o2, H.l1, H.l2, H.ng, H.gl, H.nw, H.he, H.hh⟩
/-- the local hash turned -/
theorem PuS.boxed (H : PuS n0 g e u1 u2 w P V1 V2 v1 v2 X Y h x) {h' : List Int} (hh : H32 h') : PuS n0 g e u1 u2 w P V1 V2 v1 v2 X Y h' (x.setRow e (hc32 h')) := by
  have hg : g ≠ e := H.kb.ne H.box (by decide)
  refine ⟨H.kb.rowFar hg _, H.sz.keep (fun k hk => ?_), H.hs.keep (fun k hk => ?_), H.box.row _, fonly_setRow H.on H.he _, H.o1, H.o2, H.l1, H.l2, H.ng, H.gl, H.nw, H.he, hh⟩
  · obtain ⟨_, C, hC⟩ := H.sz.ty k hk
    exact setRow_other x e k _ (hC.ne H.box (by decide))
  · exact setRow_other x e k _ (H.o2 k hk).2
/-- a field turned -/
theorem PuS.field (H : PuS n0 g e u1 u2 w P V1 V2 v1 v2 X Y h x) (i : Nat) (u : Value) {P' : Int} {V1' V2' : Value} (hi : (#[.int .i64 P, V1, V2] : Array Value).setIfInBounds i u = #[.int .i64 P', V1', V2']) : PuS n0 g e u1 u2 w P' V1' V2' v1 v2 X Y h (x.setCell ⟨g, i, none⟩ u) := by
  have hg : e ≠ g := fun e' => H.kb.ne H.box (by decide) e'.symm
  refine ⟨by rw [← hi]; exact H.kb.setd i u, H.sz.keep (fun k hk => ?_), H.hs.keep (fun k hk => ?_), H.box.far (p := ⟨g, i, none⟩) hg u, H.on.setCell (.inl (.inl rfl)) u, H.o1, H.o2, H.l1, H.l2, H.ng, H.gl, H.nw, H.he, H.hh⟩
  · obtain ⟨_, C, hC⟩ := H.sz.ty k hk
    exact Below.heap_setCell x _ _ k (hC.ne H.kb (by decide))
  · obtain ⟨_, C, hC⟩ := H.hs.ty k hk
    exact Below.heap_setCell x _ _ k (hC.ne H.kb (by decide))
/-- the sizes' row grown -/
theorem PuS.app1 (H : PuS n0 g e u1 u2 w P V1 V2 v1 v2 X Y h x) {v' : Value} {X' : List Int} (ho : OwI n0 y v' X') (hg : x.grownBy y v1.ownBlock) (ha : v'.ownBlock = v1.ownBlock ∨ v'.ownBlock = some x.heap.size) : PuS n0 g e u1 u2 w P V1 V2 v' v2 X' Y h y := by
  have ne : ∀ k {t : TypeId} {cs : Array Value}, Blk x k t cs → t ≠ 3 → some k ≠ v1.ownBlock := fun k t cs hk ht e' => by
    obtain ⟨_, C, hC⟩ := H.sz.ty k e'.symm
    exact hk.ne hC ht rfl
  refine ⟨H.kb.same (hg.block g H.kb.lt (ne g H.kb (by decide))), ho, H.hs.keep (fun k hk => ?_), H.box.same (hg.block e H.box.lt (ne e H.box (by decide))), fonly_grown H.on hg (fun k hk => (H.o1 k hk).imp (fun h => .inr (.inl h)) id), fun k hk => ?_, H.o2, H.l1, H.l2, H.ng, H.gl, H.nw, H.he, H.hh⟩
  · obtain ⟨_, C, hC⟩ := H.hs.ty k hk
    exact hg.block k hC.lt (ne k hC (by decide))
  · rcases ha with ha | ha
    · exact H.o1 k (by rw [← ha]; exact hk)
    · rw [ha] at hk; injection hk with hk
      exact .inr (by rw [← hk]; exact H.on.size)
/-- the hashes' row grown -/
theorem PuS.app2 (H : PuS n0 g e u1 u2 w P V1 V2 v1 v2 X Y h x) {v' : Value} {Y' : List (List Int)} (ho : OwH n0 y v' Y') (hg : x.grownBy y v2.ownBlock) (ha : v'.ownBlock = v2.ownBlock ∨ v'.ownBlock = some x.heap.size) : PuS n0 g e u1 u2 w P V1 V2 v1 v' X Y' h y := by
  have ne : ∀ k {t : TypeId} {cs : Array Value}, Blk x k t cs → t ≠ 33 → some k ≠ v2.ownBlock := fun k t cs hk ht e' => by
    obtain ⟨_, C, hC⟩ := H.hs.ty k e'.symm
    exact hk.ne hC ht rfl
  refine ⟨H.kb.same (hg.block g H.kb.lt (ne g H.kb (by decide))), H.sz.keep (fun k hk => ?_), ho, H.box.same (hg.block e H.box.lt (fun e' => (H.o2 e e'.symm).2 rfl)), fonly_grown H.on hg (fun k hk => ((H.o2 k hk).1).imp (fun h => .inr (.inr h)) id), H.o1, fun k hk => ?_, H.l1, H.l2, H.ng, H.gl, H.nw, H.he, H.hh⟩
  · obtain ⟨_, C, hC⟩ := H.sz.ty k hk
    exact hg.block k hC.lt (ne k hC (by decide))
  · rcases ha with ha | ha
    · exact H.o2 k (by rw [← ha]; exact hk)
    · rw [ha] at hk; injection hk with hk
      have := H.box.lt
      exact ⟨.inr (by rw [← hk]; exact H.on.size), by omega⟩
/-- the last one away of both rows -/
theorem PuS.pop {A1 A2 : Option Addr} {n c1 c2 : Nat} {S : List (Nat × List Int)} {k : Nat} {f : List Int} (H : PuS n0 g e u1 u2 w P V1 V2 (.slice A1 (n + 1) c1) (.slice A2 (n + 1) c2) (szs (exps (S ++ [(k, f)]))) (hshs (S ++ [(k, f)])) h x) (hS : S.length = n) :
    PuS n0 g e u1 u2 w P V1 V2 (.slice A1 n c1) (.slice A2 n c2) (szs (exps S)) (hshs S) h x := by
  have hl1 : (szs (exps S)).length = n := by rw [szs_len, List.length_map, hS]
  have hok : ∀ f ∈ hshs S, H32 f := fun f hf => H.hs.ok f (by rw [hshs, List.map_append]; exact List.mem_append_left _ hf)
  have hl2 : (hshs S).length = n := by rw [List.length_map, hS]
  refine ⟨H.kb, ?_, ⟨?_, hok⟩, H.box, H.on, fun k hk => H.o1 k (by cases A1 <;> exact hk), fun k hk => H.o2 k (by cases A2 <;> exact hk), H.l1, H.l2, H.ng, H.gl, H.nw, H.he, H.hh⟩
  · have h1 : x.ownsRow n0 3 1 (.slice A1 (n + 1) c1) (szs (exps (S ++ [(k, f)]))).length (nis (szs (exps (S ++ [(k, f)])))) := H.sz
    have e1 : szs (exps (S ++ [(k, f)])) = szs (exps S) ++ [((2 ^ k : Nat) : Int)] := by rw [exps_append]; exact szs_snoc _ _
    rw [e1, List.length_append, hl1, nis_append] at h1
    show x.ownsRow _ _ _ _ _ _
    rw [hl1]
    exact fown_pop h1 (by rw [nis_len, hl1, Nat.mul_one])
  · have h2 := H.hs.row
    have e2 : hshs (S ++ [(k, f)]) = hshs S ++ [f] := by rw [hshs, List.map_append]; rfl
    rw [e2, List.length_append, hl2, hcs_append] at h2
    rw [hl2]
    exact fown_pop h2 (by rw [hcs_len hok, hl2])
end
theorem bits_and_i64 (a b : Nat) (ha : a < 4294967296) (hb : b < 4294967296) : bits .and .i64 (a : Int) (b : Int) = ((a &&& b : Nat) : Int) := by
  have hx : a &&& b < 2 ^ 32 := Nat.and_lt_two_pow _ (by omega)
  have h1 : (BitVec.ofInt 64 (a : Int)).toNat = a := by
    rw [BitVec.ofInt_natCast, BitVec.toNat_ofNat]; exact Nat.mod_eq_of_lt (by omega)
  have h2 : (BitVec.ofInt 64 (b : Int)).toNat = b := by
    rw [BitVec.ofInt_natCast, BitVec.toNat_ofNat]; exact Nat.mod_eq_of_lt (by omega)
  show IntKind.i64.wrap ((BitVec.ofInt 64 (a : Int) &&& BitVec.ofInt 64 (b : Int)).toNat : Int) = _
  rw [BitVec.toNat_and, h1, h2]
  exact IntWalk.i64_in _ (by omega)
theorem and_bit (p m : Nat) (hp : p < 4294967296) (hm : m ≤ 31) : bits .and .i64 (p : Int) ((2 ^ m : Nat) : Int) = if p.testBit m = true then ((2 ^ m : Nat) : Int) else 0 := by
  have h3 : (2 : Nat) ^ m ≤ 2 ^ 31 := pow_mono2 hm
  rw [bits_and_i64 p _ hp (by omega)]
  by_cases hb : p.testBit m = true
  · rw [if_pos hb]
    congr 1
    refine Nat.eq_of_testBit_eq fun i => ?_
    rw [Nat.testBit_and, Nat.testBit_two_pow]
    by_cases hi : m = i
    · subst hi; simp [hb]
    · simp [hi]
  · rw [if_neg hb]
    have e : p &&& 2 ^ m = 0 := by
      refine Nat.eq_of_testBit_eq fun i => ?_
      rw [Nat.testBit_and, Nat.testBit_two_pow, Nat.zero_testBit]
      by_cases hi : m = i
      · subst hi; simp at hb; simp [hb]
      · simp [hi]
    rw [e]; rfl
end Go.Proofs.YtoacjaecfabahaaDoor
