/-
  What is proved here: the reference's lists of pairs: a pair more; a key put into a list.
-/
import Derived.Test.YtjhaamffgkialaaGreatDoorMX21
import Derived.Test.YtjhaamffgkialaaGreatDoorMY1
import Derived.Deep.DeepCutAuto
import Derived.Deep.CutBlock
set_option linter.unusedSimpArgs false
set_option linter.unusedVariables false
namespace Go.Proofs.YtjhaamffgkialaaGreatDoor
open Go.ChangeShapes Go.WideShapes Go.ChangeAt Go.RowKit
set_option linter.unusedVariables false
set_option linter.unusedSimpArgs false
set_option maxRecDepth 20000

def kvcs (L : List KV) : List Value := L.flatMap kvc
theorem kvc_one (q : KV) : ∀ v ∈ kvc q, v.oneCell' = true := fun v hv => by
  unfold kvc at hv
  rcases List.mem_append.1 hv with h | h
  · exact u8s_one _ v h
  · exact u8s_one _ v h
theorem kvcs_length {L : List KV} (h : Kys L) : (kvcs L).length = L.length * 64 := by
  induction L with
  | nil => rfl
  | cons q N ih =>
    have hq := h q (by simp)
    unfold kvcs at ih ⊢
    rw [List.flatMap_cons, List.length_append, kvc_len hq.1 hq.2, ih (fun q hq => h q (List.mem_cons_of_mem _ hq)), List.length_cons, Nat.succ_mul, Nat.add_comm]
theorem kvcs_at : ∀ {L : List KV} {i : Nat} {q : KV}, Kys L → L[i]? = some q → ∀ j v, (kvc q)[j]? = some v → (kvcs L)[i * 64 + j]? = some v
  | [], i, q, _, h, _, _, _ => by simp at h
  | x :: S, 0, q, hN, h, j, v, hv => by
    injection h with h
    subst h
    unfold kvcs
    rw [List.flatMap_cons, Nat.zero_mul, Nat.zero_add, List.getElem?_append_left (by
      rcases Nat.lt_or_ge j (kvc x).length with h1 | h1
      · exact h1
      · rw [List.getElem?_eq_none h1] at hv; cases hv)]
    exact hv
  | x :: S, i + 1, q, hN, h, j, v, hv => by
    have hx0 := hN x (by simp)
    have hx := kvc_len hx0.1 hx0.2
    unfold kvcs
    rw [List.flatMap_cons, List.getElem?_append_right (by rw [hx, Nat.succ_mul]; omega), hx]
    have e : (i + 1) * 64 + j - 64 = i * 64 + j := by rw [Nat.succ_mul]; omega
    rw [e]
    exact kvcs_at (L := S) (fun q hq => hN q (List.mem_cons_of_mem _ hq)) (by simpa using h) j v hv
theorem kvcs_snoc (S : List KV) (q : KV) : kvcs (S ++ [q]) = kvcs S ++ kvc q := by unfold kvcs; rw [List.flatMap_append]; simp
/-- a list of pairs of one's own -/
structure OwP (n0 : Nat) (w : World) (v : Value) (L : List KV) : Prop where
  row : w.ownsRow n0 43 64 v L.length (kvcs L)
  ok : Kys L
theorem OwP.nil (n0 : Nat) (w : World) : OwP n0 w (.slice none 0 0) [] := ⟨⟨rfl, .inl ⟨rfl, rfl⟩⟩, fun s hs => by simp at hs⟩
theorem OwP.below {n0 : Nat} {w w' : World} {v : Value} {L : List KV} (h : OwP n0 w v L) (hb : Below w.heap.size w w') : OwP n0 w' v L := ⟨own_below h.row hb, h.ok⟩
theorem OwP.weak {n0 n1 : Nat} {w : World} {v : Value} {L : List KV} (h : OwP n0 w v L) (hn : n1 ≤ n0) : OwP n1 w v L := ⟨own_weak h.row hn, h.ok⟩
theorem OwP.len {n0 : Nat} {w : World} {v : Value} {L : List KV} (h : OwP n0 w v L) : ∃ A c, v = .slice A L.length c := by
  rcases h.row.2 with ⟨h1, h0⟩ | ⟨g, cap, cur, hv, _⟩
  · exact ⟨none, 0, by rw [h1, h0]⟩
  · exact ⟨_, _, hv⟩
theorem OwP.in {n0 n c : Nat} {w : World} {A : Option Addr} {L : List KV} (h : OwP n0 w (.slice A n c) L) (hm : L.length ≤ 1000000) : InP w A n L := by
  obtain ⟨A', c', e⟩ := h.len
  injection e with e1 e2 e3
  subst e2
  refine ⟨rfl, by omega, h.ok, fun hn => ?_⟩
  rcases h.row.2 with ⟨_, h0⟩ | ⟨g, cap, cur, hv, hb, hh, hnc, hcm, hcs, htk⟩
  · omega
  · injection hv with hA
    have hlt := (h.row.lt g (by rw [hA]; rfl)).2
    refine ⟨g, 0, hA, hlt, fun i s hs j v hv => ?_⟩
    have h1 := kvcs_at h.ok hs j v hv
    have h2 := h.row.cells (g := g) (by rw [hA]; rfl) _ v h1
    rw [Addr.add_lit] at h2
    rw [Nat.add_assoc]
    exact h2
theorem OwP.ty {n0 : Nat} {w : World} {v : Value} {L : List KV} (h : OwP n0 w v L) : ∀ k, v.ownBlock = some k → n0 ≤ k ∧ ∃ C, Blk w k 43 C := fun k hk => by
  rcases h.row.2 with ⟨h1, h0⟩ | ⟨g, cap, cur, hv, hb, hh, _⟩
  · rw [h1] at hk; cases hk
  · rw [hv] at hk; injection hk with hk; subst hk; exact ⟨hb, cur, hh⟩
/-- one of a list that can be read: its key, its value -/
theorem InP.at {w : World} {A : Option Addr} {n : Nat} {P : List KV} (h : InP w A n P) {k : Nat} (hk : k < n) : ∃ b o q, A = some ⟨b, o, none⟩ ∧ P[k]? = some q ∧ Ky q.1 ∧ Ky q.2 ∧ w.rangeAt b (o + k * 64) (kvc q) ∧ w.rangeAt b (o + k * 64) (u8s q.1) ∧ w.rangeAt b (o + k * 64 + 32) (u8s q.2) := by
  obtain ⟨h1, h2, h3, h4⟩ := h
  obtain ⟨b, o, e, hlt, hat⟩ := h4 (by omega)
  have hs : P[k]? = some P[k] := List.getElem?_eq_getElem (by omega)
  have hq := h3 _ (List.getElem_mem (by omega : k < P.length))
  have hr := hat k _ hs
  have hr2 : w.rangeAt b (o + k * 64) (u8s P[k].1 ++ (u8s P[k].2 ++ [])) := by rw [List.append_nil]; exact hr
  have h5 := range_sub hr2
  rw [u8s_length, hq.1.len] at h5
  exact ⟨b, o, _, e, hs, hq.1, hq.2, hr, range_sub0 hr2, h5⟩
theorem inp_at {w : World} {b o n k : Nat} {P : List KV} {q : KV} (h : InP w (some ⟨b, o, none⟩) n P) (hq : P[k]? = some q) : w.rangeAt b (o + k * 64) (kvc q) := by
  obtain ⟨h1, h2, h3, h4⟩ := h
  obtain ⟨b', o', e, hlt, hat⟩ := h4 (by have := (List.getElem?_eq_some_iff.1 hq).1; omega)
  injection e with e
  injection e with e1 e2
  subst e1; subst e2
  exact hat k q hq
theorem wpList_pair_one {ops : Array Oper} {rest : List Oper} {o : Oper} {a : Act} {w : World} {Q : Exit → Act → World → Prop} (hgd : o.guard = none) (x : Operand) (ho : o.op = .buildSlice 22 1 #[(0, x)]) (q : KV) (hq : Ky q.1 ∧ Ky q.2) (hx : a.eval x = .agg (kvc q).toArray)
    (h : wpList Tryz.prog ops Q rest (a.put o.dst (.slice (some ⟨w.heap.size, 0, none⟩) 1 1)) (w.alloc (.cells (kvc q).toArray 43))) : wpList Tryz.prog ops Q (o :: rest) a w := by
  refine wpList_plain hgd fun _ hK => ?_
  obtain ⟨i0, hi, hz0, hz1, hz2⟩ := info_parts info_pair
  have hl := kvc_len hq.1 hq.2
  refine wp_buildSlice 22 43 1 #[(0, x)] ho (kvc q).toArray i0 _ Tryz.underlying22 hi hz0 (by rw [hz1]; decide) (by rw [hz1]; decide) ?_ (hK _ _ h)
  have hp : (#[(0, x)].map fun ((i, x) : Nat × Operand) => (i, a.eval x)).toList = [(0, Value.agg (kvc q).toArray)] := by simp [hx]
  rw [hp, hz1]
  have h := Great.fill_whole (s := 64) (by decide) [Value.agg (kvc q).toArray] ((Array.range (1 * 64)).map ((Value.agg (kvc (z32, z32)).toArray).cells[· % (Value.agg (kvc (z32, z32)).toArray).cells.size]!)) (fun v hv => by
    rw [List.mem_singleton.1 hv]; exact hl) (by simp)
  simp only [List.flatMap_cons, List.flatMap_nil, List.append_nil] at h
  exact h
/-- a pair more -/
theorem wpList_append_pair {w : World} {ops : Array Oper} {rest : List Oper} {o : Oper} {a : Act} {Q : Exit → Act → World → Prop} (hgd : o.guard = none) (s x : Operand)
    (ho : o.op = .call { callee := .builtin .append, args := #[s, x], argTypes := #[22, 22] }) (n0 : Nat) (L : List KV) (v : Value) (hs : a.eval s = v) (hO : OwP n0 w v L) (q : KV) (hq : Ky q.1 ∧ Ky q.2) (hx : a.eval x = .slice (some ⟨w.heap.size, 0, none⟩) 1 1) (hlen : L.length ≤ 5000) (hn : n0 ≤ w.heap.size)
    (h : ∀ v' w', OwP n0 w' v' (L ++ [q]) → Below n0 w w' → wpList Tryz.prog ops Q rest (a.put o.dst v') w') : wpList Tryz.prog ops Q (o :: rest) a (w.alloc (.cells (kvc q).toArray 43)) := by
  obtain ⟨i0, hi, hz0, hz1, hz2⟩ := info_parts info_pair
  have hB := Blk.new w 43 (kvc q).toArray
  have hb : Below w.heap.size w (w.alloc (.cells (kvc q).toArray 43)) := (Below.refl _ _).alloc (Nat.le_refl _) _
  refine wpList_append_own _ hgd s x 22 ho n0 43 i0 _ 64 64 Tryz.underlying22 hi hz0 hz1 hz2 (by rfl) (by decide) v L.length (kvcs L) hs (hO.below hb).row ⟨w.heap.size, 0, none⟩ 1 1 (kvc q) hx (by rw [kvc_len hq.1 hq.2]) (fun j u hu => ?_) (kvc_one q) (by unfold maxLen; omega) (by omega) (Nat.le_trans hn hb.size) ?_
  · rw [Addr.add_lit, Nat.zero_add, hB.cell, List.getElem?_toArray]; exact hu
  · intro v' w' h1 h2 _
    refine h v' w' ⟨by rw [List.length_append, kvcs_snoc]; exact h1, fun p hp => ?_⟩ ((hb.mono hn).trans ((Below.refl _ _).grown h2 (Nat.le_trans hn hb.size) (fun k hk => (hO.ty k hk).1)))
    rcases List.mem_append.1 hp with hp | hp
    · exact hO.ok p hp
    · rw [List.mem_singleton.1 hp]; exact hq
theorem putS_at {l : List KV} {k v : List Int} {i : Nat} {q : KV} (h : l[i]? = some q) : (l.take (i + 1)).foldl (putS k v) ([], false) = putS k v ((l.take i).foldl (putS k v) ([], false)) q := by
  rw [List.take_add_one, h, List.foldl_append]; rfl
theorem putS_put_eq {K : List Int} {q : KV} (L : List KV) (V : List Int) (he : q.1 = K) : putS K V (L, true) q = (L, true) := by unfold putS; simp [he]
theorem putS_put_ne {K : List Int} {q : KV} (L : List KV) (V : List Int) (he : ¬ q.1 = K) : putS K V (L, true) q = (L ++ [q], true) := by unfold putS; simp [he]
theorem putS_less_eq {K : List Int} {q : KV} (L : List KV) (V : List Int) (hl : lss q.1 K = true) (he : q.1 = K) : putS K V (L, false) q = (L, false) := by unfold putS; simp [he, he ▸ hl]
theorem putS_less_ne {K : List Int} {q : KV} (L : List KV) (V : List Int) (hl : lss q.1 K = true) (he : ¬ q.1 = K) : putS K V (L, false) q = (L ++ [q], false) := by unfold putS; simp [he, hl]
theorem putS_ins_eq {K : List Int} {q : KV} (L : List KV) (V : List Int) (hl : lss q.1 K = false) (he : q.1 = K) : putS K V (L, false) q = (L ++ [(K, V)], true) := by
  have hl' := hl
  rw [he] at hl'
  unfold putS; simp [he, hl']
theorem putS_ins_ne {K : List Int} {q : KV} (L : List KV) (V : List Int) (hl : lss q.1 K = false) (he : ¬ q.1 = K) : putS K V (L, false) q = (L ++ [(K, V)] ++ [q], true) := by unfold putS; simp [he, hl]
/-- between two rounds of Put -/
structure YpI (w : World) (K V : List Int) (P : List KV) (i : Nat) (L : List KV) (p : Bool) (A : Option Addr) (m c : Nat) (x : World) : Prop where
  kk : Blk x w.heap.size 25 (kc K)
  kv : Blk x (w.heap.size + 1) 25 (kc V)
  ow : OwP (w.heap.size + 1 + 1) x (.slice A m c) L
  st : (P.take i).foldl (putS K V) ([], false) = (L, p)
  ml : m = L.length ∧ L.length ≤ 2 * i + 1
  bl : Below w.heap.size w x
theorem YpI.below {w x y : World} {K V : List Int} {P L : List KV} {i m c : Nat} {p : Bool} {A : Option Addr} (h : YpI w K V P i L p A m c x) (hb : Below x.heap.size x y) : YpI w K V P i L p A m c y :=
  ⟨h.kk.below hb, h.kv.below hb, h.ow.below hb, h.st, h.ml, h.bl.trans (hb.mono h.bl.size)⟩
theorem yput_math {P : List KV} {K V : List Int} {L : List KV} {p : Bool} {n : Nat} (hl : P.length = n) (h : (P.take n).foldl (putS K V) ([], false) = (L, p)) : putL P K V = (if p = false then L ++ [(K, V)] else L) := by
  rw [List.take_of_length_le (by omega)] at h
  unfold putL
  rw [h]
end Go.Proofs.YtjhaamffgkialaaGreatDoor
/-
  What is proved here: the reference's All: pairs put one behind the other.
-/
namespace Go.Proofs.YtjhaamffgkialaaGreatDoor
open Go.ChangeShapes Go.WideShapes Go.ChangeAt Go.RowKit
set_option linter.unusedVariables false
set_option linter.unusedSimpArgs false
set_option maxRecDepth 20000

theorem all_take {P : List KV} {k : Nat} {q : KV} (h : P[k]? = some q) : allL (P.take (k + 1)) = putL (allL (P.take k)) q.1 q.2 := by
  rw [List.take_add_one, h]
  exact allL_snoc _ q
theorem put_len2 {l : List KV} {k v : List Int} (hs : Srt l) (hl : Kys l) (hk : Ky k) : (putL l k v).length ≤ l.length + 1 := by
  rw [putL_eq hs hl hk]
  have := lohi_len k l
  simp only [List.length_append, List.length_singleton]
  omega
theorem kys_take {P : List KV} (h : Kys P) (k : Nat) : Kys (P.take k) := fun q hq => h q (List.mem_of_mem_take hq)
theorem allL_take_len {P : List KV} (h : Kys P) : ∀ k, (allL (P.take k)).length ≤ k
  | 0 => by rw [List.take_zero]; exact Nat.le_refl _
  | k + 1 => by
    have ih := allL_take_len h k
    cases hq : P[k]? with
    | none => rw [List.take_add_one, hq]; simp only [Option.toList_none, List.append_nil]; omega
    | some q =>
      rw [all_take hq]
      have ho := allL_ok _ (kys_take h k)
      have := put_len2 (v := q.2) ho.1 ho.2 (h q (List.mem_of_getElem? hq)).1
      omega
def PAt (b o : Nat) (q : KV) (w : World) : Prop := w.rangeAt b o (u8s q.1) ∧ w.rangeAt b (o + 32) (u8s q.2)
theorem pat_below {b o : Nat} {q : KV} {w w' : World} (hb : Below w.heap.size w w') (h : PAt b o q w) : PAt b o q w' := ⟨rng_bel hb h.1, rng_bel hb h.2⟩
end Go.Proofs.YtjhaamffgkialaaGreatDoor
/-
  What is proved here: the reference's Get: the first of a list with that key.
-/
namespace Go.Proofs.YtjhaamffgkialaaGreatDoor
open Go.ChangeShapes Go.WideShapes Go.ChangeAt Go.RowKit
set_option linter.unusedVariables false
set_option linter.unusedSimpArgs false
set_option maxRecDepth 20000

theorem getL_found {P : List KV} {K : List Int} {i : Nat} {q : KV} (hq : P[i]? = some q) (hn : getL (P.take i) K = none) (he : q.1 = K) : getL P K = some q.2 := by
  obtain ⟨hi, he2⟩ := List.getElem?_eq_some_iff.1 hq
  have e : P = P.take i ++ q :: P.drop (i + 1) := by
    rw [← he2]
    conv => lhs; rw [← List.take_append_drop i P, List.drop_eq_getElem_cons hi]
  rw [e, getL_app, hn]
  unfold getL
  rw [List.find?_cons_of_pos (by simpa using he)]
  rfl
theorem getL_on {P : List KV} {K : List Int} {i : Nat} {q : KV} (hq : P[i]? = some q) (hn : getL (P.take i) K = none) (he : ¬ q.1 = K) : getL (P.take (i + 1)) K = none := by
  rw [List.take_add_one, hq, getL_app, hn]
  exact getL_none (fun p hp => by
    have : p = q := by simpa using hp
    rw [this]; exact he)
/-- between two rounds of Get -/
structure YgI (w : World) (K : List Int) (Z : Array Value) (P : List KV) (i : Nat) (x : World) : Prop where
  kk : Blk x w.heap.size 25 (kc K)
  kz : Blk x (w.heap.size + 1) 25 Z
  st : getL (P.take i) K = none
  bl : Below w.heap.size w x
end Go.Proofs.YtjhaamffgkialaaGreatDoor
/-
  What is proved here: the reference's Part: how many first keys have a 0 behind the prefix.
-/
namespace Go.Proofs.YtjhaamffgkialaaGreatDoor
open Go.ChangeShapes Go.WideShapes Go.ChangeAt Go.RowKit
set_option linter.unusedVariables false
set_option linter.unusedSimpArgs false
set_option maxRecDepth 20000

theorem prt_is : ∀ {l : List KV} {n k : Nat}, (∀ (j : Nat) (q : KV), j < k → l[j]? = some q → bit q.1 n = 0) → k ≤ l.length → (∀ q : KV, l[k]? = some q → ¬ bit q.1 n = 0) → prt l n = k
  | [], n, k, _, hk, _ => by
    have : k = 0 := by simpa using hk
    rw [this]; rfl
  | q :: l, n, 0, _, _, h2 => by
    unfold prt
    rw [List.takeWhile_cons, if_neg (by simpa using h2 q rfl)]
    rfl
  | q :: l, n, k + 1, h1, hk, h2 => by
    unfold prt
    rw [List.takeWhile_cons, if_pos (by simpa using h1 0 q (by omega) rfl), List.length_cons]
    have := prt_is (l := l) (n := n) (k := k) (fun j p hj hp => h1 (j + 1) p (by omega) (by simpa using hp)) (by simpa using hk) (fun p hp => h2 p (by simpa using hp))
    unfold prt at this
    rw [this]
/-- between two rounds of Part -/
structure YrI (w : World) (N : Nat) (B : List Int) (P : List KV) (i : Nat) (x : World) : Prop where
  kp : Blk x w.heap.size 47 (pc N B)
  st : ∀ (j : Nat) (q : KV), j < i → P[j]? = some q → bit q.1 N = 0
  bl : Below w.heap.size w x
set_option maxHeartbeats 8000000 in
theorem yPart_any {A0 : Option Addr} {n c0 : Nat} {P : List KV} {N : Nat} {B : List Int} (w : World) (hin : InP w A0 n P) (hB : Ky B) (hN : N < 256) :
    Calls Tryz.prog 42 #[.slice A0 n c0, .agg (pc N B)] w fun e w' => e = .returned (.int .i64 (prt P N : Nat)) ∧ Below w.heap.size w w' := by
  have HIN := hid hin
  have HPN : Hid (P.length = n) := hin.1
  have hmax := hin.2.1
  have I0 : Hid (YrI w N B P 0 (w.alloc (.cells (pc N B) 47))) := ⟨Blk.new w 47 _, fun j q hj => by omega, (Below.refl _ _).alloc (Nat.le_refl _) _⟩
  clear hin
  go_enter Tryz.func42, Tryz.ntmps42
  go_wp2
  generalize w.alloc (.cells (pc N B) 47) = w0 at I0 ⊢
  go_loopw [5] (fun iv wr => ∃ (i : Nat), i ≤ n ∧ iv = .int .i64 (i : Nat) ∧ Hid (YrI w N B P i wr)) (fun iv _ => n - (intOf iv).toNat)
  case atStart => exact ⟨0, Nat.zero_le _, rfl, I0⟩
  case round =>
    obtain ⟨i, hi, rfl, YI⟩ := hrel
    clear I0
    have hl := fun p : PW (Kp wr) => kp_len YI.out.kp p
    by_cases hlt : i < n
    · obtain ⟨b, oo, q, rfl, hq, hq1, hq2, hr0, hr1, hr2⟩ := (HIN.out.below YI.out.bl).at hlt
      have HQ := hid hq
      have HqI := hid (u8s_info hq1)
      have R1A := hid (fun p : PW (Kp wr) => rng_bel p.h hr1)
      have hlt2 : (i : Int) < n := by omega
      have d1 : decide ((i : Int) < n) = true := decide_eq_true hlt2
      have CA := hid (fun w => rBit_in q.1 hq1 N hN w)
      obtain ⟨x, hx⟩ : ∃ x, x = bit q.1 N := ⟨_, rfl⟩
      rw [← hx] at CA
      have HX := hid hx
      clear hq hq1 hq2 hr0 hr1 hr2 hx
      by_cases he : x = 0
      · subst he
        go_upto_region 2 with (fail)
        refine region_kept (Kp wr) (by kernel_rfl) (by kernel_rfl) (kp_begin wr) ?_
        repeat (first
          | go_big_quiet_skip
          | (go_big_quiet_want; refine quiet_load 25 (.tmp 14) rfl b (oo + i * 64) rfl (u8s q.1) _ (fun p => R1A.out p) Tryz.underlying25 rfl HqI.out (kc q.1) rfl ?_; go_big_quiet_on; simp only [Act.put, List.setIfInBounds_toArray, List.set_cons_zero, List.set_cons_succ])
          | (go_big_quiet_want; go_big_quiet_op; first | go_big_quiet_on | go_big_quiet_call (first | (with_reducible exact kp_call (CA.out _)))))
        refine wpQuiet_nil ?_
        intro _ hw'
        obtain ⟨p9, hw''⟩ := hw'
        subst hw''
        have YIB : Hid (YrI w N B P (i + 1) p9.w) := ⟨YI.out.kp.below p9.h, fun j p hj hp => by
          rcases Nat.lt_or_ge j i with h | h
          · exact YI.out.st j p h hp
          · obtain rfl : j = i := by omega
            have := HQ.out.symm.trans hp
            injection this with this
            rw [← this, ← HX.out], YI.out.bl.trans (p9.h.mono YI.out.bl.size)⟩
        clear hl
        generalize p9.w = wB at YIB ⊢
        go_wp2
        go_roundw
        case rel => exact ⟨i + 1, by omega, by go_num, YIB⟩
        case measure => simp [intOf]; omega
      · have b1 : (x == 0) = false := by simpa using he
        have HE := hid he
        clear he
        go_upto_region 2 with (fail)
        refine region_kept (Kp wr) (by kernel_rfl) (by kernel_rfl) (kp_begin wr) ?_
        repeat (first
          | go_big_quiet_skip
          | (go_big_quiet_want; refine quiet_load 25 (.tmp 14) rfl b (oo + i * 64) rfl (u8s q.1) _ (fun p => R1A.out p) Tryz.underlying25 rfl HqI.out (kc q.1) rfl ?_; go_big_quiet_on; simp only [Act.put, List.setIfInBounds_toArray, List.set_cons_zero, List.set_cons_succ])
          | (go_big_quiet_want; go_big_quiet_op; first | go_big_quiet_on | go_big_quiet_call (first | (with_reducible exact kp_call (CA.out _)))))
        refine wpQuiet_nil ?_
        intro _ hw'
        obtain ⟨p9, hw''⟩ := hw'
        subst hw''
        have BLB := hid (YI.out.bl.trans (p9.h.mono YI.out.bl.size))
        clear hl
        generalize p9.w = wB at BLB ⊢
        go_wp2
        go_ret
        exact ⟨by rw [prt_is YI.out.st (by rw [HPN.out]; exact hi) (fun p hp => by
          have := HQ.out.symm.trans hp
          injection this with this
          rw [← this, ← HX.out]; exact HE.out)]; rfl, BLB.out⟩
    · obtain rfl : i = n := by omega
      have hnl : ¬ ((i : Int) < (i : Int)) := by omega
      have d1 : decide ((i : Int) < i) = false := decide_eq_false hnl
      go_upto_region 2 with (fail)
      refine region_kept (Kp wr) (by kernel_rfl) (by kernel_rfl) (kp_begin wr) ?_
      repeat (first
        | go_big_quiet_skip
        | (go_big_quiet_want; go_big_quiet_op; first | go_big_quiet_on))
      refine wpQuiet_nil ?_
      intro _ hw'
      obtain ⟨p9, hw''⟩ := hw'
      subst hw''
      have BLB := hid (YI.out.bl.trans (p9.h.mono YI.out.bl.size))
      clear hl
      generalize p9.w = wB at BLB ⊢
      go_wp2
      go_ret
      exact ⟨by rw [prt_is YI.out.st (by rw [HPN.out]; exact Nat.le_refl _) (fun p hp => by
        rw [List.getElem?_eq_none (Nat.le_of_eq HPN.out)] at hp; cases hp)]; rfl, BLB.out⟩
end Go.Proofs.YtjhaamffgkialaaGreatDoor
/-
  What is proved here: the reference's Over: the prefix over a list of at least one pair.
-/
namespace Go.Proofs.YtjhaamffgkialaaGreatDoor
open Go.ChangeShapes Go.WideShapes Go.ChangeAt Go.RowKit
set_option linter.unusedVariables false
set_option linter.unusedSimpArgs false
set_option maxRecDepth 20000

/-- the two keys in their boxes -/
structure OvS (w : World) (g3 g4 : Nat) (K L : List Int) (x : World) : Prop where
  bl : Below w.heap.size w x
  ka : Blk x g3 25 (kc K)
  kb : Blk x g4 25 (kc L)
theorem OvS.below {w x y : World} {g3 g4 : Nat} {K L : List Int} (h : OvS w g3 g4 K L x) (hb : Below x.heap.size x y) : OvS w g3 g4 K L y := ⟨h.bl.trans (hb.mono h.bl.size), h.ka.below hb, h.kb.below hb⟩
theorem OvS.row {w x : World} {g3 g4 : Nat} {K L : List Int} (h : OvS w g3 g4 K L x) (h3 : g3 ≠ w.heap.size) (h4 : g4 ≠ w.heap.size) (cs : Array Value) : OvS w g3 g4 K L (x.setRow w.heap.size cs) :=
  ⟨below_setRow h.bl (Nat.le_refl _) _, h.ka.rowFar h3 _, h.kb.rowFar h4 _⟩
set_option maxHeartbeats 8000000 in
theorem yOver_any {A0 : Option Addr} {m c0 : Nat} {P : List KV} (w : World) (hin : InP w A0 (m + 1) P) (hm : m ≤ 3000) :
    Calls Tryz.prog 41 #[.slice A0 (m + 1 : Nat) c0] w fun e w' => e = .returned (.agg (pc (ovN P) (ovB P))) ∧ Below w.heap.size w w' := by
  obtain ⟨Z, HZ, hZ0, hZs⟩ := zero_pre
  obtain ⟨Z3, HZ3, hZ30, hZ3s⟩ := zero_key
  obtain ⟨b, oo, qa, rfl, ha, ha1, _, _, hra, _⟩ := hin.at (k := 0) (by omega)
  obtain ⟨b', oo', qb, hAe, hb, hb1, _, _, hrb, _⟩ := hin.at (k := m) (by omega)
  injection hAe with hAe
  injection hAe with e1 e2
  subst e1; subst e2
  have hlen : P.length = m + 1 := hin.1
  rw [Nat.zero_mul, Nat.add_zero] at hra
  have h1 : P.head?.getD ([], []) = qa := by rw [List.head?_eq_getElem?, ha]; rfl
  have h2 : P.getLast?.getD ([], []) = qb := by rw [List.getLast?_eq_getElem?, hlen, Nat.add_sub_cancel, hb]; rfl
  have eN : ovN P = shr qa.1 qb.1 := by unfold ovN; rw [h1, h2]
  have eB : ovB P = cut qa.1 (shr qa.1 qb.1) := by unfold ovB; rw [eN, h1]
  have CS := hid (fun w => rShared_any qa.1 qb.1 ha1 hb1 w)
  have CC0 := fun w => rCut_any qa.1 ha1 (shr qa.1 qb.1) w
  have el : lim (shr qa.1 qb.1 : Nat) = shr qa.1 qb.1 := by have := (shr_is qa.1 qb.1).le; unfold lim; omega
  rw [el, ← eB] at CC0
  rw [← eN] at CS CC0
  have CC := hid CC0
  have HB : Ky (ovB P) := by rw [eB]; exact cut_ky _ _
  have HP := hid (pc_info (ovN P) HB)
  have HZP : Hid (Z.size = (pc (ovN P) (ovB P)).size) := by show _ = _; rw [HZ.out, pc_size _ zk_ky, pc_size _ HB]
  have HAI := hid (u8s_info ha1); have HBI := hid (u8s_info hb1)
  have HAK := hid (kc_info ha1); have HBK := hid (kc_info hb1)
  have HZA : Hid (Z3.size = (kc qa.1).size) := by show _ = _; rw [HZ3.out, kc_size zk_ky, kc_size ha1]
  have HZB : Hid (Z3.size = (kc qb.1).size) := by show _ = _; rw [HZ3.out, kc_size zk_ky, kc_size hb1]
  have B0 : Hid (Below w.heap.size w (w.alloc (.cells Z 47))) := (Below.refl _ _).alloc (Nat.le_refl _) _
  have KZ := hid (Blk.new w 47 Z)
  have RA := hid (rng_bel ((Below.refl w.heap.size w).alloc (Nat.le_refl _) (.cells Z 47)) hra)
  have RB := hid (rng_bel ((Below.refl w.heap.size w).alloc (Nat.le_refl _) (.cells Z 47)) hrb)
  have hm1 : (m : Int) < (m : Int) + 1 := by omega
  have hwm : IntKind.i64.wrap (m : Int) = m := by rw [IntKind.wrap_i64]; omega
  have hm0 : (0 : Int) < (m : Int) + 1 := by omega
  clear hin ha ha1 hb hb1 hra hrb hlen h1 h2 eN eB CC0 el HB
  go_enter Tryz.func41, Tryz.ntmps41
  go_upto_region 1 with (fail)
  generalize w.alloc (.cells Z 47) = w0 at B0 KZ RA RB ⊢
  go_cut [3, 4] (fun s3 s4 wx => ∃ g3 g4, s3 = .pointer (some ⟨g3, 0, none⟩) ∧ s4 = .pointer (some ⟨g4, 0, none⟩) ∧ Hid (Blk wx g3 25 (kc qa.1)) ∧ Hid (Blk wx g4 25 (kc qb.1)) ∧ Hid (Below w0.heap.size w0 wx) ∧ Hid (w0.heap.size ≤ g3) ∧ Hid (w0.heap.size ≤ g4))
  case first =>
    refine wp_region_held (S := fun w' => Hid (Below w0.heap.size w0 w')) (by kernel_rfl) ?_
    change wpAnyH _ _ _ _ _ _ _ _ w0.drew
    have Gx0 : Hid (Below w0.heap.size w0 w0.drew) := (Below.refl _ _).drew
    generalize w0.drew = x0 at Gx0  ⊢
    refine wpAnyH_take (i := 0) (oi := { dst := some 5, op := _, type := _, pos := _, after := _, guard := _ }) (v := ?_) rfl (by kernel_rfl) (by kernel_rfl) (by kernel_rfl) (fun _ _ _ h => h) (Or.inl ⟨by kernel_rfl, ?_⟩) Gx0 ?_
    rotate_left
    · (intro w hSw; go_simp; try with_reducible rfl)
    try simp only [Act.put, List.setIfInBounds_toArray, List.set_cons_zero, List.set_cons_succ]
    refine wpAnyH_take (i := 1) (oi := { dst := some 6, op := _, type := _, pos := _, after := _, guard := _ }) (v := ?_) rfl (by kernel_rfl) (by kernel_rfl) (by kernel_rfl) (fun _ _ _ h => h) (Or.inl ⟨by kernel_rfl, ?_⟩) Gx0 ?_
    rotate_left
    · (intro w hSw; go_simp; try with_reducible rfl)
    try simp only [Act.put, List.setIfInBounds_toArray, List.set_cons_zero, List.set_cons_succ]
    refine wpAnyH_take (i := 2) (oi := { dst := some 7, op := _, type := _, pos := _, after := _, guard := _ }) (v := ?_) rfl (by kernel_rfl) (by kernel_rfl) (by kernel_rfl) (fun _ _ _ h => h) (Or.inl ⟨by kernel_rfl, ?_⟩) Gx0 ?_
    rotate_left
    · (intro w hSw; go_simp; try with_reducible rfl)
    try simp only [Act.put, List.setIfInBounds_toArray, List.set_cons_zero, List.set_cons_succ]
    refine wpAnyH_take (i := 3) (oi := { dst := some 8, op := _, type := _, pos := _, after := _, guard := _ }) (v := .agg ((kc qa.1))) rfl (by kernel_rfl) (by kernel_rfl) (by kernel_rfl) (fun _ _ _ h => h) (yieldsIf_load_mid (cs := (u8s qa.1)) (by rfl) _ _ rfl _ _ rfl _ (fun w' hSw => (rng_bel hSw.out RA.out)) Tryz.underlying25 rfl HAI.out) Gx0 ?_
    try simp only [Act.put, List.setIfInBounds_toArray, List.set_cons_zero, List.set_cons_succ]
    refine wpAnyH_take (i := 4) (oi := { dst := some 9, op := _, type := _, pos := _, after := _, guard := _ }) (v := ?_) rfl (by kernel_rfl) (by kernel_rfl) (by kernel_rfl) (fun _ _ _ h => h) (Or.inl ⟨by kernel_rfl, ?_⟩) Gx0 ?_
    rotate_left
    · (intro w hSw; go_simp; try with_reducible rfl)
    try simp only [Act.put, List.setIfInBounds_toArray, List.set_cons_zero, List.set_cons_succ]
    refine wpAnyH_take (i := 5) (oi := { dst := some 10, op := _, type := _, pos := _, after := _, guard := _ }) (v := ?_) rfl (by kernel_rfl) (by kernel_rfl) (by kernel_rfl) (fun _ _ _ h => h) (Or.inl ⟨by kernel_rfl, ?_⟩) Gx0 ?_
    rotate_left
    · (intro w hSw; go_simp; try with_reducible rfl)
    try simp only [Act.put, List.setIfInBounds_toArray, List.set_cons_zero, List.set_cons_succ]
    refine wpAnyH_take (i := 6) (oi := { dst := some 11, op := _, type := _, pos := _, after := _, guard := _ }) (v := ?_) rfl (by kernel_rfl) (by kernel_rfl) (by kernel_rfl) (fun _ _ _ h => h) (Or.inl ⟨by kernel_rfl, ?_⟩) Gx0 ?_
    rotate_left
    · (intro w hSw; go_simp; try with_reducible rfl)
    try simp only [Act.put, List.setIfInBounds_toArray, List.set_cons_zero, List.set_cons_succ]
    refine wpAnyH_take (i := 7) (oi := { dst := some 12, op := _, type := _, pos := _, after := _, guard := _ }) (v := .int .i64 (m : Nat)) rfl (by kernel_rfl) (by kernel_rfl) (by kernel_rfl) (fun _ _ _ h => h) (Or.inl ⟨by kernel_rfl, ?_⟩) Gx0 ?_
    · (intro w hSw; go_simp; try exact hwm)
    try simp only [Act.put, List.setIfInBounds_toArray, List.set_cons_zero, List.set_cons_succ]
    refine wpAnyH_take (i := 8) (oi := { dst := some 13, op := _, type := _, pos := _, after := _, guard := _ }) (v := ?_) rfl (by kernel_rfl) (by kernel_rfl) (by kernel_rfl) (fun _ _ _ h => h) (Or.inl ⟨by kernel_rfl, ?_⟩) Gx0 ?_
    rotate_left
    · (intro w hSw; go_simp; try with_reducible rfl)
    try simp only [Act.put, List.setIfInBounds_toArray, List.set_cons_zero, List.set_cons_succ]
    refine wpAnyH_take (i := 9) (oi := { dst := some 14, op := _, type := _, pos := _, after := _, guard := _ }) (v := ?_) rfl (by kernel_rfl) (by kernel_rfl) (by kernel_rfl) (fun _ _ _ h => h) (Or.inl ⟨by kernel_rfl, ?_⟩) Gx0 ?_
    rotate_left
    · (intro w hSw; go_simp; try with_reducible rfl)
    try simp only [Act.put, List.setIfInBounds_toArray, List.set_cons_zero, List.set_cons_succ]
    refine wpAnyH_take (i := 10) (oi := { dst := some 15, op := _, type := _, pos := _, after := _, guard := _ }) (v := .agg ((kc qb.1))) rfl (by kernel_rfl) (by kernel_rfl) (by kernel_rfl) (fun _ _ _ h => h) (yieldsIf_load_mid (cs := (u8s qb.1)) (by rfl) _ _ rfl _ _ rfl _ (fun w' hSw => (rng_bel hSw.out RB.out)) Tryz.underlying25 rfl HBI.out) Gx0 ?_
    try simp only [Act.put, List.setIfInBounds_toArray, List.set_cons_zero, List.set_cons_succ]
    refine wpAnyH_ready (rs := [11, 12]) (by kernel_rfl) (by simp) ?_
    refine (AllReadyH.cons (o := { dst := some 3, op := _, type := _, pos := _, after := _, guard := _ }) rfl (fun Qc hQc => ?_) (AllReadyH.cons (o := { dst := some 4, op := _, type := _, pos := _, after := _, guard := _ }) rfl (fun Qc hQc => ?_) AllReadyH.nil))
    ·
      go_simp
      have NAx1 : Hid (Blk (x0.alloc (.cells Z3 25)) x0.heap.size 25 Z3) := Blk.new x0 25 Z3
      have Gx1 := hid (Gx0.out.alloc Gx0.out.size (.cells Z3 25))
      have GEA : Hid (w0.heap.size ≤ x0.heap.size) := Gx0.out.size
      refine hQc.out _ _ Gx1 (fun hHeld => ?_)
      clear hQc Qc hHeld
      generalize x0.heap.size = g3 at NAx1 GEA ⊢
      generalize x0.alloc (.cells Z3 25) = x1 at NAx1 Gx1 ⊢
      try simp only [Act.put, List.setIfInBounds_toArray, List.set_cons_zero, List.set_cons_succ]
      refine wpAnyH_ready (rs := [12]) (by kernel_rfl) (by simp) ?_
      refine (AllReadyH.cons (o := { dst := some 4, op := _, type := _, pos := _, after := _, guard := _ }) rfl (fun Qc hQc => ?_) AllReadyH.nil)
      go_simp
      have NBx2 : Hid (Blk (x1.alloc (.cells Z3 25)) x1.heap.size 25 Z3) := Blk.new x1 25 Z3
      have NAx2 := hid (NAx1.out.alloc (.cells Z3 25))
      have NE : Hid (g3 ≠ x1.heap.size) := Nat.ne_of_lt NAx1.out.lt
      have Gx2 := hid (Gx1.out.alloc Gx1.out.size (.cells Z3 25))
      have GEB : Hid (w0.heap.size ≤ x1.heap.size) := Gx1.out.size
      refine hQc.out _ _ Gx2 (fun hHeld => ?_)
      clear hQc Qc hHeld
      generalize x1.heap.size = g4 at NBx2 GEB NE ⊢
      generalize x1.alloc (.cells Z3 25) = x2 at NBx2 Gx2 NAx2 ⊢
      try simp only [Act.put, List.setIfInBounds_toArray, List.set_cons_zero, List.set_cons_succ]
      refine wpAnyH_ready (rs := [13]) (by kernel_rfl) (by simp) ?_
      refine (AllReadyH.cons (o := { dst := none, op := _, type := _, pos := _, after := _, guard := _ }) rfl (fun Qc hQc => ?_) AllReadyH.nil)
      rw [if_pos (by rfl)]
      refine wp_store_row 25 (.tmp 3) (.tmp 8) rfl g3 (kc qa.1) rfl rfl 25 Z3 NAx2.out HAK.out HZA.out (kc_one _) ?_
      have Gx3 : Hid (Below w0.heap.size w0 (x2.setRow g3 (kc qa.1))) := below_setRow Gx2.out GEA.out _
      have NAx3 := hid (NAx2.out.row (kc qa.1))
      have NBx3 : Hid (Blk (x2.setRow g3 (kc qa.1)) g4 25 Z3) := NBx2.out.same (setRow_other x2 g3 g4 _ (by have := NE.out; omega))
      refine hQc.out _ _ Gx3 (fun hHeld => ?_)
      clear hQc Qc hHeld
      generalize x2.setRow g3 (kc qa.1) = x3 at NAx3 Gx3 NBx3 ⊢
      try simp only [Act.put, List.setIfInBounds_toArray, List.set_cons_zero, List.set_cons_succ]
      refine wpAnyH_ready (rs := [14]) (by kernel_rfl) (by simp) ?_
      refine (AllReadyH.cons (o := { dst := none, op := _, type := _, pos := _, after := _, guard := _ }) rfl (fun Qc hQc => ?_) AllReadyH.nil)
      rw [if_pos (by rfl)]
      refine wp_store_row 25 (.tmp 4) (.tmp 15) rfl g4 (kc qb.1) rfl rfl 25 Z3 NBx3.out HBK.out HZB.out (kc_one _) ?_
      have Gx4 : Hid (Below w0.heap.size w0 (x3.setRow g4 (kc qb.1))) := below_setRow Gx3.out GEB.out _
      have NBx4 := hid (NBx3.out.row (kc qb.1))
      have NAx4 : Hid (Blk (x3.setRow g4 (kc qb.1)) g3 25 (kc qa.1)) := NAx3.out.same (setRow_other x3 g4 g3 _ (by have := NE.out; omega))
      refine hQc.out _ _ Gx4 (fun hHeld => ?_)
      clear hQc Qc hHeld
      generalize x3.setRow g4 (kc qb.1) = x4 at NBx4 Gx4 NAx4 ⊢
      try simp only [Act.put, List.setIfInBounds_toArray, List.set_cons_zero, List.set_cons_succ]
      refine wpAnyH_done (by kernel_rfl) ?_ _
      try simp only [Act.put, List.setIfInBounds_toArray, List.set_cons_zero, List.set_cons_succ]
      go_wp2
      go_meet
      exact ⟨g3, g4, rfl, rfl, NAx4, NBx4, Gx4, GEA, GEB⟩
    ·
      go_simp
      have NBx5 : Hid (Blk (x0.alloc (.cells Z3 25)) x0.heap.size 25 Z3) := Blk.new x0 25 Z3
      have Gx5 := hid (Gx0.out.alloc Gx0.out.size (.cells Z3 25))
      have GEB : Hid (w0.heap.size ≤ x0.heap.size) := Gx0.out.size
      refine hQc.out _ _ Gx5 (fun hHeld => ?_)
      clear hQc Qc hHeld
      generalize x0.heap.size = g4 at NBx5 GEB ⊢
      generalize x0.alloc (.cells Z3 25) = x5 at NBx5 Gx5 ⊢
      try simp only [Act.put, List.setIfInBounds_toArray, List.set_cons_zero, List.set_cons_succ]
      refine wpAnyH_ready (rs := [11]) (by kernel_rfl) (by simp) ?_
      refine (AllReadyH.cons (o := { dst := some 3, op := _, type := _, pos := _, after := _, guard := _ }) rfl (fun Qc hQc => ?_) AllReadyH.nil)
      go_simp
      have NAx6 : Hid (Blk (x5.alloc (.cells Z3 25)) x5.heap.size 25 Z3) := Blk.new x5 25 Z3
      have NBx6 := hid (NBx5.out.alloc (.cells Z3 25))
      have NE : Hid (g4 ≠ x5.heap.size) := Nat.ne_of_lt NBx5.out.lt
      have Gx6 := hid (Gx5.out.alloc Gx5.out.size (.cells Z3 25))
      have GEA : Hid (w0.heap.size ≤ x5.heap.size) := Gx5.out.size
      refine hQc.out _ _ Gx6 (fun hHeld => ?_)
      clear hQc Qc hHeld
      generalize x5.heap.size = g3 at NAx6 GEA NE ⊢
      generalize x5.alloc (.cells Z3 25) = x6 at NAx6 Gx6 NBx6 ⊢
      try simp only [Act.put, List.setIfInBounds_toArray, List.set_cons_zero, List.set_cons_succ]
      refine wpAnyH_ready (rs := [13]) (by kernel_rfl) (by simp) ?_
      refine (AllReadyH.cons (o := { dst := none, op := _, type := _, pos := _, after := _, guard := _ }) rfl (fun Qc hQc => ?_) AllReadyH.nil)
      rw [if_pos (by rfl)]
      refine wp_store_row 25 (.tmp 3) (.tmp 8) rfl g3 (kc qa.1) rfl rfl 25 Z3 NAx6.out HAK.out HZA.out (kc_one _) ?_
      have Gx7 : Hid (Below w0.heap.size w0 (x6.setRow g3 (kc qa.1))) := below_setRow Gx6.out GEA.out _
      have NAx7 := hid (NAx6.out.row (kc qa.1))
      have NBx7 : Hid (Blk (x6.setRow g3 (kc qa.1)) g4 25 Z3) := NBx6.out.same (setRow_other x6 g3 g4 _ (by have := NE.out; omega))
      refine hQc.out _ _ Gx7 (fun hHeld => ?_)
      clear hQc Qc hHeld
      generalize x6.setRow g3 (kc qa.1) = x7 at NAx7 Gx7 NBx7 ⊢
      try simp only [Act.put, List.setIfInBounds_toArray, List.set_cons_zero, List.set_cons_succ]
      refine wpAnyH_ready (rs := [14]) (by kernel_rfl) (by simp) ?_
      refine (AllReadyH.cons (o := { dst := none, op := _, type := _, pos := _, after := _, guard := _ }) rfl (fun Qc hQc => ?_) AllReadyH.nil)
      rw [if_pos (by rfl)]
      refine wp_store_row 25 (.tmp 4) (.tmp 15) rfl g4 (kc qb.1) rfl rfl 25 Z3 NBx7.out HBK.out HZB.out (kc_one _) ?_
      have Gx8 : Hid (Below w0.heap.size w0 (x7.setRow g4 (kc qb.1))) := below_setRow Gx7.out GEB.out _
      have NBx8 := hid (NBx7.out.row (kc qb.1))
      have NAx8 : Hid (Blk (x7.setRow g4 (kc qb.1)) g3 25 (kc qa.1)) := NAx7.out.same (setRow_other x7 g4 g3 _ (by have := NE.out; omega))
      refine hQc.out _ _ Gx8 (fun hHeld => ?_)
      clear hQc Qc hHeld
      generalize x7.setRow g4 (kc qb.1) = x8 at NBx8 Gx8 NAx8 ⊢
      try simp only [Act.put, List.setIfInBounds_toArray, List.set_cons_zero, List.set_cons_succ]
      refine wpAnyH_done (by kernel_rfl) ?_ _
      try simp only [Act.put, List.setIfInBounds_toArray, List.set_cons_zero, List.set_cons_succ]
      go_wp2
      go_meet
      exact ⟨g3, g4, rfl, rfl, NAx8, NBx8, Gx8, GEA, GEB⟩
  case rest =>
    obtain ⟨g3, g4, rfl, rfl, NA, NB, GX, GEA, GEB⟩ := hcut
    have KL := KZ.out.lt
    have NE3 : Hid (g3 ≠ w.heap.size) := by show _ ≠ _; have := GEA.out; omega
    have NE4 : Hid (g4 ≠ w.heap.size) := by show _ ≠ _; have := GEB.out; omega
    have SX : Hid (OvS w g3 g4 qa.1 qb.1 wc) := ⟨B0.out.trans (GX.out.mono B0.out.size), NA.out, NB.out⟩
    have KY := hid (KZ.out.below GX.out)
    clear KZ GX GEA GEB NA NB RA RB B0 KL
    generalize wc = z0 at SX KY ⊢
    go_upto_region 2 with (fail)
    refine wp_region_held (S := fun w' => Hid (OvS w g3 g4 qa.1 qb.1 w')) (by kernel_rfl) ?_
    change wpAnyH _ _ _ _ _ _ _ _ z0.drew
    have Gx0 : Hid (OvS w g3 g4 qa.1 qb.1 z0.drew) := SX.out.below ((Below.refl _ _).drew)
    have KY' : Hid (Blk z0.drew w.heap.size 47 Z) := KY.out.below ((Below.refl _ _).drew)
    clear KY
    have KY := KY'
    clear KY'
    generalize z0.drew = x0 at Gx0 KY ⊢
    have KZx0 := KY
    refine wpAnyH_take (i := 0) (oi := { dst := some 16, op := _, type := _, pos := _, after := _, guard := _ }) (v := .agg ((kc qa.1))) rfl (by kernel_rfl) (by kernel_rfl) (by kernel_rfl) (fun _ _ _ h => h) (yieldsIf_load_mid (cs := (u8s qa.1)) (by rfl) _ _ rfl _ _ rfl _ (fun w' hSw => (blk_key hSw.out.ka)) Tryz.underlying25 rfl HAI.out) Gx0 ?_
    try simp only [Act.put, List.setIfInBounds_toArray, List.set_cons_zero, List.set_cons_succ]
    refine wpAnyH_take (i := 1) (oi := { dst := some 17, op := _, type := _, pos := _, after := _, guard := _ }) (v := .agg ((kc qa.1))) rfl (by kernel_rfl) (by kernel_rfl) (by kernel_rfl) (fun _ _ _ h => h) (yieldsIf_load_mid (cs := (u8s qa.1)) (by rfl) _ _ rfl _ _ rfl _ (fun w' hSw => (blk_key hSw.out.ka)) Tryz.underlying25 rfl HAI.out) Gx0 ?_
    try simp only [Act.put, List.setIfInBounds_toArray, List.set_cons_zero, List.set_cons_succ]
    refine wpAnyH_take (i := 2) (oi := { dst := some 18, op := _, type := _, pos := _, after := _, guard := _ }) (v := .agg ((kc qb.1))) rfl (by kernel_rfl) (by kernel_rfl) (by kernel_rfl) (fun _ _ _ h => h) (yieldsIf_load_mid (cs := (u8s qb.1)) (by rfl) _ _ rfl _ _ rfl _ (fun w' hSw => (blk_key hSw.out.kb)) Tryz.underlying25 rfl HBI.out) Gx0 ?_
    try simp only [Act.put, List.setIfInBounds_toArray, List.set_cons_zero, List.set_cons_succ]
    refine wpAnyH_ready (rs := [3]) (by kernel_rfl) (by simp) ?_
    refine (AllReadyH.cons (o := { dst := some 19, op := _, type := _, pos := _, after := _, guard := _ }) rfl (fun Qc hQc => ?_) AllReadyH.nil)
    go_simp
    go_at_call 67
    refine (CS.out x0).mono ?_
    rintro e x1 ⟨rfl, hb⟩
    have Gx1 := hid (Gx0.out.below hb)
    have KZx1 := hid (KZx0.out.below hb)
    clear hb
    go_wp2_with fail
    refine hQc.out _ _ Gx1 (fun hHeld => ?_)
    clear hQc Qc hHeld
    try simp only [Act.put, List.setIfInBounds_toArray, List.set_cons_zero, List.set_cons_succ]
    refine wpAnyH_ready (rs := [4]) (by kernel_rfl) (by simp) ?_
    refine (AllReadyH.cons (o := { dst := some 20, op := _, type := _, pos := _, after := _, guard := _ }) rfl (fun Qc hQc => ?_) AllReadyH.nil)
    go_simp
    go_at_call 66
    refine (CC.out x1).mono ?_
    rintro e x2 ⟨rfl, hb⟩
    have Gx2 := hid (Gx1.out.below hb)
    have KZx2 := hid (KZx1.out.below hb)
    clear hb
    go_wp2_with fail
    refine hQc.out _ _ Gx2 (fun hHeld => ?_)
    clear hQc Qc hHeld
    try simp only [Act.put, List.setIfInBounds_toArray, List.set_cons_zero, List.set_cons_succ]
    refine wpAnyH_ready (rs := [5]) (by kernel_rfl) (by simp) ?_
    refine (AllReadyH.cons (o := { dst := none, op := _, type := _, pos := _, after := _, guard := _ }) rfl (fun Qc hQc => ?_) AllReadyH.nil)
    rw [if_pos (by rfl)]
    refine wp_store_row 47 (.tmp 2) (.tmp 20) rfl w.heap.size (pc (ovN P) (ovB P)) rfl rfl 47 Z (KZx2.out) HP.out HZP.out (pc_one _ _) ?_
    have Gx3 : Hid (OvS w g3 g4 qa.1 qb.1 (x2.setRow w.heap.size (pc (ovN P) (ovB P)))) := Gx2.out.row NE3.out NE4.out _
    have KZx3 := hid (KZx2.out.row (pc (ovN P) (ovB P)))
    refine hQc.out _ _ Gx3 (fun hHeld => ?_)
    clear hQc Qc hHeld
    generalize x2.setRow w.heap.size (pc (ovN P) (ovB P)) = x3 at Gx3 KZx3 ⊢
    try simp only [Act.put, List.setIfInBounds_toArray, List.set_cons_zero, List.set_cons_succ]
    refine wpAnyH_done (by kernel_rfl) ?_ _
    try simp only [Act.put, List.setIfInBounds_toArray, List.set_cons_zero, List.set_cons_succ]
    go_wp2
    try go_frame
    refine bodyPost_ret (results_cell_row Tryz.results41 _ _ w.heap.size 47 (pc (ovN P) (ovB P)) (0, 0) _ rfl KZx3.out Tryz.underlying47 rfl HP.out) rfl ?_
    exact ⟨rfl, Gx3.out.bl⟩
end Go.Proofs.YtjhaamffgkialaaGreatDoor
