/-
  What this file is for: writes that are turned back one by one, as pages and writes; what an iterator over writes reads. Nothing of the program is walked here.
-/
import Derived.Test.YtjdojnbpchommaaDvW0
import Derived.RangeFuncNested
import Derived.RangeFuncBound
import Derived.RangeFuncCalls
import Derived.RangeFuncLeaves
import Derived.Shelf.Abstract
import Derived.Shelf.RegionOpen
import Derived.OwnWalkIn
import Derived.TacticsInMore
import Derived.LoopNIn
import Derived.LoopIn
import Derived.RangeFuncFrom
import Derived.OrdersIn
import Derived.OrdersHeld
namespace Go.Proofs.Ytjdojnbpchommaa
open Go.ChangeShapes Go.WideShapes Go.ChangeAt Go.RowKit
set_option linter.unusedVariables false
set_option maxRecDepth 20000

/-- pages and writes, the write k turned round -/
def sw (S : List (List Int) × List Wr) (k : Nat) : List (List Int) × List Wr :=
  match S.2[k]? with
  | none => S
  | some q => (S.1.set q.1 q.2, S.2.set k (q.1, S.1[q.1]?.getD []))
theorem sw_half {L : List (List Int)} {Q : List Wr} {k : Nat} {q : Wr} (hk : Q[k]? = some q) (hq : q.1 < L.length) : sw (hp L Q (k + 1), hu L Q (k + 1)) k = (hp L Q k, hu L Q k) := by
  unfold sw
  simp only
  rw [hu_at hk]
  simp only
  rw [hp_back hk hq, hp_own hk hq, Option.getD_some, hu_back hk]
/-- the numbers from m - 1 on downwards, so many -/
def downs (m j : Nat) : List Nat := (List.range j).map fun t => m - 1 - t
theorem downs_succ (m j : Nat) : downs m (j + 1) = downs m j ++ [m - 1 - j] := by simp [downs, List.range_succ]
theorem downs_length (m j : Nat) : (downs m j).length = j := by simp [downs]
theorem sw_downs {L : List (List Int)} {Q : List Wr} (hQ : QOk L.length Q) : ∀ j, j ≤ Q.length → (downs Q.length j).foldl sw (pg L Q, un L Q) = (hp L Q (Q.length - j), hu L Q (Q.length - j))
  | 0, _ => by rw [Nat.sub_zero, hp_all, hu_all]; rfl
  | j + 1, h => by
    rw [downs_succ, List.foldl_append, sw_downs hQ j (by omega)]
    have hlt : Q.length - 1 - j < Q.length := by omega
    have hk : Q[Q.length - 1 - j]? = some Q[Q.length - 1 - j] := List.getElem?_eq_getElem hlt
    have := sw_half (L := L) hk (hQ _ (List.getElem_mem hlt)).1
    rw [show Q.length - j = Q.length - 1 - j + 1 by omega, show Q.length - (j + 1) = Q.length - 1 - j by omega]
    exact this
/-- all is turned back -/
theorem sw_all {L : List (List Int)} {Q : List Wr} (hQ : QOk L.length Q) : (downs Q.length Q.length).foldl sw (pg L Q, un L Q) = (L, Q) := by
  rw [sw_downs hQ _ (Nat.le_refl _), Nat.sub_self]; rfl
theorem sw_ok {S : List (List Int) × List Wr} {n : Nat} (h1 : PgOk S.1) (h2 : QOk n S.2) (h3 : S.1.length = n) (k : Nat) : PgOk (sw S k).1 ∧ QOk n (sw S k).2 ∧ (sw S k).1.length = n ∧ (sw S k).2.length = S.2.length := by
  unfold sw
  cases hk : S.2[k]? with
  | none => exact ⟨h1, h2, h3, rfl⟩
  | some q =>
    have hq := h2 q (List.mem_of_getElem? hk)
    refine ⟨h1.set _ hq.2, fun x hx => ?_, by simpa using h3, by simp⟩
    rcases List.mem_or_eq_of_mem_set hx with h4 | h4
    · exact h2 x h4
    · rw [h4]; exact ⟨hq.1, h1.at (by rw [h3]; exact hq.1)⟩
theorem sws_ok {S : List (List Int) × List Wr} {n : Nat} (h1 : PgOk S.1) (h2 : QOk n S.2) (h3 : S.1.length = n) : ∀ ks : List Nat, PgOk (ks.foldl sw S).1 ∧ QOk n (ks.foldl sw S).2 ∧ (ks.foldl sw S).1.length = n ∧ (ks.foldl sw S).2.length = S.2.length
  | [] => ⟨h1, h2, h3, rfl⟩
  | k :: ks => by
    obtain ⟨a, b, c, d⟩ := sw_ok h1 h2 h3 k
    obtain ⟨a', b', c', d'⟩ := sws_ok a b c ks
    exact ⟨a', b', c', d'.trans d⟩

/-! What the iterator reads. -/
structure ItB (bs : Nat) (A : Option Addr) (m c : Nat) (W : World) : Prop where
  kb : Blk W bs 60 #[.slice A m c]
  kh : 0 < m → ∃ h C, A = some ⟨h, 0, none⟩ ∧ Blk W h 69 C ∧ m * 129 ≤ C.size
/-- the box lies as it lay; the writes' row has its size -/
structure KpT (bs : Nat) (A : Option Addr) (W W' : World) : Prop where
  sz : W.heap.size ≤ W'.heap.size
  kb : bs < W.heap.size → W'.heap[bs]? = W.heap[bs]?
  kh : ∀ h, A = some ⟨h, 0, none⟩ → ∀ C, Blk W h 69 C → ∃ C', Blk W' h 69 C' ∧ C'.size = C.size
theorem KpT.t {bs : Nat} {A : Option Addr} {W1 W2 W3 : World} (h : KpT bs A W1 W2) (k : KpT bs A W2 W3) : KpT bs A W1 W3 :=
  ⟨Nat.le_trans h.sz k.sz, fun hl => (k.kb (Nat.lt_of_lt_of_le hl h.sz)).trans (h.kb hl), fun g hg C hC => by
    obtain ⟨C', h1, h2⟩ := h.kh g hg C hC
    obtain ⟨C2, h3, h4⟩ := k.kh g hg C' h1
    exact ⟨C2, h3, h4.trans h2⟩⟩
theorem KpT.below {bs : Nat} {A : Option Addr} {W W' : World} (h : Below W.heap.size W W') : KpT bs A W W' :=
  ⟨h.size, fun hl => h.block _ hl, fun g hg C hC => ⟨C, hC.same (h.block g hC.lt), rfl⟩⟩
theorem KpT.b {bs : Nat} {A : Option Addr} {w : World} (hb : bs < w.heap.size) (W : World) (l : Nat) (o o' : Obj) (hl : w.heap.size ≤ l) (h : W.heap[l]? = some o) (hc : o.isCells = false) (_ : o.isWalk = false) : KpT bs A W (W.putObj l o') :=
  ⟨by simp [World.putObj], fun _ => World.putObj_heap_other (by omega), fun g hg C hC => ⟨C, hC.same (World.putObj_heap_other (fun e => by
    subst e
    unfold Blk at hC
    rw [hC] at h
    injection h with h
    subst h
    cases hc)), rfl⟩⟩
theorem ItB.kp {bs m c : Nat} {A : Option Addr} {W W' : World} (h : ItB bs A m c W) (k : KpT bs A W W') : ItB bs A m c W' :=
  ⟨h.kb.same (k.kb h.kb.lt), fun hm => by
    obtain ⟨g, C, hA, hC, hs⟩ := h.kh hm
    obtain ⟨C', h1, h2⟩ := k.kh g hA C hC
    exact ⟨g, C', hA, h1, by rw [h2]; exact hs⟩⟩
theorem ItB.below {bs m c : Nat} {A : Option Addr} {W W' : World} (h : ItB bs A m c W) (hb : Below W.heap.size W W') : ItB bs A m c W' := h.kp (KpT.below hb)
/-- a write with its number -/
abbrev Wx (m : Nat) := Fin m × Array Value
def encW {m : Nat} (x : Wx m) : Array Value := #[.int .i64 (x.1.val : Int), .agg x.2]
/-- what a round has done -/
def RoT {m : Nat} (J Jx : List (Wx m) → World → Prop) (bs : Nat) (A : Option Addr) (pre : List (Wx m)) (x : Wx m) (b : Bool) (W1 W' : World) : Prop := (b = true ∧ J (pre ++ [x]) W' ∧ KpT bs A W1 W') ∨ (b = false ∧ Jx (pre ++ [x]) W')
theorem RoT.of {m : Nat} {F : Fence} {n : Nat} {P : Program} {l : Nat} {args : Array Value} {J Jx : List (Wx m) → World → Prop} {bs : Nat} {A : Option Addr} {pre : List (Wx m)} {x : Wx m} {W1 : World}
    (h : YieldAt F n P l args W1 fun e W' => (e = .returned (.bool true) ∧ J (pre ++ [x]) W' ∧ KpT bs A W1 W') ∨ (e = .returned (.bool false) ∧ Jx (pre ++ [x]) W')) :
    YieldAt F n P l args W1 fun e W' => ∃ b, e = .returned (.bool b) ∧ RoT J Jx bs A pre x b W1 W' := by
  obtain ⟨fn, tmps, assign, body, hy, hR⟩ := h
  refine ⟨fn, tmps, assign, body, hy, hR.mono ?_⟩
  rintro e W' (⟨he, hj, hk⟩ | ⟨he, hj⟩)
  · exact ⟨true, he, .inl ⟨rfl, hj, hk⟩⟩
  · exact ⟨false, he, .inr ⟨rfl, hj⟩⟩
theorem below_grown {w w' : World} (h : Below w.heap.size w w') : w.grownBy w' none := by
  exact ⟨h.os, h.tape, h.output, h.size, fun k hk _ => h.block k hk⟩
theorem write_info {n : Nat} (h : n = 129) : (Try.prog.info? 69).map (·.size) = some n := by rw [h]; kernel_rfl
/-- a write as it is read whole -/
theorem load_write {w : World} {h : Nat} {C : Array Value} (hC : Blk w h 69 C) (k : Nat) (hk : k * 129 + 129 ≤ C.size) : ∃ cs : Array Value, (Instr.loadAt 69 (.pointer (some ⟨h, k * 129, none⟩))).run Try.prog w = .ok (.agg cs) w := by
  have hl : (C.extract (k * 129) (k * 129 + 129)).toList.length = 129 := by simp; omega
  exact ⟨_, run_loadAt_mid w h (k * 129) 69 _ _ (World.rangeAt_of_block hC (k * 129) 129) Try.underlying69 rfl (by rw [hl]; exact write_info rfl)⟩
theorem exec_load {P : Program} {o : Oper} {a : Act} {w : World} (ty : TypeId) (x : Operand) (p v : Value) (ho : o.op = .load ty x) (hx : a.eval x = p) (hr : (Instr.loadAt ty p).run P w = .ok v w) : (execOp a.eval o).run P w = .ok (.value v) w := by
  unfold execOp
  simp only [ho, hx, Sem.run_bind, hr, Result.andThen_ok]
  rfl
theorem wpIn_value {n : Nat} {P : Program} {o : Oper} {a : Act} {w : World} {K : Act → World → Prop} {Q : Exit → Act → World → Prop} (v : Value) (hd : ∀ c, o.op ≠ .defer c) (hr : (execOp a.eval o).run P w = .ok (.value v) w) (h : K (a.put o.dst v) w) : o.wpIn Fence.wide n P a w K Q := by
  unfold Oper.wpIn
  refine ⟨fun _ _ => trivial, ?_⟩
  rw [Oper.semAt_plain _ _ _ hd, hr]
  exact h
end Go.Proofs.Ytjdojnbpchommaa
