/-
  What this file is for: writes that are turned back one by one, as pages and writes; what an iterator over writes reads. Nothing of the program is walked here.
-/
import Derived.Test.YthfkooancgkjaaaMD1
import Derived.RangeFuncNested
import Derived.RangeFuncBound
import Derived.RangeFuncCalls
import Derived.RangeFuncLeaves
import Derived.Shelf.Abstract
import Derived.Shelf.RegionOpen
import Derived.OwnWalkIn
import Derived.TacticsInMore
import Derived.LoopNIn
import Derived.LoopIn
import Derived.RangeFuncFrom
import Derived.OrdersIn
import Derived.OrdersHeld
set_option linter.unusedSimpArgs false
set_option linter.unusedVariables false
namespace Go.Proofs.Ythfkooancgkjaaa
open Go.ChangeShapes Go.WideShapes Go.ChangeAt Go.RowKit
set_option linter.unusedVariables false
set_option maxRecDepth 20000

/-- pages and writes, the write k turned round -/
def sw (S : List (List Int) × List Wr) (k : Nat) : List (List Int) × List Wr :=
  match S.2[k]? with
  | none => S
  | some q => (S.1.set q.1 q.2, S.2.set k (q.1, S.1[q.1]?.getD []))
theorem sw_half {L : List (List Int)} {Q : List Wr} {k : Nat} {q : Wr} (hk : Q[k]? = some q) (hq : q.1 < L.length) : sw (hp L Q (k + 1), hu L Q (k + 1)) k = (hp L Q k, hu L Q k) := by
  unfold sw
  simp only
  rw [hu_at hk]
  simp only
  rw [hp_back hk hq, hp_own hk hq, Option.getD_some, hu_back hk]
/-- the numbers from m - 1 on downwards, so many -/
def downs (m j : Nat) : List Nat := (List.range j).map fun t => m - 1 - t
theorem downs_succ (m j : Nat) : downs m (j + 1) = downs m j ++ [m - 1 - j] := by simp [downs, List.range_succ]
theorem downs_length (m j : Nat) : (downs m j).length = j := by simp [downs]
theorem sw_downs {L : List (List Int)} {Q : List Wr} (hQ : QOk L.length Q) : ∀ j, j ≤ Q.length → (downs Q.length j).foldl sw (pg L Q, un L Q) = (hp L Q (Q.length - j), hu L Q (Q.length - j))
  | 0, _ => by rw [Nat.sub_zero, hp_all, hu_all]; rfl
  | j + 1, h => by
    rw [downs_succ, List.foldl_append, sw_downs hQ j (by omega)]
    have hlt : Q.length - 1 - j < Q.length := by omega
    have hk : Q[Q.length - 1 - j]? = some Q[Q.length - 1 - j] := List.getElem?_eq_getElem hlt
    have := sw_half (L := L) hk (hQ _ (List.getElem_mem hlt)).1
    rw [show Q.length - j = Q.length - 1 - j + 1 by omega, show Q.length - (j + 1) = Q.length - 1 - j by omega]
    exact this
/-- all is turned back -/
theorem sw_all {L : List (List Int)} {Q : List Wr} (hQ : QOk L.length Q) : (downs Q.length Q.length).foldl sw (pg L Q, un L Q) = (L, Q) := by
  rw [sw_downs hQ _ (Nat.le_refl _), Nat.sub_self]; rfl
theorem sw_ok {S : List (List Int) × List Wr} {n : Nat} (h1 : PgOk S.1) (h2 : QOk n S.2) (h3 : S.1.length = n) (k : Nat) : PgOk (sw S k).1 ∧ QOk n (sw S k).2 ∧ (sw S k).1.length = n ∧ (sw S k).2.length = S.2.length := by
  unfold sw
  cases hk : S.2[k]? with
  | none => exact ⟨h1, h2, h3, rfl⟩
  | some q =>
    have hq := h2 q (List.mem_of_getElem? hk)
    refine ⟨h1.set _ hq.2, fun x hx => ?_, by simpa using h3, by simp⟩
    rcases List.mem_or_eq_of_mem_set hx with h4 | h4
    · exact h2 x h4
    · rw [h4]; exact ⟨hq.1, h1.at (by rw [h3]; exact hq.1)⟩
theorem sws_ok {S : List (List Int) × List Wr} {n : Nat} (h1 : PgOk S.1) (h2 : QOk n S.2) (h3 : S.1.length = n) : ∀ ks : List Nat, PgOk (ks.foldl sw S).1 ∧ QOk n (ks.foldl sw S).2 ∧ (ks.foldl sw S).1.length = n ∧ (ks.foldl sw S).2.length = S.2.length
  | [] => ⟨h1, h2, h3, rfl⟩
  | k :: ks => by
    obtain ⟨a, b, c, d⟩ := sw_ok h1 h2 h3 k
    obtain ⟨a', b', c', d'⟩ := sws_ok a b c ks
    exact ⟨a', b', c', d'.trans d⟩

/-! What the iterator reads. -/
structure ItB (bs : Nat) (A : Option Addr) (m c : Nat) (W : World) : Prop where
  kb : Blk W bs 52 #[.slice A m c]
  kh : 0 < m → ∃ h C, A = some ⟨h, 0, none⟩ ∧ Blk W h 70 C ∧ m * 129 ≤ C.size
/-- the box lies as it lay; the writes' row has its size -/
structure KpT (bs : Nat) (A : Option Addr) (W W' : World) : Prop where
  sz : W.heap.size ≤ W'.heap.size
  kb : bs < W.heap.size → W'.heap[bs]? = W.heap[bs]?
  kh : ∀ h, A = some ⟨h, 0, none⟩ → ∀ C, Blk W h 70 C → ∃ C', Blk W' h 70 C' ∧ C'.size = C.size
theorem KpT.t {bs : Nat} {A : Option Addr} {W1 W2 W3 : World} (h : KpT bs A W1 W2) (k : KpT bs A W2 W3) : KpT bs A W1 W3 :=
  ⟨Nat.le_trans h.sz k.sz, fun hl => (k.kb (Nat.lt_of_lt_of_le hl h.sz)).trans (h.kb hl), fun g hg C hC => by
    obtain ⟨C', h1, h2⟩ := h.kh g hg C hC
    obtain ⟨C2, h3, h4⟩ := k.kh g hg C' h1
    exact ⟨C2, h3, h4.trans h2⟩⟩
theorem KpT.below {bs : Nat} {A : Option Addr} {W W' : World} (h : Below W.heap.size W W') : KpT bs A W W' :=
  ⟨h.size, fun hl => h.block _ hl, fun g hg C hC => ⟨C, hC.same (h.block g hC.lt), rfl⟩⟩
theorem KpT.b {bs : Nat} {A : Option Addr} {w : World} (hb : bs < w.heap.size) (W : World) (l : Nat) (o o' : Obj) (hl : w.heap.size ≤ l) (h : W.heap[l]? = some o) (hc : o.isCells = false) (_ : o.isWalk = false) : KpT bs A W (W.putObj l o') :=
  ⟨by simp [World.putObj], fun _ => World.putObj_heap_other (by omega), fun g hg C hC => ⟨C, hC.same (World.putObj_heap_other (fun e => by
    subst e
    unfold Blk at hC
    rw [hC] at h
    injection h with h
    subst h
    cases hc)), rfl⟩⟩
theorem ItB.kp {bs m c : Nat} {A : Option Addr} {W W' : World} (h : ItB bs A m c W) (k : KpT bs A W W') : ItB bs A m c W' :=
  ⟨h.kb.same (k.kb h.kb.lt), fun hm => by
    obtain ⟨g, C, hA, hC, hs⟩ := h.kh hm
    obtain ⟨C', h1, h2⟩ := k.kh g hA C hC
    exact ⟨g, C', hA, h1, by rw [h2]; exact hs⟩⟩
theorem ItB.below {bs m c : Nat} {A : Option Addr} {W W' : World} (h : ItB bs A m c W) (hb : Below W.heap.size W W') : ItB bs A m c W' := h.kp (KpT.below hb)
/-- a write with its number -/
abbrev Wx (m : Nat) := Fin m × Array Value
def encW {m : Nat} (x : Wx m) : Array Value := #[.int .i64 (x.1.val : Int), .agg x.2]
/-- what a round has done -/
def RoT {m : Nat} (J Jx : List (Wx m) → World → Prop) (bs : Nat) (A : Option Addr) (pre : List (Wx m)) (x : Wx m) (b : Bool) (W1 W' : World) : Prop := (b = true ∧ J (pre ++ [x]) W' ∧ KpT bs A W1 W') ∨ (b = false ∧ Jx (pre ++ [x]) W')
theorem RoT.of {m : Nat} {F : Fence} {n : Nat} {P : Program} {l : Nat} {args : Array Value} {J Jx : List (Wx m) → World → Prop} {bs : Nat} {A : Option Addr} {pre : List (Wx m)} {x : Wx m} {W1 : World}
    (h : YieldAt F n P l args W1 fun e W' => (e = .returned (.bool true) ∧ J (pre ++ [x]) W' ∧ KpT bs A W1 W') ∨ (e = .returned (.bool false) ∧ Jx (pre ++ [x]) W')) :
    YieldAt F n P l args W1 fun e W' => ∃ b, e = .returned (.bool b) ∧ RoT J Jx bs A pre x b W1 W' := by
  obtain ⟨fn, tmps, assign, body, hy, hR⟩ := h
  refine ⟨fn, tmps, assign, body, hy, hR.mono ?_⟩
  rintro e W' (⟨he, hj, hk⟩ | ⟨he, hj⟩)
  · exact ⟨true, he, .inl ⟨rfl, hj, hk⟩⟩
  · exact ⟨false, he, .inr ⟨rfl, hj⟩⟩
theorem below_grown {w w' : World} (h : Below w.heap.size w w') : w.grownBy w' none := by
  exact ⟨h.os, h.tape, h.output, h.size, fun k hk _ => h.block k hk⟩
theorem write_info {n : Nat} (h : n = 129) : (Try.prog.info? 70).map (·.size) = some n := by rw [h]; kernel_rfl
/-- a write as it is read whole -/
theorem load_write {w : World} {h : Nat} {C : Array Value} (hC : Blk w h 70 C) (k : Nat) (hk : k * 129 + 129 ≤ C.size) : ∃ cs : Array Value, (Instr.loadAt 70 (.pointer (some ⟨h, k * 129, none⟩))).run Try.prog w = .ok (.agg cs) w := by
  have hl : (C.extract (k * 129) (k * 129 + 129)).toList.length = 129 := by simp; omega
  exact ⟨_, run_loadAt_mid w h (k * 129) 70 _ _ (World.rangeAt_of_block hC (k * 129) 129) Try.underlying70 rfl (by rw [hl]; exact write_info rfl)⟩
theorem exec_load {P : Program} {o : Oper} {a : Act} {w : World} (ty : TypeId) (x : Operand) (p v : Value) (ho : o.op = .load ty x) (hx : a.eval x = p) (hr : (Instr.loadAt ty p).run P w = .ok v w) : (execOp a.eval o).run P w = .ok (.value v) w := by
  unfold execOp
  simp only [ho, hx, Sem.run_bind, hr, Result.andThen_ok]
  rfl
theorem wpIn_value {n : Nat} {P : Program} {o : Oper} {a : Act} {w : World} {K : Act → World → Prop} {Q : Exit → Act → World → Prop} (v : Value) (hd : ∀ c, o.op ≠ .defer c) (hr : (execOp a.eval o).run P w = .ok (.value v) w) (h : K (a.put o.dst v) w) : o.wpIn Fence.wide n P a w K Q := by
  unfold Oper.wpIn
  refine ⟨fun _ _ => trivial, ?_⟩
  rw [Oper.semAt_plain _ _ _ hd, hr]
  exact h
end Go.Proofs.Ythfkooancgkjaaa
/-
  What is proved here: the iterator over writes, from the last one on.
-/
namespace Go.Proofs.Ythfkooancgkjaaa
open Go.ChangeShapes Go.WideShapes Go.ChangeAt Go.RowKit Go.Shelf
set_option linter.unusedVariables false
set_option maxRecDepth 20000
attribute [local go_sem] Oper.semAt_some
set_option maxRecDepth 100000 in
set_option maxHeartbeats 4000000 in
theorem back_walk {m : Nat} (hm : m < 1000000) (l bs : Nat) (A : Option Addr) (c : Nat) (J Jx : List (Wx m) → World → Prop) (W : World)
    (hJ : AbidesFrom W.heap.size J)
    (hY : ∀ pre x W1, J pre W1 → pre.length < m → YieldAt Fence.wide 0 Try.prog l (encW x) W1 fun e W' =>
      (e = .returned (.bool true) ∧ J (pre ++ [x]) W' ∧ KpT bs A W1 W') ∨ (e = .returned (.bool false) ∧ Jx (pre ++ [x]) W'))
    (hc : ItB bs A m c W) (h0 : J [] W) :
    CallsIn Fence.wide 1 Try.prog 68 #[.func (.yield l) #[] #[], .pointer (some ⟨bs, 0, none⟩)] W fun e W' => (∃ v, e = .returned v) ∧
      ((∃ ys : List (Wx m), ys.map (·.1.val) = downs m m ∧ J ys W') ∨ (∃ pre : List (Wx m), True ∧ Jx pre W')) := by
  have HC := hid hc; have HY := hid hY; have HJ := hid hJ
  have H0 := hid h0
  have hmx : Try.prog.follows .mixedOrders = true := by kernel_rfl
  clear hY hJ h0
  refine callsIn_of_wp Try.func68 rfl trivial ?_ rfl
  simp only [Try.ntmps68, List.size_toArray, List.length_cons, List.length_nil, Nat.reduceAdd, Nat.reduceSub, Array.replicate_succ, Array.replicate_zero, List.push_toArray, List.append_toArray, List.nil_append, List.cons_append]
  have s0 : W.cell? ⟨bs, 0, none⟩ = some (.slice A m c) := hc.kb.cell 0
  have hm2 : (m : Int) < 1000000 := by omega
  have HM := hid hm
  clear hm
  clear hc
  gi_wp2
  clear s0
  gi_loopw [3] (fun i wr => ∃ r : Nat, r ≤ m ∧ i = .int .i64 ((r : Int) - 1) ∧ Hid (ItB bs A m c wr) ∧ ∃ pre : List (Wx m), Hid (pre.map (·.1.val) = downs m (m - r)) ∧ Hid (J pre wr)) (fun i _ => (intOf i + 1).toNat)
  case atStart => exact ⟨m, Nat.le_refl _, rfl, HC.out, [], by show _ = _; simp [downs], H0.out⟩
  case round =>
    obtain ⟨r, hr, rfl, HCR, pre, HP, HJR⟩ := hrel
    cases r with
    | zero =>
      have e0 : ((0 : Nat) : Int) - 1 = -1 := by simp
      rw [e0]
      gi_wp2
      go_end0
      exact ⟨⟨_, rfl⟩, .inl ⟨pre, by have := HP.out; rwa [Nat.sub_zero] at this, HJR.out⟩⟩
    | succ k =>
      have e0 : ((k + 1 : Nat) : Int) - 1 = (k : Int) := by omega
      rw [e0]
      obtain ⟨h, C, rfl, hC, hs⟩ := HCR.out.kh (by omega)
      obtain ⟨cs, hld⟩ := load_write hC k (by omega)
      have s0 : wr.cell? ⟨bs, 0, none⟩ = some (.slice (some ⟨h, 0, none⟩) m c) := HCR.out.kb.cell 0
      have HL : Hid (pre.length = m - (k + 1)) := by
        have := HP.out
        have := congrArg List.length this
        rw [List.length_map, downs_length] at this
        exact this
      obtain ⟨fn, tmps, assign, body, hy, hR⟩ := RoT.of (HY.out pre (⟨k, by omega⟩, cs) wr HJR.out (by rw [HL.out]; omega))
      have hy2 : (Instr.yield l #[.int .i64 (k : Int), .agg cs]).run Try.prog wr = .ok (.round l fn tmps assign body) wr := hy
      have HR := hid hR
      have hk : k < m := by omega
      clear hC hs hy hR

      gi_wp2_with (refine wpIn_value (.agg cs) (fun c h => by cases h) (exec_load 70 (.tmp 15) _ _ rfl rfl hld) ?_)
      refine HR.out.mono ?_
      rintro e W3 ⟨bb, rfl, h3⟩
      clear s0 hld hy2
      have KK : Hid (m - (k + 1) + 1 = m - k ∧ m - 1 - (m - (k + 1)) = k) := by show _ ∧ _; omega
      rcases h3 with ⟨rfl, hj3, hk3⟩ | ⟨rfl, hj3⟩
      · have HJ3 := hid hj3; have HK3 := hid hk3; clear hj3 hk3
        gi_wp2
        go_roundw
        case rel =>
          refine ⟨k, by omega, rfl, HCR.out.kp HK3.out, _, ?_, HJ3.out⟩
          show _ = _
          rw [List.map_append, HP.out, ← KK.out.1, downs_succ, KK.out.2]
          rfl
        case measure => simp [intOf]
      · have HJ3 := hid hj3; clear hj3
        gi_wp2
        refine bodyPost_ret (results_none rfl _ _ _) rfl ?_
        exact ⟨⟨_, rfl⟩, .inr ⟨_, trivial, HJ3.out⟩⟩
theorem back_stops {m : Nat} (hm : m < 1000000) (bs : Nat) (A : Option Addr) (c : Nat) (w : World) (hc : ItB bs A m c w) :
    SeqStopsK Fence.wide 1 Try.prog 68 #[.pointer (some ⟨bs, 0, none⟩)] (encW (m := m)) (KpT bs A) (fun ys => ys.map (·.1.val) = downs m m) (fun _ => True) m w :=
  fun l J Jx W hW hJ _ hY h0 => (back_walk hm l bs A c J Jx W hJ hY (hc.below (hW.mono (Nat.le_refl _))) h0)
theorem dBack_any (A : Option Addr) (n c : Nat) (w : World) :
    Calls Try.prog 50 #[.slice A n c] w fun e w' => e = .returned (.func (.func 68) #[] #[.pointer (some ⟨w.heap.size, 0, none⟩)]) ∧ w' = w.alloc (.cells #[.slice A n c] 52) := by
  go_enter Try.func50, Try.ntmps50
  go_wp2
  go_ret
  exact ⟨rfl, rfl⟩
end Go.Proofs.Ythfkooancgkjaaa
/-
  What this file is for: a region that draws its order, within the round of a range over a function, walked as anywhere; what a turned write leaves as it was. Nothing of the program is walked here.
-/
namespace Go.Proofs.Ythfkooancgkjaaa
open Go.ChangeShapes Go.WideShapes Go.ChangeAt Go.RowKit
set_option linter.unusedVariables false
set_option maxRecDepth 20000

def Qr (R : Act → World → Prop) : Exit → Act → World → Prop
  | .normal, a, w => R a w
  | _, _, _ => False
theorem wp_cut {P : Program} {c : Code} {Q : Exit → Act → World → Prop} {a : Act} {w : World} (R : Act → World → Prop) (h : c.wp P (Qr R) a w) (hR : ∀ a w, R a w → Q .normal a w) : c.wp P Q a w :=
  wp_mono h fun e a w hq => by cases e <;> first | exact hR _ _ hq | exact hq.elim
section
variable {P : Program} {R : Act → World → Prop} {l n : Nat}
theorem oper_round {o : Oper} {a : Act} {w : World} {K K' : Act → World → Prop} (hd : ∀ c, o.op ≠ .defer c) (hK : ∀ a w, K a w → K' a w) (h : o.wp P a w K (Qr R)) : o.wpIn (Fence.wide.inRound l) n P a w K' (Qr R) := by
  unfold Oper.wpIn
  refine ⟨fun _ _ => trivial, ?_⟩
  rw [Oper.semAt_plain _ _ _ hd]
  unfold Oper.wp at h
  generalize (execOp a.eval o).run P w = r at h
  cases r with
  | ok x w' =>
    cases x <;> simp only [Oper.upon, Oper.uponIn] at h ⊢
    case value v => exact hK _ _ h
    case skip => exact hK _ _ h
    case defer d => exact hK _ _ h
    case enter f args =>
      refine ⟨fun hs => by simp [Fence.inRound, Fence.wide] at hs, CallsIn.inRound l (callsIn_wide.2 (h.mono ?_))⟩
      intro e w'' he
      cases e with
      | returned v => exact hK _ _ he
      | panicked c => exact he
      | outgrown => exact he
    case row row args =>
      refine ⟨fun hs => by simp [Fence.inRound, Fence.wide] at hs, ?_⟩
      intro c cs _
      obtain ⟨v, w'', hr, hs⟩ := h c cs
      exact ⟨v, w'', hK _ _ hr, stepsIn_wide.2 hs⟩
  | halt x w' =>
    cases x <;> simp only [Oper.upon, Oper.uponIn] at h ⊢
    case panic v => exact h
theorem any_round {md : Region.Mode} {ops : Array Oper} (hd : ∀ (i : Nat) o, ops[i]? = some o → ∀ c, o.op ≠ .defer c) : ∀ (fuel : Nat) (listed : Array Bool) (a : Act) (w : World), wpAny P md ops (Qr R) fuel listed a w → wpAnyIn (Fence.wide.inRound l) n P md ops (Qr R) fuel listed a w := by
  intro fuel
  induction fuel with
  | zero => intro listed a w h; exact h
  | succ fuel ih =>
    intro listed a w h
    refine ⟨h.1, fun i hi => ?_⟩
    have h1 := h.2 i hi
    unfold wpOp at h1
    unfold wpOpIn
    cases ho : ops[i]? with
    | none => rw [ho] at h1; exact ih _ _ _ h1
    | some o =>
      rw [ho] at h1
      simp only at h1 ⊢
      by_cases hw : Region.wanted o (yielded ops a.tmps) = true
      · rw [if_pos hw] at h1 ⊢
        rcases h1 with h1 | ⟨_, a0, w0, h1⟩
        · exact oper_round (hd i o ho) (fun a w h => ih _ _ _ h) h1
        · exact h1.elim
      · rw [if_neg hw] at h1 ⊢
        exact ⟨fun _ _ => trivial, ih _ _ _ h1⟩
theorem region_round {id : Nat} {ops : Array Oper} {S : World → Prop} {a : Act} {w : World} (hm : P.follows .mixedOrders = true) (hd : (ops.toList.all fun o => match o.op with | .defer _ => false | _ => true) = true)
    (h : wpAnyH P .any ops (Qr R) S ops.size (Array.replicate ops.size false) a { w with drawn := w.drawn + 1 }) : (Code.region id ops true).wpIn (Fence.wide.inRound l) n P (Qr R) a w :=
  wpIn_region_any hm (any_round (fun i o ho c hc => by
    rw [List.all_eq_true] at hd
    have := hd o (by rw [← Array.getElem?_toList] at ho; exact List.mem_of_getElem? ho)
    rw [hc] at this
    cases this) _ _ _ _ (wpAny_of_held _ _ _ _ h))
theorem wpIn_cut {F : Fence} {c : Code} {Q : Exit → Act → World → Prop} {a : Act} {w : World} (R : Act → World → Prop) (h : c.wpIn F n P (Qr R) a w) (hR : ∀ a w, R a w → Q .normal a w) : c.wpIn F n P Q a w :=
  wpIn_mono h fun e a w hq => by cases e <;> first | exact hR _ _ hq | exact hq.elim
end

/-- between two rounds: the device, so many writes turned back -/
structure TbI (bx b g n m c : Nat) (A : Option Addr) (fz D : Bool) (fu : Int) (R : Nat → Prop) (w : World) (S0 : List (List Int) × List Wr) (pre : List (Wx m)) (W : World) : Prop where
  kx : Blk W bx 26 #[.pointer (some ⟨b, 0, none⟩)]
  kb : Blk W b 54 (devC g n (.slice A m c) fz fu D)
  kg : Blk W g 68 (pcs ((pre.map (·.1.val)).foldl sw S0).1).toArray
  kw : W.ownsRow 0 70 129 (.slice A m c) m (wcs ((pre.map (·.1.val)).foldl sw S0).2)
  os : OnlyS R w W
theorem Blk.own {W W' : World} {g : Nat} {t : TypeId} {cs : Array Value} {row : Option Nat} (h : Blk W g t cs) (hg : W.grownBy W' row) (hr : ∀ r, row = some r → ∃ o : Obj, W.heap[r]? = some o ∧ o.isCells = false) : Blk W' g t cs :=
  h.same (hg.block g h.lt (fun e => by
    obtain ⟨o, ho, hc⟩ := hr g e.symm
    unfold Blk at h
    rw [h] at ho
    injection ho with ho
    subst ho
    cases hc))
theorem own_own {W W' : World} {base e size n : Nat} {v : Value} {xs : List Value} {row : Option Nat} (h : W.ownsRow base e size v n xs) (hg : W.grownBy W' row) (hr : ∀ r, row = some r → ∃ o : Obj, W.heap[r]? = some o ∧ o.isCells = false) : W'.ownsRow base e size v n xs := by
  refine ⟨h.1, ?_⟩
  rcases h.2 with h1 | ⟨g, cap, cur, hv, hb, hh, rest⟩
  · exact .inl h1
  · exact .inr ⟨g, cap, cur, hv, hb, (show Blk W g e cur from hh).own hg hr, rest⟩
theorem TbI.own {bx b g n m c : Nat} {A : Option Addr} {fz D : Bool} {fu : Int} {R : Nat → Prop} {w : World} {S0 : List (List Int) × List Wr} {B : Nat} (hB : w.heap.size ≤ B) : OwnFrom B (TbI bx b g n m c A fz D fu R w S0) := fun pre W W' row hs hg hr =>
  ⟨hs.kx.own hg (fun r e => (hr r e).2), hs.kb.own hg (fun r e => (hr r e).2), hs.kg.own hg (fun r e => (hr r e).2), own_own hs.kw hg (fun r e => (hr r e).2), hs.os.grown hg (fun r e => .inr (Nat.le_trans hB (hr r e).1))⟩
/-- what the loads of a round need -/
structure WT (bx b g n h k : Nat) (a : Int) (w' : World) : Prop where
  cx : w'.cell? ⟨bx, 0, none⟩ = some (.pointer (some ⟨b, 0, none⟩))
  c0 : w'.cell? ⟨b, 0, none⟩ = some (.slice (some ⟨g, 0, none⟩) n n)
  ca : w'.cell? ⟨h, k * 129, none⟩ = some (.int .i64 a)
/-- a write's bytes within their row -/
theorem row_range {w : World} {h m k n : Nat} {C : Array Value} {U : List Wr} {q : Wr} (hC : Blk w h 70 C) (ht : C.toList.take (m * 129) = wcs U) (hU : QOk n U) (hk : U[k]? = some q) : w.rangeAt h (k * 129 + 1) (u8s q.2) := fun j v hv => by
  have hq := (hU q (List.mem_of_getElem? hk)).2
  have hj : j < 128 := by
    rcases Nat.lt_or_ge j 128 with h1 | h1
    · exact h1
    · rw [List.getElem?_eq_none (by rw [u8s_length, hq]; exact h1)] at hv; cases hv
  have := wcs_at hU hk j hj
  rw [← ht, List.getElem?_take] at this
  rw [hC.cell, Nat.mul_comm k 129, ← Array.getElem?_toList, ← hv, ← this]
  rw [if_pos]
  rcases Nat.lt_or_ge (129 * k + 1 + j) (m * 129) with h1 | h1
  · exact h1
  · rw [if_neg (by omega), u8s_get _ _ (by omega)] at this; cases this
theorem row_at {w : World} {h m k n : Nat} {C : Array Value} {U : List Wr} {q : Wr} (hC : Blk w h 70 C) (ht : C.toList.take (m * 129) = wcs U) (hU : QOk n U) (hk : U[k]? = some q) : w.cell? ⟨h, k * 129, none⟩ = some (.int .i64 (q.1 : Nat)) := by
  have := wcs_0 hU hk
  rw [← ht, List.getElem?_take] at this
  split at this
  · rw [hC.cell, Nat.mul_comm k 129, ← Array.getElem?_toList]; exact this
  · cases this
theorem row_there {w : World} {h m k n : Nat} {C : Array Value} {U : List Wr} {q : Wr} (hC : Blk w h 70 C) (ht : C.toList.take (m * 129) = wcs U) (hU : QOk n U) (hk : U[k]? = some q) {X : List Int} (hX : X.length = 128) : w.there h (k * 129 + 1) (u8s X).toArray.size := fun j hj => by
  rw [List.size_toArray, u8s_length, hX] at hj
  have hq := (hU q (List.mem_of_getElem? hk)).2
  exact ⟨by rw [row_range hC ht hU hk j _ (u8s_get _ _ (by omega))]; rfl, hC.frozen _⟩
theorem row_put {w : World} {h m k n : Nat} {C : Array Value} {U : List Wr} {q : Wr} (hC : Blk w h 70 C) (ht : C.toList.take (m * 129) = wcs U) (hm : m * 129 ≤ C.size) (hU : QOk n U) (hUm : U.length = m) (hk : U[k]? = some q) {X : List Int} (hX : X.length = 128) :
    ∃ C', Blk (w.setCells h (k * 129 + 1) (u8s X)) h 70 C' ∧ C'.size = C.size ∧ C'.toList.take (m * 129) = wcs (U.set k (q.1, X)) := by
  obtain ⟨hlt, _⟩ := List.getElem?_eq_some_iff.1 hk
  refine ⟨_, hC.putCells (u8s X) (k * 129 + 1), putRow_size _ _ _, ?_⟩
  rw [putRow_splice (by rw [u8s_length, hX]; omega) hm, ht, Nat.mul_comm k 129, wcs_put hU hk hX]
theorem KeepsOthers.setCells {g : Nat} : ∀ (vs : List Value) (w : World) (o : Nat), KeepsOthers w (w.setCells g o vs)
  | [], w, _ => KeepsOthers.refl w
  | v :: r, w, o => (KeepsOthers.setCell w ⟨g, o, none⟩ v).trans (KeepsOthers.setCells r _ (o + 1))
end Go.Proofs.Ythfkooancgkjaaa
/-
  What this file is for: what is so behind a turned write, and behind all of them. Nothing of the program is walked here.
-/
namespace Go.Proofs.Ythfkooancgkjaaa
open Go.ChangeShapes Go.WideShapes Go.ChangeAt Go.RowKit
set_option linter.unusedVariables false
set_option maxRecDepth 20000

theorem itb_of {W : World} {bs m c : Nat} {A : Option Addr} {U : List Wr} (h : Blk W bs 52 #[.slice A m c]) (ho : W.ownsRow 0 70 129 (.slice A m c) m (wcs U)) : ItB bs A m c W := ⟨h, fun hm => by
  rcases ho.2 with ⟨_, h0⟩ | ⟨g, cap, C, hv, _, hh, hnc, hcm, hcs, htk⟩
  · omega
  · injection hv with hA _ hc
    exact ⟨g, C, hA, hh, by rw [hcs]; exact Nat.mul_le_mul_right _ hnc⟩⟩
theorem keeps_drew {W W' : World} (h : KeepsOthers W W') : KeepsOthers W W'.drew := h.trans (KeepsOthers.of_grownBy (below_grown ((Below.refl W'.heap.size W').drew)) (fun j o e => by cases e))
theorem page_at {w : World} {g : Nat} {P : List (List Int)} {p : List Int} (h : Blk w g 68 (pcs P).toArray) (hP : PgOk P) {i : Nat} (hi : i < P.length) (hp : p = P[i]?.getD []) : w.rangeAt g (i * 128) (u8s p) := by rw [hp]; exact page_range h hP hi
theorem wt_cells {bx b g n h k j : Nat} {a : Int} {w : World} (hw : WT bx b g n h k a w) (n1 : bx ≠ j) (n2 : b ≠ j) (n3 : h ≠ j) (o : Nat) (vs : List Value) : WT bx b g n h k a (w.setCells j o vs) :=
  ⟨(World.cell?_of_block (a := ⟨bx, 0, none⟩) (other_cells w j o vs n1)).trans hw.cx, (World.cell?_of_block (a := ⟨b, 0, none⟩) (other_cells w j o vs n2)).trans hw.c0, (World.cell?_of_block (a := ⟨h, k * 129, none⟩) (other_cells w j o vs n3)).trans hw.ca⟩
theorem wt_put {bx b g n h k : Nat} {a : Int} {w : World} (hw : WT bx b g n h k a w) (n1 : bx ≠ h) (n2 : b ≠ h) (vs : List Value) : WT bx b g n h k a (w.setCells h (k * 129 + 1) vs) :=
  ⟨(World.cell?_of_block (a := ⟨bx, 0, none⟩) (other_cells w h _ vs n1)).trans hw.cx, (World.cell?_of_block (a := ⟨b, 0, none⟩) (other_cells w h _ vs n2)).trans hw.c0, by
    rw [World.cell?_setCells_out h vs (k * 129 + 1) w ⟨h, k * 129, none⟩ (fun _ _ => by left; show k * 129 < _; omega)]
    exact hw.ca⟩
/-- what a turned write leaves -/
def TbS (g h m cap : Nat) (P : List (List Int)) (U : List Wr) (W w' : World) : Prop :=
  ∃ C2, Blk w' g 68 (pcs P).toArray ∧ Blk w' h 70 C2 ∧ C2.size = cap * 129 ∧ C2.toList.take (m * 129) = wcs U ∧ OnlyS (fun j => j = g ∨ j = h) W w' ∧ KeepsOthers W w'
/-- what stands when all writes are turned back -/
def TbP (b g n m c : Nat) (A : Option Addr) (fz D : Bool) (fu : Int) (R : Nat → Prop) (w : World) (S : List (List Int) × List Wr) (e : Ending) (w' : World) : Prop :=
  e = .returned (.tuple #[]) ∧ Blk w' b 54 (devC g n (.slice A m c) fz fu D) ∧ Blk w' g 68 (pcs S.1).toArray ∧ w'.ownsRow 0 70 129 (.slice A m c) m (wcs S.2) ∧ OnlyS R w w'
theorem bx_ne {bs m cap g h : Nat} {P : List (List Int)} {W : World} (hi : ItB bs (some ⟨h, 0, none⟩) m cap W) (hg : Blk W g 68 (pcs P).toArray) (hm : 0 < m) : bs ≠ g ∧ bs ≠ h := by
  obtain ⟨h', C, hA, hC, _⟩ := hi.kh hm
  injection hA with hA
  have e : h = h' := congrArg Addr.block hA
  subst e
  exact ⟨hi.kb.ne hg (by intro h; cases h), hi.kb.ne hC (by intro h; cases h)⟩
end Go.Proofs.Ythfkooancgkjaaa
/-
  What is proved here: all writes that wait are turned back.
-/
namespace Go.Proofs.Ythfkooancgkjaaa
open Go.ChangeShapes Go.WideShapes Go.ChangeAt Go.RowKit Go.Shelf
set_option linter.unusedVariables false
set_option linter.unusedSimpArgs false
set_option maxRecDepth 20000
attribute [local go_sem] Oper.semAt_some

set_option maxHeartbeats 8000000 in
theorem turnBack_at {w : World} {R : Nat → Prop} {b g n m c : Nat} {A : Option Addr} {fz D : Bool} {fu : Int} {P0 : List (List Int)} {U0 : List Wr}
    (h1 : Blk w b 54 (devC g n (.slice A m c) fz fu D)) (h2 : Blk w g 68 (pcs P0).toArray) (h3 : w.ownsRow 0 70 129 (.slice A m c) m (wcs U0)) (r1 : R b) (r2 : R g) (r3 : ∀ k, (Value.slice A m c).ownBlock = some k → R k)
    (hP0 : PgOk P0) (hU0 : QOk n U0) (hl1 : P0.length = n) (hl2 : U0.length = m) (hm : m < 1000000) (hn4 : n ≤ 4096) :
    Calls Try.prog 32 #[.pointer (some ⟨b, 0, none⟩)] w (TbP b g n m c A fz D fu R w ((downs m m).foldl sw (P0, U0))) := by
  refine (callsIn_wide (n := 2)).1 ?_
  refine callsIn_of_wp_marks Try.func32 rfl trivial ?_ rfl
  simp only [Try.ntmps32, List.size_toArray, List.length_cons, List.length_nil, Nat.reduceAdd, Nat.reduceSub, Array.replicate_succ, Array.replicate_zero, List.push_toArray, List.append_toArray, List.nil_append, List.cons_append]
  refine (wpIn_wide (n := 2)).2 ?_
  obtain ⟨w0, hw0⟩ : ∃ w0, w0 = w := ⟨_, rfl⟩
  have HW0 := hid hw0
  have lb := h1.lt
  have c0 : (w.alloc (.cells #[.pointer (some ⟨b, 0, none⟩)] 26)).cell? ⟨b, 1, none⟩ = some (.slice A m c) := (h1.alloc _).cell 1
  have CB := hid (fun w => dBack_any A m c w)
  have KB := hid h1; have KG := hid h2; have OW := hid h3; have R1 := hid r1; have R2 := hid r2; have R3 := hid r3
  have LB := hid lb
  have HP0 := hid hP0; have HU0 := hid hU0; have HL1 := hid hl1; have HL2 := hid hl2; have HM := hid hm; have HN4 := hid hn4
  clear h1 h2 h3 r1 r2 r3 lb hP0 hU0 hl1 hl2 hw0 hm hn4
  go_wp2_with (go_at_call 50; refine (CB.out _).mono ?_; rintro e w2 ⟨rfl, hw2⟩; have HW2 := hid hw2; clear hw2)
  have LG : Hid (g < w.heap.size) := KG.out.lt
  have KX2 : Hid (Blk w2 w.heap.size 26 #[.pointer (some ⟨b, 0, none⟩)]) := by show Blk _ _ _ _; rw [HW2.out]; exact (Blk.new w _ _).alloc _
  have KB2 : Hid (Blk w2 b 54 (devC g n (.slice A m c) fz fu D)) := by show Blk _ _ _ _; rw [HW2.out]; exact (KB.out.alloc _).alloc _
  have KG2 : Hid (Blk w2 g 68 (pcs P0).toArray) := by show Blk _ _ _ _; rw [HW2.out]; exact (KG.out.alloc _).alloc _
  have OW2 : Hid (w2.ownsRow 0 70 129 (.slice A m c) m (wcs U0)) := by show World.ownsRow _ _ _ _ _ _ _; rw [HW2.out]; exact (OW.out.alloc _).alloc _
  have ON2 : Hid (OnlyS R w0 w2) := by show OnlyS _ _ _; rw [HW2.out, HW0.out]; exact ((OnlyS.refl R w).alloc _).alloc _
  have S2 : Hid (w2.heap.size = w.heap.size + 1 + 1) := by show _ = _; rw [HW2.out]; simp
  have BX2 : Hid (Blk w2 (w.heap.size + 1) 52 #[.slice A m c]) := by
    show Blk _ _ _ _
    rw [HW2.out]
    have := Blk.new (w.alloc (.cells #[.pointer (some ⟨b, 0, none⟩)] 26)) 52 #[.slice A m c]
    rwa [World.size_alloc] at this
  have e1 : (w.alloc (.cells #[.pointer (some ⟨b, 0, none⟩)] 26)).heap.size = w.heap.size + 1 := by simp

  have IT : Hid (ItB (w.heap.size + 1) A m c w2) := itb_of BX2.out OW2.out
  have I0 : TbI w.heap.size b g n m c A fz D fu R w0 (P0, U0) [] w2 := ⟨KX2.out, KB2.out, KG2.out, OW2.out, ON2.out⟩
  have HI0 := hid I0
  clear KB KG OW KX2 KB2 KG2 OW2 ON2 BX2 I0 c0 e1 HW2
  refine (wpIn_wide (n := 2)).1 ?_
  refine wpIn_rangeFunc_ownF (n := 2) rfl (by omega) (gf := 68) (lb := #[.pointer (some ⟨w.heap.size + 1, 0, none⟩)]) rfl trivial (enters_of Try.func68 (by kernel_rfl) rfl)
    (back_stops HM.out (w.heap.size + 1) A c w2 IT.out) KpT.t (KpT.b (by rw [S2.out]; omega)) (Below.refl _ _) (fun _ => rfl) (TbI w.heap.size b g n m c A fz D fu R w0 (P0, U0)) (fun _ _ _ => False) (TbI.own (by rw [HW0.out, S2.out]; omega)) (fun _ _ _ _ _ hs _ _ => hs) HI0.out
    (fun x => { tmps := #[.pointer (some ⟨b, 0, none⟩), .pointer (some ⟨w.heap.size, 0, none⟩), .int .i64 (x.1.val : Int), undef, .pointer (some ⟨b, 0, none⟩), .pointer (some ⟨b, 0, none⟩), .pointer (some ⟨b, 1, none⟩), .slice A m c, .func (.func 68) #[] #[.pointer (some ⟨w.heap.size + 1, 0, none⟩)], .int .i64 (x.1.val : Int), .agg x.2, undef, undef, undef, undef, undef, undef, undef, undef, undef, undef, undef, undef, undef, undef, undef, undef, undef, undef, undef, undef, undef, undef, undef, undef, undef, undef, undef, undef, undef, undef, undef, undef], defers := [] }) ?assign ?body ?done ?stop
  case assign =>
    intro l x W K hK
    dsimp only [encW]
    gi_wp2
    exact hK
  case body =>
    rintro l pre x W hI hlen
    obtain ⟨kk, hkk⟩ := x
    obtain ⟨k, hkm⟩ := kk
    have hok := sws_ok (S := (P0, U0)) HP0.out HU0.out HL1.out (pre.map (·.1.val))
    obtain ⟨S0, hS0⟩ : ∃ S0, S0 = (pre.map (·.1.val)).foldl sw (P0, U0) := ⟨_, rfl⟩
    rw [← hS0] at hok
    obtain ⟨P, U⟩ := S0
    obtain ⟨p1, p2, p3, p4⟩ := hok
    have HSN : Hid (((pre ++ [((⟨k, hkm⟩, hkk) : Wx m)]).map (·.1.val)).foldl sw (P0, U0) = sw (P, U) k) := by
      show _ = _
      rw [List.map_append, List.foldl_append, ← hS0]; rfl
    have hkx := hI.kx; have hkb := hI.kb; have hkg := hI.kg; have hkw := hI.kw; have hos := hI.os
    rw [← hS0] at hkg hkw
    have hUl : U.length = m := p4.trans HL2.out
    have hk : U[k]? = some U[k] := List.getElem?_eq_getElem (by omega)
    obtain ⟨q, hq⟩ : ∃ q, q = U[k] := ⟨_, rfl⟩
    rw [← hq] at hk
    obtain ⟨a, o⟩ := q
    have hqok := p2 _ (List.mem_of_getElem? hk)
    rcases hkw.2 with ⟨_, h0⟩ | ⟨h, cap, C, hv, _, hh, hnc, hcm, hcs, htk⟩
    · omega
    injection hv with hA hm0 hc0
    subst hA; subst hc0
    have HSW : Hid (sw (P, U) k = (P.set a o, U.set k (a, P[a]?.getD []))) := by
      show _ = _
      unfold sw
      simp only
      rw [hk]
    obtain ⟨p, hp⟩ : ∃ p, p = P[a]?.getD [] := ⟨_, rfl⟩
    rw [← hp] at HSW
    have KH0 : Blk W h 70 C := hh
    have NE : Hid (w.heap.size ≠ g ∧ b ≠ g ∧ g ≠ h) := ⟨hkx.ne hkg (by decide), hkb.ne hkg ne_dp, hkg.ne KH0 ne_pw⟩
    have NE2 : Hid (w.heap.size ≠ h ∧ b ≠ h) := ⟨hkx.ne KH0 (by decide), hkb.ne KH0 ne_dw⟩
    have HP := hid p1; have HU := hid p2; have HPN := hid p3; have HUL := hid hUl; have HK := hid hk
    have HAL : Hid (a < P.length) := by show _ < _; rw [p3]; exact hqok.1
    have HO : Hid (o.length = 128) := hqok.2
    have HPP : Hid (p = P[a]?.getD []) := hp
    have HPL : Hid (p.length = 128) := by show _ = _; rw [hp]; exact p1.at HAL.out
    have OI := hid (page_info HO.out); have OI2 := hid (page_info2 HO.out); have PI := hid (page_info HPL.out); have PI2 := hid (page_info2 HPL.out)
    have HT := hid htk; have HCS := hid hcs
    have HS : Hid (m * 129 ≤ C.size) := by show _ ≤ _; rw [hcs]; exact Nat.mul_le_mul_right _ hnc
    have HNC := hid hnc; have HCM := hid hcm
    have KX := hid hkx; have KB := hid hkb; have KG := hid hkg; have KH := hid KH0; have ON := hid hos
    have c0 : W.cell? ⟨w.heap.size, 0, none⟩ = some (.pointer (some ⟨b, 0, none⟩)) := hkx.cell 0
    have c1 : W.cell? ⟨b, 1, none⟩ = some (.slice (some ⟨h, 0, none⟩) m c) := hkb.cell 1
    have WT0 : Hid (WT w.heap.size b g n h k (a : Nat) W.drew) := ⟨hkx.cell 0, hkb.cell 0, row_at KH0 htk p2 hk⟩
    have OG : Hid (OnlyS (fun j => j = g ∨ j = h) W W) := OnlyS.refl _ W
    have KP : Hid (KeepsOthers W W) := KeepsOthers.refl W
    have R1' := R1; have R2' := R2; have R3' : Hid (R h) := R3.out h rfl
    have LBX : Hid (w.heap.size + 1 ≠ g ∧ w.heap.size + 1 ≠ h) := bx_ne IT.out HI0.out.kg (by omega)
    have hkm2 : (k : Int) < m := by omega
    have ham : (a : Int) < n := by have := hqok.1; omega
    have hn5 : (n : Int) ≤ 4096 := by have := HN4.out; omega
    clear hI hlen hS0 p1 p2 p3 p4 hkx hkb hkg hkw hos hUl hk hq hqok hh hcm hcs htk hp KH0 hm0 HI0 hnc
    gi_wp2
    clear c0 c1
    refine wpIn_cut (fun _ w' => TbS g h m c (P.set a o) (U.set k (a, p)) W w') ?_ ?_
    · skip
      refine region_round (S := fun w' => Hid (WT w.heap.size b g n h k (a : Nat) w')) (by kernel_rfl) (by rfl) ?_
      change wpAnyH _ _ _ _ _ _ _ _ W.drew
      have Gx0 : Hid (WT w.heap.size b g n h k (a : Nat) W.drew) := WT0.out
      have KG' : Hid (Blk W.drew g 68 (pcs P).toArray) := KG.out
      have KH' : Hid (Blk W.drew h 70 C) := KH.out
      have OG' : Hid (OnlyS (fun j => j = g ∨ j = h) W W.drew) := OG.out.drew
      have KP' : Hid (KeepsOthers W W.drew) := keeps_drew KP.out
      clear KG KH OG KP
      have KG := KG'
      have KH := KH'
      have OG := OG'
      have KP := KP'
      clear KG' KH' OG' KP'
      generalize W.drew = x0 at Gx0 KG KH OG KP ⊢
      refine wpAnyH_take (i := 0) (oi := { dst := some 17, op := _, type := _, pos := _, after := _, guard := _ }) (v := ?_) rfl (by kernel_rfl) (by kernel_rfl) (by kernel_rfl) (fun _ _ _ h => h) (Or.inl ⟨by kernel_rfl, ?_⟩) Gx0 ?_
      rotate_left
      · (intro w hSw; have hc := hSw.out.cx; go_simp; try with_reducible rfl)
      try simp only [Act.put, List.setIfInBounds_toArray, List.set_cons_zero, List.set_cons_succ]
      refine wpAnyH_take (i := 1) (oi := { dst := some 18, op := _, type := _, pos := _, after := _, guard := _ }) (v := ?_) rfl (by kernel_rfl) (by kernel_rfl) (by kernel_rfl) (fun _ _ _ h => h) (Or.inl ⟨by kernel_rfl, ?_⟩) Gx0 ?_
      rotate_left
      · (intro w hSw; go_simp; try with_reducible rfl)
      try simp only [Act.put, List.setIfInBounds_toArray, List.set_cons_zero, List.set_cons_succ]
      refine wpAnyH_take (i := 2) (oi := { dst := some 19, op := _, type := _, pos := _, after := _, guard := _ }) (v := ?_) rfl (by kernel_rfl) (by kernel_rfl) (by kernel_rfl) (fun _ _ _ h => h) (Or.inl ⟨by kernel_rfl, ?_⟩) Gx0 ?_
      rotate_left
      · (intro w hSw; go_simp; try with_reducible rfl)
      try simp only [Act.put, List.setIfInBounds_toArray, List.set_cons_zero, List.set_cons_succ]
      refine wpAnyH_take (i := 3) (oi := { dst := some 20, op := _, type := _, pos := _, after := _, guard := _ }) (v := ?_) rfl (by kernel_rfl) (by kernel_rfl) (by kernel_rfl) (fun _ _ _ h => h) (Or.inl ⟨by kernel_rfl, ?_⟩) Gx0 ?_
      rotate_left
      · (intro w hSw; have hc := hSw.out.c0; go_simp; try with_reducible rfl)
      try simp only [Act.put, List.setIfInBounds_toArray, List.set_cons_zero, List.set_cons_succ]
      refine wpAnyH_take (i := 4) (oi := { dst := some 21, op := _, type := _, pos := _, after := _, guard := _ }) (v := ?_) rfl (by kernel_rfl) (by kernel_rfl) (by kernel_rfl) (fun _ _ _ h => h) (Or.inl ⟨by kernel_rfl, ?_⟩) Gx0 ?_
      rotate_left
      · (intro w hSw; go_simp; try with_reducible rfl)
      try simp only [Act.put, List.setIfInBounds_toArray, List.set_cons_zero, List.set_cons_succ]
      refine wpAnyH_take (i := 5) (oi := { dst := some 22, op := _, type := _, pos := _, after := _, guard := _ }) (v := ?_) rfl (by kernel_rfl) (by kernel_rfl) (by kernel_rfl) (fun _ _ _ h => h) (Or.inl ⟨by kernel_rfl, ?_⟩) Gx0 ?_
      rotate_left
      · (intro w hSw; go_simp; try with_reducible rfl)
      try simp only [Act.put, List.setIfInBounds_toArray, List.set_cons_zero, List.set_cons_succ]
      refine wpAnyH_take (i := 6) (oi := { dst := some 23, op := _, type := _, pos := _, after := _, guard := _ }) (v := ?_) rfl (by kernel_rfl) (by kernel_rfl) (by kernel_rfl) (fun _ _ _ h => h) (Or.inl ⟨by kernel_rfl, ?_⟩) Gx0 ?_
      rotate_left
      · (intro w hSw; go_simp; try with_reducible rfl)
      try simp only [Act.put, List.setIfInBounds_toArray, List.set_cons_zero, List.set_cons_succ]
      refine wpAnyH_take (i := 7) (oi := { dst := some 24, op := _, type := _, pos := _, after := _, guard := _ }) (v := ?_) rfl (by kernel_rfl) (by kernel_rfl) (by kernel_rfl) (fun _ _ _ h => h) (Or.inl ⟨by kernel_rfl, ?_⟩) Gx0 ?_
      rotate_left
      · (intro w hSw; have hc := hSw.out.ca; go_simp; try with_reducible rfl)
      try simp only [Act.put, List.setIfInBounds_toArray, List.set_cons_zero, List.set_cons_succ]
      refine wpAnyH_take (i := 8) (oi := { dst := some 25, op := _, type := _, pos := _, after := _, guard := _ }) (v := ?_) rfl (by kernel_rfl) (by kernel_rfl) (by kernel_rfl) (fun _ _ _ h => h) (Or.inl ⟨by kernel_rfl, ?_⟩) Gx0 ?_
      rotate_left
      · (intro w hSw; go_simp; try with_reducible rfl)
      try simp only [Act.put, List.setIfInBounds_toArray, List.set_cons_zero, List.set_cons_succ]
      refine wpAnyH_take (i := 9) (oi := { dst := some 26, op := _, type := _, pos := _, after := _, guard := _ }) (v := ?_) rfl (by kernel_rfl) (by kernel_rfl) (by kernel_rfl) (fun _ _ _ h => h) (Or.inl ⟨by kernel_rfl, ?_⟩) Gx0 ?_
      rotate_left
      · (intro w hSw; go_simp; try with_reducible rfl)
      try simp only [Act.put, List.setIfInBounds_toArray, List.set_cons_zero, List.set_cons_succ]
      refine wpAnyH_take (i := 10) (oi := { dst := some 27, op := _, type := _, pos := _, after := _, guard := _ }) (v := ?_) rfl (by kernel_rfl) (by kernel_rfl) (by kernel_rfl) (fun _ _ _ h => h) (Or.inl ⟨by kernel_rfl, ?_⟩) Gx0 ?_
      rotate_left
      · (intro w hSw; go_simp; try with_reducible rfl)
      try simp only [Act.put, List.setIfInBounds_toArray, List.set_cons_zero, List.set_cons_succ]
      refine wpAnyH_take (i := 11) (oi := { dst := some 28, op := _, type := _, pos := _, after := _, guard := _ }) (v := ?_) rfl (by kernel_rfl) (by kernel_rfl) (by kernel_rfl) (fun _ _ _ h => h) (Or.inl ⟨by kernel_rfl, ?_⟩) Gx0 ?_
      rotate_left
      · (intro w hSw; go_simp; try with_reducible rfl)
      try simp only [Act.put, List.setIfInBounds_toArray, List.set_cons_zero, List.set_cons_succ]
      refine wpAnyH_take (i := 13) (oi := { dst := some 30, op := _, type := _, pos := _, after := _, guard := _ }) (v := ?_) rfl (by kernel_rfl) (by kernel_rfl) (by kernel_rfl) (fun _ _ _ h => h) (Or.inl ⟨by kernel_rfl, ?_⟩) Gx0 ?_
      rotate_left
      · (intro w hSw; have hc := hSw.out.cx; go_simp; try with_reducible rfl)
      try simp only [Act.put, List.setIfInBounds_toArray, List.set_cons_zero, List.set_cons_succ]
      refine wpAnyH_take (i := 14) (oi := { dst := some 31, op := _, type := _, pos := _, after := _, guard := _ }) (v := ?_) rfl (by kernel_rfl) (by kernel_rfl) (by kernel_rfl) (fun _ _ _ h => h) (Or.inl ⟨by kernel_rfl, ?_⟩) Gx0 ?_
      rotate_left
      · (intro w hSw; go_simp; try with_reducible rfl)
      try simp only [Act.put, List.setIfInBounds_toArray, List.set_cons_zero, List.set_cons_succ]
      refine wpAnyH_take (i := 15) (oi := { dst := some 32, op := _, type := _, pos := _, after := _, guard := _ }) (v := ?_) rfl (by kernel_rfl) (by kernel_rfl) (by kernel_rfl) (fun _ _ _ h => h) (Or.inl ⟨by kernel_rfl, ?_⟩) Gx0 ?_
      rotate_left
      · (intro w hSw; go_simp; try with_reducible rfl)
      try simp only [Act.put, List.setIfInBounds_toArray, List.set_cons_zero, List.set_cons_succ]
      refine wpAnyH_take (i := 16) (oi := { dst := some 33, op := _, type := _, pos := _, after := _, guard := _ }) (v := ?_) rfl (by kernel_rfl) (by kernel_rfl) (by kernel_rfl) (fun _ _ _ h => h) (Or.inl ⟨by kernel_rfl, ?_⟩) Gx0 ?_
      rotate_left
      · (intro w hSw; have hc := hSw.out.c0; go_simp; try with_reducible rfl)
      try simp only [Act.put, List.setIfInBounds_toArray, List.set_cons_zero, List.set_cons_succ]
      refine wpAnyH_take (i := 17) (oi := { dst := some 34, op := _, type := _, pos := _, after := _, guard := _ }) (v := ?_) rfl (by kernel_rfl) (by kernel_rfl) (by kernel_rfl) (fun _ _ _ h => h) (Or.inl ⟨by kernel_rfl, ?_⟩) Gx0 ?_
      rotate_left
      · (intro w hSw; go_simp; try with_reducible rfl)
      try simp only [Act.put, List.setIfInBounds_toArray, List.set_cons_zero, List.set_cons_succ]
      refine wpAnyH_take (i := 18) (oi := { dst := some 35, op := _, type := _, pos := _, after := _, guard := _ }) (v := ?_) rfl (by kernel_rfl) (by kernel_rfl) (by kernel_rfl) (fun _ _ _ h => h) (Or.inl ⟨by kernel_rfl, ?_⟩) Gx0 ?_
      rotate_left
      · (intro w hSw; go_simp; try with_reducible rfl)
      try simp only [Act.put, List.setIfInBounds_toArray, List.set_cons_zero, List.set_cons_succ]
      refine wpAnyH_take (i := 19) (oi := { dst := some 36, op := _, type := _, pos := _, after := _, guard := _ }) (v := ?_) rfl (by kernel_rfl) (by kernel_rfl) (by kernel_rfl) (fun _ _ _ h => h) (Or.inl ⟨by kernel_rfl, ?_⟩) Gx0 ?_
      rotate_left
      · (intro w hSw; go_simp; try with_reducible rfl)
      try simp only [Act.put, List.setIfInBounds_toArray, List.set_cons_zero, List.set_cons_succ]
      refine wpAnyH_take (i := 20) (oi := { dst := some 37, op := _, type := _, pos := _, after := _, guard := _ }) (v := ?_) rfl (by kernel_rfl) (by kernel_rfl) (by kernel_rfl) (fun _ _ _ h => h) (Or.inl ⟨by kernel_rfl, ?_⟩) Gx0 ?_
      rotate_left
      · (intro w hSw; have hc := hSw.out.ca; go_simp; try with_reducible rfl)
      try simp only [Act.put, List.setIfInBounds_toArray, List.set_cons_zero, List.set_cons_succ]
      refine wpAnyH_take (i := 21) (oi := { dst := some 38, op := _, type := _, pos := _, after := _, guard := _ }) (v := ?_) rfl (by kernel_rfl) (by kernel_rfl) (by kernel_rfl) (fun _ _ _ h => h) (Or.inl ⟨by kernel_rfl, ?_⟩) Gx0 ?_
      rotate_left
      · (intro w hSw; go_simp; try with_reducible rfl)
      try simp only [Act.put, List.setIfInBounds_toArray, List.set_cons_zero, List.set_cons_succ]
      refine wpAnyH_ready (rs := [12, 22]) (by kernel_rfl) (by simp) ?_
      refine (AllReadyH.cons (o := { dst := some 29, op := _, type := _, pos := _, after := _, guard := _ }) rfl (fun Qc hQc => ?_) (AllReadyH.cons (o := { dst := some 39, op := _, type := _, pos := _, after := _, guard := _ }) rfl (fun Qc hQc => ?_) AllReadyH.nil))
      ·
        rw [if_pos (by rfl)]
        refine wp_load_mid 68 (.tmp 28) rfl h (k * 129 + 1) rfl (u8s o) _ (row_range KH.out HT.out HU.out HK.out) Try.underlying68 rfl OI.out ?_
        refine hQc.out _ _ Gx0 (fun hHeld => ?_)
        clear hQc Qc
        try simp only [Act.put, List.setIfInBounds_toArray, List.set_cons_zero, List.set_cons_succ]
        refine wpAnyH_ready (rs := [22]) (by kernel_rfl) (by simp) ?_
        refine (AllReadyH.cons (o := { dst := some 39, op := _, type := _, pos := _, after := _, guard := _ }) rfl (fun Qc hQc => ?_) AllReadyH.nil)
        rw [if_pos (by rfl)]
        refine wp_load_mid 68 (.tmp 38) rfl g (a * 128) rfl (u8s p) _ (page_at KG.out HP.out HAL.out HPP.out) Try.underlying68 rfl PI.out ?_
        refine hQc.out _ _ Gx0 (fun hHeld => ?_)
        clear hQc Qc
        try simp only [Act.put, List.setIfInBounds_toArray, List.set_cons_zero, List.set_cons_succ]
        refine wpAnyH_take (i := 23) (oi := { dst := some 40, op := _, type := _, pos := _, after := _, guard := _ }) (v := ?_) rfl (by kernel_rfl) (by kernel_rfl) (by kernel_rfl) (fun _ _ _ h => h) (Or.inl ⟨by kernel_rfl, ?_⟩) Gx0 ?_
        rotate_left
        · (intro w hSw; go_simp; try with_reducible rfl)
        try simp only [Act.put, List.setIfInBounds_toArray, List.set_cons_zero, List.set_cons_succ]
        refine wpAnyH_ready (rs := [24]) (by kernel_rfl) (by simp) ?_
        refine (AllReadyH.cons (o := { dst := none, op := _, type := _, pos := _, after := _, guard := _ }) rfl (fun Qc hQc => ?_) AllReadyH.nil)
        rw [if_pos (by rfl)]
        refine wp_store_mid 68 (.tmp 40) (.tmp 29) rfl g (a * 128) (u8s o).toArray rfl rfl (there_page KG.out HP.out HAL.out HO.out) OI2.out (u8s_all1 _) ?_
        have OG2 : Hid (OnlyS (fun j => j = g ∨ j = h) W (x0.setCells g (a * 128) (u8s o))) := OnlyS.setCells _ OG.out (.inl (.inl rfl)) _
        have KP2 : Hid (KeepsOthers W (x0.setCells g (a * 128) (u8s o))) := KP.out.trans (KeepsOthers.setCells _ _ _)
        have KG2 : Hid (Blk (x0.setCells g (a * 128) (u8s o)) g 68 (pcs (P.set a o)).toArray) := page_put KG.out HP.out HAL.out HO.out
        have KH2 : Hid (Blk (x0.setCells g (a * 128) (u8s o)) h 70 C) := KH.out.farCells NE.out.2.2.symm _ _
        have Gx1 : Hid (WT w.heap.size b g n h k (a : Nat) (x0.setCells g (a * 128) (u8s o))) := wt_cells Gx0.out NE.out.1 NE.out.2.1 NE.out.2.2.symm _ _
        refine hQc.out _ _ Gx1 (fun hHeld => ?_)
        clear hQc Qc hHeld Gx0 KG KH OG KP
        change wpAnyH _ _ _ _ _ _ _ _ (x0.setCells g (a * 128) (u8s o))
        generalize x0.setCells g (a * 128) (u8s o) = x1 at Gx1 KG2 KH2 OG2 KP2 ⊢
        have KG := KG2; have KH := KH2; have OG := OG2; have KP := KP2
        clear KG2 KH2 OG2 KP2
        try simp only [Act.put, List.setIfInBounds_toArray, List.set_cons_zero, List.set_cons_succ]
        refine wpAnyH_take (i := 25) (oi := { dst := some 41, op := _, type := _, pos := _, after := _, guard := _ }) (v := ?_) rfl (by kernel_rfl) (by kernel_rfl) (by kernel_rfl) (fun _ _ _ h => h) (Or.inl ⟨by kernel_rfl, ?_⟩) Gx1 ?_
        rotate_left
        · (intro w hSw; go_simp; try with_reducible rfl)
        try simp only [Act.put, List.setIfInBounds_toArray, List.set_cons_zero, List.set_cons_succ]
        refine wpAnyH_take (i := 26) (oi := { dst := some 42, op := _, type := _, pos := _, after := _, guard := _ }) (v := ?_) rfl (by kernel_rfl) (by kernel_rfl) (by kernel_rfl) (fun _ _ _ h => h) (Or.inl ⟨by kernel_rfl, ?_⟩) Gx1 ?_
        rotate_left
        · (intro w hSw; go_simp; try with_reducible rfl)
        try simp only [Act.put, List.setIfInBounds_toArray, List.set_cons_zero, List.set_cons_succ]
        refine wpAnyH_ready (rs := [27]) (by kernel_rfl) (by simp) ?_
        refine (AllReadyH.cons (o := { dst := none, op := _, type := _, pos := _, after := _, guard := _ }) rfl (fun Qc hQc => ?_) AllReadyH.nil)
        rw [if_pos (by rfl)]
        refine wp_store_mid 68 (.tmp 42) (.tmp 39) rfl h (k * 129 + 1) (u8s p).toArray rfl rfl (row_there KH.out HT.out HU.out HK.out HPL.out) PI2.out (u8s_all1 _) ?_
        have OG2 : Hid (OnlyS (fun j => j = g ∨ j = h) W (x1.setCells h (k * 129 + 1) (u8s p))) := OnlyS.setCells _ OG.out (.inl (.inr rfl)) _
        have KP2 : Hid (KeepsOthers W (x1.setCells h (k * 129 + 1) (u8s p))) := KP.out.trans (KeepsOthers.setCells _ _ _)
        obtain ⟨C2, kh2, hs2, ht2⟩ := row_put KH.out HT.out HS.out HU.out HUL.out HK.out HPL.out
        have KG2 : Hid (Blk (x1.setCells h (k * 129 + 1) (u8s p)) g 68 (pcs (P.set a o)).toArray) := KG.out.farCells NE.out.2.2 _ _
        have KH2 := hid kh2
        have HS2 : Hid (C2.size = c * 129) := hs2.trans HCS.out
        have HT2 := hid ht2
        have Gx2 : Hid (WT w.heap.size b g n h k (a : Nat) (x1.setCells h (k * 129 + 1) (u8s p))) := wt_put Gx1.out NE2.out.1 NE2.out.2 _
        refine hQc.out _ _ Gx2 (fun hHeld => ?_)
        clear hQc Qc hHeld Gx1 KG KH OG KP kh2 hs2 ht2
        change wpAnyH _ _ _ _ _ _ _ _ (x1.setCells h (k * 129 + 1) (u8s p))
        generalize x1.setCells h (k * 129 + 1) (u8s p) = x2 at Gx2 KG2 KH2 OG2 KP2 ⊢
        have KG := KG2; have KH := KH2; have OG := OG2; have KP := KP2
        clear KG2 KH2 OG2 KP2
        try simp only [Act.put, List.setIfInBounds_toArray, List.set_cons_zero, List.set_cons_succ]
        refine wpAnyH_done (by kernel_rfl) ?_ _
        try simp only [Act.put, List.setIfInBounds_toArray, List.set_cons_zero, List.set_cons_succ]
        exact ⟨C2, KG.out, KH.out, HS2.out, HT2.out, OG.out, KP.out⟩
      ·
        rw [if_pos (by rfl)]
        refine wp_load_mid 68 (.tmp 38) rfl g (a * 128) rfl (u8s p) _ (page_at KG.out HP.out HAL.out HPP.out) Try.underlying68 rfl PI.out ?_
        refine hQc.out _ _ Gx0 (fun hHeld => ?_)
        clear hQc Qc
        try simp only [Act.put, List.setIfInBounds_toArray, List.set_cons_zero, List.set_cons_succ]
        refine wpAnyH_ready (rs := [12]) (by kernel_rfl) (by simp) ?_
        refine (AllReadyH.cons (o := { dst := some 29, op := _, type := _, pos := _, after := _, guard := _ }) rfl (fun Qc hQc => ?_) AllReadyH.nil)
        rw [if_pos (by rfl)]
        refine wp_load_mid 68 (.tmp 28) rfl h (k * 129 + 1) rfl (u8s o) _ (row_range KH.out HT.out HU.out HK.out) Try.underlying68 rfl OI.out ?_
        refine hQc.out _ _ Gx0 (fun hHeld => ?_)
        clear hQc Qc
        try simp only [Act.put, List.setIfInBounds_toArray, List.set_cons_zero, List.set_cons_succ]
        refine wpAnyH_take (i := 23) (oi := { dst := some 40, op := _, type := _, pos := _, after := _, guard := _ }) (v := ?_) rfl (by kernel_rfl) (by kernel_rfl) (by kernel_rfl) (fun _ _ _ h => h) (Or.inl ⟨by kernel_rfl, ?_⟩) Gx0 ?_
        rotate_left
        · (intro w hSw; go_simp; try with_reducible rfl)
        try simp only [Act.put, List.setIfInBounds_toArray, List.set_cons_zero, List.set_cons_succ]
        refine wpAnyH_ready (rs := [24]) (by kernel_rfl) (by simp) ?_
        refine (AllReadyH.cons (o := { dst := none, op := _, type := _, pos := _, after := _, guard := _ }) rfl (fun Qc hQc => ?_) AllReadyH.nil)
        rw [if_pos (by rfl)]
        refine wp_store_mid 68 (.tmp 40) (.tmp 29) rfl g (a * 128) (u8s o).toArray rfl rfl (there_page KG.out HP.out HAL.out HO.out) OI2.out (u8s_all1 _) ?_
        have OG2 : Hid (OnlyS (fun j => j = g ∨ j = h) W (x0.setCells g (a * 128) (u8s o))) := OnlyS.setCells _ OG.out (.inl (.inl rfl)) _
        have KP2 : Hid (KeepsOthers W (x0.setCells g (a * 128) (u8s o))) := KP.out.trans (KeepsOthers.setCells _ _ _)
        have KG2 : Hid (Blk (x0.setCells g (a * 128) (u8s o)) g 68 (pcs (P.set a o)).toArray) := page_put KG.out HP.out HAL.out HO.out
        have KH2 : Hid (Blk (x0.setCells g (a * 128) (u8s o)) h 70 C) := KH.out.farCells NE.out.2.2.symm _ _
        have Gx3 : Hid (WT w.heap.size b g n h k (a : Nat) (x0.setCells g (a * 128) (u8s o))) := wt_cells Gx0.out NE.out.1 NE.out.2.1 NE.out.2.2.symm _ _
        refine hQc.out _ _ Gx3 (fun hHeld => ?_)
        clear hQc Qc hHeld Gx0 KG KH OG KP
        change wpAnyH _ _ _ _ _ _ _ _ (x0.setCells g (a * 128) (u8s o))
        generalize x0.setCells g (a * 128) (u8s o) = x3 at Gx3 KG2 KH2 OG2 KP2 ⊢
        have KG := KG2; have KH := KH2; have OG := OG2; have KP := KP2
        clear KG2 KH2 OG2 KP2
        try simp only [Act.put, List.setIfInBounds_toArray, List.set_cons_zero, List.set_cons_succ]
        refine wpAnyH_take (i := 25) (oi := { dst := some 41, op := _, type := _, pos := _, after := _, guard := _ }) (v := ?_) rfl (by kernel_rfl) (by kernel_rfl) (by kernel_rfl) (fun _ _ _ h => h) (Or.inl ⟨by kernel_rfl, ?_⟩) Gx3 ?_
        rotate_left
        · (intro w hSw; go_simp; try with_reducible rfl)
        try simp only [Act.put, List.setIfInBounds_toArray, List.set_cons_zero, List.set_cons_succ]
        refine wpAnyH_take (i := 26) (oi := { dst := some 42, op := _, type := _, pos := _, after := _, guard := _ }) (v := ?_) rfl (by kernel_rfl) (by kernel_rfl) (by kernel_rfl) (fun _ _ _ h => h) (Or.inl ⟨by kernel_rfl, ?_⟩) Gx3 ?_
        rotate_left
        · (intro w hSw; go_simp; try with_reducible rfl)
        try simp only [Act.put, List.setIfInBounds_toArray, List.set_cons_zero, List.set_cons_succ]
        refine wpAnyH_ready (rs := [27]) (by kernel_rfl) (by simp) ?_
        refine (AllReadyH.cons (o := { dst := none, op := _, type := _, pos := _, after := _, guard := _ }) rfl (fun Qc hQc => ?_) AllReadyH.nil)
        rw [if_pos (by rfl)]
        refine wp_store_mid 68 (.tmp 42) (.tmp 39) rfl h (k * 129 + 1) (u8s p).toArray rfl rfl (row_there KH.out HT.out HU.out HK.out HPL.out) PI2.out (u8s_all1 _) ?_
        have OG2 : Hid (OnlyS (fun j => j = g ∨ j = h) W (x3.setCells h (k * 129 + 1) (u8s p))) := OnlyS.setCells _ OG.out (.inl (.inr rfl)) _
        have KP2 : Hid (KeepsOthers W (x3.setCells h (k * 129 + 1) (u8s p))) := KP.out.trans (KeepsOthers.setCells _ _ _)
        obtain ⟨C2, kh2, hs2, ht2⟩ := row_put KH.out HT.out HS.out HU.out HUL.out HK.out HPL.out
        have KG2 : Hid (Blk (x3.setCells h (k * 129 + 1) (u8s p)) g 68 (pcs (P.set a o)).toArray) := KG.out.farCells NE.out.2.2 _ _
        have KH2 := hid kh2
        have HS2 : Hid (C2.size = c * 129) := hs2.trans HCS.out
        have HT2 := hid ht2
        have Gx4 : Hid (WT w.heap.size b g n h k (a : Nat) (x3.setCells h (k * 129 + 1) (u8s p))) := wt_put Gx3.out NE2.out.1 NE2.out.2 _
        refine hQc.out _ _ Gx4 (fun hHeld => ?_)
        clear hQc Qc hHeld Gx3 KG KH OG KP kh2 hs2 ht2
        change wpAnyH _ _ _ _ _ _ _ _ (x3.setCells h (k * 129 + 1) (u8s p))
        generalize x3.setCells h (k * 129 + 1) (u8s p) = x4 at Gx4 KG2 KH2 OG2 KP2 ⊢
        have KG := KG2; have KH := KH2; have OG := OG2; have KP := KP2
        clear KG2 KH2 OG2 KP2
        try simp only [Act.put, List.setIfInBounds_toArray, List.set_cons_zero, List.set_cons_succ]
        refine wpAnyH_done (by kernel_rfl) ?_ _
        try simp only [Act.put, List.setIfInBounds_toArray, List.set_cons_zero, List.set_cons_succ]
        exact ⟨C2, KG.out, KH.out, HS2.out, HT2.out, OG.out, KP.out⟩

    · rintro a' w' ⟨C2, kg2, kh2, hs2, ht2, og2, kp2⟩
      refine ⟨kp2, ⟨og2.size, fun hl => og2.block _ hl (fun e => e.elim LBX.out.1 LBX.out.2), fun h' hA C' hC' => ?_⟩, ⟨?_, ?_, ?_, ?_, ?_⟩⟩
      · injection hA with hA
        have e : h = h' := congrArg Addr.block hA
        subst e
        exact ⟨C2, kh2, by rw [hs2, (hC'.inj KH.out).2, HCS.out]⟩
      · exact KX.out.same (og2.block _ KX.out.lt (fun e => e.elim NE.out.1 NE2.out.1))
      · exact KB.out.same (og2.block _ KB.out.lt (fun e => e.elim NE.out.2.1 NE2.out.2))
      · rw [HSN.out, HSW.out]; exact kg2
      · rw [HSN.out, HSW.out]
        have hq2 : QOk n (U.set k (a, p)) := by
          have := (sw_ok (S := (P, U)) HP.out HU.out HPN.out k).2.1
          rw [HSW.out] at this
          exact this
        refine ⟨by rw [wcs_len hq2, List.length_set, HUL.out, Nat.mul_comm], .inr ⟨h, c, C2, rfl, Nat.zero_le _, kh2, HNC.out, HCM.out, hs2, ht2⟩⟩
      · exact ON.out.trans (og2.mono (fun j _ hj => by rcases hj with rfl | rfl; exact R2'.out; exact R3'.out))
  case done =>
    rintro D' ys W hD hys hI hK
    have hkb := hI.kb; have hkg := hI.kg; have hkw := hI.kw; have hos := hI.os
    rw [hys] at hkg hkw
    have KB := hid hkb; have KG := hid hkg; have KW := hid hkw; have ON := hid hos; have HK := hid hK
    have HD : Hid (w2.heap.size ≤ D') := hD
    clear hI hkb hkg hkw hos hK hys hD
    go_wp2
    refine ⟨by simp, .inl ⟨_, _, rfl, run_takeDeferred HK.out, ?_⟩⟩
    have hg := grownBy_putObj' W D' (.deferred none)
    have hr : ∀ r, some D' = some r → ∃ o : Obj, W.heap[r]? = some o ∧ o.isCells = false := fun r e => by cases e; exact ⟨_, HK.out, rfl⟩
    obtain rfl := HW0.out
    exact ⟨_, results_none rfl _ _ _, rfl, KB.out.own hg hr, KG.out.own hg hr, own_own KW.out hg hr, ON.out.grown hg (fun k e => by cases e; right; have := HD.out; rw [S2.out] at this; omega)⟩
  case stop =>
    rintro D c pre W _ _ h _
    exact h.elim
end Go.Proofs.Ythfkooancgkjaaa
/-
  What this file is for: a list of numbers that is read; a write laid in a block of its own; some first bytes copied into a page; what stays while a restart goes over the writes. Nothing of the program is walked here.
-/
namespace Go.Proofs.Ythfkooancgkjaaa
open Go.ChangeShapes Go.WideShapes Go.ChangeAt Go.RowKit
set_option linter.unusedVariables false
set_option maxRecDepth 20000

/-- the slice at A holds the numbers l -/
def Ip (w : World) (A : Option Addr) (l : List Int) : Prop := 0 < l.length → ∃ ad, A = some ad ∧ ∀ j, j < l.length → w.cell? (ad.add j) = some (.int .i64 (l[j]?.getD 0))
theorem Ip.only {w w' : World} {A : Option Addr} {l : List Int} {R : Nat → Prop} (h : Ip w A l) (ho : OnlyS R w w') (hA : 0 < l.length → ∀ a, A = some a → ¬ R a.block) : Ip w' A l := fun hx => by
  obtain ⟨ad, e, hc⟩ := h hx
  have hlt := block_lt_of_cell (hc 0 hx)
  rw [add_block] at hlt
  exact ⟨ad, e, fun j hj => (World.cell?_of_block (w := w) (ho.block _ (by rw [add_block]; exact hlt) (by rw [add_block]; exact hA hx _ e))).trans (hc j hj)⟩
theorem Ip.below {w w' : World} {A : Option Addr} {l : List Int} (h : Ip w A l) (hb : Below w.heap.size w w') : Ip w' A l := fun hx => by
  obtain ⟨ad, e, hc⟩ := h hx
  exact ⟨ad, e, fun j hj => (hb.cell (block_lt_of_cell (hc j hj))).trans (hc j hj)⟩
theorem Ip.nil (w : World) (A : Option Addr) : Ip w A [] := fun h => by simp at h
theorem load_at {P : Program} {ops : Array Oper} {rest : List Oper} {o : Oper} {a : Act} {w : World} {Q : Exit → Act → World → Prop} (hw : Region.wanted o (yielded ops a.tmps) = true) (ty : TypeId) (x : Operand) (ho : o.op = .load ty x)
    (b off : Nat) (hx : a.eval x = .pointer (some ⟨b, off, none⟩)) (cs : List Value) (d : TypeDesc) (hc : w.rangeAt b off cs) (hu : P.underlying ty = some d) (hd : d.isRow = true) (hi : (P.info? ty).map (·.size) = some cs.length)
    (A : Array Value) (hA : cs.toArray = A) (h : wpList P ops Q rest (a.put o.dst (.agg A)) w) : wpList P ops Q (o :: rest) a w := by
  subst hA
  unfold wpList
  rw [if_pos hw]
  exact Or.inl (wp_load_mid ty x ho b off hx cs d hc hu hd hi h)
theorem zero_write : ∃ Z : Array Value, Z.size = 129 ∧ (¬ Z = #[]) ∧ ∀ w : World, Sem.run Try.prog (zeroValue 70) w = Result.ok (.agg Z) w := by
  refine ⟨(Value.int .i64 0 :: u8s zpg).toArray, rfl, ?_, fun w => by kernel_rfl⟩
  intro h
  have := congrArg Array.size h
  simp at this
theorem only_new {R : Nat → Prop} {w wr : World} (h : OnlyS R w wr) (o : Obj) (cs : Array Value) : OnlyS R w ((wr.alloc o).setRow wr.heap.size cs) :=
  ⟨h.os, h.tape, h.output, by have := h.size; simp; omega, fun k hk hn => ((setRow_other _ _ _ _ (by have := h.size; omega)).trans (Below.heap_alloc _ _ _ (Nat.lt_of_lt_of_le hk h.size))).trans (h.block k hk hn)⟩
/-- a write as it stands in its row -/
theorem row_whole {w : World} {h m k n : Nat} {C : Array Value} {U : List Wr} {q : Wr} (hC : Blk w h 70 C) (ht : C.toList.take (m * 129) = wcs U) (hU : QOk n U) (hk : U[k]? = some q) : w.rangeAt h (k * 129) (wc1 q) := fun j v hv => by
  cases j with
  | zero => rw [Nat.add_zero, row_at hC ht hU hk]; exact hv
  | succ j => rw [← row_range hC ht hU hk j v hv]; congr 2; omega
theorem wr_info {q : Wr} (h : q.2.length = 128) : (Try.prog.info? 70).map (·.size) = some (wc1 q).length := by rw [wc1_len h]; kernel_rfl
theorem wr_info2 {q : Wr} (h : q.2.length = 128) : (Try.prog.info? 70).map (·.size) = some (wc1 q).toArray.size := by rw [List.size_toArray]; exact wr_info h
theorem wr_all1 (q : Wr) : (wc1 q).toArray.all (·.oneCell') = true := all_oneCell_toArray (wc1_one q)
theorem wpList_copy_page {ops : Array Oper} {rest : List Oper} {o : Oper} {a : Act} {w : World} {Q : Exit → Act → World → Prop} (hgd : o.guard = none) (d s : Operand)
    (ho : o.op = .call { callee := .builtin .copy, args := #[d, s], argTypes := #[23, 23] }) (g i t hw : Nat) (hd : a.eval d = .slice (some ⟨g, i * 128, none⟩) t 128) (hs : a.eval s = .slice (some ⟨hw, 1, none⟩) 128 128)
    (P : List (List Int)) (q : Wr) (hg : Blk w g 68 (pcs P).toArray) (hP : PgOk P) (hi : i < P.length) (hh : Blk w hw 70 (wc1 q).toArray) (hq : q.2.length = 128) (ht : t ≤ 128)
    (h : ∀ w', Blk w' g 68 (pcs (P.set i (mx (P[i]?.getD []) q.2 t))).toArray → (∀ k, k ≠ g → w'.heap[k]? = w.heap[k]?) → OnlyS (· = g) w w' → wpList Try.prog ops Q rest (a.put o.dst (goInt t)) w') : wpList Try.prog ops Q (o :: rest) a w := by
  refine wpList_plain hgd fun K hK => ?_
  have hl : (u8s (q.2.take t)).length = t := by rw [u8s_length, List.length_take, hq]; omega
  have hpl := pcs_len hP
  have hrun := run_copy_cells (P := Try.prog) w 23 23 o.type 5 g (i * 128) t 128 ⟨hw, 1, none⟩ 128 128 (u8s (q.2.take t)) Try.underlying23 (by kernel_rfl) (by rw [hl]; exact (Nat.min_eq_right ht).symm)
    (fun j v hv => by
      have hj : j < t := by
        rcases Nat.lt_or_ge j t with h1 | h1
        · exact h1
        · rw [List.getElem?_eq_none (by rw [hl]; exact h1)] at hv; cases hv
      rw [Addr.add_mid, hh.cell, List.getElem?_toArray, ← hv, Nat.add_comm 1 j]
      unfold wc1 u8s
      rw [List.getElem?_cons_succ, List.getElem?_map, List.getElem?_map, List.getElem?_take, if_pos hj])
    (fun j hj => by
      rw [hl] at hj
      rw [hg.cell, List.getElem?_toArray, Nat.mul_comm i 128, pcs_at hP hi j (by omega), u8s_get _ _ (by rw [hP.at hi]; omega)]; rfl)
    (fun j _ => hg.frozen _) (u8s_one _)
  rw [hl] at hrun
  unfold Oper.wp
  simp only [execOp, ho, resolve, invoke, builtin, hd, hs, hrun, Result.andThen_ok, Sem.run_bind, Sem.run_pure, List.map_toArray, List.map_cons, List.map_nil]
  refine hK _ _ (h _ ?_ (fun k hk => other_cells _ _ _ _ hk) (OnlyS.setCells (S := fun x => x = g) _ (OnlyS.refl _ _) (.inl rfl) _))
  have := hg.putCells (u8s (q.2.take t)) (i * 128)
  rwa [putRow_whole (by rw [hl, hpl]; omega), Nat.mul_comm i 128, pcs_mx hP hi hq ht, ← Nat.mul_comm i 128] at this
end Go.Proofs.Ythfkooancgkjaaa
