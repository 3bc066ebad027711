/-
  What this file is for: rounds of a range over a function; the iterator over a chain's versions, from the last one on.
-/
import Derived.Test.YtjhaamffgkialaaDoorMC6
import Derived.RangeFuncNested
import Derived.RangeFuncBound
import Derived.RangeFuncCalls
import Derived.RangeFuncLeaves
import Derived.Shelf.Abstract
import Derived.Shelf.RegionOpen
import Derived.OwnWalkIn
import Derived.TacticsInMore
import Derived.LoopNIn
import Derived.LoopIn
import Derived.RangeFuncFrom
import Derived.OrdersIn
import Derived.OrdersHeld
set_option linter.unusedSimpArgs false
set_option linter.unusedVariables false
namespace Go.Proofs.YtjhaamffgkialaaDoor
open Go.ChangeShapes Go.WideShapes Go.ChangeAt Go.RowKit Go.Shelf
set_option linter.unusedVariables false
set_option linter.unusedSimpArgs false
set_option maxRecDepth 20000
attribute [local go_sem] Oper.semAt_some

/-- these blocks lie as they lay -/
def KpV (S : Nat → Prop) (W W' : World) : Prop := W.heap.size ≤ W'.heap.size ∧ ∀ g, S g → g < W.heap.size → W'.heap[g]? = W.heap[g]?
theorem KpV.refl (S : Nat → Prop) (W : World) : KpV S W W := ⟨Nat.le_refl _, fun _ _ _ => rfl⟩
theorem KpV.t {S : Nat → Prop} {A B C : World} (h : KpV S A B) (k : KpV S B C) : KpV S A C := ⟨Nat.le_trans h.1 k.1, fun g hs hl => (k.2 g hs (Nat.lt_of_lt_of_le hl h.1)).trans (h.2 g hs hl)⟩
theorem KpV.b {S : Nat → Prop} {w : World} (hS : ∀ g, S g → g < w.heap.size) (W : World) (l : Nat) (o o' : Obj) (hl : w.heap.size ≤ l) (h : W.heap[l]? = some o) (_ : o.isCells = false) (_ : o.isWalk = false) : KpV S W (W.putObj l o') :=
  ⟨by simp [World.putObj], fun g hg _ => World.putObj_heap_other (by have := hS g hg; omega)⟩
theorem KpV.below {S : Nat → Prop} {W W' : World} (h : Below W.heap.size W W') : KpV S W W' := ⟨h.size, fun g _ hl => h.block g hl⟩
theorem KpV.only {S T : Nat → Prop} {W W' : World} (h : OnlyS T W W') (hd : ∀ g, S g → ¬ T g) : KpV S W W' := ⟨h.size, fun g hg hl => h.block g hl (hd g hg)⟩
/-- a block of cells lies as it lay, whatever else is turned -/
theorem Blk.ownV {W W' : World} {g : Nat} {t : TypeId} {cs : Array Value} {row : Option Nat} (h : Blk W g t cs) (hg : W.grownBy W' row) (hr : ∀ r, row = some r → ∃ o : Obj, W.heap[r]? = some o ∧ o.isCells = false) : Blk W' g t cs :=
  h.same (hg.block g h.lt (fun e => by
    obtain ⟨o, ho, hc⟩ := hr g e.symm
    unfold Blk at h
    rw [h] at ho
    injection ho with ho
    subst ho
    cases hc))
/-- the numbers from m - 1 on downwards, so many -/
def downV (m j : Nat) : List Nat := (List.range j).map fun t => m - 1 - t
theorem downV_succ (m j : Nat) : downV m (j + 1) = downV m j ++ [m - 1 - j] := by simp [downV, List.range_succ]
theorem downV_length (m j : Nat) : (downV m j).length = j := by simp [downV]
def QrV (R : Act → World → Prop) : Exit → Act → World → Prop
  | .normal, a, w => R a w
  | _, _, _ => False
section
variable {P : Program} {R : Act → World → Prop} {l n : Nat}
theorem operV_ {o : Oper} {a : Act} {w : World} {K K' : Act → World → Prop} (hd : ∀ c, o.op ≠ .defer c) (hK : ∀ a w, K a w → K' a w) (h : o.wp P a w K (QrV R)) : o.wpIn (Fence.wide.inRound l) n P a w K' (QrV R) := by
  unfold Oper.wpIn
  refine ⟨fun _ _ => trivial, ?_⟩
  rw [Oper.semAt_plain _ _ _ hd]
  unfold Oper.wp at h
  generalize (execOp a.eval o).run P w = r at h
  cases r with
  | ok x w' =>
    cases x <;> simp only [Oper.upon, Oper.uponIn] at h ⊢
    case value v => exact hK _ _ h
    case skip => exact hK _ _ h
    case defer d => exact hK _ _ h
    case enter f args =>
      refine ⟨fun hs => by simp [Fence.inRound, Fence.wide] at hs, CallsIn.inRound l (callsIn_wide.2 (h.mono ?_))⟩
      intro e w'' he
      cases e with
      | returned v => exact hK _ _ he
      | panicked c => exact he
      | outgrown => exact he
    case row row args =>
      refine ⟨fun hs => by simp [Fence.inRound, Fence.wide] at hs, ?_⟩
      intro c cs _
      obtain ⟨v, w'', hr, hs⟩ := h c cs
      exact ⟨v, w'', hK _ _ hr, stepsIn_wide.2 hs⟩
  | halt x w' =>
    cases x <;> simp only [Oper.upon, Oper.uponIn] at h ⊢
    case panic v => exact h
theorem listV_ {ops : Array Oper} : ∀ (L : List Oper) (a : Act) (w : World), (∀ o ∈ L, ∀ c, o.op ≠ .defer c) → wpList P ops (QrV R) L a w → wpListIn (Fence.wide.inRound l) n P ops (QrV R) L a w
  | [], a, w, _, h => h
  | o :: rest, a, w, hd, h => by
    have hd' : ∀ o ∈ rest, ∀ c, o.op ≠ .defer c := fun o ho => hd o (List.mem_cons_of_mem _ ho)
    unfold wpList at h
    unfold wpListIn
    by_cases hw : Region.wanted o (yielded ops a.tmps) = true
    · rw [if_pos hw] at h ⊢
      rcases h with h | ⟨_, a0, w0, h⟩
      · exact operV_ (hd o (by simp)) (fun a w h => listV_ rest a w hd' h) h
      · exact h.elim
    · rw [if_neg hw] at h ⊢
      exact ⟨fun _ _ => trivial, listV_ rest _ w hd' h⟩
theorem plainV_ {id : Nat} {L : List Oper} {a : Act} {w : World} (hd : (L.all fun o => match o.op with | .defer _ => false | _ => true) = true) (h : wpList P L.toArray (QrV R) L a w) : (Code.region id L.toArray false).wpIn (Fence.wide.inRound l) n P (QrV R) a w :=
  wpIn_region_lit (listV_ L a w (fun o ho c hc => by
    rw [List.all_eq_true] at hd
    have := hd o ho
    rw [hc] at this
    cases this) h)
theorem wpInV_cut {F : Fence} {c : Code} {Q : Exit → Act → World → Prop} {a : Act} {w : World} (R : Act → World → Prop) (h : c.wpIn F n P (QrV R) a w) (hR : ∀ a w, R a w → Q .normal a w) : c.wpIn F n P Q a w :=
  wpIn_mono h fun e a w hq => by cases e <;> first | exact hR _ _ hq | exact hq.elim
end

section
variable {P : Program} {R : Act → World → Prop} {l n : Nat}
theorem anyV_ {md : Region.Mode} {ops : Array Oper} (hd : ∀ (i : Nat) o, ops[i]? = some o → ∀ c, o.op ≠ .defer c) : ∀ (fuel : Nat) (listed : Array Bool) (a : Act) (w : World), wpAny P md ops (QrV R) fuel listed a w → wpAnyIn (Fence.wide.inRound l) n P md ops (QrV R) fuel listed a w := by
  intro fuel
  induction fuel with
  | zero => intro listed a w h; exact h
  | succ fuel ih =>
    intro listed a w h
    refine ⟨h.1, fun i hi => ?_⟩
    have h1 := h.2 i hi
    unfold wpOp at h1
    unfold wpOpIn
    cases ho : ops[i]? with
    | none => rw [ho] at h1; exact ih _ _ _ h1
    | some o =>
      rw [ho] at h1
      simp only at h1 ⊢
      by_cases hw : Region.wanted o (yielded ops a.tmps) = true
      · rw [if_pos hw] at h1 ⊢
        rcases h1 with h1 | ⟨_, a0, w0, h1⟩
        · exact operV_ (hd i o ho) (fun a w h => ih _ _ _ h) h1
        · exact h1.elim
      · rw [if_neg hw] at h1 ⊢
        exact ⟨fun _ _ => trivial, ih _ _ _ h1⟩
theorem regionV_ {id : Nat} {ops : Array Oper} {S : World → Prop} {a : Act} {w : World} (hm : P.follows .mixedOrders = true) (hd : (ops.toList.all fun o => match o.op with | .defer _ => false | _ => true) = true)
    (h : wpAnyH P .any ops (QrV R) S ops.size (Array.replicate ops.size false) a { w with drawn := w.drawn + 1 }) : (Code.region id ops true).wpIn (Fence.wide.inRound l) n P (QrV R) a w :=
  wpIn_region_any hm (anyV_ (fun i o ho c hc => by
    rw [List.all_eq_true] at hd
    have := hd o (by rw [← Array.getElem?_toList] at ho; exact List.mem_of_getElem? ho)
    rw [hc] at this
    cases this) _ _ _ _ (wpAny_of_held _ _ _ _ h))
theorem seqV_ {id : Nat} {L : List Oper} {y : Code} {Q : Exit → Act → World → Prop} {a : Act} {w : World} (hd : (L.all fun o => match o.op with | .defer _ => false | _ => true) = true)
    (h : wpList P L.toArray (QrV fun a w => y.wpIn (Fence.wide.inRound l) n P Q a w) L a w) : (Code.seq (.region id L.toArray false) y).wpIn (Fence.wide.inRound l) n P Q a w :=
  wpIn_seq (wpInV_cut _ (plainV_ hd h) (fun _ _ h => h))
end
theorem keepsV_ {B : Nat} {W W' : World} (h : Below W.heap.size W W') : KeepsFrom B W W' := ⟨h.size, fun k o _ hk _ => (h.block k (by
  rcases Nat.lt_or_ge k W.heap.size with h1 | h1
  · exact h1
  · rw [Array.getElem?_eq_none h1] at hk; cases hk)).trans hk⟩
theorem execV_load {P : Program} {o : Oper} {a : Act} {w : World} (ty : TypeId) (x : Operand) (p v : Value) (ho : o.op = .load ty x) (hx : a.eval x = p) (hr : (Instr.loadAt ty p).run P w = .ok v w) : (execOp a.eval o).run P w = .ok (.value v) w := by
  unfold execOp
  simp only [ho, hx, Sem.run_bind, hr, Result.andThen_ok]
  rfl
theorem giV_load {n : Nat} {ops : Array Oper} {rest : List Oper} {o : Oper} {a : Act} {w : World} {Q : Exit → Act → World → Prop} (hgd : o.guard = none) (ty : TypeId) (x : Operand) (ho : o.op = .load ty x)
    (v p : Value) (hx : a.eval x = p) (hr : (Instr.loadAt ty p).run Tryd.prog w = .ok v w) (h : wpListIn Fence.wide n Tryd.prog ops Q rest (a.put o.dst v) w) : wpListIn Fence.wide n Tryd.prog ops Q (o :: rest) a w := by
  refine wpListIn_plain hgd (fun K hK => ?_)
  unfold Oper.wpIn
  refine ⟨fun _ _ => trivial, ?_⟩
  rw [Oper.semAt_plain _ _ _ (fun c hc => by rw [ho] at hc; cases hc), execV_load ty x p v ho hx hr]
  exact hK _ _ h
def ItW (bs : Nat) (A : Option Addr) (m : Nat) (g : Nat) : Prop := g = bs ∨ (0 < m ∧ ∃ a, A = some a ∧ g = a.block)
def rAt (R : List Value) (i : Nat) : Value := R[i]?.getD (.int .i64 0)
/-- what the iterator reads: its box, and the versions -/
structure ItV (bs : Nat) (A : Option Addr) (m c : Nat) (R : List Value) (L : List Vs) (w : World) : Prop where
  kb : Blk w bs 83 #[.slice A m c]
  max : m ≤ 9223372036854775807
  ok : ∀ i, (vAt L i).Ok
  at' : 0 < m → ∃ b o, A = some ⟨b, o, none⟩ ∧ b < w.heap.size ∧ ∀ i, i < m → w.rangeAt b (o + i * 67) (vcs (rAt R i) (vAt L i))
theorem ItV.kp {bs m c : Nat} {A : Option Addr} {R : List Value} {L : List Vs} {W W' : World} (h : ItV bs A m c R L W) (hk : KpV (ItW bs A m) W W') : ItV bs A m c R L W' := by
  refine ⟨h.kb.same (hk.2 bs (.inl rfl) h.kb.lt), h.max, h.ok, fun hn => ?_⟩
  obtain ⟨b, o, e, hlt, hat⟩ := h.at' hn
  exact ⟨b, o, e, Nat.lt_of_lt_of_le hlt hk.1, fun i hi => crng_same (hk.2 b (.inr ⟨hn, _, e, rfl⟩) hlt) (hat i hi)⟩
theorem ItV.below {bs m c : Nat} {A : Option Addr} {R : List Value} {L : List Vs} {W W' : World} (h : ItV bs A m c R L W) (hb : Below W.heap.size W W') : ItV bs A m c R L W' := h.kp (KpV.below hb)
def encV (R : List Value) (L : List Vs) {m : Nat} (x : Fin m) : Array Value := #[.int .i64 (x.val : Int), .agg (vcs (rAt R x.val) (vAt L x.val)).toArray]
set_option maxHeartbeats 4000000 in
theorem vback_walk {m : Nat} (hm : m < 1000000) (l bs : Nat) (A : Option Addr) (c : Nat) (R : List Value) (L : List Vs) (J Jx : List (Fin m) → World → Prop) (W : World)
    (hJ : AbidesFrom W.heap.size J)
    (hY : ∀ pre x W1, J pre W1 → pre.length < m → YieldAt Fence.wide 0 Tryd.prog l (encV R L x) W1 fun e W' =>
      (e = .returned (.bool true) ∧ J (pre ++ [x]) W' ∧ KpV (ItW bs A m) W1 W') ∨ (e = .returned (.bool false) ∧ Jx (pre ++ [x]) W'))
    (hc : ItV bs A m c R L W) (h0 : J [] W) :
    CallsIn Fence.wide 1 Tryd.prog 122 #[.func (.yield l) #[] #[], .pointer (some ⟨bs, 0, none⟩)] W fun e W' => (∃ v, e = .returned v) ∧
      ((∃ ys : List (Fin m), ys.map (·.val) = downV m m ∧ J ys W') ∨ (∃ pre : List (Fin m), pre.map (·.val) = downV m pre.length ∧ Jx pre W')) := by
  have HC := hid hc; have HY := hid hY; have HJ := hid hJ
  have H0 := hid h0
  clear hY hJ h0
  refine callsIn_of_wp Tryd.func122 rfl trivial ?_ rfl
  simp only [Tryd.ntmps122, List.size_toArray, List.length_cons, List.length_nil, Nat.reduceAdd, Nat.reduceSub, Array.replicate_succ, Array.replicate_zero, List.push_toArray, List.append_toArray, List.nil_append, List.cons_append]
  have s0 : W.cell? ⟨bs, 0, none⟩ = some (.slice A m c) := hc.kb.cell 0
  have hm2 : (m : Int) < 1000000 := by omega
  have HM := hid hm
  clear hm
  clear hc
  gi_wp2
  clear s0
  gi_loopw [3] (fun i wr => ∃ r : Nat, r ≤ m ∧ i = .int .i64 ((r : Int) - 1) ∧ Hid (ItV bs A m c R L wr) ∧ ∃ pre : List (Fin m), Hid (pre.map (·.val) = downV m (m - r)) ∧ Hid (J pre wr)) (fun i _ => (intOf i + 1).toNat)
  case atStart => exact ⟨m, Nat.le_refl _, rfl, HC.out, [], by show _ = _; simp [downV], H0.out⟩
  case round =>
    obtain ⟨r, hr, rfl, HCR, pre, HP, HJR⟩ := hrel
    cases r with
    | zero =>
      have e0 : ((0 : Nat) : Int) - 1 = -1 := by simp
      rw [e0]
      gi_wp2
      go_end0
      exact ⟨⟨_, rfl⟩, .inl ⟨pre, by have := HP.out; rwa [Nat.sub_zero] at this, HJR.out⟩⟩
    | succ k =>
      have e0 : ((k + 1 : Nat) : Int) - 1 = (k : Int) := by omega
      rw [e0]
      obtain ⟨b, oo, rfl, _, hat⟩ := HCR.out.at' (by omega)
      have hrng := hat k (by omega)
      have hmax := HCR.out.max
      have s0 : wr.cell? ⟨bs, 0, none⟩ = some (.slice (some ⟨b, oo, none⟩) m c) := HCR.out.kb.cell 0
      have ld1 : (Instr.loadAt 75 (.pointer (some ⟨b, oo + k * 67, none⟩))).run Tryd.prog wr = .ok (.agg (vcs (rAt R k) (vAt L k)).toArray) wr := run_loadAt_mid wr b (oo + k * 67) 75 (vcs (rAt R k) (vAt L k)) _ hrng Tryd.underlying75 rfl (vlenC _ (HCR.out.ok k))
      have HL : Hid (pre.length = m - (k + 1)) := by
        have := HP.out
        have := congrArg List.length this
        rw [List.length_map, downV_length] at this
        exact this
      obtain ⟨fn, tmps, assign, body, hy, hR⟩ := HY.out pre (⟨k, by omega⟩ : Fin m) wr HJR.out (by rw [HL.out]; omega)
      have hy2 : (Instr.yield l #[.int .i64 (k : Int), .agg (vcs (rAt R k) (vAt L k)).toArray]).run Tryd.prog wr = .ok (.round l fn tmps assign body) wr := hy
      have HR := hid hR
      have hk : k < m := by omega
      clear hy hR hrng hat
      generalize Value.agg (vcs (rAt R k) (vAt L k)).toArray = vs at ld1 hy2
      gi_wp2_with (refine giV_load rfl 75 (.tmp 15) rfl vs _ rfl ld1 ?_)
      refine HR.out.mono ?_
      rintro e W3 h3
      clear s0 hy2 ld1
      have KK : Hid (m - (k + 1) + 1 = m - k ∧ m - 1 - (m - (k + 1)) = k) := by show _ ∧ _; omega
      rcases h3 with ⟨rfl, hj3, hk3⟩ | ⟨rfl, hj3⟩
      · have HJ3 := hid hj3; have HK3 := hid hk3; clear hj3 hk3
        gi_wp2
        go_roundw
        case rel =>
          refine ⟨k, by omega, rfl, HCR.out.kp HK3.out, _, ?_, HJ3.out⟩
          show _ = _
          rw [List.map_append, HP.out, ← KK.out.1, downV_succ, KK.out.2]
          rfl
        case measure => simp [intOf]
      · have HJ3 := hid hj3; clear hj3
        gi_wp2
        refine bodyPost_ret (results_none rfl _ _ _) rfl ?_
        refine ⟨⟨_, rfl⟩, .inr ⟨_, ?_, HJ3.out⟩⟩
        rw [List.map_append, HP.out, List.length_append, List.length_singleton, HL.out]
        have e5 : m - (k + 1) + 1 = m - k := KK.out.1
        rw [downV_succ, KK.out.2]
        rfl
theorem vback_stops {m : Nat} (hm : m < 1000000) (bs : Nat) (A : Option Addr) (c : Nat) (R : List Value) (L : List Vs) (w : World) (hc : ItV bs A m c R L w) :
    SeqStopsK Fence.wide 1 Tryd.prog 122 #[.pointer (some ⟨bs, 0, none⟩)] (encV R L (m := m)) (KpV (ItW bs A m)) (fun ys => ys.map (·.val) = downV m m) (fun ys => ys.map (·.val) = downV m ys.length) m w :=
  fun l J Jx W hW hJ _ hY h0 => (vback_walk hm l bs A c R L J Jx W hJ hY (hc.below (hW.mono (Nat.le_refl _))) h0)
theorem vback_any (A : Option Addr) (n c : Nat) (w : World) :
    Calls Tryd.prog 86 #[.slice A n c] w fun e w' => e = .returned (.func (.func 122) #[] #[.pointer (some ⟨w.heap.size, 0, none⟩)]) ∧ w' = w.alloc (.cells #[.slice A n c] 83) := by
  go_enter Tryd.func86, Tryd.ntmps86
  go_wp2
  go_ret
  exact ⟨rfl, rfl⟩
end Go.Proofs.YtjhaamffgkialaaDoor
/-
  What is proved here: whether a chain is one, as the code tells it from the last version back.
-/
namespace Go.Proofs.YtjhaamffgkialaaDoor
open Go.ChangeShapes Go.WideShapes Go.ChangeAt Go.RowKit Go.Shelf
set_option linter.unusedVariables false
set_option linter.unusedSimpArgs false
set_option maxRecDepth 20000
attribute [local go_sem] Oper.semAt_some

theorem results_bool {fn : Func} {p : Tmp} (h : fn.results = #[.cell p 4]) (tmps : Array Value) (w : World) (g : Nat) (b : Bool) (hp : tmps.getD p undef = .pointer (some ⟨g, 0, none⟩)) (hg : w.cell? ⟨g, 0, none⟩ = some (.bool b)) : (results fn tmps).run Tryd.prog w = .ok (.bool b) w := by
  have hp' : tmps[p]?.getD undef = .pointer (some ⟨g, 0, none⟩) := by simpa using hp
  simp only [results, h]
  simp [hp', asAddr]
  have hu := Tryd.underlying4
  unfold loadVar
  go_simp
theorem zipV2 (T : Array Value) (a b : Nat) (u v : Value) : Array.foldl (fun t (x : Nat × Value) => t.setIfInBounds x.1 x.2) T (#[a, b].zip #[u, v]) = (T.setIfInBounds a u).setIfInBounds b v := by simp
/-- what stands in Check's loop -/
structure ChB (w : World) (A : Option Addr) (m c e3 : Nat) (W : World) : Prop where
  bl : Below w.heap.size w W
  k0 : Blk W w.heap.size 23 #[.slice A m c]
  k2 : Blk W (w.heap.size + 1 + 1) 4 #[.bool false]
/-- what is wanted of the version ahead -/
structure ChW (C : Vs → List Int) (L : List Vs) (res : Bool) (e3 n j : Nat) (ok : Prop) (W : World) (want : List Int) (most : Int) : Prop where
  k3 : Blk W e3 26 (u8s want).toArray
  hw : Hh want
  k4 : Blk W (e3 + 1) 3 #[.int .i64 most]
  lo : 0 ≤ most
  hi : most ≤ 2147483647
  cond : ok → bkF C L (n - j) want most = res
def ChI (C : Vs → List Int) (w : World) (A : Option Addr) (m c e3 : Nat) (L : List Vs) (res : Bool) (n : Nat) (pre : List (Fin n)) (W : World) : Prop :=
  ChB w A m c e3 W ∧ ∃ want most, ChW C L res e3 n pre.length (pre.map (·.val) = downV n pre.length) W want most
def ChX (w : World) (res : Bool) (n : Nat) (pre : List (Fin n)) (W : World) : Prop :=
  Below w.heap.size w W ∧ Blk W (w.heap.size + 1 + 1) 4 #[.bool false] ∧ (pre.map (·.val) = downV n pre.length → res = false)
theorem ChB.own {w : World} {A : Option Addr} {m c e3 B : Nat} {W W' : World} {row : Option Nat} (h : ChB w A m c e3 W) (hB : w.heap.size ≤ B) (hg : W.grownBy W' row) (hr : ∀ r, row = some r → B ≤ r ∧ ∃ o : Obj, W.heap[r]? = some o ∧ o.isCells = false) : ChB w A m c e3 W' :=
  ⟨h.bl.grown hg h.bl.size (fun k e => Nat.le_trans hB (hr k e).1), h.k0.ownV hg (fun r e => (hr r e).2), h.k2.ownV hg (fun r e => (hr r e).2)⟩
theorem ChI.own {C : Vs → List Int} {w : World} {A : Option Addr} {m c e3 : Nat} {L : List Vs} {res : Bool} {n B : Nat} (hB : w.heap.size ≤ B) : OwnFrom B (ChI C w A m c e3 L res n) := fun pre W W' row h hg hr => by
  obtain ⟨hb, want, most, h⟩ := h
  exact ⟨hb.own hB hg hr, want, most, h.k3.ownV hg (fun r e => (hr r e).2), h.hw, h.k4.ownV hg (fun r e => (hr r e).2), h.lo, h.hi, h.cond⟩
theorem ChX.own {w : World} {res : Bool} {n B : Nat} (hB : w.heap.size ≤ B) : OwnFrom B (ChX w res n) := fun pre W W' row h hg hr => by
  obtain ⟨h1, h2, h3⟩ := h
  exact ⟨h1.grown hg h1.size (fun k e => Nat.le_trans hB (hr k e).1), h2.ownV hg (fun r e => (hr r e).2), h3⟩
theorem ChB.below {w : World} {A : Option Addr} {m c e3 : Nat} {W W' : World} (h : ChB w A m c e3 W) (hb : Below W.heap.size W W') : ChB w A m c e3 W' :=
  ⟨h.bl.trans (hb.mono h.bl.size), h.k0.below hb, h.k2.below hb⟩
theorem ChI.below {C : Vs → List Int} {w : World} {A : Option Addr} {m c e3 : Nat} {L : List Vs} {res : Bool} {n : Nat} {pre : List (Fin n)} {W W' : World} (h : ChI C w A m c e3 L res n pre W) (hb : Below W.heap.size W W') : ChI C w A m c e3 L res n pre W' := by
  obtain ⟨h0, want, most, h⟩ := h
  exact ⟨h0.below hb, want, most, h.k3.below hb, h.hw, h.k4.below hb, h.lo, h.hi, h.cond⟩
def Tn (w : World) (e3 : Nat) (k : Nat) : Prop := k = w.heap.size + 1 + 1 ∨ k = e3 ∨ k = e3 + 1
theorem downV_next {n j : Nat} {pre : List (Fin n)} {x : Fin n} (hj : pre.length = j) (h : (pre ++ [x]).map (·.val) = downV n (pre ++ [x]).length) : pre.map (·.val) = downV n pre.length ∧ x.val = n - 1 - j := by
  rw [List.map_append, List.length_append, List.length_singleton, downV_succ] at h
  have := List.append_inj h (by rw [List.length_map, downV_length])
  refine ⟨this.1, ?_⟩
  have h2 := this.2
  simp only [List.map_cons, List.map_nil, List.cons.injEq, and_true] at h2
  rw [h2, hj]
theorem bkV_bad {C : Vs → List Int} {L : List Vs} {k : Nat} {want : List Int} {most : Int} (h : ¬ ((vAt L k).n = (k : Int) + 1 ∧ 1 ≤ (vAt L k).e ∧ (vAt L k).e ≤ most ∧ (vAt L k).v.length ≤ 64 ∧ C (vAt L k) = want)) : bkF C L (k + 1) want most = false := by
  unfold bkF; rw [if_neg h]
theorem bkV_good {C : Vs → List Int} {L : List Vs} {k : Nat} {want : List Int} {most : Int} (h : (vAt L k).n = (k : Int) + 1 ∧ 1 ≤ (vAt L k).e ∧ (vAt L k).e ≤ most ∧ (vAt L k).v.length ≤ 64 ∧ C (vAt L k) = want) : bkF C L (k + 1) want most = bkF C L k (vAt L k).b ((vAt L k).e - 1) := by
  rw [bkF, if_pos h]
theorem ChW.bad {C : Vs → List Int} {L : List Vs} {res : Bool} {e3 n : Nat} {W : World} {want : List Int} {most : Int} {pre : List (Fin n)} (h : ChW C L res e3 n pre.length (pre.map (·.val) = downV n pre.length) W want most) (hlen : pre.length < n) (x : Fin n)
    (hb : ¬ ((vAt L x.val).n = (x.val : Int) + 1 ∧ 1 ≤ (vAt L x.val).e ∧ (vAt L x.val).e ≤ most ∧ (vAt L x.val).v.length ≤ 64 ∧ C (vAt L x.val) = want)) : (pre ++ [x]).map (·.val) = downV n (pre ++ [x]).length → res = false := fun hd => by
  obtain ⟨h1, h2⟩ := downV_next rfl hd
  have e : n - pre.length = x.val + 1 := by omega
  have h3 := h.cond h1
  rw [e, bkV_bad hb] at h3
  exact h3.symm
theorem ChW.good {C : Vs → List Int} {L : List Vs} {res : Bool} {e3 n : Nat} {W : World} {want : List Int} {most : Int} {pre : List (Fin n)} (h : ChW C L res e3 n pre.length (pre.map (·.val) = downV n pre.length) W want most) (hlen : pre.length < n) (x : Fin n)
    (hb : (vAt L x.val).n = (x.val : Int) + 1 ∧ 1 ≤ (vAt L x.val).e ∧ (vAt L x.val).e ≤ most ∧ (vAt L x.val).v.length ≤ 64 ∧ C (vAt L x.val) = want) : (pre ++ [x]).map (·.val) = downV n (pre ++ [x]).length → bkF C L (n - (pre ++ [x]).length) (vAt L x.val).b ((vAt L x.val).e - 1) = res := fun hd => by
  obtain ⟨h1, h2⟩ := downV_next rfl hd
  have e : n - pre.length = x.val + 1 := by omega
  have h3 := h.cond h1
  rw [e, bkV_good hb] at h3
  have e2 : n - (pre ++ [x]).length = x.val := by rw [List.length_append, List.length_singleton]; omega
  rw [e2]; exact h3
theorem keepsV_only {B : Nat} {T : Nat → Prop} {W W' : World} (h : OnlyS T W W') (hT : ∀ k, T k → k < B) : KeepsFrom B W W' := ⟨h.size, fun k o hB hk _ => (h.block k (by
  rcases Nat.lt_or_ge k W.heap.size with h1 | h1
  · exact h1
  · rw [Array.getElem?_eq_none h1] at hk; cases hk) (fun ht => by have := hT k ht; omega)).trans hk⟩
/-- a range over a function whose variable lies in a box -/
theorem range_boxV {α : Type} {P : Program} {n : Nat} {g : Operand} {ps : Array Tmp} {assign body : Code} {Q : Exit → Act → World → Prop} {a : Act} {w : World} (h1 : 1 ≤ n) {gf : Nat} {lb : Array Value} (hg : a.eval g = .func (.func gf) #[] lb) (eg : ∀ args w, (callFunc gf args).run P w = .ok (.enter gf args) w)
    {encs : α → Array Value} {SS : Nat → Prop} {S Sp : List α → Prop} {N : Nat} {w0 : World} (hseq : SeqStopsK Fence.wide (n - 1) P gf lb encs (KpV SS) S Sp N w0)
    (hSS : ∀ g, SS g → g < w.heap.size) (hb0 : Below w0.heap.size w0 w) (hps : ∀ x, (encs x).size = ps.size)
    (I X : List α → World → Prop) (hI : OwnFrom w.heap.size I) (hX : OwnFrom w.heap.size X) (hIb : ∀ pre W W', I pre W → Below W.heap.size W W' → I pre W') (h0 : I [] w) (F : α → Nat → Act) (t : TypeId) (C : α → Array Value)
    (hassign : ∀ (l : Nat) (x : α) (W : World) (K : Act → World → Prop), (∀ g8 W', Blk W' g8 t (C x) → Below W.heap.size W W' → W.heap.size ≤ g8 → K (F x g8) W') →
      assign.wpIn (Fence.wide.inRound l) (n - 1 - 1) P (Exit.then K (fun _ _ _ => False)) { tmps := (ps.zip (encs x)).foldl (fun t (p, v) => t.setIfInBounds p v) a.tmps, defers := [] } W)
    (hbody : ∀ (l : Nat) (pre : List α) (x : α) (g8 : Nat) (W : World), w.heap.size ≤ W.heap.size → I pre W → Blk W g8 t (C x) → w.heap.size ≤ g8 → pre.length < N → body.wpIn (Fence.wide.inRound l) (n - 1 - 1) P (ownPostG w.heap.size (KpV SS) I (fun c pre W => c = Code.ret ∧ X pre W) (pre ++ [x]) W) (F x g8) W)
    (hdone : ∀ (D : Nat) (xs : List α) (W : World), w.heap.size ≤ D → S xs → I xs W → W.heap[D]? = some (.deferred (some [])) → Q .normal { a with defers := { target := .collected D, args := #[] } :: a.defers } W)
    (hstop : ∀ (D : Nat) (pre : List α) (W : World), w.heap.size ≤ D → Sp pre → X pre W → W.heap[D]? = some (.deferred (some [])) → Q .ret { a with defers := { target := .collected D, args := #[] } :: a.defers } W) :
    (Code.rangeFunc g ps assign body).wpIn Fence.wide n P Q a w := by
  refine wpIn_rangeFunc_ownH (n := n) rfl h1 hg trivial eg hseq KpV.t (KpV.b (S := SS) hSS) hb0 hps (fun pre W => I pre W ∧ w.heap.size ≤ W.heap.size) (fun c pre W => c = Code.ret ∧ X pre W) (fun pre W W' row h hg hr => ⟨hI pre W W' row h.1 hg hr, Nat.le_trans h.2 hg.size⟩) (fun c pre W W' row h hg hr => ⟨h.1, hX pre W W' row h.2 hg hr⟩) ⟨h0, Nat.le_refl _⟩
    (fun x a' W => ∃ g8, a' = F x g8 ∧ Blk W g8 t (C x) ∧ w.heap.size ≤ g8) (fun x a' _ W W' row h hg hr => ?_) (fun l pre x W K hi hK => ?_) (fun l pre x a' W _ _ hi hax hlen => ?_) (fun D xs W hD hS hi hd => hdone D xs W hD hS hi.1 hd) (fun D c pre W hD hs h hd => by obtain ⟨rfl, h⟩ := h; exact wpIn_ret (hstop D pre W hD hs h hd))
  · obtain ⟨g8, e, hb, hle⟩ := h
    exact ⟨g8, e, hb.ownV hg (fun r e => (hr r e).2), hle⟩
  · refine hassign l x W K (fun g8 W' hb hbl hle => hK _ _ (keepsV_ hbl) (KpV.below hbl) ⟨hIb _ _ _ hi.1 hbl, Nat.le_trans hi.2 hbl.size⟩ ⟨g8, rfl, hb, Nat.le_trans hi.2 hle⟩)
  · obtain ⟨g8, rfl, hb, hle⟩ := hax
    refine wpIn_mono (hbody l pre x g8 W hi.2 hi.1 hb hle hlen) (fun e a w h => ?_)
    cases e with
    | normal => exact ⟨h.1, h.2.1, h.2.2, Nat.le_trans hi.2 h.1.size⟩
    | ret => exact h
    | exit id => exact h
    | goto t => exact h
    | panic c => exact h
    | outgrown => exact h
def Tm (e3 : Nat) (k : Nat) : Prop := k = e3 ∨ k = e3 + 1
structure RdV (e3 : Nat) (W w' : World) : Prop where
  os : OnlyS (Tm e3) W w'
  k3 : ∃ cs, Blk w' e3 26 cs ∧ cs.size = 32
  k4 : ∃ y, Blk w' (e3 + 1) 3 #[.int .i64 y]
theorem onlyV_setRow {T : Nat → Prop} {a w : World} (h : OnlyS T a w) {g : Nat} (hg : T g) (cs : Array Value) : OnlyS T a (w.setRow g cs) :=
  ⟨h.os, h.tape, h.output, by simpa using h.size, fun k hk hn => (setRow_other w g k cs (fun e => hn (e ▸ hg))).trans (h.block k hk hn)⟩
theorem RdV.below {e3 : Nat} {W w' w2 : World} (h : RdV e3 W w') (hb : Below w'.heap.size w' w2) : RdV e3 W w2 := by
  obtain ⟨cs, h1, h2⟩ := h.k3
  obtain ⟨y, h3⟩ := h.k4
  exact ⟨⟨hb.os.trans h.os.os, hb.tape.trans h.os.tape, hb.output.trans h.os.output, Nat.le_trans h.os.size hb.size, fun k hk hn => (hb.block k (Nat.lt_of_lt_of_le hk h.os.size)).trans (h.os.block k hk hn)⟩, ⟨cs, h1.below hb, h2⟩, ⟨y, h3.below hb⟩⟩
theorem chV_lab {C : Vs → List Int} {m : Nat} {L : List Vs} {h : List Int} (hb : ¬ (0 < m ∧ m ≤ 32 ∧ 0 < L.length)) : chF C m L h = false := by
  unfold chF labB; rw [decide_eq_false hb]; rfl
set_option maxHeartbeats 16000000 in
theorem check_any {A B : Option Addr} {n c c2 : Nat} {lab hh : List Int} {L : List Vs} {w : World} (h : Lbl w A c lab) (hL : InV w B n L) (hv : ∀ q ∈ L, q.v.length ≤ 300) (hn : n ≤ 1000) (hhk : Hh hh) (ht : Tab w) :
    Calls Tryd.prog 45 #[.slice A lab.length c, .slice B n c2, .agg (u8s hh).toArray] w fun e w' => e = .returned (.bool (chF (cm lab) lab.length L hh)) ∧ Below w.heap.size w w' := by
  have LL := hid hL.len
  obtain ⟨Z, HZ, hZ0, hZs⟩ := zero_Hash
  have K0 := hid (((Blk.new w 23 #[.slice A lab.length c]).alloc (.cells (u8s hh).toArray 26)).alloc (.cells #[.bool false] 4))
  have K1 : Hid (Blk (((w.alloc (.cells #[.slice A lab.length c] 23)).alloc (.cells (u8s hh).toArray 26)).alloc (.cells #[.bool false] 4)) (w.heap.size + 1) 26 (u8s hh).toArray) := by
    have := (Blk.new (w.alloc (.cells #[.slice A lab.length c] 23)) 26 (u8s hh).toArray).alloc (.cells #[.bool false] 4)
    rw [show (w.alloc (.cells #[.slice A lab.length c] 23)).heap.size = w.heap.size + 1 by simp] at this
    exact this
  have K2 : Hid (Blk (((w.alloc (.cells #[.slice A lab.length c] 23)).alloc (.cells (u8s hh).toArray 26)).alloc (.cells #[.bool false] 4)) (w.heap.size + 1 + 1) 4 #[.bool false]) := by
    have := Blk.new ((w.alloc (.cells #[.slice A lab.length c] 23)).alloc (.cells (u8s hh).toArray 26)) 4 #[.bool false]
    rw [show ((w.alloc (.cells #[.slice A lab.length c] 23)).alloc (.cells (u8s hh).toArray 26)).heap.size = w.heap.size + 1 + 1 by simp] at this
    exact this
  have B0 : Hid (Below w.heap.size w (((w.alloc (.cells #[.slice A lab.length c] 23)).alloc (.cells (u8s hh).toArray 26)).alloc (.cells #[.bool false] 4))) := (((Below.refl _ _).alloc (Nat.le_refl _) _).alloc (by simp) _).alloc (by simp; omega) _
  have S0 : Hid ((((w.alloc (.cells #[.slice A lab.length c] 23)).alloc (.cells (u8s hh).toArray 26)).alloc (.cells #[.bool false] 4)).heap.size = w.heap.size + 1 + 1 + 1) := by show _ = _; simp
  have H := hid h; have HL := hid hL; have HV := hid hv; have HN := hid hn; have HK := hid hhk; have HT := hid ht
  obtain ⟨m, hm⟩ : ∃ m, m = lab.length := ⟨_, rfl⟩
  rw [← hm] at K0 K1 K2 B0 S0 ⊢
  have HM := hid hm
  have hmb : m ≤ 300 := by rw [hm]; exact h.len
  have hmax := hL.max
  clear h hL hv hn hhk ht hm
  refine (callsIn_wide (n := 2)).1 ?_
  refine callsIn_of_wp_marks Tryd.func45 rfl trivial ?_ rfl
  simp only [Tryd.ntmps45, List.size_toArray, List.length_cons, List.length_nil, Nat.reduceAdd, Nat.reduceSub, Array.replicate_succ, Array.replicate_zero, List.push_toArray, List.append_toArray, List.nil_append, List.cons_append]
  refine (wpIn_wide (n := 2)).2 ?_
  go_upto_region 1 with (fail)
  generalize ((w.alloc (.cells #[.slice A m c] 23)).alloc (.cells (u8s hh).toArray 26)).alloc (.cells #[.bool false] 4) = w0 at K0 K1 K2 B0 S0 ⊢
  have c0 := K0.out.cell 0
  have c2' := K2.out.cell 0
  have f2 := K2.out.frozen 0
  by_cases hm0 : m = 0
  · have HR : Hid (chF (cm lab) m L hh = false) := chV_lab (fun h => by omega)
    subst hm0
    go_wp2
    try go_frame
    first | rw [Exit.noGoto_ret] | skip
    have KF := hid (K2.out.setd 0 (.bool false))
    refine ⟨_, results_bool Tryd.results45 _ _ (w.heap.size + 1 + 1) false rfl (KF.out.cell 0), ?_⟩
    exact ⟨by rw [HR.out], B0.out.setCell (by show w.heap.size ≤ w.heap.size + 1 + 1; omega) _⟩
  by_cases hm3 : 32 < m
  · have HR : Hid (chF (cm lab) m L hh = false) := chV_lab (fun h => by omega)
    have hm0b : ((m : Int) == 0) = false := by simp; omega
    have hm0c : ¬ (m : Int) = 0 := by omega
    have hm3b : (32 : Int) < (m : Int) := by omega
    go_wp2
    try go_frame
    first | rw [Exit.noGoto_ret] | skip
    have KF := hid (K2.out.setd 0 (.bool false))
    refine ⟨_, results_bool Tryd.results45 _ _ (w.heap.size + 1 + 1) false rfl (KF.out.cell 0), ?_⟩
    exact ⟨by rw [HR.out], B0.out.setCell (by show w.heap.size ≤ w.heap.size + 1 + 1; omega) _⟩
  by_cases hn0 : n = 0
  · have HR : Hid (chF (cm lab) m L hh = false) := chV_lab (fun h => by have := LL.out; omega)
    have hm0b : ((m : Int) == 0) = false := by simp; omega
    have hm0c : ¬ (m : Int) = 0 := by omega
    have hm3b : ¬ (32 : Int) < (m : Int) := by omega
    subst hn0
    go_wp2
    try go_frame
    first | rw [Exit.noGoto_ret] | skip
    have KF := hid (K2.out.setd 0 (.bool false))
    refine ⟨_, results_bool Tryd.results45 _ _ (w.heap.size + 1 + 1) false rfl (KF.out.cell 0), ?_⟩
    exact ⟨by rw [HR.out], B0.out.setCell (by show w.heap.size ≤ w.heap.size + 1 + 1; omega) _⟩
  have hm0b : ((m : Int) == 0) = false := by simp; omega
  have hm0c : ¬ (m : Int) = 0 := by omega
  have hm3b : ¬ (32 : Int) < (m : Int) := by omega
  have hn0b : ((n : Int) == 0) = false := by simp; omega
  have hn0c : ¬ (n : Int) = 0 := by omega
  go_upto_region 3 with (fail)
  clear c2' f2 c0 hm0b hm0c hm3b hn0b hn0c
  have HI := hid (info_hash hh HK.out.len)
  have hzl : Z.size = 32 := by rw [HZ.out, List.size_toArray, u8s_length]; simp
  have HZS : Hid (Z.size = (u8s hh).toArray.size) := by show _ = _; rw [hzl, hash_size32 HK.out]
  have KZ : Hid (Blk ((w0.alloc (.cells Z 26)).alloc (.cells #[.int .i64 0] 3)) w0.heap.size 26 Z) := (Blk.new w0 26 Z).alloc (.cells #[.int .i64 0] 3)
  have K4 : Hid (Blk (((w0.alloc (.cells Z 26)).alloc (.cells #[.int .i64 0] 3)).setRow w0.heap.size (u8s hh).toArray) (w0.heap.size + 1) 3 #[.int .i64 0]) := by
    have := Blk.new (w0.alloc (.cells Z 26)) 3 #[.int .i64 0]
    rw [show (w0.alloc (.cells Z 26)).heap.size = w0.heap.size + 1 by simp] at this
    exact this.rowFar (by omega) _
  have c4 := K4.out.cell 0
  have f4 := K4.out.frozen 0
  go_upto_region 4 with (first
    | (refine wpList_load_row rfl 26 (.tmp 5) rfl (w.heap.size + 1) rfl 26 (u8s hh).toArray (0, 0) _ K1.out Tryd.underlying26 rfl HI.out ?_)
    | (refine wpList_store_row rfl 26 (.tmp 7) (.tmp 24) rfl w0.heap.size (u8s hh).toArray rfl rfl 26 Z KZ.out HI.out HZS.out (u8s_all hh) ?_))
  have K0b : Hid (Blk ((((w0.alloc (.cells Z 26)).alloc (.cells #[.int .i64 0] 3)).setRow w0.heap.size (u8s hh).toArray).setCell ⟨w0.heap.size + 1, 0, none⟩ (.int .i64 2147483647)) w.heap.size 23 #[.slice A m c]) := ((((K0.out.alloc _).alloc _).rowFar (by rw [S0.out]; omega) _).far (by show w.heap.size ≠ w0.heap.size + 1; rw [S0.out]; omega) _)
  have K2b : Hid (Blk ((((w0.alloc (.cells Z 26)).alloc (.cells #[.int .i64 0] 3)).setRow w0.heap.size (u8s hh).toArray).setCell ⟨w0.heap.size + 1, 0, none⟩ (.int .i64 2147483647)) (w.heap.size + 1 + 1) 4 #[.bool false]) := ((((K2.out.alloc _).alloc _).rowFar (by rw [S0.out]; omega) _).far (by show w.heap.size + 1 + 1 ≠ w0.heap.size + 1; rw [S0.out]; omega) _)
  have K3b : Hid (Blk ((((w0.alloc (.cells Z 26)).alloc (.cells #[.int .i64 0] 3)).setRow w0.heap.size (u8s hh).toArray).setCell ⟨w0.heap.size + 1, 0, none⟩ (.int .i64 2147483647)) w0.heap.size 26 (u8s hh).toArray) := (KZ.out.row _).far (by show w0.heap.size ≠ w0.heap.size + 1; omega) _
  have K4b : Hid (Blk ((((w0.alloc (.cells Z 26)).alloc (.cells #[.int .i64 0] 3)).setRow w0.heap.size (u8s hh).toArray).setCell ⟨w0.heap.size + 1, 0, none⟩ (.int .i64 2147483647)) (w0.heap.size + 1) 3 #[.int .i64 2147483647]) := K4.out.setd 0 _
  have B6 : Hid (Below w.heap.size w ((((w0.alloc (.cells Z 26)).alloc (.cells #[.int .i64 0] 3)).setRow w0.heap.size (u8s hh).toArray).setCell ⟨w0.heap.size + 1, 0, none⟩ (.int .i64 2147483647))) := (below_setRow (((B0.out.alloc B0.out.size _)).alloc (Nat.le_trans B0.out.size (by simp)) _) B0.out.size _).setCell (by show w.heap.size ≤ w0.heap.size + 1; have := B0.out.size; omega) _
  have HE3 : Hid (w0.heap.size = w.heap.size + 1 + 1 + 1) := S0.out
  clear K0 K1 K2 KZ K4 c4 f4 B0 S0 HI HZS hzl
  generalize ((((w0.alloc (.cells Z 26)).alloc (.cells #[.int .i64 0] 3)).setRow w0.heap.size (u8s hh).toArray).setCell ⟨w0.heap.size + 1, 0, none⟩ (.int .i64 2147483647)) = w6 at K0b K2b K3b K4b B6 ⊢
  obtain ⟨e3, he3⟩ : ∃ e3, e3 = w0.heap.size := ⟨_, rfl⟩
  rw [← he3] at K3b K4b HE3 ⊢
  clear he3
  have CB := hid (fun w => vback_any B n c2 w)
  go_wp2_with (go_at_call 86; refine (CB.out _).mono ?_; rintro e w7 ⟨rfl, hw7⟩; have HW7 := hid hw7; clear hw7)
  have BL7 : Hid (Below w6.heap.size w6 w7) := by show Below _ _ _; rw [HW7.out]; exact (Below.refl _ _).alloc (Nat.le_refl _) _
  have KB7 : Hid (Blk w7 w6.heap.size 83 #[.slice B n c2]) := by show Blk _ _ _ _; rw [HW7.out]; exact Blk.new w6 83 _
  obtain ⟨R, hRl, hRv, hRr⟩ := HL.out.rows
  have hRA : ∀ i, i < n → R[i]? = some (rAt R i) ∧ L[i]? = some (vAt L i) := fun i hi => by
    have := LL.out
    constructor
    · unfold rAt; rw [List.getElem?_eq_getElem (by omega)]; rfl
    · unfold vAt; rw [List.getElem?_eq_getElem (by omega)]; rfl
  have HARG := hid (fun i (hi : i < n) => hRv i _ _ (hRA i hi).1 (hRA i hi).2)
  have B7 : Hid (Below w.heap.size w w7) := B6.out.trans (BL7.out.mono B6.out.size)
  have K0c := hid (K0b.out.below BL7.out); have K2c := hid (K2b.out.below BL7.out); have K3c := hid (K3b.out.below BL7.out); have K4c := hid (K4b.out.below BL7.out)
  have LT6 : Hid (e3 + 1 < w6.heap.size) := K4b.out.lt
  have IT : Hid (ItV w6.heap.size B n c2 R L w7) := ⟨KB7.out, hmax, vAt_ok HL.out.ok, fun hp => by
    obtain ⟨b, o, e, hlt, _⟩ := HL.out.at' hp
    refine ⟨b, o, e, Nat.lt_of_lt_of_le hlt B7.out.size, fun i hi => ?_⟩
    have hr := hRr b o e
    have h1 : w.rangeAt b (o + i * 67) (vcs (rAt R i) (vAt L i)) := fun j u hu => by
      have h2 := vcss_at hRl HL.out.ok (hRA i hi).1 (hRA i hi).2 j u hu
      have := hr _ u h2
      rw [Nat.add_assoc]; exact this
    exact crng_bel B7.out h1⟩
  clear HW7 CB BL7 hRl hRv hRr hRA K0b K2b K3b K4b B6
  obtain ⟨bs, hbs⟩ : ∃ bs, bs = w6.heap.size := ⟨_, rfl⟩
  rw [← hbs] at KB7 IT LT6 ⊢
  clear hbs
  have HIT : Hid (∀ k, ItW bs B n k → k < w7.heap.size ∧ ¬ Tn w e3 k) := fun k hk => by
    have h1 := HE3.out; have h2 := LT6.out
    unfold Tn
    rcases hk with h | ⟨hn, a, h, e⟩
    · rw [h]; exact ⟨KB7.out.lt, by omega⟩
    · obtain ⟨b, o, e2, hlt, _⟩ := HL.out.at' hn
      rw [h] at e2; injection e2 with e2; subst e2
      rw [e]
      have : (⟨b, o, none⟩ : Addr).block = b := rfl
      rw [this]
      exact ⟨Nat.lt_of_lt_of_le hlt B7.out.size, by omega⟩
  obtain ⟨res, hres⟩ : ∃ res, res = bkF (cm lab) L n hh 2147483647 := ⟨_, rfl⟩
  have HRES : Hid (chF (cm lab) m L hh = res) := by
    show _ = _
    unfold chF labB
    have := LL.out
    rw [decide_eq_true ⟨by omega, by omega, by omega⟩, hres, LL.out]; rfl
  have I7 : Hid (ChI (cm lab) w A m c e3 L res n ([] : List (Fin n)) w7) := ⟨⟨B7.out, K0c.out, K2c.out⟩, hh, 2147483647, K3c.out, HK.out, K4c.out, by decide, by decide, fun _ => hres.symm⟩
  have HNM : Hid (n < 1000000) := by have := HN.out; show n < 1000000; omega
  have HX : Hid (w.heap.size ≤ w7.heap.size ∧ e3 + 1 < w7.heap.size ∧ e3 = w.heap.size + 1 + 1 + 1) := ⟨B7.out.size, Nat.lt_trans LT6.out KB7.out.lt, HE3.out⟩
  have HTN : Hid (∀ k, Tn w e3 k → k < w7.heap.size) := fun k hk => by
    have := HX.out
    unfold Tn at hk
    omega
  obtain ⟨Y, HY, hY0, hYs⟩ : ∃ Z : Array Value, Hid (Z = (vcs (.slice none 0 0) vZ).toArray) ∧ (¬ Z = #[]) ∧ ∀ w : World, Sem.run Tryd.prog (zeroValue 75) w = Result.ok (.agg Z) w := by
    refine ⟨_, rfl, fun h => ?_, fun w => by kernel_rfl⟩
    have := congrArg Array.size h
    rw [List.size_toArray, vcs_length _ vZ_ok] at this
    exact absurd this (by decide)
  clear K0c K2c K3c K4c KB7 HE3 LT6 hres hm0 hm3 hn0 hmb
  refine (wpIn_wide (n := 2)).1 ?_
  refine range_boxV (n := 2) (by omega) (gf := 122) (lb := #[.pointer (some ⟨bs, 0, none⟩)]) rfl (enters_of Tryd.func122 (by kernel_rfl) rfl) (SS := ItW bs B n)
    (vback_stops (m := n) HNM.out bs B c2 R L w7 IT.out) (fun k hk => (HIT.out k hk).1) (Below.refl _ _) (fun _ => rfl) (ChI (cm lab) w A m c e3 L res n) (ChX w res n) (ChI.own HX.out.1) (ChX.own HX.out.1) (fun _ _ _ h hb => h.below hb) I7.out ?F 75 (fun x => (vcs (rAt R x.val) (vAt L x.val)).toArray) ?assign ?body ?done ?stop
  case assign =>
    intro l x W K hK
    have HKK := hid hK
    clear hK
    dsimp only [encV]
    rw [zipV2]
    simp only [List.setIfInBounds_toArray, List.set_cons_succ, List.set_cons_zero]
    have hxn := x.isLt
    have HAR := HARG.out x.val hxn
    obtain ⟨V, hVe⟩ : ∃ V, V = rAt R x.val := ⟨_, rfl⟩
    obtain ⟨q, hqe⟩ : ∃ q, q = vAt L x.val := ⟨_, rfl⟩
    rw [← hVe, ← hqe] at HAR HKK
    rw [← hVe, ← hqe]
    have HSI2 := hid (vinfoC V HAR.ok)
    have HSY : Hid (Y.size = (vcs V q).toArray.size) := by show _ = _; rw [HY.out, List.size_toArray, List.size_toArray, vcs_length _ vZ_ok, vcs_length _ HAR.ok]
    have HONE := hid (vcs_all HAR.one q)
    obtain ⟨g8, hg8⟩ : ∃ g8, W.heap.size = g8 := ⟨_, rfl⟩
    have hnb : Blk (W.alloc (.cells Y 75)) g8 75 Y := by rw [← hg8]; exact Blk.new W 75 Y
    have hb1 : Blk ((W.alloc (.cells Y 75)).setRow g8 (vcs V q).toArray) g8 75 (vcs V q).toArray := hnb.row _
    have hb3 : W.heap.size ≤ g8 := by rw [hg8]; exact Nat.le_refl _
    have hb2 : Below W.heap.size W ((W.alloc (.cells Y 75)).setRow g8 (vcs V q).toArray) := below_setRow ((Below.refl _ _).alloc (Nat.le_refl _) _) hb3 _
    have HB1 := hid hb1; have HB2 := hid hb2; have HB3 := hid hb3; have HNB := hid hnb
    clear hb1 hb2 hb3 hnb HAR hxn
    refine seqV_ (L := [_]) (by rfl) ?_
    go_wp2
    try simp only [QrV]
    refine wpInV_cut K (plainV_ (L := [_, _]) (by rfl) ?_) (fun _ _ h => h)
    go_wp2_with (refine wpList_store_row rfl 75 (.tmp 10) (.tmp 28) rfl g8 (vcs V q).toArray rfl rfl 75 Y HNB.out HSI2.out HSY.out HONE.out ?_)
    try simp only [QrV]
    subst hVe hqe
    exact HKK.out g8 _ HB1.out HB2.out HB3.out
  case body =>
    rintro l pre x g8 W hWs hI hb8 hle hlen
    obtain ⟨CBX, want, most, CW⟩ := hI
    have hxn := x.isLt
    have HAR := HARG.out x.val hxn
    have BAD := fun hb => CW.bad hlen x hb
    have GOOD := fun hb => CW.good hlen x hb
    obtain ⟨kx, hkx⟩ : ∃ kx, kx = x.val := ⟨_, rfl⟩
    rw [← hkx] at HAR BAD GOOD hb8 hxn
    try dsimp only
    try rw [← hkx]
    clear hkx
    have hvl : (vAt L kx).v.length ≤ 300 := HL.out.shorts HV.out hxn
    have HAR0 := hid HAR
    obtain ⟨hok, Bv, dv, hVe, hdv, hrv⟩ := HAR
    have KG := hid hb8
    rw [hVe] at hb8
    have hvc := hb8.vc hok
    have cn := hvc.n
    have ce : W.cell? ⟨g8, 1, none⟩ = some (.int .i64 (vAt L kx).e) := hvc.e
    have cv : W.cell? ⟨g8, 66, none⟩ = some (.slice Bv (vAt L kx).v.length dv) := by have := hvc.v; rw [Nat.zero_add] at this; exact this
    have RB : Hid (W.rangeAt g8 34 (u8s (vAt L kx).b)) := by have := hvc.b; rw [Nat.zero_add] at this; exact this
    have c4 := CW.k4.cell 0
    have c2f := CBX.k2.cell 0
    have f2f := CBX.k2.frozen 0
    have HOK := hid hok; have CBH := hid CBX; have CWH := hid CW; have HBAD := hid BAD; have HGOOD := hid GOOD; have HXN := hid hxn; have HVL := hid hvl
    have HXI : Hid (-9223372036854775808 ≤ (vAt L kx).e ∧ (vAt L kx).e ≤ 9223372036854775807) := hok.e
    have hmost : Hid (0 ≤ most ∧ most ≤ 2147483647) := ⟨CW.lo, CW.hi⟩
    have BF : Hid (KeepsFrom w7.heap.size W (W.setCell ⟨w.heap.size + 1 + 1, 0, none⟩ (.bool false)) ∧ Below w.heap.size w (W.setCell ⟨w.heap.size + 1 + 1, 0, none⟩ (.bool false)) ∧ Blk (W.setCell ⟨w.heap.size + 1 + 1, 0, none⟩ (.bool false)) (w.heap.size + 1 + 1) 4 #[.bool false]) :=
      ⟨keepsV_only (T := Tn w e3) ((OnlyS.refl _ _).setCell (.inl (.inl rfl)) _) HTN.out, CBX.bl.setCell (by show w.heap.size ≤ w.heap.size + 1 + 1; omega) _, CBX.k2.setd 0 _⟩
    have HLE := hid hle; have HWS := hid hWs; have HLEN := hid hlen; have HVE := hid hVe
    clear hb8 hvc hdv hrv hok CBX CW BAD GOOD hxn hvl hVe hle hWs hlen
    obtain ⟨x1, hx1⟩ : ∃ x, x = (vAt L kx).n := ⟨_, rfl⟩
    obtain ⟨x2, hx2⟩ : ∃ x, x = (vAt L kx).e := ⟨_, rfl⟩
    obtain ⟨x4, hx4⟩ : ∃ x, x = (vAt L kx).v.length := ⟨_, rfl⟩
    rw [← hx1] at cn; rw [← hx2] at ce HXI; rw [← hx4] at cv
    have X1 := hid hx1; have X2 := hid hx2; have X4 := hid hx4
    clear hx1 hx2 hx4
    have hkb : kx < 1000000 := by have := HNM.out; have := HXN.out; omega
    have hadd : IntKind.i64.wrap ((kx : Int) + 1) = (kx : Int) + 1 := IntWalk.i64_in _ (by omega)
    by_cases h1 : x1 = (kx : Int) + 1
    rotate_left
    · have h1b : (x1 != (kx : Int) + 1) = true := by simpa using h1
      have HB := hid (HBAD.out (fun h => h1 (by rw [X1.out]; exact h.1)))
      gi_wp2
      exact ⟨BF.out.1, rfl, BF.out.2.1, BF.out.2.2, HB.out⟩
    by_cases h2 : x2 < 1
    · have HB := hid (HBAD.out (fun h => by have := h.2.1; have := X2.out; omega))
      gi_wp2
      exact ⟨BF.out.1, rfl, BF.out.2.1, BF.out.2.2, HB.out⟩
    by_cases h3 : most < x2
    · have HB := hid (HBAD.out (fun h => by have := h.2.2.1; have := X2.out; omega))
      gi_wp2
      exact ⟨BF.out.1, rfl, BF.out.2.1, BF.out.2.2, HB.out⟩
    by_cases h4 : 64 < x4
    · have h4b : (64 : Int) < (x4 : Int) := by omega
      have HB := hid (HBAD.out (fun h => by have := h.2.2.2.1; have := X4.out; omega))
      gi_wp2
      exact ⟨BF.out.1, rfl, BF.out.2.1, BF.out.2.2, HB.out⟩
    have h4b : ¬ (64 : Int) < (x4 : Int) := by omega
    have HG4 : Hid ((vAt L kx).n = (kx : Int) + 1 ∧ 1 ≤ (vAt L kx).e ∧ (vAt L kx).e ≤ most ∧ (vAt L kx).v.length ≤ 64) := ⟨by rw [← X1.out]; exact h1, by rw [← X2.out]; omega, by rw [← X2.out]; omega, by rw [← X4.out]; omega⟩
    subst h1
    gi_wp2
    have K0W := hid (CBH.out.k0.cell 0)
    have RG0 : Hid (W.rangeAt g8 0 (vcs (rAt R kx) (vAt L kx))) := (KG.out.vc HOK.out).all
    have RW0 : Hid (W.rangeAt e3 0 (u8s want)) := fun j u hu => by rw [CWH.out.k3.cell, Nat.zero_add, List.getElem?_toArray]; exact hu
    have HLI := hid (vlenC (rAt R kx) HOK.out)
    have HWI := hid (hinfo CWH.out.hw)
    obtain ⟨S, hS⟩ : ∃ S, S = cm lab (vAt L kx) := ⟨_, rfl⟩
    have CM : Hid (∀ y, Below W.heap.size W y → Calls Tryd.prog 36 #[.slice A m c, .agg (vcs (rAt R kx) (vAt L kx)).toArray] y fun e w' => e = .returned (.agg (u8s S).toArray) ∧ Below y.heap.size y w') := fun y hb => by
      have hbw := CBH.out.bl.trans (hb.mono CBH.out.bl.size)
      rw [hS, HM.out]
      exact cmC_any (H.out.below hbw) (HAR0.out.below hbw) HVL.out (HT.out.below hbw)
    have hhS : Hh S := by rw [hS]; exact hh_sum _
    have heq := fun w => cneq_hash S want hhS CWH.out.hw w
    obtain ⟨v3, hv3⟩ : ∃ v3, v3 = decide (S = want) := ⟨_, rfl⟩
    rw [← hv3] at heq
    have HV3 := hid hv3; have HS := hid hS
    obtain ⟨qb, hqb⟩ : ∃ qb, qb = (vAt L kx).b := ⟨_, rfl⟩
    have hqk : Hh qb := by rw [hqb]; exact HOK.out.b
    rw [← hqb] at RB
    have HQI := hid (info_hash qb hqk.len); have HQ32 := hid (hash_size32 hqk); have HQL := hid (hinfo hqk); have HQB := hid hqk
    have hx2w : IntKind.i64.wrap (x2 - 1) = x2 - 1 := IntWalk.i64_in _ (by have := hmost.out; omega)
    clear hv3 hS hhS hqk
    refine wpInV_cut _ (regionV_ (S := fun w' => Hid (Below W.heap.size W w')) (by kernel_rfl) (by rfl) ?_) (fun _ _ h => h)
    change wpAnyH _ _ _ _ _ _ _ _ W.drew
    have Gx0 : Hid (Below W.heap.size W W.drew) := (Below.refl _ _).drew
    generalize W.drew = x0 at Gx0  ⊢
    refine wpAnyH_take (i := 0) (oi := { dst := some 51, op := _, type := _, pos := _, after := _, guard := _ }) (v := .slice A m c) rfl (by kernel_rfl) (by kernel_rfl) (by kernel_rfl) (fun _ _ _ h => h) (Or.inl ⟨by kernel_rfl, ?_⟩) Gx0 ?_
    · (intro w hSw; have c9 := ccell_bel hSw.out K0W.out; go_simp; try with_reducible rfl)
    try simp only [Act.put, List.setIfInBounds_toArray, List.set_cons_zero, List.set_cons_succ]
    refine wpAnyH_take (i := 1) (oi := { dst := some 52, op := _, type := _, pos := _, after := _, guard := _ }) (v := .agg ((vcs (rAt R kx) (vAt L kx)).toArray)) rfl (by kernel_rfl) (by kernel_rfl) (by kernel_rfl) (fun _ _ _ h => h) (yieldsIf_load_mid (cs := vcs (rAt R kx) (vAt L kx)) (by rfl) _ _ rfl _ _ rfl _ (fun w' hSw => crng_bel hSw.out RG0.out) Tryd.underlying75 rfl HLI.out) Gx0 ?_
    try simp only [Act.put, List.setIfInBounds_toArray, List.set_cons_zero, List.set_cons_succ]
    refine wpAnyH_take (i := 3) (oi := { dst := some 54, op := _, type := _, pos := _, after := _, guard := _ }) (v := .agg ((u8s want).toArray)) rfl (by kernel_rfl) (by kernel_rfl) (by kernel_rfl) (fun _ _ _ h => h) (yieldsIf_load_mid (cs := u8s want) (by rfl) _ _ rfl _ _ rfl _ (fun w' hSw => crng_bel hSw.out RW0.out) Tryd.underlying26 rfl HWI.out) Gx0 ?_
    try simp only [Act.put, List.setIfInBounds_toArray, List.set_cons_zero, List.set_cons_succ]
    refine wpAnyH_ready (rs := [2]) (by kernel_rfl) (by simp) ?_
    refine (AllReadyH.cons (o := { dst := some 53, op := _, type := _, pos := _, after := _, guard := _ }) rfl (fun Qc hQc => ?_) AllReadyH.nil)
    go_simp
    go_at_call 36
    refine (CM.out x0 Gx0.out).mono ?_
    rintro e x1 ⟨rfl, hb⟩
    have Gx1 := hid (Gx0.out.trans (hb.mono Gx0.out.size))
    clear hb
    go_wp2_with fail
    refine hQc.out _ _ Gx1 (fun hHeld => ?_)
    clear hQc Qc hHeld
    try simp only [Act.put, List.setIfInBounds_toArray, List.set_cons_zero, List.set_cons_succ]
    refine wpAnyH_take (i := 4) (oi := { dst := some 55, op := _, type := _, pos := _, after := _, guard := _ }) (v := ?_) rfl (by kernel_rfl) (by kernel_rfl) (by kernel_rfl) (fun _ _ _ h => h) (Or.inl ⟨by kernel_rfl, ?_⟩) Gx1 ?_
    rotate_left
    · (intro w hSw; go_simp; try with_reducible rfl)
    try simp only [Act.put, List.setIfInBounds_toArray, List.set_cons_zero, List.set_cons_succ]
    refine wpAnyH_done (by kernel_rfl) ?_ _
    try simp only [Act.put, List.setIfInBounds_toArray, List.set_cons_zero, List.set_cons_succ]
    rename_i hKx
    cases v3 with
    | false =>
      have c2g := ccell_bel Gx1.out c2f
      have f2g : x1.frozen? ⟨w.heap.size + 1 + 1, 0, none⟩ = false := (CBH.out.k2.below Gx1.out).frozen 0
      have HB := hid (HBAD.out (fun h => by have h5 := h.2.2.2.2; have := HV3.out; rw [← HS.out] at h5; rw [h5] at this; simp at this))
      clear c2f f2f cn ce cv c4 K0W
      refine hKx _ _ ?_
      gi_wp2
      exact ⟨keepsV_only (T := Tn w e3) ((OnlyS.of_below Gx1.out (Nat.le_refl _)).setCell (.inl (.inl rfl)) _) HTN.out, rfl, (CBH.out.bl.trans (Gx1.out.mono CBH.out.bl.size)).setCell (by show w.heap.size ≤ w.heap.size + 1 + 1; omega) _, (CBH.out.k2.below Gx1.out).setd 0 _, HB.out⟩
    | true =>
      refine hKx _ _ ?_
      gi_wp2
      have GR : Hid (RdV e3 W x1) := ⟨OnlyS.of_below Gx1.out (Nat.le_refl _), ⟨_, CWH.out.k3.below Gx1.out, hash_size32 CWH.out.hw⟩, ⟨_, CWH.out.k4.below Gx1.out⟩⟩
      have HQE : Hid (qb = (vAt L kx).b) := hqb
      have NG8 : Hid (¬ Tm e3 g8) := fun hk => by have := HX.out; have := HLE.out; unfold Tm at hk; omega
      have LG8 : Hid (g8 < W.heap.size) := KG.out.lt
      clear c2f f2f cn cv c4 K0W
      refine wpInV_cut _ (regionV_ (S := fun w' => Hid (RdV e3 W w')) (by kernel_rfl) (by rfl) ?_) (fun _ _ h => h)
      change wpAnyH _ _ _ _ _ _ _ _ x1.drew
      have Gz0 : Hid (RdV e3 W x1.drew) := GR.out.below (Below.refl _ _).drew
      generalize x1.drew = z0 at Gz0  ⊢
      refine wpAnyH_take (i := 0) (oi := { dst := some 56, op := _, type := _, pos := _, after := _, guard := _ }) (v := ?_) rfl (by kernel_rfl) (by kernel_rfl) (by kernel_rfl) (fun _ _ _ h => h) (Or.inl ⟨by kernel_rfl, ?_⟩) Gz0 ?_
      rotate_left
      · (intro w hSw; go_simp; try with_reducible rfl)
      try simp only [Act.put, List.setIfInBounds_toArray, List.set_cons_zero, List.set_cons_succ]
      refine wpAnyH_take (i := 1) (oi := { dst := some 57, op := _, type := _, pos := _, after := _, guard := _ }) (v := .agg ((u8s qb).toArray)) rfl (by kernel_rfl) (by kernel_rfl) (by kernel_rfl) (fun _ _ _ h => h) (yieldsIf_load_mid (cs := u8s qb) (by rfl) _ _ rfl _ _ rfl _ (fun w' hSw => crng_same (hSw.out.os.block _ LG8.out NG8.out) RB.out) Tryd.underlying26 rfl HQL.out) Gz0 ?_
      try simp only [Act.put, List.setIfInBounds_toArray, List.set_cons_zero, List.set_cons_succ]
      refine wpAnyH_take (i := 2) (oi := { dst := some 58, op := _, type := _, pos := _, after := _, guard := _ }) (v := ?_) rfl (by kernel_rfl) (by kernel_rfl) (by kernel_rfl) (fun _ _ _ h => h) (Or.inl ⟨by kernel_rfl, ?_⟩) Gz0 ?_
      rotate_left
      · (intro w hSw; go_simp; try with_reducible rfl)
      try simp only [Act.put, List.setIfInBounds_toArray, List.set_cons_zero, List.set_cons_succ]
      refine wpAnyH_take (i := 3) (oi := { dst := some 59, op := _, type := _, pos := _, after := _, guard := _ }) (v := .int .i64 x2) rfl (by kernel_rfl) (by kernel_rfl) (by kernel_rfl) (fun _ _ _ h => h) (Or.inl ⟨by kernel_rfl, ?_⟩) Gz0 ?_
      · (intro w hSw; have c9 := (World.cell?_of_block (a := ⟨g8, 1, none⟩) (hSw.out.os.block _ LG8.out NG8.out)).trans ce; go_simp; try with_reducible rfl)
      try simp only [Act.put, List.setIfInBounds_toArray, List.set_cons_zero, List.set_cons_succ]
      refine wpAnyH_take (i := 4) (oi := { dst := some 60, op := _, type := _, pos := _, after := _, guard := _ }) (v := ?_) rfl (by kernel_rfl) (by kernel_rfl) (by kernel_rfl) (fun _ _ _ h => h) (Or.inl ⟨by kernel_rfl, ?_⟩) Gz0 ?_
      rotate_left
      · (intro w hSw; go_simp; try with_reducible rfl)
      try simp only [Act.put, List.setIfInBounds_toArray, List.set_cons_zero, List.set_cons_succ]
      refine wpAnyH_ready (rs := [5]) (by kernel_rfl) (by simp) ?_
      refine (AllReadyH.cons (o := { dst := none, op := _, type := _, pos := _, after := _, guard := _ }) rfl (fun Qc hQc => ?_) AllReadyH.nil)
      rw [if_pos (by rfl)]
      obtain ⟨cs, hk, hcs⟩ := Gz0.out.k3
      refine wp_store_row 26 (.tmp 7) (.tmp 57) rfl e3 (u8s qb).toArray rfl rfl 26 cs hk HQI.out (by rw [hcs, HQ32.out]) (u8s_all qb) ?_
      have Gx101 : Hid (RdV e3 W (z0.setRow e3 (u8s qb).toArray)) := ⟨onlyV_setRow Gz0.out.os (.inl rfl) _, ⟨_, hk.row _, HQ32.out⟩, by obtain ⟨y, h⟩ := Gz0.out.k4; exact ⟨y, h.rowFar (by omega) _⟩⟩
      have KF : Hid (Blk (z0.setRow e3 (u8s qb).toArray) e3 26 (u8s qb).toArray) := hk.row _
      clear hk hcs
      refine hQc.out _ _ Gx101 (fun hHeld => ?_)
      clear hQc Qc hHeld
      generalize z0.setRow e3 (u8s qb).toArray = x101 at Gx101 KF ⊢
      try simp only [Act.put, List.setIfInBounds_toArray, List.set_cons_zero, List.set_cons_succ]
      refine wpAnyH_ready (rs := [6]) (by kernel_rfl) (by simp) ?_
      refine (AllReadyH.cons (o := { dst := none, op := _, type := _, pos := _, after := _, guard := _ }) rfl (fun Qc hQc => ?_) AllReadyH.nil)
      obtain ⟨yv, hk4⟩ := Gx101.out.k4
      have c4x := hk4.cell 0
      have f4x := hk4.frozen 0
      go_simp
      clear c4x f4x
      have Gx102 : Hid (RdV e3 W (x101.setCell ⟨e3 + 1, 0, none⟩ (.int .i64 (x2 - 1)))) := ⟨Gx101.out.os.setCell (.inl (.inr rfl)) _, ⟨_, KF.out.far (by show e3 ≠ e3 + 1; omega) _, HQ32.out⟩, ⟨_, hk4.setd 0 _⟩⟩
      have KF4 : Hid (Blk (x101.setCell ⟨e3 + 1, 0, none⟩ (.int .i64 (x2 - 1))) (e3 + 1) 3 #[.int .i64 (x2 - 1)]) := hk4.setd 0 _
      have KF3 : Hid (Blk (x101.setCell ⟨e3 + 1, 0, none⟩ (.int .i64 (x2 - 1))) e3 26 (u8s qb).toArray) := KF.out.far (by show e3 ≠ e3 + 1; omega) _
      clear hk4
      refine hQc.out _ _ Gx102 (fun hHeld => ?_)
      clear hQc Qc hHeld
      generalize x101.setCell ⟨e3 + 1, 0, none⟩ (.int .i64 (x2 - 1)) = x102 at Gx102 KF3 KF4 ⊢
      try simp only [Act.put, List.setIfInBounds_toArray, List.set_cons_zero, List.set_cons_succ]
      refine wpAnyH_done (by kernel_rfl) ?_ _
      try simp only [Act.put, List.setIfInBounds_toArray, List.set_cons_zero, List.set_cons_succ]
      rename_i hKy
      try refine hKy _ _ ?_
      gi_wp2
      have OS := Gx102.out.os
      have hgn : ∀ k, k < w7.heap.size → ¬ Tm e3 k → W.heap[k]? = W.heap[k]? := fun _ _ _ => rfl
      refine ⟨keepsV_only OS (fun k hk => HTN.out k (by unfold Tm at hk; unfold Tn; omega)), ⟨OS.size, fun g hg hl => OS.block g hl (fun ht => (HIT.out g hg).2 (by unfold Tm at ht; unfold Tn; omega))⟩, ⟨⟨CBH.out.bl.trans (OS.below CBH.out.bl.size (fun k hk => by have := HX.out; unfold Tm at hk; omega)), CBH.out.k0.same (OS.block _ CBH.out.k0.lt (fun hk => by have := HX.out; unfold Tm at hk; omega)), CBH.out.k2.same (OS.block _ CBH.out.k2.lt (fun hk => by have := HX.out; unfold Tm at hk; omega))⟩, qb, x2 - 1, KF3.out, HQB.out, KF4.out, by omega, by have := hmost.out; omega, fun hd => ?_⟩⟩
      have := HGOOD.out ⟨HG4.out.1, HG4.out.2.1, HG4.out.2.2.1, HG4.out.2.2.2, by rw [← HS.out]; exact of_decide_eq_true HV3.out.symm⟩ hd
      rw [← HQE.out, ← X2.out] at this
      exact this
  case done =>
    rintro D ys W hD hys hI hK
    obtain ⟨CBX, want, most, CW⟩ := hI
    have hl : ys.length = n := by
      have := congrArg List.length hys
      rw [List.length_map, downV_length] at this
      exact this
    have hc := CW.cond (by rw [hl]; exact hys)
    rw [hl, Nat.sub_self] at hc
    have hc2 : decide (want = zH) = res := hc
    have heq := fun w => eql_hash want zH CW.hw.bs hh_zero.bs CW.hw.len hh_zero.len w
    rw [hc2] at heq
    have HWI2 := hid (info_hash want CW.hw.len)
    have K3 := hid CW.k3
    have c2f := CBX.k2.cell 0
    have f2f := CBX.k2.frozen 0
    have HKD := hid hK; have CBH := hid CBX; have HDD := hid hD
    clear hc hc2 hl hys hK CW CBX hD
    go_wp2_with (first
      | (refine wpList_load_row rfl 26 (.tmp 7) rfl e3 rfl 26 (u8s want).toArray (0, 0) _ K3.out Tryd.underlying26 rfl HWI2.out ?_)
      | (refine cbuild_h0 rfl rfl ?_))
    have KF := hid (CBH.out.k2.setd 0 (.bool res))
    have hK9 : (W.setCell ⟨w.heap.size + 1 + 1, 0, none⟩ (.bool res)).heap[D]? = some (.deferred (some [])) := (Below.heap_setCell W _ _ D (by show D ≠ w.heap.size + 1 + 1; have := HX.out; have := HDD.out; omega)).trans HKD.out
    refine ⟨by simp, .inl ⟨_, _, rfl, run_takeDeferred hK9, ?_⟩⟩
    have hg := grownBy_putObj' (W.setCell ⟨w.heap.size + 1 + 1, 0, none⟩ (.bool res)) D (.deferred none)
    have hr : ∀ r, some D = some r → ∃ o : Obj, (W.setCell ⟨w.heap.size + 1 + 1, 0, none⟩ (.bool res)).heap[r]? = some o ∧ o.isCells = false := fun r e => by cases e; exact ⟨_, hK9, rfl⟩
    have hbw : Below w.heap.size w (W.setCell ⟨w.heap.size + 1 + 1, 0, none⟩ (.bool res)) := CBH.out.bl.setCell (by show w.heap.size ≤ w.heap.size + 1 + 1; omega) _
    exact ⟨_, results_bool Tryd.results45 _ _ (w.heap.size + 1 + 1) res rfl ((KF.out.ownV hg hr).cell 0), by rw [HRES.out], hbw.grown hg hbw.size (fun k e => by cases e; have := HX.out; have := HDD.out; omega)⟩
  case stop =>
    rintro D pre W hD hs ⟨h1, h2, h3⟩ hK
    have hf := h3 hs
    have HKD := hid hK; have HDD := hid hD; have BLW := hid h1; have K2W := hid h2; have HF := hid hf
    clear hf h3 hs h1 h2 hK hD
    try go_frame
    refine ⟨by simp, .inl ⟨_, _, rfl, run_takeDeferred HKD.out, ?_⟩⟩
    have hg := grownBy_putObj' W D (.deferred none)
    have hr : ∀ r, some D = some r → ∃ o : Obj, W.heap[r]? = some o ∧ o.isCells = false := fun r e => by cases e; exact ⟨_, HKD.out, rfl⟩
    exact ⟨_, results_bool Tryd.results45 _ _ (w.heap.size + 1 + 1) false rfl ((K2W.out.ownV hg hr).cell 0), by rw [HRES.out, HF.out], BLW.out.grown hg BLW.out.size (fun k e => by cases e; have := HX.out; have := HDD.out; omega)⟩
end Go.Proofs.YtjhaamffgkialaaDoor
