/-
  What is proved here: rounds of a range over a function; the library's own iterator over a list of hashes, from the last one on.
-/
import Derived.Test.YtoacjaecfabahaaDoorMF1
import Derived.RangeFuncNested
import Derived.RangeFuncBound
import Derived.RangeFuncCalls
import Derived.RangeFuncLeaves
import Derived.Shelf.Abstract
import Derived.Shelf.RegionOpen
import Derived.OwnWalkIn
import Derived.TacticsInMore
import Derived.LoopNIn
import Derived.LoopIn
import Derived.RangeFuncFrom
import Derived.OrdersIn
import Derived.OrdersHeld
set_option linter.unusedSimpArgs false
set_option linter.unusedVariables false
namespace Go.Proofs.YtoacjaecfabahaaDoor
open Go.ChangeShapes Go.WideShapes Go.ChangeAt Go.RowKit Go.Shelf
set_option linter.unusedVariables false
set_option linter.unusedSimpArgs false
set_option maxRecDepth 20000
attribute [local go_sem] Oper.semAt_some

/-- these blocks lie as they lay -/
def KpH (S : Nat → Prop) (W W' : World) : Prop := W.heap.size ≤ W'.heap.size ∧ ∀ g, S g → g < W.heap.size → W'.heap[g]? = W.heap[g]?
theorem KpH.refl (S : Nat → Prop) (W : World) : KpH S W W := ⟨Nat.le_refl _, fun _ _ _ => rfl⟩
theorem KpH.t {S : Nat → Prop} {A B C : World} (h : KpH S A B) (k : KpH S B C) : KpH S A C := ⟨Nat.le_trans h.1 k.1, fun g hs hl => (k.2 g hs (Nat.lt_of_lt_of_le hl h.1)).trans (h.2 g hs hl)⟩
theorem KpH.b {S : Nat → Prop} {w : World} (hS : ∀ g, S g → g < w.heap.size) (W : World) (l : Nat) (o o' : Obj) (hl : w.heap.size ≤ l) (h : W.heap[l]? = some o) (_ : o.isCells = false) (_ : o.isWalk = false) : KpH S W (W.putObj l o') :=
  ⟨by simp [World.putObj], fun g hg _ => World.putObj_heap_other (by have := hS g hg; omega)⟩
theorem KpH.below {S : Nat → Prop} {W W' : World} (h : Below W.heap.size W W') : KpH S W W' := ⟨h.size, fun g _ hl => h.block g hl⟩
theorem KpH.only {S T : Nat → Prop} {W W' : World} (h : OnlyS T W W') (hd : ∀ g, S g → ¬ T g) : KpH S W W' := ⟨h.size, fun g hg hl => h.block g hl (hd g hg)⟩
/-- a block of cells lies as it lay, whatever else is turned -/
theorem Blk.ownH {W W' : World} {g : Nat} {t : TypeId} {cs : Array Value} {row : Option Nat} (h : Blk W g t cs) (hg : W.grownBy W' row) (hr : ∀ r, row = some r → ∃ o : Obj, W.heap[r]? = some o ∧ o.isCells = false) : Blk W' g t cs :=
  h.same (hg.block g h.lt (fun e => by
    obtain ⟨o, ho, hc⟩ := hr g e.symm
    unfold Blk at h
    rw [h] at ho
    injection ho with ho
    subst ho
    cases hc))
/-- the numbers from m - 1 on downwards, so many -/
def downH (m j : Nat) : List Nat := (List.range j).map fun t => m - 1 - t
theorem downH_succ (m j : Nat) : downH m (j + 1) = downH m j ++ [m - 1 - j] := by simp [downH, List.range_succ]
theorem downH_length (m j : Nat) : (downH m j).length = j := by simp [downH]
def QrH (R : Act → World → Prop) : Exit → Act → World → Prop
  | .normal, a, w => R a w
  | _, _, _ => False
section
variable {P : Program} {R : Act → World → Prop} {l n : Nat}
theorem operH_ {o : Oper} {a : Act} {w : World} {K K' : Act → World → Prop} (hd : ∀ c, o.op ≠ .defer c) (hK : ∀ a w, K a w → K' a w) (h : o.wp P a w K (QrH R)) : o.wpIn (Fence.wide.inRound l) n P a w K' (QrH R) := by
  unfold Oper.wpIn
  refine ⟨fun _ _ => trivial, ?_⟩
  rw [Oper.semAt_plain _ _ _ hd]
  unfold Oper.wp at h
  generalize (execOp a.eval o).run P w = r at h
  cases r with
  | ok x w' =>
    cases x <;> simp only [Oper.upon, Oper.uponIn] at h ⊢
    case value v => exact hK _ _ h
    case skip => exact hK _ _ h
    case defer d => exact hK _ _ h
    case enter f args =>
      refine ⟨fun hs => by simp [Fence.inRound, Fence.wide] at hs, CallsIn.inRound l (callsIn_wide.2 (h.mono ?_))⟩
      intro e w'' he
      cases e with
      | returned v => exact hK _ _ he
      | panicked c => exact he
      | outgrown => exact he
    case row row args =>
      refine ⟨fun hs => by simp [Fence.inRound, Fence.wide] at hs, ?_⟩
      intro c cs _
      obtain ⟨v, w'', hr, hs⟩ := h c cs
      exact ⟨v, w'', hK _ _ hr, stepsIn_wide.2 hs⟩
  | halt x w' =>
    cases x <;> simp only [Oper.upon, Oper.uponIn] at h ⊢
    case panic v => exact h
theorem listH_ {ops : Array Oper} : ∀ (L : List Oper) (a : Act) (w : World), (∀ o ∈ L, ∀ c, o.op ≠ .defer c) → wpList P ops (QrH R) L a w → wpListIn (Fence.wide.inRound l) n P ops (QrH R) L a w
  | [], a, w, _, h => h
  | o :: rest, a, w, hd, h => by
    have hd' : ∀ o ∈ rest, ∀ c, o.op ≠ .defer c := fun o ho => hd o (List.mem_cons_of_mem _ ho)
    unfold wpList at h
    unfold wpListIn
    by_cases hw : Region.wanted o (yielded ops a.tmps) = true
    · rw [if_pos hw] at h ⊢
      rcases h with h | ⟨_, a0, w0, h⟩
      · exact operH_ (hd o (by simp)) (fun a w h => listH_ rest a w hd' h) h
      · exact h.elim
    · rw [if_neg hw] at h ⊢
      exact ⟨fun _ _ => trivial, listH_ rest _ w hd' h⟩
theorem plainH_ {id : Nat} {L : List Oper} {a : Act} {w : World} (hd : (L.all fun o => match o.op with | .defer _ => false | _ => true) = true) (h : wpList P L.toArray (QrH R) L a w) : (Code.region id L.toArray false).wpIn (Fence.wide.inRound l) n P (QrH R) a w :=
  wpIn_region_lit (listH_ L a w (fun o ho c hc => by
    rw [List.all_eq_true] at hd
    have := hd o ho
    rw [hc] at this
    cases this) h)
theorem wpInH_cut {F : Fence} {c : Code} {Q : Exit → Act → World → Prop} {a : Act} {w : World} (R : Act → World → Prop) (h : c.wpIn F n P (QrH R) a w) (hR : ∀ a w, R a w → Q .normal a w) : c.wpIn F n P Q a w :=
  wpIn_mono h fun e a w hq => by cases e <;> first | exact hR _ _ hq | exact hq.elim
end

section
variable {P : Program} {R : Act → World → Prop} {l n : Nat}
theorem anyH_ {md : Region.Mode} {ops : Array Oper} (hd : ∀ (i : Nat) o, ops[i]? = some o → ∀ c, o.op ≠ .defer c) : ∀ (fuel : Nat) (listed : Array Bool) (a : Act) (w : World), wpAny P md ops (QrH R) fuel listed a w → wpAnyIn (Fence.wide.inRound l) n P md ops (QrH R) fuel listed a w := by
  intro fuel
  induction fuel with
  | zero => intro listed a w h; exact h
  | succ fuel ih =>
    intro listed a w h
    refine ⟨h.1, fun i hi => ?_⟩
    have h1 := h.2 i hi
    unfold wpOp at h1
    unfold wpOpIn
    cases ho : ops[i]? with
    | none => rw [ho] at h1; exact ih _ _ _ h1
    | some o =>
      rw [ho] at h1
      simp only at h1 ⊢
      by_cases hw : Region.wanted o (yielded ops a.tmps) = true
      · rw [if_pos hw] at h1 ⊢
        rcases h1 with h1 | ⟨_, a0, w0, h1⟩
        · exact operH_ (hd i o ho) (fun a w h => ih _ _ _ h) h1
        · exact h1.elim
      · rw [if_neg hw] at h1 ⊢
        exact ⟨fun _ _ => trivial, ih _ _ _ h1⟩
theorem regionH_ {id : Nat} {ops : Array Oper} {S : World → Prop} {a : Act} {w : World} (hm : P.follows .mixedOrders = true) (hd : (ops.toList.all fun o => match o.op with | .defer _ => false | _ => true) = true)
    (h : wpAnyH P .any ops (QrH R) S ops.size (Array.replicate ops.size false) a { w with drawn := w.drawn + 1 }) : (Code.region id ops true).wpIn (Fence.wide.inRound l) n P (QrH R) a w :=
  wpIn_region_any hm (anyH_ (fun i o ho c hc => by
    rw [List.all_eq_true] at hd
    have := hd o (by rw [← Array.getElem?_toList] at ho; exact List.mem_of_getElem? ho)
    rw [hc] at this
    cases this) _ _ _ _ (wpAny_of_held _ _ _ _ h))
theorem seqH_ {id : Nat} {L : List Oper} {y : Code} {Q : Exit → Act → World → Prop} {a : Act} {w : World} (hd : (L.all fun o => match o.op with | .defer _ => false | _ => true) = true)
    (h : wpList P L.toArray (QrH fun a w => y.wpIn (Fence.wide.inRound l) n P Q a w) L a w) : (Code.seq (.region id L.toArray false) y).wpIn (Fence.wide.inRound l) n P Q a w :=
  wpIn_seq (wpInH_cut _ (plainH_ hd h) (fun _ _ h => h))
end
theorem keepsH_ {B : Nat} {W W' : World} (h : Below W.heap.size W W') : KeepsFrom B W W' := ⟨h.size, fun k o _ hk _ => (h.block k (by
  rcases Nat.lt_or_ge k W.heap.size with h1 | h1
  · exact h1
  · rw [Array.getElem?_eq_none h1] at hk; cases hk)).trans hk⟩
theorem execH_load {P : Program} {o : Oper} {a : Act} {w : World} (ty : TypeId) (x : Operand) (p v : Value) (ho : o.op = .load ty x) (hx : a.eval x = p) (hr : (Instr.loadAt ty p).run P w = .ok v w) : (execOp a.eval o).run P w = .ok (.value v) w := by
  unfold execOp
  simp only [ho, hx, Sem.run_bind, hr, Result.andThen_ok]
  rfl
theorem giH_load {n : Nat} {ops : Array Oper} {rest : List Oper} {o : Oper} {a : Act} {w : World} {Q : Exit → Act → World → Prop} (hgd : o.guard = none) (ty : TypeId) (x : Operand) (ho : o.op = .load ty x)
    (v p : Value) (hx : a.eval x = p) (hr : (Instr.loadAt ty p).run Tryd.prog w = .ok v w) (h : wpListIn Fence.wide n Tryd.prog ops Q rest (a.put o.dst v) w) : wpListIn Fence.wide n Tryd.prog ops Q (o :: rest) a w := by
  refine wpListIn_plain hgd (fun K hK => ?_)
  unfold Oper.wpIn
  refine ⟨fun _ _ => trivial, ?_⟩
  rw [Oper.semAt_plain _ _ _ (fun c hc => by rw [ho] at hc; cases hc), execH_load ty x p v ho hx hr]
  exact hK _ _ h
theorem keepsH_only {B : Nat} {T : Nat → Prop} {W W' : World} (h : OnlyS T W W') (hT : ∀ k, T k → k < B) : KeepsFrom B W W' := ⟨h.size, fun k o hB hk _ => (h.block k (by
  rcases Nat.lt_or_ge k W.heap.size with h1 | h1
  · exact h1
  · rw [Array.getElem?_eq_none h1] at hk; cases hk) (fun ht => by have := hT k ht; omega)).trans hk⟩
/-- a range over a function whose variable lies in a box -/
theorem range_boxH {α : Type} {P : Program} {n : Nat} {g : Operand} {ps : Array Tmp} {assign body : Code} {Q : Exit → Act → World → Prop} {a : Act} {w : World} (h1 : 1 ≤ n) {gf : Nat} {lb : Array Value} (hg : a.eval g = .func (.func gf) #[] lb) (eg : ∀ args w, (callFunc gf args).run P w = .ok (.enter gf args) w)
    {encs : α → Array Value} {SS : Nat → Prop} {S Sp : List α → Prop} {N : Nat} {w0 : World} (hseq : SeqStopsK Fence.wide (n - 1) P gf lb encs (KpH SS) S Sp N w0)
    (hSS : ∀ g, SS g → g < w.heap.size) (hb0 : Below w0.heap.size w0 w) (hps : ∀ x, (encs x).size = ps.size)
    (I X : List α → World → Prop) (hI : OwnFrom w.heap.size I) (hX : OwnFrom w.heap.size X) (hIb : ∀ pre W W', I pre W → Below W.heap.size W W' → I pre W') (h0 : I [] w) (F : α → Nat → Act) (t : TypeId) (C : α → Array Value)
    (hassign : ∀ (l : Nat) (x : α) (W : World) (K : Act → World → Prop), (∀ g8 W', Blk W' g8 t (C x) → Below W.heap.size W W' → W.heap.size ≤ g8 → K (F x g8) W') →
      assign.wpIn (Fence.wide.inRound l) (n - 1 - 1) P (Exit.then K (fun _ _ _ => False)) { tmps := (ps.zip (encs x)).foldl (fun t (p, v) => t.setIfInBounds p v) a.tmps, defers := [] } W)
    (hbody : ∀ (l : Nat) (pre : List α) (x : α) (g8 : Nat) (W : World), w.heap.size ≤ W.heap.size → I pre W → Blk W g8 t (C x) → w.heap.size ≤ g8 → pre.length < N → body.wpIn (Fence.wide.inRound l) (n - 1 - 1) P (ownPostG w.heap.size (KpH SS) I (fun c pre W => c = Code.ret ∧ X pre W) (pre ++ [x]) W) (F x g8) W)
    (hdone : ∀ (D : Nat) (xs : List α) (W : World), w.heap.size ≤ D → S xs → I xs W → W.heap[D]? = some (.deferred (some [])) → Q .normal { a with defers := { target := .collected D, args := #[] } :: a.defers } W)
    (hstop : ∀ (D : Nat) (pre : List α) (W : World), w.heap.size ≤ D → Sp pre → X pre W → W.heap[D]? = some (.deferred (some [])) → Q .ret { a with defers := { target := .collected D, args := #[] } :: a.defers } W) :
    (Code.rangeFunc g ps assign body).wpIn Fence.wide n P Q a w := by
  refine wpIn_rangeFunc_ownH (n := n) rfl h1 hg trivial eg hseq KpH.t (KpH.b (S := SS) hSS) hb0 hps (fun pre W => I pre W ∧ w.heap.size ≤ W.heap.size) (fun c pre W => c = Code.ret ∧ X pre W) (fun pre W W' row h hg hr => ⟨hI pre W W' row h.1 hg hr, Nat.le_trans h.2 hg.size⟩) (fun c pre W W' row h hg hr => ⟨h.1, hX pre W W' row h.2 hg hr⟩) ⟨h0, Nat.le_refl _⟩
    (fun x a' W => ∃ g8, a' = F x g8 ∧ Blk W g8 t (C x) ∧ w.heap.size ≤ g8) (fun x a' _ W W' row h hg hr => ?_) (fun l pre x W K hi hK => ?_) (fun l pre x a' W _ _ hi hax hlen => ?_) (fun D xs W hD hS hi hd => hdone D xs W hD hS hi.1 hd) (fun D c pre W hD hs h hd => by obtain ⟨rfl, h⟩ := h; exact wpIn_ret (hstop D pre W hD hs h hd))
  · obtain ⟨g8, e, hb, hle⟩ := h
    exact ⟨g8, e, hb.ownH hg (fun r e => (hr r e).2), hle⟩
  · refine hassign l x W K (fun g8 W' hb hbl hle => hK _ _ (keepsH_ hbl) (KpH.below hbl) ⟨hIb _ _ _ hi.1 hbl, Nat.le_trans hi.2 hbl.size⟩ ⟨g8, rfl, hb, Nat.le_trans hi.2 hle⟩)
  · obtain ⟨g8, rfl, hb, hle⟩ := hax
    refine wpIn_mono (hbody l pre x g8 W hi.2 hi.1 hb hle hlen) (fun e a w h => ?_)
    cases e with
    | normal => exact ⟨h.1, h.2.1, h.2.2, Nat.le_trans hi.2 h.1.size⟩
    | ret => exact h
    | exit id => exact h
    | goto t => exact h
    | panic c => exact h
    | outgrown => exact h
def ItW2 (bs : Nat) (A : Option Addr) (m : Nat) (g : Nat) : Prop := g = bs ∨ (0 < m ∧ ∃ a, A = some a ∧ g = a.block)
/-- what the iterator reads: its box, and the hashes -/
structure ItH (bs : Nat) (A : Option Addr) (m c : Nat) (L : List (List Int)) (w : World) : Prop where
  kb : Blk w bs 22 #[.slice A m c]
  h : InH w A m L
theorem ItH.kp {bs m c : Nat} {A : Option Addr} {L : List (List Int)} {W W' : World} (h : ItH bs A m c L W) (hk : KpH (ItW2 bs A m) W W') : ItH bs A m c L W' := by
  refine ⟨h.kb.same (hk.2 bs (.inl rfl) h.kb.lt), ?_⟩
  by_cases hm : 0 < m
  · obtain ⟨b, o, e, hlt, hat⟩ := h.h.2.2.2 hm
    exact h.h.keep hk.1 (fun b' o' e' => hk.2 b' (.inr ⟨hm, _, e', rfl⟩) (by rw [e] at e'; injection e' with e'; injection e' with e1; rw [← e1]; exact hlt))
  · exact ⟨h.h.1, h.h.2.1, h.h.2.2.1, fun hn => absurd hn hm⟩
theorem ItH.below {bs m c : Nat} {A : Option Addr} {L : List (List Int)} {W W' : World} (h : ItH bs A m c L W) (hb : Below W.heap.size W W') : ItH bs A m c L W' := ⟨h.kb.below hb, h.h.below hb⟩
def hAt (L : List (List Int)) (i : Nat) : List Int := L[i]?.getD []
def encH (L : List (List Int)) {m : Nat} (x : Fin m) : Array Value := #[.int .i64 (x.val : Int), hV (hAt L x.val)]
set_option maxHeartbeats 4000000 in
theorem hback_walk {m : Nat} (hm : m < 1000000) (l bs : Nat) (A : Option Addr) (c : Nat) (L : List (List Int)) (J Jx : List (Fin m) → World → Prop) (W : World)
    (hJ : AbidesFrom W.heap.size J)
    (hY : ∀ pre x W1, J pre W1 → pre.length < m → YieldAt Fence.wide 0 Tryd.prog l (encH L x) W1 fun e W' =>
      (e = .returned (.bool true) ∧ J (pre ++ [x]) W' ∧ KpH (ItW2 bs A m) W1 W') ∨ (e = .returned (.bool false) ∧ Jx (pre ++ [x]) W'))
    (hc : ItH bs A m c L W) (h0 : J [] W) :
    CallsIn Fence.wide 1 Tryd.prog 63 #[.func (.yield l) #[] #[], .pointer (some ⟨bs, 0, none⟩)] W fun e W' => (∃ v, e = .returned v) ∧
      ((∃ ys : List (Fin m), ys.map (·.val) = downH m m ∧ J ys W') ∨ (∃ pre : List (Fin m), pre.map (·.val) = downH m pre.length ∧ Jx pre W')) := by
  have HC := hid hc; have HY := hid hY; have HJ := hid hJ
  have H0 := hid h0
  clear hY hJ h0
  refine callsIn_of_wp Tryd.func63 rfl trivial ?_ rfl
  simp only [Tryd.ntmps63, List.size_toArray, List.length_cons, List.length_nil, Nat.reduceAdd, Nat.reduceSub, Array.replicate_succ, Array.replicate_zero, List.push_toArray, List.append_toArray, List.nil_append, List.cons_append]
  have s0 : W.cell? ⟨bs, 0, none⟩ = some (.slice A m c) := hc.kb.cell 0
  have hm2 : (m : Int) < 1000000 := by omega
  have HM := hid hm
  clear hm
  clear hc
  gi_wp2
  clear s0
  gi_loopw [3] (fun i wr => ∃ r : Nat, r ≤ m ∧ i = .int .i64 ((r : Int) - 1) ∧ Hid (ItH bs A m c L wr) ∧ ∃ pre : List (Fin m), Hid (pre.map (·.val) = downH m (m - r)) ∧ Hid (J pre wr)) (fun i _ => (intOf i + 1).toNat)
  case atStart => exact ⟨m, Nat.le_refl _, rfl, HC.out, [], by show _ = _; simp [downH], H0.out⟩
  case round =>
    obtain ⟨r, hr, rfl, HCR, pre, HP, HJR⟩ := hrel
    cases r with
    | zero =>
      have e0 : ((0 : Nat) : Int) - 1 = -1 := by simp
      rw [e0]
      gi_wp2
      go_end0
      exact ⟨⟨_, rfl⟩, .inl ⟨pre, by have := HP.out; rwa [Nat.sub_zero] at this, HJR.out⟩⟩
    | succ k =>
      have e0 : ((k + 1 : Nat) : Int) - 1 = (k : Int) := by omega
      rw [e0]
      obtain ⟨b, oo, K, rfl, hK, h32, hblt, hrng⟩ := HCR.out.h.at (k := k) (by omega)
      have hmax := HCR.out.h.2.1
      have hKe : hAt L k = K := by unfold hAt; rw [hK]; rfl
      have s0 : wr.cell? ⟨bs, 0, none⟩ = some (.slice (some ⟨b, oo, none⟩) m c) := HCR.out.kb.cell 0
      have ld1 : (Instr.loadAt 33 (.pointer (some ⟨b, oo + k * 32, none⟩))).run Tryd.prog wr = .ok (hV (hAt L k)) wr := by rw [hKe]; exact run_loadAt_mid wr b (oo + k * 32) 33 (u8s K) _ hrng Tryd.underlying33 rfl (info_hash K h32.len)
      have HL : Hid (pre.length = m - (k + 1)) := by
        have := HP.out
        have := congrArg List.length this
        rw [List.length_map, downH_length] at this
        exact this
      obtain ⟨fn, tmps, assign, body, hy, hR⟩ := HY.out pre (⟨k, by omega⟩ : Fin m) wr HJR.out (by rw [HL.out]; omega)
      have hy2 : (Instr.yield l #[.int .i64 (k : Int), hV (hAt L k)]).run Tryd.prog wr = .ok (.round l fn tmps assign body) wr := hy
      have HR := hid hR
      have hk : k < m := by omega
      clear hy hR hrng hK hKe h32 hblt
      generalize hV (hAt L k) = vs at ld1 hy2
      gi_wp2_with (refine giH_load rfl 33 (.tmp 15) rfl vs _ rfl ld1 ?_)
      refine HR.out.mono ?_
      rintro e W3 h3
      clear s0 hy2 ld1
      have KK : Hid (m - (k + 1) + 1 = m - k ∧ m - 1 - (m - (k + 1)) = k) := by show _ ∧ _; omega
      rcases h3 with ⟨rfl, hj3, hk3⟩ | ⟨rfl, hj3⟩
      · have HJ3 := hid hj3; have HK3 := hid hk3; clear hj3 hk3
        gi_wp2
        go_roundw
        case rel =>
          refine ⟨k, by omega, rfl, HCR.out.kp HK3.out, _, ?_, HJ3.out⟩
          show _ = _
          rw [List.map_append, HP.out, ← KK.out.1, downH_succ, KK.out.2]
          rfl
        case measure => simp [intOf]
      · have HJ3 := hid hj3; clear hj3
        gi_wp2
        refine bodyPost_ret (results_none rfl _ _ _) rfl ?_
        refine ⟨⟨_, rfl⟩, .inr ⟨_, ?_, HJ3.out⟩⟩
        rw [List.map_append, HP.out, List.length_append, List.length_singleton, HL.out]
        have e5 : m - (k + 1) + 1 = m - k := KK.out.1
        rw [downH_succ, KK.out.2]
        rfl
theorem hback_stops {m : Nat} (hm : m < 1000000) (bs : Nat) (A : Option Addr) (c : Nat) (L : List (List Int)) (w : World) (hc : ItH bs A m c L w) :
    SeqStopsK Fence.wide 1 Tryd.prog 63 #[.pointer (some ⟨bs, 0, none⟩)] (encH L (m := m)) (KpH (ItW2 bs A m)) (fun ys => ys.map (·.val) = downH m m) (fun ys => ys.map (·.val) = downH m ys.length) m w :=
  fun l J Jx W hW hJ _ hY h0 => (hback_walk hm l bs A c L J Jx W hJ hY (hc.below (hW.mono (Nat.le_refl _))) h0)
theorem hback_any (A : Option Addr) (n c : Nat) (w : World) :
    Calls Tryd.prog 43 #[.slice A n c] w fun e w' => e = .returned (.func (.func 63) #[] #[.pointer (some ⟨w.heap.size, 0, none⟩)]) ∧ w' = w.alloc (.cells #[.slice A n c] 22) := by
  go_enter Tryd.func43, Tryd.ntmps43
  go_wp2
  go_ret
  exact ⟨rfl, rfl⟩
end Go.Proofs.YtoacjaecfabahaaDoor
