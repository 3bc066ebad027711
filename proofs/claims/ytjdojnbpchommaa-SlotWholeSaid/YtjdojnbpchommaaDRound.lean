/-
  What this file is for: a region that draws its order, within the round of a range over a function, walked as anywhere; what a turned write leaves as it was. Nothing of the program is walked here.
-/
import Derived.Test.YtjdojnbpchommaaDvT1
namespace Go.Proofs.Ytjdojnbpchommaa
open Go.ChangeShapes Go.WideShapes Go.ChangeAt Go.RowKit
set_option linter.unusedVariables false
set_option maxRecDepth 20000

def Qr (R : Act → World → Prop) : Exit → Act → World → Prop
  | .normal, a, w => R a w
  | _, _, _ => False
theorem wp_cut {P : Program} {c : Code} {Q : Exit → Act → World → Prop} {a : Act} {w : World} (R : Act → World → Prop) (h : c.wp P (Qr R) a w) (hR : ∀ a w, R a w → Q .normal a w) : c.wp P Q a w :=
  wp_mono h fun e a w hq => by cases e <;> first | exact hR _ _ hq | exact hq.elim
section
variable {P : Program} {R : Act → World → Prop} {l n : Nat}
theorem oper_round {o : Oper} {a : Act} {w : World} {K K' : Act → World → Prop} (hd : ∀ c, o.op ≠ .defer c) (hK : ∀ a w, K a w → K' a w) (h : o.wp P a w K (Qr R)) : o.wpIn (Fence.wide.inRound l) n P a w K' (Qr R) := by
  unfold Oper.wpIn
  refine ⟨fun _ _ => trivial, ?_⟩
  rw [Oper.semAt_plain _ _ _ hd]
  unfold Oper.wp at h
  generalize (execOp a.eval o).run P w = r at h
  cases r with
  | ok x w' =>
    cases x <;> simp only [Oper.upon, Oper.uponIn] at h ⊢
    case value v => exact hK _ _ h
    case skip => exact hK _ _ h
    case defer d => exact hK _ _ h
    case enter f args =>
      refine ⟨fun hs => by simp [Fence.inRound, Fence.wide] at hs, CallsIn.inRound l (callsIn_wide.2 (h.mono ?_))⟩
      intro e w'' he
      cases e with
      | returned v => exact hK _ _ he
      | panicked c => exact he
      | outgrown => exact he
    case row row args =>
      refine ⟨fun hs => by simp [Fence.inRound, Fence.wide] at hs, ?_⟩
      intro c cs _
      obtain ⟨v, w'', hr, hs⟩ := h c cs
      exact ⟨v, w'', hK _ _ hr, stepsIn_wide.2 hs⟩
  | halt x w' =>
    cases x <;> simp only [Oper.upon, Oper.uponIn] at h ⊢
    case panic v => exact h
theorem any_round {md : Region.Mode} {ops : Array Oper} (hd : ∀ (i : Nat) o, ops[i]? = some o → ∀ c, o.op ≠ .defer c) : ∀ (fuel : Nat) (listed : Array Bool) (a : Act) (w : World), wpAny P md ops (Qr R) fuel listed a w → wpAnyIn (Fence.wide.inRound l) n P md ops (Qr R) fuel listed a w := by
  intro fuel
  induction fuel with
  | zero => intro listed a w h; exact h
  | succ fuel ih =>
    intro listed a w h
    refine ⟨h.1, fun i hi => ?_⟩
    have h1 := h.2 i hi
    unfold wpOp at h1
    unfold wpOpIn
    cases ho : ops[i]? with
    | none => rw [ho] at h1; exact ih _ _ _ h1
    | some o =>
      rw [ho] at h1
      simp only at h1 ⊢
      by_cases hw : Region.wanted o (yielded ops a.tmps) = true
      · rw [if_pos hw] at h1 ⊢
        rcases h1 with h1 | ⟨_, a0, w0, h1⟩
        · exact oper_round (hd i o ho) (fun a w h => ih _ _ _ h) h1
        · exact h1.elim
      · rw [if_neg hw] at h1 ⊢
        exact ⟨fun _ _ => trivial, ih _ _ _ h1⟩
theorem region_round {id : Nat} {ops : Array Oper} {S : World → Prop} {a : Act} {w : World} (hm : P.follows .mixedOrders = true) (hd : (ops.toList.all fun o => match o.op with | .defer _ => false | _ => true) = true)
    (h : wpAnyH P .any ops (Qr R) S ops.size (Array.replicate ops.size false) a { w with drawn := w.drawn + 1 }) : (Code.region id ops true).wpIn (Fence.wide.inRound l) n P (Qr R) a w :=
  wpIn_region_any hm (any_round (fun i o ho c hc => by
    rw [List.all_eq_true] at hd
    have := hd o (by rw [← Array.getElem?_toList] at ho; exact List.mem_of_getElem? ho)
    rw [hc] at this
    cases this) _ _ _ _ (wpAny_of_held _ _ _ _ h))
theorem wpIn_cut {F : Fence} {c : Code} {Q : Exit → Act → World → Prop} {a : Act} {w : World} (R : Act → World → Prop) (h : c.wpIn F n P (Qr R) a w) (hR : ∀ a w, R a w → Q .normal a w) : c.wpIn F n P Q a w :=
  wpIn_mono h fun e a w hq => by cases e <;> first | exact hR _ _ hq | exact hq.elim
end

/-- between two rounds: the device, so many writes turned back -/
structure TbI (bx b g n m c : Nat) (A : Option Addr) (fz D : Bool) (fu : Int) (R : Nat → Prop) (w : World) (S0 : List (List Int) × List Wr) (pre : List (Wx m)) (W : World) : Prop where
  kx : Blk W bx 25 #[.pointer (some ⟨b, 0, none⟩)]
  kb : Blk W b 62 (devC g n (.slice A m c) fz fu D)
  kg : Blk W g 67 (pcs ((pre.map (·.1.val)).foldl sw S0).1).toArray
  kw : W.ownsRow 0 69 129 (.slice A m c) m (wcs ((pre.map (·.1.val)).foldl sw S0).2)
  os : OnlyS R w W
theorem Blk.own {W W' : World} {g : Nat} {t : TypeId} {cs : Array Value} {row : Option Nat} (h : Blk W g t cs) (hg : W.grownBy W' row) (hr : ∀ r, row = some r → ∃ o : Obj, W.heap[r]? = some o ∧ o.isCells = false) : Blk W' g t cs :=
  h.same (hg.block g h.lt (fun e => by
    obtain ⟨o, ho, hc⟩ := hr g e.symm
    unfold Blk at h
    rw [h] at ho
    injection ho with ho
    subst ho
    cases hc))
theorem own_own {W W' : World} {base e size n : Nat} {v : Value} {xs : List Value} {row : Option Nat} (h : W.ownsRow base e size v n xs) (hg : W.grownBy W' row) (hr : ∀ r, row = some r → ∃ o : Obj, W.heap[r]? = some o ∧ o.isCells = false) : W'.ownsRow base e size v n xs := by
  refine ⟨h.1, ?_⟩
  rcases h.2 with h1 | ⟨g, cap, cur, hv, hb, hh, rest⟩
  · exact .inl h1
  · exact .inr ⟨g, cap, cur, hv, hb, (show Blk W g e cur from hh).own hg hr, rest⟩
theorem TbI.own {bx b g n m c : Nat} {A : Option Addr} {fz D : Bool} {fu : Int} {R : Nat → Prop} {w : World} {S0 : List (List Int) × List Wr} {B : Nat} (hB : w.heap.size ≤ B) : OwnFrom B (TbI bx b g n m c A fz D fu R w S0) := fun pre W W' row hs hg hr =>
  ⟨hs.kx.own hg (fun r e => (hr r e).2), hs.kb.own hg (fun r e => (hr r e).2), hs.kg.own hg (fun r e => (hr r e).2), own_own hs.kw hg (fun r e => (hr r e).2), hs.os.grown hg (fun r e => .inr (Nat.le_trans hB (hr r e).1))⟩
/-- what the loads of a round need -/
structure WT (bx b g n h k : Nat) (a : Int) (w' : World) : Prop where
  cx : w'.cell? ⟨bx, 0, none⟩ = some (.pointer (some ⟨b, 0, none⟩))
  c0 : w'.cell? ⟨b, 0, none⟩ = some (.slice (some ⟨g, 0, none⟩) n n)
  ca : w'.cell? ⟨h, k * 129, none⟩ = some (.int .i64 a)
/-- a write's bytes within their row -/
theorem row_range {w : World} {h m k n : Nat} {C : Array Value} {U : List Wr} {q : Wr} (hC : Blk w h 69 C) (ht : C.toList.take (m * 129) = wcs U) (hU : QOk n U) (hk : U[k]? = some q) : w.rangeAt h (k * 129 + 1) (u8s q.2) := fun j v hv => by
  have hq := (hU q (List.mem_of_getElem? hk)).2
  have hj : j < 128 := by
    rcases Nat.lt_or_ge j 128 with h1 | h1
    · exact h1
    · rw [List.getElem?_eq_none (by rw [u8s_length, hq]; exact h1)] at hv; cases hv
  have := wcs_at hU hk j hj
  rw [← ht, List.getElem?_take] at this
  rw [hC.cell, Nat.mul_comm k 129, ← Array.getElem?_toList, ← hv, ← this]
  rw [if_pos]
  rcases Nat.lt_or_ge (129 * k + 1 + j) (m * 129) with h1 | h1
  · exact h1
  · rw [if_neg (by omega), u8s_get _ _ (by omega)] at this; cases this
theorem row_at {w : World} {h m k n : Nat} {C : Array Value} {U : List Wr} {q : Wr} (hC : Blk w h 69 C) (ht : C.toList.take (m * 129) = wcs U) (hU : QOk n U) (hk : U[k]? = some q) : w.cell? ⟨h, k * 129, none⟩ = some (.int .i64 (q.1 : Nat)) := by
  have := wcs_0 hU hk
  rw [← ht, List.getElem?_take] at this
  split at this
  · rw [hC.cell, Nat.mul_comm k 129, ← Array.getElem?_toList]; exact this
  · cases this
theorem row_there {w : World} {h m k n : Nat} {C : Array Value} {U : List Wr} {q : Wr} (hC : Blk w h 69 C) (ht : C.toList.take (m * 129) = wcs U) (hU : QOk n U) (hk : U[k]? = some q) {X : List Int} (hX : X.length = 128) : w.there h (k * 129 + 1) (u8s X).toArray.size := fun j hj => by
  rw [List.size_toArray, u8s_length, hX] at hj
  have hq := (hU q (List.mem_of_getElem? hk)).2
  exact ⟨by rw [row_range hC ht hU hk j _ (u8s_get _ _ (by omega))]; rfl, hC.frozen _⟩
theorem row_put {w : World} {h m k n : Nat} {C : Array Value} {U : List Wr} {q : Wr} (hC : Blk w h 69 C) (ht : C.toList.take (m * 129) = wcs U) (hm : m * 129 ≤ C.size) (hU : QOk n U) (hUm : U.length = m) (hk : U[k]? = some q) {X : List Int} (hX : X.length = 128) :
    ∃ C', Blk (w.setCells h (k * 129 + 1) (u8s X)) h 69 C' ∧ C'.size = C.size ∧ C'.toList.take (m * 129) = wcs (U.set k (q.1, X)) := by
  obtain ⟨hlt, _⟩ := List.getElem?_eq_some_iff.1 hk
  refine ⟨_, hC.putCells (u8s X) (k * 129 + 1), putRow_size _ _ _, ?_⟩
  rw [putRow_splice (by rw [u8s_length, hX]; omega) hm, ht, Nat.mul_comm k 129, wcs_put hU hk hX]
theorem KeepsOthers.setCells {g : Nat} : ∀ (vs : List Value) (w : World) (o : Nat), KeepsOthers w (w.setCells g o vs)
  | [], w, _ => KeepsOthers.refl w
  | v :: r, w, o => (KeepsOthers.setCell w ⟨g, o, none⟩ v).trans (KeepsOthers.setCells r _ (o + 1))
end Go.Proofs.Ytjdojnbpchommaa
