/-
  What this file is for: a region that draws its order, in the wide fence, where a call may be a round of a range over a function: what only reads may be taken first, as in a plain walk. Nothing of the program is walked here.
-/
import Derived.Test.YtjhaamffgkialaaGreatDoorMX14
import Derived.OrdersHeld
import Derived.Test.YtjhaamffgkialaaGreatDoorMX20
import Derived.Test.YtjhaamffgkialaaGreatDoorMX23
import Derived.Test.YtjhaamffgkialaaGreatDoorMY5
import Derived.Test.YtjhaamffgkialaaGreatDoorMY25
set_option linter.unusedSimpArgs false
set_option linter.unusedVariables false
namespace Go.Proofs.YtjhaamffgkialaaGreatDoor
open Go.ChangeShapes Go.WideShapes Go.ChangeAt Go.RowKit Go.Shelf
set_option linter.unusedVariables false
set_option linter.unusedSimpArgs false
set_option maxRecDepth 20000

section
variable {P : Program} {ops : Array Oper} {Q : Exit → Act → World → Prop} {md : Region.Mode} {S : World → Prop} {n : Nat}
theorem wide_yields {i : Nat} {o : Oper} {v : Value} {a : Act} (hi : ops[i]? = some o) (hy : YieldsIf P ops S o v a)
    {K : Act → World → Prop} {w : World} (hS : S w) (h : K (a.put o.dst v) w) : wpOpIn Fence.wide n P ops Q i K a w := by
  unfold Go.wpOpIn
  simp only [hi]
  rcases hy with ⟨hw, hv⟩ | ⟨hw, rfl⟩
  · simp only [hw, if_true, Oper.wpIn, show Fence.wide.round = none from rfl, Oper.semAt_none, hv w hS, Oper.uponIn]; exact ⟨fun _ _ => trivial, h⟩
  · simp only [hw, Bool.false_eq_true, if_false]; exact ⟨fun _ _ => trivial, h⟩
theorem wide_putIf {j : Nat} {oi oj : Oper} {v : Value} (hj : ops[j]? = some oj) (hap : oi.apart ops oj = true)
    (hsi : ∀ cs b, oi.op ≠ .select cs b) (hsj : ∀ cs b, oj.op ≠ .select cs b)
    (hQ : ∀ c a w, Q (.panic c) (a.put oi.dst v) w → Q (.panic c) a w) {K : Act → World → Prop} {a : Act} {w : World}
    (hy : YieldsIf P ops S oi v a) (h : wpOpIn Fence.wide n P ops Q j K (a.put oi.dst v) w) :
    wpOpIn Fence.wide n P ops Q j (fun a' w' => YieldsIf P ops S oi v a' ∧ K (a'.put oi.dst v) w') a w := by
  obtain ⟨h1, h2, h3⟩ := Oper.apart_spec hap
  have keep : ∀ (a : Act), YieldsIf P ops S oi v a → ∀ u, YieldsIf P ops S oi v (a.put oj.dst u) := fun a hy u =>
    hy.of_same (execOp_put oi hsi a oj.dst u h3) (wanted_put oi a oj.dst u h3)
  have keepD : ∀ d, YieldsIf P ops S oi v { a with defers := d :: a.defers } := fun d => hy.of_same rfl rfl
  have hro : Fence.wide.round = none := rfl
  unfold wpOpIn at *
  simp only [hj] at *
  rw [wanted_put oj a oi.dst v h1] at h
  split
  · rename_i hw
    simp only [hw, if_true] at h
    unfold Oper.wpIn at *
    refine ⟨fun _ _ => trivial, ?_⟩
    have h := h.2
    rw [hro, Oper.semAt_none, execOp_put oj hsj a oi.dst v h1] at h
    rw [hro, Oper.semAt_none]
    generalize (execOp a.eval oj).run P w = r at *
    cases r with
    | ok x w' =>
      cases x <;> simp only [Oper.uponIn] at h ⊢
      case value u => exact ⟨keep a hy u, by rw [← Act.put_comm a v u h2]; exact h⟩
      case skip => exact ⟨keep a hy _, by rw [← Act.put_comm a v undef h2]; exact h⟩
      case defer d =>
        refine ⟨keep _ (keepD d) _, ?_⟩
        rw [← Act.put_comm _ v undef h2, ← Act.put_defers]
        exact h
      case enter f args =>
        refine ⟨h.1, CallsIn.mono h.2 fun e w'' he => ?_⟩
        cases e with
        | returned u => exact ⟨keep a hy u, by rw [← Act.put_comm a v u h2]; exact he⟩
        | panicked c => exact hQ _ _ _ he
        | outgrown => exact he
      case row row args => exact ⟨h.1, RowsIn.mono h.2 fun u w'' he => ⟨keep a hy u, by rw [← Act.put_comm a v u h2]; exact he⟩⟩
      case round l f tmps assign body =>
        refine ⟨h.1, RoundIn.mono h.2 fun e w'' he => ?_⟩
        cases e with
        | returned u => exact ⟨keep a hy u, by rw [← Act.put_comm a v u h2]; exact he⟩
        | panicked c => exact hQ _ _ _ he
        | outgrown => exact he
    | halt x w' =>
      cases x <;> simp only [Oper.uponIn] at h ⊢
      case panic u => exact hQ _ _ _ h
  · rename_i hw
    simp only [hw] at h
    exact ⟨fun _ _ => trivial, keep a hy _, by rw [← Act.put_comm a v undef h2]; exact h.2⟩
/-! Operations that wait for all others. -/
/-- what an operation that has come up waited for has come up too -/
def Clos (md : Region.Mode) (ops : Array Oper) (listed : Array Bool) : Prop := ∀ (j : Nat) o, ops[j]? = some o → listed.getD j false = true → ∀ e ∈ o.after, Region.binds md e = true → listed.getD e.on false = true
def closB (md : Region.Mode) (ops : Array Oper) (listed : Array Bool) : Bool := (List.range ops.size).all fun j => !listed.getD j false || ((ops[j]?).map (·.after.all fun e => !Region.binds md e || listed.getD e.on false)).getD true
theorem clos_of {listed : Array Bool} (h : closB md ops listed = true) : Clos md ops listed := fun j o ho hl e he hb => by
  unfold closB at h
  rw [List.all_eq_true] at h
  have h1 := h j (List.mem_range.2 (Array.getElem?_eq_some_iff.1 ho).1)
  rw [ho, hl] at h1
  simp only [Bool.not_true, Bool.false_or, Option.map_some, Option.getD_some, Array.all_eq_true'] at h1
  have h2 := h1 e he
  rw [hb] at h2
  simpa using h2
theorem Clos.set {listed : Array Bool} (h : Clos md ops listed) {i : Nat} (hi : i ∈ Region.ready md ops listed) : Clos md ops (listed.setIfInBounds i true) := fun j o ho hl e he hb => by
  have up : ∀ k, listed.getD k false = true → (listed.setIfInBounds i true).getD k false = true := fun k hk => by
    by_cases hik : i = k
    · subst hik
      by_cases hlt : i < listed.size
      · simp [hlt]
      · simp [hlt] at hk
    · rw [getD_set_ne false hik]; exact hk
  by_cases hij : i = j
  · subst hij
    obtain ⟨_, o', ho', hall⟩ := mem_ready.1 hi
    rw [ho] at ho'
    injection ho' with ho'
    subst ho'
    exact up _ (hall e he hb)
  · rw [getD_set_ne false hij] at hl
    exact up _ (h j o ho hl e he hb)
/-- from L on each waits, in the end, for all that stand ahead of L -/
def lastB (md : Region.Mode) (ops : Array Oper) (L : Nat) : Bool :=
  ((List.range L).all fun k => (List.range (L + 1)).any fun j => decide (k < j) && ((ops[j]?).map (·.after.any fun e => Region.binds md e && e.on == k)).getD false) &&
  ((List.range ops.size).all fun j => decide (j ≤ L) || ((ops[j]?).map (·.after.any fun e => Region.binds md e && decide (L ≤ e.on) && decide (e.on < j))).getD false)
theorem last_to {listed : Array Bool} {L : Nat} (hs : lastB md ops L = true) (hc : Clos md ops listed) : ∀ (j : Nat) o, ops[j]? = some o → L ≤ j → (∀ e ∈ o.after, Region.binds md e = true → listed.getD e.on false = true) → ∀ oL, ops[L]? = some oL → ∀ e ∈ oL.after, Region.binds md e = true → listed.getD e.on false = true := by
  intro j
  induction j using Nat.strongRecOn with
  | ind j ih =>
    intro o ho hle hall oL hoL
    by_cases e : j = L
    · subst e
      rw [ho] at hoL; injection hoL with hoL; subst hoL
      exact hall
    · unfold lastB at hs
      rw [Bool.and_eq_true, List.all_eq_true, List.all_eq_true] at hs
      have h1 := hs.2 j (List.mem_range.2 (Array.getElem?_eq_some_iff.1 ho).1)
      rw [decide_eq_false (by omega), ho] at h1
      simp only [Bool.false_or, Option.map_some, Option.getD_some, Array.any_eq_true'] at h1
      obtain ⟨ed, hed, h2⟩ := h1
      rw [Bool.and_eq_true, Bool.and_eq_true, decide_eq_true_eq, decide_eq_true_eq] at h2
      obtain ⟨⟨h3, h4⟩, h5⟩ := h2
      have hl := hall ed hed h3
      have hon : ed.on < ops.size := by have := (Array.getElem?_eq_some_iff.1 ho).1; omega
      exact ih ed.on h5 _ (Array.getElem?_eq_getElem hon) h4 (fun e he hb => hc ed.on _ (Array.getElem?_eq_getElem hon) hl e he hb) oL hoL
theorem last_all {listed : Array Bool} {L : Nat} (hs : lastB md ops L = true) (hc : Clos md ops listed) {j : Nat} (hj : j ∈ Region.ready md ops listed) (hle : L ≤ j) : ∀ k, k < L → listed.getD k false = true := by
  obtain ⟨_, o, ho, hall⟩ := mem_ready.1 hj
  have hL : L < ops.size := by have := (Array.getElem?_eq_some_iff.1 ho).1; omega
  have hLa := last_to hs hc j o ho hle hall _ (Array.getElem?_eq_getElem hL)
  unfold lastB at hs
  rw [Bool.and_eq_true, List.all_eq_true] at hs
  suffices h : ∀ d k, k < L → L - k ≤ d → listed.getD k false = true from fun k hk => h (L - k) k hk (Nat.le_refl _)
  intro d
  induction d with
  | zero => intro k hk hd; omega
  | succ d ih =>
    intro k hk hd
    have h1 := hs.1 k (List.mem_range.2 hk)
    rw [List.any_eq_true] at h1
    obtain ⟨m, hm, h2⟩ := h1
    rw [List.mem_range] at hm
    rw [Bool.and_eq_true, decide_eq_true_eq] at h2
    obtain ⟨h3, h4⟩ := h2
    have hms : m < ops.size := by omega
    rw [Array.getElem?_eq_getElem hms] at h4
    simp only [Option.map_some, Option.getD_some, Array.any_eq_true'] at h4
    obtain ⟨ed, hed, h5⟩ := h4
    rw [Bool.and_eq_true, beq_iff_eq] at h5
    obtain ⟨h6, h7⟩ := h5
    rw [← h7]
    by_cases hmL : m = L
    · subst hmL; exact hLa ed hed h6
    · exact hc m _ (Array.getElem?_eq_getElem hms) (ih m (by omega) (by omega)) ed hed h6
/-- whatever order is picked, and S holds behind each operation ahead of L -/
def wpAnyW (n : Nat) (P : Program) (md : Region.Mode) (ops : Array Oper) (Q : Exit → Act → World → Prop) (S : World → Prop) (L : Nat) : Nat → Array Bool → Act → World → Prop
  | 0, listed, a, w => Region.ready md ops listed = [] ∧ Q .normal a w
  | fuel + 1, listed, a, w =>
    (Region.ready md ops listed = [] → Q .normal a w) ∧
    ∀ i ∈ Region.ready md ops listed, wpOpIn Fence.wide n P ops Q i (fun a' w' => (L ≤ i ∨ S w') ∧ wpAnyW n P md ops Q S L fuel (listed.setIfInBounds i true) a' w') a w
theorem wpAnyIn_of_W {L : Nat} : ∀ (fuel : Nat) (listed : Array Bool) (a : Act) (w : World), wpAnyW n P md ops Q S L fuel listed a w → wpAnyIn Fence.wide n P md ops Q fuel listed a w
  | 0, _, _, _, h => h
  | fuel + 1, _, _, _, h => ⟨h.1, fun i hi => wpOpIn_mono (fun a' w' h' => wpAnyIn_of_W fuel _ a' w' h'.2) (h.2 i hi)⟩
theorem wpAnyW_first {L : Nat} (hL : lastB md ops L = true) {i : Nat} (hiL : i < L) {oi : Oper} {v : Value} (hi : ops[i]? = some oi) (hsel : ∀ (j : Nat) (o : Oper) cs b, ops[j]? = some o → o.op ≠ .select cs b)
    (hQ : ∀ c a w, Q (.panic c) (a.put oi.dst v) w → Q (.panic c) a w) :
    ∀ (fuel : Nat) (listed : Array Bool) (a : Act) (w : World),
      (∀ j oj, ops[j]? = some oj → j ≠ i → listed.getD j true = false → (∀ e ∈ oj.after, Region.binds md e = true → e.on ≠ i) → oi.apart ops oj = true) →
      i ∈ Region.ready md ops listed → Clos md ops listed → YieldsIf P ops S oi v a → S w →
      wpAnyW n P md ops Q S L fuel (listed.setIfInBounds i true) (a.put oi.dst v) w → wpAnyW n P md ops Q S L (fuel + 1) listed a w := by
  intro fuel
  induction fuel with
  | zero =>
    intro listed a w _ hr hcl hy hS H
    refine ⟨fun h => (by rw [h] at hr; cases hr), fun j hj => ?_⟩
    by_cases hji : j = i
    · subst hji; exact wide_yields hi hy hS ⟨.inr hS, H⟩
    · have := ready_mono hj hji
      rw [H.1] at this
      cases this
  | succ fuel ih =>
    intro listed a w hfree hr hcl hy hS H
    refine ⟨fun h => (by rw [h] at hr; cases hr), fun j hj => ?_⟩
    by_cases hji : j = i
    · subst hji; exact wide_yields hi hy hS ⟨.inr hS, H⟩
    · have h1 := H.2 j (ready_mono hj hji)
      obtain ⟨hjun, oj, hoj, hall⟩ := mem_ready.1 hj
      have hnot : ∀ e ∈ oj.after, Region.binds md e = true → e.on ≠ i := fun e he hb heq => by
        have h1 := hall e he hb
        have h0 := (mem_ready.1 hr).1
        rw [heq] at h1
        rcases Nat.lt_or_ge i listed.size with h' | h'
        · simp [h'] at h0 h1; rw [h0] at h1; cases h1
        · simp [Array.getElem?_eq_none h'] at h1
      have h2 := wide_putIf hoj (hfree j oj hoj hji hjun hnot) (fun cs b => hsel i oi cs b hi) (fun cs b => hsel j oj cs b hoj) hQ hy h1
      have hfree' : ∀ k ok, ops[k]? = some ok → k ≠ i → (listed.setIfInBounds j true).getD k true = false →
          (∀ e ∈ ok.after, Region.binds md e = true → e.on ≠ i) → oi.apart ops ok = true := fun k ok hk hki hun hno => by
        refine hfree k ok hk hki ?_ hno
        by_cases hjk : j = k
        · subst hjk; exact hjun
        · rw [getD_set_ne true hjk] at hun; exact hun
      have hjL : ¬ L ≤ j := fun hle => by
        have h0 := last_all hL hcl hj hle i hiL
        have h1 := (mem_ready.1 hr).1
        rcases Nat.lt_or_ge i listed.size with h' | h'
        · simp [h'] at h0 h1; rw [h0] at h1; cases h1
        · simp [Array.getElem?_eq_none h'] at h1
      refine wpOpIn_mono (fun a' w' h3 => ⟨h3.2.1, ih (listed.setIfInBounds j true) a' w' hfree' (ready_mono hr (Ne.symm hji)) (hcl.set hj) h3.1 (h3.2.1.resolve_left hjL) ?_⟩) h2
      rw [Array.setIfInBounds_comm _ _ hji]
      exact h3.2.2
theorem wpAnyW_take {L : Nat} (hL : lastB md ops L = true) {i : Nat} (hiL : i < L) {oi : Oper} {v : Value} {fuel : Nat} {listed : Array Bool} {a : Act} {w : World} (hi : ops[i]? = some oi)
    (hs : Region.noSelect ops = true) (hf : Region.free md ops listed i = true) (hr : (Region.ready md ops listed).contains i = true)
    (hQ : ∀ c a w, Q (.panic c) (a.put oi.dst v) w → Q (.panic c) a w) (hcl : closB md ops listed = true) (hy : YieldsIf P ops S oi v a) (hS : S w)
    (h : wpAnyW n P md ops Q S L fuel (listed.setIfInBounds i true) (a.put oi.dst v) w) : wpAnyW n P md ops Q S L (fuel + 1) listed a w :=
  wpAnyW_first hL hiL hi (Region.noSelect_spec hs) hQ fuel listed a w (Region.free_spec hi hf) (by simpa using hr) (clos_of hcl) hy hS h
/-- one alone may come up -/
theorem wpAnyW_one {L : Nat} {i : Nat} {o : Oper} {fuel : Nat} {listed : Array Bool} {a : Act} {w : World} (hi : ops[i]? = some o) (hw : Region.wanted o (yielded ops a.tmps) = true) (hr : Region.ready md ops listed = [i])
    (h : o.wpIn Fence.wide n P a w (fun a' w' => (L ≤ i ∨ S w') ∧ wpAnyW n P md ops Q S L fuel (listed.setIfInBounds i true) a' w') Q) : wpAnyW n P md ops Q S L (fuel + 1) listed a w :=
  ⟨fun h0 => absurd (hr.symm.trans h0) (by simp), fun j hj => by
    rw [hr, List.mem_singleton] at hj
    subst hj
    unfold wpOpIn
    simp only [hi]
    rw [if_pos hw]
    exact h⟩
theorem wpAnyW_done {L : Nat} {listed : Array Bool} {a : Act} {w : World} (hr : Region.ready md ops listed = []) (h : Q .normal a w) :
    ∀ fuel, wpAnyW n P md ops Q S L fuel listed a w
  | 0 => ⟨hr, h⟩
  | _ + 1 => ⟨fun _ => h, by rw [hr]; simp⟩
theorem wide_region (L : Nat) {id : Nat} {a : Act} {w : World} (hm : P.follows .mixedOrders = true)
    (h : wpAnyW n P .any ops Q S L ops.size (Array.replicate ops.size false) a { w with drawn := w.drawn + 1 }) : (Code.region id ops true).wpIn Fence.wide n P Q a w :=
  wpIn_region_any hm (wpAnyIn_of_W _ _ _ _ h)
end
end Go.Proofs.YtjhaamffgkialaaGreatDoor
/-
  What is proved here: the pairs of a tree's node, one by one, for whatever loop's body.
-/
namespace Go.Proofs.YtjhaamffgkialaaGreatDoor
open Go.ChangeShapes Go.WideShapes Go.ChangeAt Go.RowKit Go.Shelf
set_option linter.unusedVariables false
set_option linter.unusedSimpArgs false
set_option maxRecDepth 20000
attribute [local go_sem] Oper.semAt_some

/-- a pair whose parts are keys -/
abbrev KQ := { q : KV // Ky q.1 ∧ Ky q.2 }
def encK (x : KQ) : Array Value := #[.agg (kvc x.1).toArray]
theorem info_xpair : (Tryz.prog.info? 67).map (fun i => (i.zero, i.size, i.bytes)) = some (some (.agg (kvc (z32, z32)).toArray), 64, 64) := by kernel_rfl
theorem xpair_places : ∃ fields, Tryz.prog.underlying 67 = some (.struct fields) ∧ fields.toList.mapM (fun f => (Tryz.prog.info? f.type).map fun i => (f.offset, i.size)) = some [(0, 32), (32, 32)] := ⟨_, Tryz.underlying67, by kernel_rfl⟩
theorem xpair_built {k v : List Int} (hk : Ky k) (hv : Ky v) : Tryz.prog.built 67 [(0, .agg (kc k)), (1, .agg (kc v))] = some (kvc (k, v)).toArray := by
  obtain ⟨i0, hi, hz0, hz1, hz2⟩ := info_parts info_xpair
  obtain ⟨fields, hu, hpl⟩ := xpair_places
  unfold Program.built
  rw [hi, hu]
  simp only [hz0, hpl]
  have e3 : (Value.agg (kvc (z32, z32)).toArray).cells = (kvc (z32, z32)).toArray := rfl
  have sz : (kvc (z32, z32)).toArray.size = 64 := rfl
  rw [e3, fill_step (v := .agg (kc k)) (off := 0) (size := 32) rfl (kc_size hk) (by simp only [putRow_len, sz]; decide), fill_step (v := .agg (kc v)) (off := 32) (size := 32) rfl (kc_size hv) (by simp only [putRow_len, sz]; decide), fill_end]
  have c1 : (Value.agg (kc k)).cells.toList = u8s k := rfl
  have c2 : (Value.agg (kc v)).cells.toList = u8s v := rfl
  rw [c1, c2]
  have p1 : putRow (kvc (z32, z32)).toArray 0 (u8s k) = (u8s k ++ u8s z32).toArray := putRow_mid (A := []) (M := u8s z32) (M' := u8s k) (C := u8s z32) rfl (by rw [u8s_length, u8s_length, hk.len]; rfl)
  have p2 : putRow (u8s k ++ (u8s z32 ++ [])).toArray 32 (u8s v) = (u8s k ++ (u8s v ++ [])).toArray := putRow_mid (A := u8s k) (M := u8s z32) (by rw [u8s_length, hk.len]) (by rw [u8s_length, u8s_length, hv.len]; rfl)
  rw [List.append_nil, List.append_nil] at p2
  rw [p1, p2]
  rfl
/-- what a body that goes on, or stops, leaves -/
def EaR (SS : Nat → Prop) (J Jx : List KQ → World → Prop) (L : List KV) (pre : List KQ) (W : World) (e : Ending) (W' : World) : Prop :=
  (e = .returned (.bool true) ∧ (∃ ys : List KQ, ys.map (·.val) = L ∧ J (pre ++ ys) W') ∧ KpS SS W W') ∨ (e = .returned (.bool false) ∧ ∃ q, Jx (pre ++ q) W')
def Yl (l M : Nat) (SS : Nat → Prop) (J Jx : List KQ → World → Prop) : Prop := ∀ pre x W1, J pre W1 → pre.length < M → YieldAt Fence.wide 0 Tryz.prog l (encK x) W1 fun e W' =>
  (e = .returned (.bool true) ∧ J (pre ++ [x]) W' ∧ KpS SS W1 W') ∨ (e = .returned (.bool false) ∧ Jx (pre ++ [x]) W')
theorem Fo.kp {W W' : World} {f g b c : Nat} {N : List Nd} {A : Option Addr} {tv : Value} {SS : Nat → Prop} (h : Fo W f g b N A c tv) (hS : ∀ k, Ow f g b k → SS k) (hk : KpS SS W W') : Fo W' f g b N A c tv := h.keep (fun k ho => hk.2 k (hS k ho) (by
  obtain ⟨h1, h2, h3⟩ := h.lts
  rcases ho with rfl | rfl | rfl <;> assumption))
theorem round_dep {m m' : Nat} {P : Program} {l : Nat} {f : FuncId} {tmps : Array Value} {assign body : Code} {w : World} {R : Ending → World → Prop} (h : RoundIn Fence.wide m P l f tmps assign body w R) : RoundIn Fence.wide m' P l f tmps assign body w R :=
  ⟨h.1, fun c cs _ => h.2 c cs (fun d h => by cases h)⟩
theorem abides_drew {B : Nat} {J : List KQ → World → Prop} (h : AbidesFrom B J) {s : List KQ} {W : World} (hj : J s W) : J s W.drew := h s W W.drew none hj ⟨rfl, rfl, rfl, Nat.le_refl _, fun _ _ _ => rfl⟩ (fun r e => by cases e)
set_option maxHeartbeats 8000000 in
theorem each_leaf {f g b c : Nat} {N : List Nd} {A : Option Addr} {tv : Value} (l M B : Nat) (J Jx : List KQ → World → Prop) (SS : Nat → Prop) (hJ : AbidesFrom B J) (hY : Yl l M SS J Jx)
    (k v : List Int) (i n : Nat) (pre : List KQ) (W : World) (hr : N[i]? = some (ndL k v (hLf k v))) (hok : Ky k ∧ Ky v) (hf : Fo W f g b N A c tv) (hj : J pre W) (hM : pre.length + 1 ≤ M) :
    CallsIn Fence.wide n Tryz.prog 45 #[.pointer (some ⟨f, 0, none⟩), .int .i64 i, .func (.yield l) #[] #[]] W (EaR SS J Jx [(k, v)] pre W) := by
  obtain ⟨rfl, na⟩ := hf.node hr
  have cn : W.cell? ⟨f, 0, none⟩ = some (.slice (some ⟨g, 0, none⟩) N.length c) := hf.kf.cell 0
  have cl : W.cell? ⟨g, i * 132, none⟩ = some (.bool true) := na.leaf
  have hlt : i < N.length := (List.getElem?_eq_some_iff.1 hr).1
  obtain ⟨m, hm⟩ : ∃ m, m = N.length := ⟨_, rfl⟩
  rw [← hm] at cn hlt
  have hlt2 : (i : Int) < m := by omega
  have HkI := hid (u8s_info hok.1); have HvI := hid (u8s_info hok.2)
  have NK : Hid (W.drew.rangeAt g (i * 132 + 1) (u8s k)) := na.key
  have NV : Hid (W.drew.rangeAt g (i * 132 + 33) (u8s v)) := na.val
  have HBW := hid (xpair_built hok.1 hok.2)
  have HJ := hid (abides_drew hJ hj)
  obtain ⟨fn, tmps, assign, body, hy, hR⟩ := hY pre ⟨(k, v), hok⟩ W.drew HJ.out (by omega)
  have HY := hid (show (Instr.yield l #[.agg (kvc (k, v)).toArray]).run Tryz.prog W.drew = .ok (.round l fn tmps assign body) W.drew from hy)
  have HR := hid hR
  have EQV : Hid ((⟨(k, v), hok⟩ : KQ).val = (k, v)) := rfl
  clear hr hf hj hM na hy hR hY hJ hm
  refine callsIn_of_wp Tryz.func45 rfl trivial ?_ rfl
  simp only [Tryz.ntmps45, List.size_toArray, List.length_cons, List.length_nil, Nat.reduceAdd, Nat.reduceSub, Array.replicate_succ, Array.replicate_zero, List.push_toArray, List.append_toArray, List.nil_append, List.cons_append]
  refine (wpIn_wide (n := n)).2 ?_
  go_upto_region 3 with (fail)
  refine (wpIn_wide (n := n)).1 ?_
  refine wide_region (n := n) 10 (S := fun w' => Hid (w' = W.drew)) (by kernel_rfl) ?_
  change wpAnyW _ _ _ _ _ _ _ _ _ _ W.drew
  have Gx0 : Hid (W.drew = W.drew) := rfl
  refine wpAnyW_take (L := 10) (by kernel_rfl) (i := 0) (by decide) (oi := { dst := some 18, op := _, type := _, pos := _, after := _, guard := _ }) (v := ?_) rfl (by kernel_rfl) (by kernel_rfl) (by kernel_rfl) (fun _ _ _ h => h) (by kernel_rfl) (Or.inl ⟨by kernel_rfl, ?_⟩) Gx0 ?_
  rotate_left
  · (intro w hSw; go_simp; try with_reducible rfl)
  try simp only [Act.put, List.setIfInBounds_toArray, List.set_cons_zero, List.set_cons_succ]
  refine wpAnyW_take (L := 10) (by kernel_rfl) (i := 1) (by decide) (oi := { dst := some 19, op := _, type := _, pos := _, after := _, guard := _ }) (v := ?_) rfl (by kernel_rfl) (by kernel_rfl) (by kernel_rfl) (fun _ _ _ h => h) (by kernel_rfl) (Or.inl ⟨by kernel_rfl, ?_⟩) Gx0 ?_
  rotate_left
  · (intro w hSw; go_simp; try with_reducible rfl)
  try simp only [Act.put, List.setIfInBounds_toArray, List.set_cons_zero, List.set_cons_succ]
  refine wpAnyW_take (L := 10) (by kernel_rfl) (i := 2) (by decide) (oi := { dst := some 20, op := _, type := _, pos := _, after := _, guard := _ }) (v := ?_) rfl (by kernel_rfl) (by kernel_rfl) (by kernel_rfl) (fun _ _ _ h => h) (by kernel_rfl) (Or.inl ⟨by kernel_rfl, ?_⟩) Gx0 ?_
  rotate_left
  · (intro w hSw; go_simp; try with_reducible rfl)
  try simp only [Act.put, List.setIfInBounds_toArray, List.set_cons_zero, List.set_cons_succ]
  refine wpAnyW_take (L := 10) (by kernel_rfl) (i := 3) (by decide) (oi := { dst := some 21, op := _, type := _, pos := _, after := _, guard := _ }) (v := ?_) rfl (by kernel_rfl) (by kernel_rfl) (by kernel_rfl) (fun _ _ _ h => h) (by kernel_rfl) (Or.inl ⟨by kernel_rfl, ?_⟩) Gx0 ?_
  rotate_left
  · (intro w hSw; go_simp; try with_reducible rfl)
  try simp only [Act.put, List.setIfInBounds_toArray, List.set_cons_zero, List.set_cons_succ]
  refine wpAnyW_take (L := 10) (by kernel_rfl) (i := 4) (by decide) (oi := { dst := some 22, op := _, type := _, pos := _, after := _, guard := _ }) (v := .agg (kc k)) rfl (by kernel_rfl) (by kernel_rfl) (by kernel_rfl) (fun _ _ _ h => h) (by kernel_rfl) (yieldsIf_load_mid (cs := u8s k) (by rfl) _ _ rfl _ _ rfl _ (fun w' hSw => by rw [hSw.out]; exact NK.out) Tryz.underlying25 rfl HkI.out) Gx0 ?_
  try simp only [Act.put, List.setIfInBounds_toArray, List.set_cons_zero, List.set_cons_succ]
  refine wpAnyW_take (L := 10) (by kernel_rfl) (i := 5) (by decide) (oi := { dst := some 23, op := _, type := _, pos := _, after := _, guard := _ }) (v := ?_) rfl (by kernel_rfl) (by kernel_rfl) (by kernel_rfl) (fun _ _ _ h => h) (by kernel_rfl) (Or.inl ⟨by kernel_rfl, ?_⟩) Gx0 ?_
  rotate_left
  · (intro w hSw; go_simp; try with_reducible rfl)
  try simp only [Act.put, List.setIfInBounds_toArray, List.set_cons_zero, List.set_cons_succ]
  refine wpAnyW_take (L := 10) (by kernel_rfl) (i := 6) (by decide) (oi := { dst := some 24, op := _, type := _, pos := _, after := _, guard := _ }) (v := ?_) rfl (by kernel_rfl) (by kernel_rfl) (by kernel_rfl) (fun _ _ _ h => h) (by kernel_rfl) (Or.inl ⟨by kernel_rfl, ?_⟩) Gx0 ?_
  rotate_left
  · (intro w hSw; go_simp; try with_reducible rfl)
  try simp only [Act.put, List.setIfInBounds_toArray, List.set_cons_zero, List.set_cons_succ]
  refine wpAnyW_take (L := 10) (by kernel_rfl) (i := 7) (by decide) (oi := { dst := some 25, op := _, type := _, pos := _, after := _, guard := _ }) (v := ?_) rfl (by kernel_rfl) (by kernel_rfl) (by kernel_rfl) (fun _ _ _ h => h) (by kernel_rfl) (Or.inl ⟨by kernel_rfl, ?_⟩) Gx0 ?_
  rotate_left
  · (intro w hSw; go_simp; try with_reducible rfl)
  try simp only [Act.put, List.setIfInBounds_toArray, List.set_cons_zero, List.set_cons_succ]
  refine wpAnyW_take (L := 10) (by kernel_rfl) (i := 8) (by decide) (oi := { dst := some 26, op := _, type := _, pos := _, after := _, guard := _ }) (v := .agg (kc v)) rfl (by kernel_rfl) (by kernel_rfl) (by kernel_rfl) (fun _ _ _ h => h) (by kernel_rfl) (yieldsIf_load_mid (cs := u8s v) (by rfl) _ _ rfl _ _ rfl _ (fun w' hSw => by rw [hSw.out]; exact NV.out) Tryz.underlying25 rfl HvI.out) Gx0 ?_
  try simp only [Act.put, List.setIfInBounds_toArray, List.set_cons_zero, List.set_cons_succ]
  refine wpAnyW_take (L := 10) (by kernel_rfl) (i := 9) (by decide) (oi := { dst := some 27, op := _, type := _, pos := _, after := _, guard := _ }) (v := .agg (kvc (k, v)).toArray) rfl (by kernel_rfl) (by kernel_rfl) (by kernel_rfl) (fun _ _ _ h => h) (by kernel_rfl) (Or.inl ⟨by kernel_rfl, ?_⟩) Gx0 ?_
  · intro w' hSw
    have hbw := HBW.out
    exact exec_build 67 #[(0, .tmp 22), (1, .tmp 26)] rfl _ (by simp only [List.map_toArray, List.map_cons, List.map_nil, Act.eval]; exact hbw) w'
  try simp only [Act.put, List.setIfInBounds_toArray, List.set_cons_zero, List.set_cons_succ]
  refine wpAnyW_one (i := 10) (o := { dst := some 28, op := _, type := _, pos := _, after := _, guard := _ }) rfl (by kernel_rfl) (by kernel_rfl) ?_
  have hy2 := HY.out
  unfold Oper.wpIn
  refine ⟨fun _ _ => trivial, ?_⟩
  rw [show Fence.wide.round = none from rfl, Oper.semAt_none]
  go_simp
  refine ⟨fun h => (by cases h), (round_dep HR.out).mono ?_⟩
  rintro e W3 (⟨rfl, hj3, hk3⟩ | ⟨rfl, hj3⟩)
  · have HE : Hid (EaR SS J Jx [(k, v)] pre W (.returned (.bool true)) W3) := .inl ⟨rfl, ⟨[⟨(k, v), hok⟩], rfl, hj3⟩, hk3⟩
    clear hj3 hk3
    try simp only [Act.put, List.setIfInBounds_toArray, List.set_cons_zero, List.set_cons_succ]
    refine wpAnyW_one (i := 11) (o := { dst := some 6, op := _, type := _, pos := _, after := _, guard := _ }) rfl (by kernel_rfl) (by kernel_rfl) ?_
    unfold Oper.wpIn
    refine ⟨fun _ _ => trivial, ?_⟩
    rw [show Fence.wide.round = none from rfl, Oper.semAt_none]
    go_simp
    refine wpAnyW_done (by kernel_rfl) ?_ _
    try simp only [Act.put, List.setIfInBounds_toArray, List.set_cons_zero, List.set_cons_succ]
    go_wp2
    go_ret
    exact HE.out
  · have HE : Hid (EaR SS J Jx [(k, v)] pre W (.returned (.bool false)) W3) := .inr ⟨rfl, _, hj3⟩
    clear hj3
    try simp only [Act.put, List.setIfInBounds_toArray, List.set_cons_zero, List.set_cons_succ]
    refine wpAnyW_one (i := 11) (o := { dst := some 6, op := _, type := _, pos := _, after := _, guard := _ }) rfl (by kernel_rfl) (by kernel_rfl) ?_
    unfold Oper.wpIn
    refine ⟨fun _ _ => trivial, ?_⟩
    rw [show Fence.wide.round = none from rfl, Oper.semAt_none]
    go_simp
    refine wpAnyW_done (by kernel_rfl) ?_ _
    try simp only [Act.put, List.setIfInBounds_toArray, List.set_cons_zero, List.set_cons_succ]
    go_wp2
    go_ret
    exact HE.out
set_option maxHeartbeats 8000000 in
theorem each_walk {f g b c : Nat} {N : List Nd} {A : Option Addr} {tv : Value} (l M B : Nat) (J Jx : List KQ → World → Prop) (SS : Nat → Prop) (hJ : AbidesFrom B J) (hS : ∀ k, Ow f g b k → SS k) (hY : Yl l M SS J Jx) :
    ∀ (t : Tr) (i n : Nat) (pre : List KQ) (W : World), Rep hLf hIn N i t → t.ok → Fo W f g b N A c tv → J pre W → pre.length + t.list.length ≤ M →
    CallsIn Fence.wide n Tryz.prog 45 #[.pointer (some ⟨f, 0, none⟩), .int .i64 i, .func (.yield l) #[] #[]] W (EaR SS J Jx t.list pre W) := by
  intro t
  induction t with
  | leaf k v =>
    intro i n pre W hr hok hf hj hM
    exact each_leaf l M B J Jx SS hJ hY k v i n pre W hr hok hf hj hM
  | inner m0 b0 tl tr ihl ihr =>
    intro i n pre W hr hok hf hj hM
    obtain ⟨x, y, hq, hx, hy, hrl, hrr⟩ := hr
    have hlen : pre.length + (tl.list.length + tr.list.length) ≤ M := by
      have : (Tr.inner m0 b0 tl tr).list.length = tl.list.length + tr.list.length := by show (tl.list ++ tr.list).length = _; rw [List.length_append]
      omega
    have IL := hid ((callsIn_wide (n := 0)).1 (ihl x 0 pre W hrl hok.1 hf hj (by omega)))
    have IR := hid (fun (ys : List KQ) (W1 : World) (hy1 : ys.map (·.val) = tl.list) (hj1 : J (pre ++ ys) W1) (hk1 : KpS SS W W1) => (callsIn_wide (n := 0)).1 (ihr y 0 (pre ++ ys) W1 hrr hok.2.1 (hf.kp hS hk1) hj1 (by
      have := congrArg List.length hy1
      rw [List.length_map] at this
      rw [List.length_append]; omega)))
    have NA := hid (fun (W1 : World) (hk1 : KpS SS W W1) => ((hf.kp hS hk1).node hq).2)
    obtain ⟨rfl, na⟩ := hf.node hq
    have cn : W.cell? ⟨f, 0, none⟩ = some (.slice (some ⟨g, 0, none⟩) N.length c) := hf.kf.cell 0
    have cl : W.cell? ⟨g, i * 132, none⟩ = some (.bool false) := na.leaf
    have cL : W.cell? ⟨g, i * 132 + 98, none⟩ = some (.int .i64 (x : Nat)) := na.left
    have hlt : i < N.length := (List.getElem?_eq_some_iff.1 hq).1
    obtain ⟨m, hm⟩ : ∃ m, m = N.length := ⟨_, rfl⟩
    rw [← hm] at cn hlt
    have hlt2 : (i : Int) < m := by omega
    clear hq hf hj hM na hm hlen hJ hY hrl hrr ihl ihr
    refine callsIn_of_wp Tryz.func45 rfl trivial ?_ rfl
    simp only [Tryz.ntmps45, List.size_toArray, List.length_cons, List.length_nil, Nat.reduceAdd, Nat.reduceSub, Array.replicate_succ, Array.replicate_zero, List.push_toArray, List.append_toArray, List.nil_append, List.cons_append]
    refine (wpIn_wide (n := n)).2 ?_
    go_wp2_with (first
      | (go_at_call 45; refine IL.out.mono ?_; clear IL; rintro e W1 (⟨rfl, ⟨ys1, hys1, hj1⟩, hk1⟩ | ⟨rfl, q, hx1⟩); rotate_left; have HX := hid hx1; clear hx1; rotate_left; have HYS := hid hys1; have HK1 := hid hk1; have I2 := hid (IR.out ys1 W1 hys1 hj1 hk1); have cR : W1.cell? ⟨g, i * 132 + 99, none⟩ = some (.int .i64 (y : Nat)) := (NA.out W1 hk1).right; clear hys1 hj1 hk1)
      | (go_at_call 45; refine I2.out.mono ?_; clear I2; rintro e W2 (⟨rfl, ⟨ys2, hys2, hj2⟩, hk2⟩ | ⟨rfl, q, hx2⟩); rotate_left; have HX := hid hx2; clear hx2; rotate_left; have HYS2 := hid hys2; have HK2 := hid hk2; have HJ2 := hid hj2; clear hys2 hk2 hj2))
    · go_ret
      exact .inl ⟨rfl, ⟨ys1 ++ ys2, by rw [List.map_append, HYS.out, HYS2.out]; rfl, by have := HJ2.out; rwa [List.append_assoc] at this⟩, HK1.out.t HK2.out⟩
    · go_ret
      exact .inr ⟨rfl, _, by have := HX.out; rwa [List.append_assoc] at this⟩
    · go_ret
      exact .inr ⟨rfl, _, HX.out⟩
end Go.Proofs.YtjhaamffgkialaaGreatDoor
/-
  What is proved here: the list of a tree's pairs, as the code tells it.
-/
namespace Go.Proofs.YtjhaamffgkialaaGreatDoor
open Go.ChangeShapes Go.WideShapes Go.ChangeAt Go.RowKit Go.Shelf
set_option linter.unusedVariables false
set_option linter.unusedSimpArgs false
set_option maxRecDepth 20000
attribute [local go_sem] Oper.semAt_some

/-- a list of the code's pairs of one's own -/
structure OwX (n0 : Nat) (w : World) (v : Value) (L : List KV) : Prop where
  row : w.ownsRow n0 67 64 v L.length (kvcs L)
  ok : Kys L
theorem OwX.nil (n0 : Nat) (w : World) : OwX n0 w (.slice none 0 0) [] := ⟨⟨rfl, .inl ⟨rfl, rfl⟩⟩, fun s hs => by simp at hs⟩
theorem OwX.below {n0 : Nat} {w w' : World} {v : Value} {L : List KV} (h : OwX n0 w v L) (hb : Below w.heap.size w w') : OwX n0 w' v L := ⟨own_below h.row hb, h.ok⟩
theorem OwX.weak {n0 n1 : Nat} {w : World} {v : Value} {L : List KV} (h : OwX n0 w v L) (hn : n1 ≤ n0) : OwX n1 w v L := ⟨own_weak h.row hn, h.ok⟩
theorem OwX.keep {n0 : Nat} {w w' : World} {v : Value} {L : List KV} (h : OwX n0 w v L) (hk : ∀ k, v.ownBlock = some k → w'.heap[k]? = w.heap[k]?) : OwX n0 w' v L := ⟨own_keep h.row hk, h.ok⟩
theorem OwX.own {n0 : Nat} {w w' : World} {v : Value} {L : List KV} {row : Option Nat} (h : OwX n0 w v L) (hg : w.grownBy w' row) (hr : ∀ r, row = some r → ∃ o : Obj, w.heap[r]? = some o ∧ o.isCells = false) : OwX n0 w' v L := ⟨own_own h.row hg hr, h.ok⟩
theorem OwX.len {n0 : Nat} {w : World} {v : Value} {L : List KV} (h : OwX n0 w v L) : ∃ A c, v = .slice A L.length c := by
  rcases h.row.2 with ⟨h1, h0⟩ | ⟨g, cap, cur, hv, _⟩
  · exact ⟨none, 0, by rw [h1, h0]⟩
  · exact ⟨_, _, hv⟩
theorem OwX.in {n0 n c : Nat} {w : World} {A : Option Addr} {L : List KV} (h : OwX n0 w (.slice A n c) L) (hm : L.length ≤ 1000000) : InP w A n L := by
  obtain ⟨A', c', e⟩ := h.len
  injection e with e1 e2 e3
  subst e2
  refine ⟨rfl, by omega, h.ok, fun hn => ?_⟩
  rcases h.row.2 with ⟨_, h0⟩ | ⟨g, cap, cur, hv, hb, hh, hnc, hcm, hcs, htk⟩
  · omega
  · injection hv with hA
    have hlt := (h.row.lt g (by rw [hA]; rfl)).2
    refine ⟨g, 0, hA, hlt, fun i s hs j v hv => ?_⟩
    have h1 := kvcs_at h.ok hs j v hv
    have h2 := h.row.cells (g := g) (by rw [hA]; rfl) _ v h1
    rw [Addr.add_lit] at h2
    rw [Nat.add_assoc]
    exact h2
theorem OwX.ty {n0 : Nat} {w : World} {v : Value} {L : List KV} (h : OwX n0 w v L) : ∀ k, v.ownBlock = some k → n0 ≤ k ∧ ∃ C, Blk w k 67 C := fun k hk => by
  rcases h.row.2 with ⟨h1, h0⟩ | ⟨g, cap, cur, hv, hb, hh, _⟩
  · rw [h1] at hk; cases hk
  · rw [hv] at hk; injection hk with hk; subst hk; exact ⟨hb, cur, hh⟩
theorem wpList_xpair_one {ops : Array Oper} {rest : List Oper} {o : Oper} {a : Act} {w : World} {Q : Exit → Act → World → Prop} (hgd : o.guard = none) (x : Operand) (ho : o.op = .buildSlice 39 1 #[(0, x)]) (q : KV) (hq : Ky q.1 ∧ Ky q.2) (hx : a.eval x = .agg (kvc q).toArray)
    (h : wpList Tryz.prog ops Q rest (a.put o.dst (.slice (some ⟨w.heap.size, 0, none⟩) 1 1)) (w.alloc (.cells (kvc q).toArray 67))) : wpList Tryz.prog ops Q (o :: rest) a w := by
  refine wpList_plain hgd fun _ hK => ?_
  obtain ⟨i0, hi, hz0, hz1, hz2⟩ := info_parts info_xpair
  have hl := kvc_len hq.1 hq.2
  refine wp_buildSlice 39 67 1 #[(0, x)] ho (kvc q).toArray i0 _ Tryz.underlying39 hi hz0 (by rw [hz1]; decide) (by rw [hz1]; decide) ?_ (hK _ _ h)
  have hp : (#[(0, x)].map fun ((i, x) : Nat × Operand) => (i, a.eval x)).toList = [(0, Value.agg (kvc q).toArray)] := by simp [hx]
  rw [hp, hz1]
  have h := Great.fill_whole (s := 64) (by decide) [Value.agg (kvc q).toArray] ((Array.range (1 * 64)).map ((Value.agg (kvc (z32, z32)).toArray).cells[· % (Value.agg (kvc (z32, z32)).toArray).cells.size]!)) (fun v hv => by
    rw [List.mem_singleton.1 hv]; exact hl) (by simp)
  simp only [List.flatMap_cons, List.flatMap_nil, List.append_nil] at h
  exact h
/-- a pair more -/
theorem wpList_append_xpair {w : World} {ops : Array Oper} {rest : List Oper} {o : Oper} {a : Act} {Q : Exit → Act → World → Prop} (hgd : o.guard = none) (s x : Operand)
    (ho : o.op = .call { callee := .builtin .append, args := #[s, x], argTypes := #[39, 39] }) (n0 : Nat) (L : List KV) (v : Value) (hs : a.eval s = v) (hO : OwX n0 w v L) (q : KV) (hq : Ky q.1 ∧ Ky q.2) (hx : a.eval x = .slice (some ⟨w.heap.size, 0, none⟩) 1 1) (hlen : L.length ≤ 100000) (hn : n0 ≤ w.heap.size)
    (h : ∀ v' w', OwX n0 w' v' (L ++ [q]) → But v w w' → wpList Tryz.prog ops Q rest (a.put o.dst v') w') : wpList Tryz.prog ops Q (o :: rest) a (w.alloc (.cells (kvc q).toArray 67)) := by
  obtain ⟨i0, hi, hz0, hz1, hz2⟩ := info_parts info_xpair
  have hB := Blk.new w 67 (kvc q).toArray
  have hb : Below w.heap.size w (w.alloc (.cells (kvc q).toArray 67)) := (Below.refl _ _).alloc (Nat.le_refl _) _
  refine wpList_append_own _ hgd s x 39 ho n0 67 i0 _ 64 64 Tryz.underlying39 hi hz0 hz1 hz2 (by rfl) (by decide) v L.length (kvcs L) hs (hO.below hb).row ⟨w.heap.size, 0, none⟩ 1 1 (kvc q) hx (by rw [kvc_len hq.1 hq.2]) (fun j u hu => ?_) (kvc_one q) (by unfold maxLen; omega) (by omega) (Nat.le_trans hn hb.size) ?_
  · rw [Addr.add_lit, Nat.zero_add, hB.cell, List.getElem?_toArray]; exact hu
  · intro v' w' h1 h2 _
    refine h v' w' ⟨by rw [List.length_append, kvcs_snoc]; exact h1, fun p hp => ?_⟩ ((World.grownBy_alloc w _ _).trans h2)
    rcases List.mem_append.1 hp with hp | hp
    · exact hO.ok p hp
    · rw [List.mem_singleton.1 hp]; exact hq

/-! The iterator. -/
def PsS (bf bt f g b : Nat) (k : Nat) : Prop := k = bf ∨ k = bt ∨ Ow f g b k
/-- what it reads: its boxes, and the forest -/
structure PsI (bf bt f g b : Nat) (N : List Nd) (A : Option Addr) (c : Nat) (tv : Value) (ti : Int) (W : World) : Prop where
  kf : Blk W bf 27 #[.pointer (some ⟨f, 0, none⟩)]
  kt : Blk W bt 3 #[.int .i64 ti]
  fo : Fo W f g b N A c tv
theorem PsI.below {bf bt f g b c : Nat} {N : List Nd} {A : Option Addr} {tv : Value} {ti : Int} {W W' : World} (h : PsI bf bt f g b N A c tv ti W) (hb : Below W.heap.size W W') : PsI bf bt f g b N A c tv ti W' := ⟨h.kf.below hb, h.kt.below hb, h.fo.below hb⟩
set_option maxHeartbeats 4000000 in
theorem pairs_walk {bf bt f g b c : Nat} {N : List Nd} {A : Option Addr} {tv : Value} {ti : Int} {T : Option Tr} (hT : TAt N ti T) (l : Nat) (J Jx : List KQ → World → Prop) (W : World) (hJ : AbidesFrom W.heap.size J)
    (hY : Yl l (lstO T).length (PsS bf bt f g b) J Jx) (hc : PsI bf bt f g b N A c tv ti W) (h0 : J [] W) :
    CallsIn Fence.wide 1 Tryz.prog 44 #[.func (.yield l) #[] #[], .pointer (some ⟨bf, 0, none⟩), .pointer (some ⟨bt, 0, none⟩)] W fun e W' => (∃ v, e = .returned v) ∧
      ((∃ ys : List KQ, ys.map (·.val) = lstO T ∧ J ys W') ∨ (∃ pre : List KQ, True ∧ Jx pre W')) := by
  have c0 : W.cell? ⟨bf, 0, none⟩ = some (.pointer (some ⟨f, 0, none⟩)) := hc.kf.cell 0
  have c1 : W.cell? ⟨bt, 0, none⟩ = some (.int .i64 ti) := hc.kt.cell 0
  have CI := hid (xisNode_at hc.fo ti)
  cases T with
  | none =>
    obtain rfl : ti = -1 := hT
    have e : isNd N.length (-1) = false := rfl
    rw [e] at CI
    have HJ := hid h0
    clear hJ hY hc h0 e
    refine callsIn_of_wp Tryz.func44 rfl trivial ?_ rfl
    simp only [Tryz.ntmps44, List.size_toArray, List.length_cons, List.length_nil, Nat.reduceAdd, Nat.reduceSub, Array.replicate_succ, Array.replicate_zero, List.push_toArray, List.append_toArray, List.nil_append, List.cons_append]
    refine (wpIn_wide (n := 1)).2 ?_
    go_wp2_with (go_at_call 34; refine CI.out.mono ?_; rintro e w1 ⟨rfl, rfl⟩)
    go_end0
    exact ⟨⟨_, rfl⟩, .inl ⟨[], rfl, HJ.out⟩⟩
  | some t =>
    obtain ⟨i, rfl, hr, hok⟩ := hT
    have e : isNd N.length (i : Nat) = true := by unfold isNd; rw [decide_eq_true_eq]; have := hr.lt; omega
    rw [e] at CI
    have HE := hid ((callsIn_wide (n := 0)).1 (each_walk l t.list.length W.heap.size J Jx _ hJ (fun k hk => .inr (.inr hk)) hY t i 0 [] W hr hok hc.fo h0 (by simp)))
    clear hJ hY hc h0 e hr hok
    refine callsIn_of_wp Tryz.func44 rfl trivial ?_ rfl
    simp only [Tryz.ntmps44, List.size_toArray, List.length_cons, List.length_nil, Nat.reduceAdd, Nat.reduceSub, Array.replicate_succ, Array.replicate_zero, List.push_toArray, List.append_toArray, List.nil_append, List.cons_append]
    refine (wpIn_wide (n := 1)).2 ?_
    go_wp2_with (first
      | (go_at_call 34; refine CI.out.mono ?_; rintro e w1 ⟨rfl, rfl⟩)
      | (go_at_call 45; refine HE.out.mono ?_; rintro e W1 (⟨rfl, ⟨ys, hys, hj1⟩, hk1⟩ | ⟨rfl, q, hx1⟩)))
    · go_end0
      exact ⟨⟨_, rfl⟩, .inl ⟨ys, hys, by simpa using hj1⟩⟩
    · go_end0
      exact ⟨⟨_, rfl⟩, .inr ⟨_, trivial, hx1⟩⟩
theorem pairs_stops {bf bt f g b c : Nat} {N : List Nd} {A : Option Addr} {tv : Value} {ti : Int} {T : Option Tr} (hT : TAt N ti T) (w : World) (hc : PsI bf bt f g b N A c tv ti w) :
    SeqStopsK Fence.wide 1 Tryz.prog 44 #[.pointer (some ⟨bf, 0, none⟩), .pointer (some ⟨bt, 0, none⟩)] encK (KpS (PsS bf bt f g b)) (fun ys => ys.map (·.val) = lstO T) (fun _ => True) (lstO T).length w :=
  fun l J Jx W hW hJ _ hY h0 => pairs_walk hT l J Jx W hJ hY (hc.below (hW.mono (Nat.le_refl _))) h0
theorem xpairs_any (f : Addr) (ti : Int) (w : World) :
    Calls Tryz.prog 22 #[.pointer (some f), .int .i64 ti] w fun e w' => e = .returned (.func (.func 44) #[] #[.pointer (some ⟨w.heap.size, 0, none⟩), .pointer (some ⟨w.heap.size + 1, 0, none⟩)]) ∧ w' = (w.alloc (.cells #[.pointer (some f)] 27)).alloc (.cells #[.int .i64 ti] 3) := by
  go_enter Tryz.func22, Tryz.ntmps22
  go_wp2
  go_ret
  exact ⟨rfl, rfl⟩
end Go.Proofs.YtjhaamffgkialaaGreatDoor
/-
  What is proved here: List: all keys of a tree, with their values.
-/
namespace Go.Proofs.YtjhaamffgkialaaGreatDoor
open Go.ChangeShapes Go.WideShapes Go.ChangeAt Go.RowKit Go.Shelf
set_option linter.unusedVariables false
set_option linter.unusedSimpArgs false
set_option maxRecDepth 20000
attribute [local go_sem] Oper.semAt_some

theorem zero_xpair : ∃ Z : Array Value, Hid (Z = (kvc (z32, z32)).toArray) ∧ (¬ Z = #[]) ∧ ∀ w : World, Sem.run Tryz.prog (zeroValue 67) w = Result.ok (.agg Z) w := by
  refine ⟨(kvc (z32, z32)).toArray, rfl, fun h => ?_, fun w => by kernel_rfl⟩
  have := congrArg Array.size h
  rw [List.size_toArray, kvc_len ky_zero ky_zero] at this
  exact absurd this (by decide)
theorem xpair_info {q : KV} (hq : Ky q.1 ∧ Ky q.2) : (Tryz.prog.info? 67).map (·.size) = some (kvc q).length := by rw [kvc_len hq.1 hq.2]; kernel_rfl
theorem xpair_info2 {q : KV} (hq : Ky q.1 ∧ Ky q.2) : (Tryz.prog.info? 67).map (·.size) = some (kvc q).toArray.size := by rw [List.size_toArray, kvc_len hq.1 hq.2]; kernel_rfl
theorem blk_pair {w : World} {g : Nat} {t : TypeId} {q : KV} (h : Blk w g t (kvc q).toArray) : w.rangeAt g 0 (kvc q) := fun j v hv => by rw [h.cell, Nat.zero_add, List.getElem?_toArray]; exact hv
theorem zip1 (T : Array Value) (a : Nat) (u : Value) : Array.foldl (fun t (x : Nat × Value) => t.setIfInBounds x.1 x.2) T (#[a].zip #[u]) = T.setIfInBounds a u := by simp
/-- between two rounds -/
structure LsI (w : World) (bf bt f g b : Nat) (pre : List KQ) (v : Value) (W : World) : Prop where
  bx : Blk W w.heap.size 39 #[v]
  ow : OwX w.heap.size W v (pre.map (·.val))
  bl : Below w.heap.size w W
  it : ∀ k, PsS bf bt f g b k → k < W.heap.size ∧ (k < w.heap.size ∨ ∃ t cs, Blk W k t cs ∧ t ≠ 39 ∧ t ≠ 67)
def LsE (w : World) (bf bt f g b : Nat) (pre : List KQ) (W : World) : Prop := ∃ v, LsI w bf bt f g b pre v W
section
variable {w W x y : World} {bf bt f g b : Nat} {pre : List KQ} {v v' : Value}
theorem LsI.below (h : LsI w bf bt f g b pre v W) (hb : Below W.heap.size W x) : LsI w bf bt f g b pre v x :=
  ⟨h.bx.below hb, h.ow.below hb, h.bl.trans (hb.mono h.bl.size), fun k hk => by obtain ⟨h1, h2⟩ := h.it k hk; exact ⟨Nat.lt_of_lt_of_le h1 hb.size, h2.imp id (fun ⟨t, cs, h3, h4⟩ => ⟨t, cs, h3.below hb, h4⟩)⟩⟩
theorem LsE.own {B : Nat} (hB : w.heap.size ≤ B) : OwnFrom B (LsE w bf bt f g b) := fun pre W W' row ⟨v, h⟩ hg hr => by
  have hr2 := fun r e => (hr r e).2
  refine ⟨v, h.bx.own hg hr2, h.ow.own hg hr2, h.bl.grown hg h.bl.size (fun k e => Nat.le_trans hB (hr k e).1), fun k hk => ?_⟩
  obtain ⟨h1, h2⟩ := h.it k hk
  exact ⟨Nat.lt_of_lt_of_le h1 hg.size, h2.imp id (fun ⟨t, cs, h3, h4⟩ => ⟨t, cs, h3.own hg hr2, h4⟩)⟩
/-- a round's end -/
theorem LsI.step {q : KQ} {B : Nat} (h : LsI w bf bt f g b pre v W) (ht : OwX w.heap.size y v' (pre.map (·.val) ++ [q.val])) (hbt : But v W y) :
    KeepsFrom B W (y.setCell ⟨w.heap.size, 0, none⟩ v') ∧ KpS (PsS bf bt f g b) W (y.setCell ⟨w.heap.size, 0, none⟩ v') ∧ LsE w bf bt f g b (pre ++ [q]) (y.setCell ⟨w.heap.size, 0, none⟩ v') := by
  have hsz : W.heap.size ≤ (y.setCell ⟨w.heap.size, 0, none⟩ v').heap.size := Nat.le_trans hbt.size (by simp [World.setCell])
  have nb : v.ownBlock ≠ some w.heap.size := fun e => by
    obtain ⟨_, C, h2⟩ := h.ow.ty _ e
    exact h.bx.ne h2 (by decide) rfl
  have kb : Blk y w.heap.size 39 #[v] := hbt.blk h.bx nb
  have turn : ∀ k, k < W.heap.size → (k < w.heap.size ∨ ∃ t cs, Blk W k t cs ∧ t ≠ 39 ∧ t ≠ 67) → (y.setCell ⟨w.heap.size, 0, none⟩ v').heap[k]? = W.heap[k]? := fun k hk hne => by
    have n1 : v.ownBlock ≠ some k := fun e => by
      obtain ⟨h1, C, h2⟩ := h.ow.ty k e
      rcases hne with h3 | ⟨t, cs, h3, _, h4⟩
      · omega
      · exact h3.ne h2 h4 rfl
    have n2 : k ≠ w.heap.size := fun e => by
      rcases hne with h3 | ⟨t, cs, h3, h4, _⟩
      · omega
      · subst e; exact h3.ne h.bx h4 rfl
    exact (Below.heap_setCell y _ _ k n2).trans (hbt.at k hk n1)
  have hit : ∀ k, PsS bf bt f g b k → (y.setCell ⟨w.heap.size, 0, none⟩ v').heap[k]? = W.heap[k]? := fun k hk => by
    obtain ⟨h1, h2⟩ := h.it k hk
    exact turn k h1 h2
  refine ⟨?_, ⟨hsz, fun g hg _ => hit g hg⟩, v', kb.setd 0 v', ?_, ?_, fun k hk => ?_⟩
  · refine KeepsFrom.trans ⟨hbt.size, fun k o _ hk hc => (hbt.at k ?_ (fun e => ?_)).trans hk⟩ ((KeepsOthers.setCell y _ v').from B)
    · rcases Nat.lt_or_ge k W.heap.size with h1 | h1
      · exact h1
      · rw [Array.getElem?_eq_none h1] at hk; cases hk
    · obtain ⟨_, C, h2⟩ := h.ow.ty k e
      unfold Blk at h2
      rw [h2] at hk
      injection hk with hk
      subst hk
      cases hc
  · rw [List.map_append]
    exact ht.keep (fun k hk => Below.heap_setCell y _ _ k (fun e => by
      obtain ⟨_, C, h2⟩ := ht.ty k hk
      have e' : k = w.heap.size := e
      rw [e'] at h2
      exact kb.ne h2 (by decide) rfl))
  · exact (h.bl.trans (hbt.bel h.bl.size (fun k hk => (h.ow.ty k hk).1))).setCell (p := ⟨w.heap.size, 0, none⟩) (Nat.le_refl _) _
  · obtain ⟨h1, h2⟩ := h.it k hk
    exact ⟨Nat.lt_of_lt_of_le h1 hsz, h2.imp id (fun ⟨t, cs, h3, h4⟩ => ⟨t, cs, h3.same (hit k hk), h4⟩)⟩
end
/-- what List answers -/
def LsA (w : World) (L : List KV) (e : Ending) (w' : World) : Prop := ∃ v, e = .returned v ∧ OwX w.heap.size w' v L ∧ Below w.heap.size w w'
set_option maxHeartbeats 8000000 in
theorem xList_any {w : World} {f g b : Nat} {N : List Nd} {A : Option Addr} {c : Nat} {tv : Value} {ti : Int} {T : Option Tr} (h : Fo w f g b N A c tv) (hT : TAt N ti T) (hsm : (lstO T).length < 100000) :
    Calls Tryz.prog 11 #[.pointer (some ⟨f, 0, none⟩), .int .i64 ti] w (LsA w (lstO T)) := by
  refine (callsIn_wide (n := 2)).1 ?_
  refine callsIn_of_wp_marks Tryz.func11 rfl trivial ?_ rfl
  simp only [Tryz.ntmps11, List.size_toArray, List.length_cons, List.length_nil, Nat.reduceAdd, Nat.reduceSub, Array.replicate_succ, Array.replicate_zero, List.push_toArray, List.append_toArray, List.nil_append, List.cons_append]
  refine (wpIn_wide (n := 2)).2 ?_
  obtain ⟨Z, HZ, hZ0, hZs⟩ := zero_xpair
  have B1 : Hid (Below w.heap.size w (w.alloc (.cells #[.slice none 0 0] 39))) := (Below.refl _ _).alloc (Nat.le_refl _) _
  have K1 : Hid (Blk (w.alloc (.cells #[.slice none 0 0] 39)) w.heap.size 39 #[.slice none 0 0]) := Blk.new w 39 _
  have S1 : Hid ((w.alloc (.cells #[.slice none 0 0] 39)).heap.size = w.heap.size + 1) := by show _ = _; simp
  have FO := hid h
  have HT := hid hT; have HSM := hid hsm
  have CP := hid (fun w => xpairs_any ⟨f, 0, none⟩ ti w)
  clear h hT hsm
  unfold LsA
  go_wp2_with (go_at_call 22; refine (CP.out _).mono ?_; rintro e w7 ⟨rfl, hw7⟩; have HW7 := hid hw7; clear hw7)
  generalize w.alloc (.cells #[.slice none 0 0] 39) = w1 at B1 K1 S1 HW7 ⊢
  have BL7 : Hid (Below w1.heap.size w1 w7) := by show Below _ _ _; rw [HW7.out]; exact ((Below.refl _ _).alloc (Nat.le_refl _) _).alloc (by simp) _
  have KF7 : Hid (Blk w7 w1.heap.size 27 #[.pointer (some ⟨f, 0, none⟩)]) := by show Blk _ _ _ _; rw [HW7.out]; exact (Blk.new w1 27 _).alloc _
  have KT7 : Hid (Blk w7 (w1.heap.size + 1) 3 #[.int .i64 ti]) := by
    show Blk _ _ _ _; rw [HW7.out]
    have := Blk.new (w1.alloc (.cells #[.pointer (some ⟨f, 0, none⟩)] 27)) 3 #[.int .i64 ti]
    rwa [show (w1.alloc (.cells #[.pointer (some ⟨f, 0, none⟩)] 27)).heap.size = w1.heap.size + 1 by simp] at this
  have FO7 := hid (FO.out.below (B1.out.trans (BL7.out.mono B1.out.size)))
  have PI : Hid (PsI w1.heap.size (w1.heap.size + 1) f g b N A c tv ti w7) := ⟨KF7.out, KT7.out, FO7.out⟩
  have IT : Hid (∀ k, PsS w1.heap.size (w1.heap.size + 1) f g b k → k < w7.heap.size ∧ (k < w.heap.size ∨ ∃ t cs, Blk w7 k t cs ∧ t ≠ 39 ∧ t ≠ 67)) := fun k hk => by
    rcases hk with e | e | e
    · rw [e]; exact ⟨KF7.out.lt, .inr ⟨_, _, KF7.out, by decide, by decide⟩⟩
    · rw [e]; exact ⟨KT7.out.lt, .inr ⟨_, _, KT7.out, by decide, by decide⟩⟩
    · obtain ⟨h1, h2, h3⟩ := FO.out.lts
      have hlt : k < w.heap.size := by rcases e with rfl | rfl | rfl <;> assumption
      exact ⟨Nat.lt_of_lt_of_le hlt (Nat.le_trans B1.out.size BL7.out.size), .inl hlt⟩
  have I7 : Hid (LsE w w1.heap.size (w1.heap.size + 1) f g b ([] : List KQ) w7) := ⟨_, K1.out.below BL7.out, OwX.nil _ _, B1.out.trans (BL7.out.mono B1.out.size), IT.out⟩
  have BW7 : Hid (w.heap.size ≤ w7.heap.size) := Nat.le_trans B1.out.size BL7.out.size
  rw [S1.out] at PI IT I7
  clear HW7 CP BL7 KF7 KT7 FO7 K1 B1 S1 FO
  generalize w.heap.size + 1 + 1 = bt at PI IT I7 ⊢
  generalize w.heap.size + 1 = bf at PI IT I7 ⊢
  refine (wpIn_wide (n := 2)).1 ?_
  refine range_box (n := 2) (by omega) (gf := 44) (lb := #[.pointer (some ⟨bf, 0, none⟩), .pointer (some ⟨bt, 0, none⟩)]) rfl (enters_of Tryz.func44 (by kernel_rfl) rfl) (SS := PsS bf bt f g b)
    (pairs_stops HT.out w7 PI.out) (fun k hk => (IT.out k hk).1) (Below.refl _ _) (fun _ => rfl) (LsE w bf bt f g b) (LsE.own BW7.out) (fun _ _ _ h hb => by obtain ⟨v, h⟩ := h; exact ⟨v, h.below hb⟩) I7.out ?F 67 (fun x => (kvc x.1).toArray) ?assign ?body ?done
  case assign =>
    intro l x W K hK
    have HKK := hid hK
    clear hK
    dsimp only [encK]
    rw [zip1]
    simp only [List.setIfInBounds_toArray, List.set_cons_succ, List.set_cons_zero]
    have HSI2 := hid (xpair_info2 x.2)
    have HSY : Hid (Z.size = (kvc x.1).toArray.size) := by show _ = _; rw [HZ.out, List.size_toArray, List.size_toArray, kvc_len ky_zero ky_zero, kvc_len x.2.1 x.2.2]
    have HONE : Hid ((kvc x.1).toArray.all (·.oneCell') = true) := by
      show _ = _
      rw [Array.all_eq_true']
      intro v hv
      exact kvc_one _ v (by simpa using hv)
    obtain ⟨g8, hg8⟩ : ∃ g8, W.heap.size = g8 := ⟨_, rfl⟩
    refine wpIn_cut K (plain_round (L := [_, _]) (by rfl) ?_) (fun _ _ h => h)
    have hnb : Blk (W.alloc (.cells Z 67)) g8 67 Z := by rw [← hg8]; exact Blk.new W 67 Z
    have hb1 : Blk ((W.alloc (.cells Z 67)).setRow g8 (kvc x.1).toArray) g8 67 (kvc x.1).toArray := hnb.row _
    have hb3 : W.heap.size ≤ g8 := by rw [hg8]; exact Nat.le_refl _
    have hb2 : Below W.heap.size W ((W.alloc (.cells Z 67)).setRow g8 (kvc x.1).toArray) := below_setRow ((Below.refl _ _).alloc (Nat.le_refl _) _) hb3 _
    have HB1 := hid hb1; have HB2 := hid hb2; have HB3 := hid hb3
    clear hb1 hb2 hb3
    go_wp2_with (refine wpList_store_row rfl 67 (.tmp 6) (.tmp 10) rfl g8 (kvc x.1).toArray rfl rfl 67 Z hnb HSI2.out HSY.out HONE.out ?_)
    try simp only [Qr]
    exact HKK.out g8 _ HB1.out HB2.out HB3.out
  case body =>
    rintro l pre x g8 W hWs hI hb8 hle hlen
    obtain ⟨v, hs⟩ := hI
    obtain ⟨A1, c1, hv⟩ := hs.ow.len
    obtain ⟨k1, hk1⟩ : ∃ k1, k1 = (pre.map (·.val)).length := ⟨_, rfl⟩
    rw [← hk1] at hv
    subst hv
    have cbx : W.cell? ⟨w.heap.size, 0, none⟩ = some (.slice A1 k1 c1) := hs.bx.cell 0
    have HS := hid hs
    have R8 := hid (blk_pair hb8)
    have HSI := hid (xpair_info x.2)
    have HX := hid x.2
    have HKL : Hid ((pre.map (·.val)).length ≤ 100000) := by
      have := HSM.out
      show _ ≤ _
      rw [List.length_map]; omega
    have HST := hid (fun (y : World) v' (h1 : OwX w.heap.size y v' (pre.map (·.val) ++ [x.val])) (h2 : But (.slice A1 k1 c1) W y) => hs.step (B := w7.heap.size) (q := x) h1 h2)
    have BXT := hid (fun (y : World) (h2 : But (.slice A1 k1 c1) W y) => h2.blk hs.bx (fun e => by
      obtain ⟨_, C, h2⟩ := hs.ow.ty _ e
      exact hs.bx.ne h2 (by decide) rfl))
    have HK1 := hid hk1
    clear hs hb8 hle hlen hWs hk1
    refine wpIn_block ?_
    refine wpIn_cut (fun a' W' => KeepsFrom w7.heap.size W W' ∧ KpS (PsS bf bt f g b) W W' ∧ LsE w bf bt f g b (pre ++ [x]) W') (plain_round (L := [_, _, _, _, _]) (by rfl) ?_) (fun _ _ h => h)
    go_wp2_with (first
      | (refine load_at rfl 67 (.tmp 6) rfl g8 0 rfl (kvc x.1) _ R8.out Tryz.underlying67 rfl HSI.out (kvc x.1).toArray rfl ?_)
      | (refine wpList_xpair_one rfl (.tmp 12) rfl x.1 HX.out rfl ?_)
      | (at_builtin; refine wpList_append_xpair rfl (.tmp 11) (.tmp 13) rfl w.heap.size (pre.map (·.val)) (.slice A1 k1 c1) rfl HS.out.ow x.1 HX.out rfl HKL.out HS.out.bl.size ?_; intro v9 w9 how9 hb9; have OW9 := hid how9; have BT9 := hid hb9; obtain ⟨A9, c9, hv9⟩ := how9.len; replace hv9 : v9 = .slice A9 (k1 + 1) c9 := (by rw [hv9, List.length_append, ← HK1.out]; rfl); subst hv9; have cb9 : w9.cell? ⟨w.heap.size, 0, none⟩ = some (.slice A1 k1 c1) := (BXT.out w9 hb9).cell 0; have fb9 : w9.frozen? ⟨w.heap.size, 0, none⟩ = false := (BXT.out w9 hb9).frozen 0; clear how9 hb9))
    try simp only [Qr]
    exact HST.out _ _ OW9.out BT9.out
  case done =>
    rintro D ys W hD hys hI hK
    obtain ⟨v, hs⟩ := hI
    obtain ⟨A1, c1, hv⟩ := hs.ow.len
    rw [hys] at hv
    obtain ⟨m1, hm1⟩ : ∃ m1, m1 = (lstO T).length := ⟨_, rfl⟩
    rw [← hm1] at hv
    subst hv
    have cb : W.cell? ⟨w.heap.size, 0, none⟩ = some (.slice A1 m1 c1) := hs.bx.cell 0
    have HS := hid hs; have HKD := hid hK; have HYS := hid hys
    have HD : Hid (w7.heap.size ≤ D) := hD
    clear hs hK hys hD hm1
    go_wp2
    refine ⟨by simp, .inl ⟨_, _, rfl, run_takeDeferred HKD.out, ?_⟩⟩
    have hg := grownBy_putObj' W D (.deferred none)
    have hr : ∀ r, some D = some r → ∃ o : Obj, W.heap[r]? = some o ∧ o.isCells = false := fun r e => by cases e; exact ⟨_, HKD.out, rfl⟩
    have ho := HS.out.ow.own hg hr
    rw [HYS.out] at ho
    exact ⟨_, results_tmp rfl _ _ _, .slice A1 m1 c1, rfl, ho, HS.out.bl.grown hg HS.out.bl.size (fun k e => by cases e; have := HD.out; have := BW7.out; omega)⟩
end Go.Proofs.YtjhaamffgkialaaGreatDoor
