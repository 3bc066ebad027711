/-
  What this file is for: the mathematics of a label's versions: when they are a chain, from the first one on and from the last one back; what two chains with one commitment show. Nothing of the program is walked here.
-/
import Derived.Test.YtjhaamffgkialaaDoorMA1
import Derived.Test.YtjhaamffgkialaaDoorMA2
import Derived.Great.BuildSlice
import Derived.Laws.OwnMore
import Derived.Deep.RegionHeld3
import Derived.Deep.MidRow
import Derived.Deep.DeepCutAuto
import Derived.Deep.CutBlock
import Derived.Laws.StructEq
import Derived.BigQuiet
import Derived.Deep.QuietTactic
set_option linter.unusedSimpArgs false
set_option linter.unusedVariables false
namespace Go.Proofs.YtjhaamffgkialaaDoor
set_option linter.unusedVariables false
set_option linter.unusedSimpArgs false

/-- a version -/
structure Vs where
  n : Int
  e : Int
  s : List Int
  b : List Int
  v : List Int
  deriving DecidableEq
def zH : List Int := List.replicate 32 0
def vZ : Vs := ⟨0, 0, zH, zH, []⟩
def vAt (L : List Vs) (i : Nat) : Vs := L[i]?.getD vZ
/-- the version at a place is as it should be -/
def stF (C : Vs → List Int) (L : List Vs) (i : Nat) : Bool :=
  decide ((vAt L i).n = (i : Int) + 1 ∧ 1 ≤ (vAt L i).e ∧ (vAt L i).e ≤ 2147483647 ∧ (vAt L i).v.length ≤ 64) &&
  (if i = 0 then decide ((vAt L i).b = zH) else decide ((vAt L (i - 1)).e < (vAt L i).e ∧ (vAt L i).b = C (vAt L (i - 1))))
def labB (n : Nat) (L : List Vs) : Bool := decide (0 < n ∧ n ≤ 32 ∧ 0 < L.length)
/-- a chain, from the first version on -/
def okF (C : Vs → List Int) (n : Nat) (L : List Vs) : Bool := labB n L && (List.range L.length).all (stF C L)
/-- a chain, from the last version back -/
def bkF (C : Vs → List Int) (L : List Vs) : Nat → List Int → Int → Bool
  | 0, want, _ => decide (want = zH)
  | k + 1, want, most => if (vAt L k).n = (k : Int) + 1 ∧ 1 ≤ (vAt L k).e ∧ (vAt L k).e ≤ most ∧ (vAt L k).v.length ≤ 64 ∧ C (vAt L k) = want then bkF C L k (vAt L k).b ((vAt L k).e - 1) else false
def chF (C : Vs → List Int) (n : Nat) (L : List Vs) (h : List Int) : Bool := labB n L && bkF C L L.length h 2147483647
def lastC (C : Vs → List Int) (L : List Vs) : List Int := if L = [] then zH else C (vAt L (L.length - 1))
theorem bkV_iff (C : Vs → List Int) (L : List Vs) : ∀ (k : Nat) (want : List Int) (most : Int), most ≤ 2147483647 → (bkF C L k want most = true ↔ (∀ i, i < k → stF C L i = true) ∧ (k = 0 → want = zH) ∧ (0 < k → (vAt L (k - 1)).e ≤ most ∧ C (vAt L (k - 1)) = want))
  | 0, want, most, hm => by simp [bkF]
  | k + 1, want, most, hm => by
    unfold bkF
    by_cases h : (vAt L k).n = (k : Int) + 1 ∧ 1 ≤ (vAt L k).e ∧ (vAt L k).e ≤ most ∧ (vAt L k).v.length ≤ 64 ∧ C (vAt L k) = want
    · rw [if_pos h, bkV_iff C L k _ _ (by omega)]
      obtain ⟨h1, h2, h3, h4, h5⟩ := h
      constructor
      · rintro ⟨g1, g2, g3⟩
        refine ⟨fun i hi => ?_, fun h => by omega, fun _ => ⟨by rw [Nat.add_sub_cancel]; exact h3, by rw [Nat.add_sub_cancel]; exact h5⟩⟩
        by_cases hik : i = k
        · subst hik
          unfold stF
          rw [Bool.and_eq_true]
          refine ⟨by rw [decide_eq_true_eq]; exact ⟨h1, h2, by omega, h4⟩, ?_⟩
          by_cases h0 : i = 0
          · rw [if_pos h0, decide_eq_true_eq]; exact g2 h0
          · rw [if_neg h0, decide_eq_true_eq]
            obtain ⟨g4, g5⟩ := g3 (by omega)
            exact ⟨by omega, g5.symm⟩
        · exact g1 i (by omega)
      · rintro ⟨g1, _, g3⟩
        refine ⟨fun i hi => g1 i (by omega), fun h0 => ?_, fun h0 => ?_⟩
        · have := g1 k (by omega)
          unfold stF at this
          rw [Bool.and_eq_true, if_pos h0, decide_eq_true_eq, decide_eq_true_eq] at this
          exact this.2
        · have := g1 k (by omega)
          unfold stF at this
          rw [Bool.and_eq_true, if_neg (by omega), decide_eq_true_eq, decide_eq_true_eq] at this
          exact ⟨by omega, this.2.2.symm⟩
    · rw [if_neg h]
      constructor
      · intro h; cases h
      · rintro ⟨g1, _, g3⟩
        exfalso
        apply h
        have := g1 k (by omega)
        unfold stF at this
        rw [Bool.and_eq_true, decide_eq_true_eq] at this
        obtain ⟨⟨a1, a2, a3, a4⟩, _⟩ := this
        obtain ⟨b1, b2⟩ := g3 (by omega)
        rw [Nat.add_sub_cancel] at b1 b2
        exact ⟨a1, a2, b1, a4, b2⟩
theorem all_range {p : Nat → Bool} {n : Nat} : (List.range n).all p = true ↔ ∀ i, i < n → p i = true := by simp
theorem okV_iff (C : Vs → List Int) (n : Nat) (L : List Vs) : okF C n L = true ↔ (0 < n ∧ n ≤ 32 ∧ 0 < L.length) ∧ ∀ i, i < L.length → stF C L i = true := by
  unfold okF labB
  rw [Bool.and_eq_true, decide_eq_true_eq, all_range]
theorem chV_eq (C : Vs → List Int) (n : Nat) (L : List Vs) (h : List Int) : chF C n L h = (okF C n L && decide (lastC C L = h)) := by
  rw [Bool.eq_iff_iff]
  rw [Bool.and_eq_true, okV_iff, decide_eq_true_eq]
  unfold chF labB
  rw [Bool.and_eq_true, decide_eq_true_eq]
  by_cases hl : L = []
  · subst hl; simp
  · have h0 : 0 < L.length := List.length_pos_iff.2 hl
    rw [bkV_iff C L _ _ _ (by omega)]
    unfold lastC
    rw [if_neg hl]
    constructor
    · rintro ⟨a, b, c, d⟩
      exact ⟨⟨a, b⟩, (d h0).2⟩
    · rintro ⟨⟨a, b⟩, c⟩
      refine ⟨a, b, fun h => by omega, fun _ => ⟨?_, c⟩⟩
      have := b (L.length - 1) (by omega)
      unfold stF at this
      rw [Bool.and_eq_true, decide_eq_true_eq] at this
      exact this.1.2.2.1
theorem chV_last (C : Vs → List Int) (n : Nat) (L : List Vs) : chF C n L (lastC C L) = okF C n L := by rw [chV_eq]; simp
theorem vAt_app {L M : List Vs} {i : Nat} (h : i < L.length) : vAt (L ++ M) i = vAt L i := by unfold vAt; rw [List.getElem?_append_left h]
theorem vAt_snoc (L : List Vs) (q : Vs) : vAt (L ++ [q]) L.length = q := by unfold vAt; rw [List.getElem?_append_right (Nat.le_refl _)]; simp
theorem okV_front {C : Vs → List Int} {n : Nat} {L : List Vs} {q : Vs} (h : okF C n (L ++ [q]) = true) (hl : L ≠ []) : okF C n L = true := by
  rw [okV_iff] at h ⊢
  obtain ⟨⟨a, b, c⟩, d⟩ := h
  refine ⟨⟨a, b, List.length_pos_iff.2 hl⟩, fun i hi => ?_⟩
  have := d i (by rw [List.length_append]; omega)
  unfold stF at this ⊢
  rw [vAt_app hi] at this
  by_cases h0 : i = 0
  · rw [if_pos h0] at this ⊢; exact this
  · rw [if_neg h0] at this ⊢; rw [vAt_app (by omega)] at this; exact this
/-- the first versions, up to the first one whose epoch is above that one -/
def upt (L : List Vs) (ep : Int) : List Vs := L.takeWhile fun q => decide (q.e ≤ ep)
theorem upt_take : ∀ (L : List Vs) (ep : Int) (k : Nat), k ≤ L.length → (∀ i, i < k → (vAt L i).e ≤ ep) → (k < L.length → ¬ (vAt L k).e ≤ ep) → upt L ep = L.take k
  | [], ep, k, hk, _, _ => by have : k = 0 := by simpa using hk
                              subst this; rfl
  | q :: L, ep, 0, hk, _, h2 => by
    have := h2 (by simp)
    have e : vAt (q :: L) 0 = q := rfl
    rw [e] at this
    unfold upt
    rw [List.takeWhile_cons, if_neg (by simpa using this)]; rfl
  | q :: L, ep, k + 1, hk, h1, h2 => by
    have := h1 0 (by omega)
    have e : vAt (q :: L) 0 = q := rfl
    rw [e] at this
    unfold upt
    rw [List.takeWhile_cons, if_pos (by simpa using this), List.take_succ_cons]
    congr 1
    exact upt_take L ep k (by simpa using hk) (fun i hi => h1 (i + 1) (by omega)) (fun h => h2 (by simpa using h))
theorem okV_mono {C : Vs → List Int} {n : Nat} {L : List Vs} (h : okF C n L = true) : ∀ j i, i < j → j < L.length → (vAt L i).e < (vAt L j).e
  | 0, i, hi, _ => by omega
  | j + 1, i, hi, hj => by
    have hst := ((okV_iff C n L).1 h).2 (j + 1) hj
    unfold stF at hst
    rw [Bool.and_eq_true, if_neg (by omega), decide_eq_true_eq, decide_eq_true_eq, Nat.add_sub_cancel] at hst
    rcases Nat.lt_or_ge i j with h1 | h1
    · have := okV_mono h j i h1 (by omega)
      omega
    · have : i = j := by omega
      subst this
      exact hst.2.1
theorem upt_front {C : Vs → List Int} {n : Nat} {L : List Vs} {q : Vs} (h : okF C n (L ++ [q]) = true) : upt (L ++ [q]) (q.e - 1) = L := by
  rw [upt_take (L ++ [q]) (q.e - 1) L.length (by simp) (fun i hi => ?_) (fun _ => by rw [vAt_snoc]; omega)]
  · simp
  · have := okV_mono h L.length i hi (by simp)
    rw [vAt_snoc] at this
    omega
theorem upt_all {C : Vs → List Int} {n : Nat} {L : List Vs} {q : Vs} (h : okF C n (L ++ [q]) = true) : upt (L ++ [q]) q.e = L ++ [q] := by
  rw [upt_take (L ++ [q]) q.e (L ++ [q]).length (Nat.le_refl _) (fun i hi => ?_) (fun h => by omega)]
  · exact List.take_length
  · rw [List.length_append, List.length_singleton] at hi
    rcases Nat.lt_or_ge i L.length with h1 | h1
    · have := okV_mono h L.length i h1 (by simp)
      rw [vAt_snoc] at this
      omega
    · have : i = L.length := by omega
      subst this
      rw [vAt_snoc]; exact Int.le_refl _
/-- the front of what grows -/
theorem okV_grow {C : Vs → List Int} {n : Nat} {L : List Vs} {q : Vs} : (if (0 < L.length ∧ okF C n L = false) ∨ okF C n (L ++ [q]) = false then false else true) = okF C n (L ++ [q]) := by
  cases h : okF C n (L ++ [q]) with
  | false => simp
  | true =>
    by_cases hl : L = []
    · subst hl; simp
    · rw [okV_front h hl]; simp
theorem ext_vAt {a b : List Vs} (hl : a.length = b.length) (h : ∀ i, i < a.length → vAt a i = vAt b i) : a = b := by
  apply List.ext_getElem? 
  intro i
  rcases Nat.lt_or_ge i a.length with h1 | h1
  · have := h i h1
    unfold vAt at this
    rw [List.getElem?_eq_getElem h1, List.getElem?_eq_getElem (by omega)] at this ⊢
    exact congrArg some this
  · rw [List.getElem?_eq_none h1, List.getElem?_eq_none (by omega)]
/-- two chains of one commitment are the same, or two different texts have one hash: T a version's text, H the hash -/
theorem sound_clash {T : Vs → List Int} {H : List Int → List Int} {n : Nat} {a b : List Vs} (hT : ∀ x y i j, i < a.length → j < b.length → x = vAt a i → y = vAt b j → x.n = (i : Int) + 1 → y.n = (j : Int) + 1 → T x = T y → x = y)
    (ha : okF (fun q => H (T q)) n a = true) (hb : okF (fun q => H (T q)) n b = true) (hab : lastC (fun q => H (T q)) a = lastC (fun q => H (T q)) b) :
    a = b ∨ ∃ i j, i < a.length ∧ j < b.length ∧ T (vAt a i) ≠ T (vAt b j) ∧ H (T (vAt a i)) = H (T (vAt b j)) := by
  obtain ⟨⟨_, _, la⟩, sa⟩ := (okV_iff _ _ _).1 ha
  obtain ⟨⟨_, _, lb⟩, sb⟩ := (okV_iff _ _ _).1 hb
  by_cases hc : ∃ i j, i < a.length ∧ j < b.length ∧ T (vAt a i) ≠ T (vAt b j) ∧ H (T (vAt a i)) = H (T (vAt b j))
  · exact .inr hc
  refine .inl ?_
  have hno : ∀ i j, i < a.length → j < b.length → H (T (vAt a i)) = H (T (vAt b j)) → vAt a i = vAt b j := fun i j hi hj he => by
    by_cases ht : T (vAt a i) = T (vAt b j)
    · have s1 := sa i hi
      have s2 := sb j hj
      unfold stF at s1 s2
      rw [Bool.and_eq_true, decide_eq_true_eq] at s1 s2
      exact hT _ _ i j hi hj rfl rfl s1.1.1 s2.1.1 ht
    · exact absurd ⟨i, j, hi, hj, ht, he⟩ hc
  have hnum : ∀ i, i < a.length → (vAt a i).n = (i : Int) + 1 := fun i hi => by
    have s1 := sa i hi
    unfold stF at s1
    rw [Bool.and_eq_true, decide_eq_true_eq] at s1
    exact s1.1.1
  have hnumb : ∀ i, i < b.length → (vAt b i).n = (i : Int) + 1 := fun i hi => by
    have s1 := sb i hi
    unfold stF at s1
    rw [Bool.and_eq_true, decide_eq_true_eq] at s1
    exact s1.1.1
  unfold lastC at hab
  rw [if_neg (List.ne_nil_of_length_pos la), if_neg (List.ne_nil_of_length_pos lb)] at hab
  have h0 := hno (a.length - 1) (b.length - 1) (by omega) (by omega) hab
  have hl : a.length = b.length := by
    have e1 := hnum (a.length - 1) (by omega)
    have e2 := hnumb (b.length - 1) (by omega)
    rw [h0] at e1
    omega
  refine ext_vAt hl (fun i hi => ?_)
  have key : ∀ k, k < a.length → vAt a (a.length - 1 - k) = vAt b (a.length - 1 - k) := by
    intro k
    induction k with
    | zero => intro _; rw [Nat.sub_zero, h0, hl]
    | succ k ih =>
      intro hk
      have e := ih (by omega)
      have s1 := sa (a.length - 1 - k) (by omega)
      have s2 := sb (a.length - 1 - k) (by omega)
      unfold stF at s1 s2
      rw [Bool.and_eq_true, if_neg (by omega), decide_eq_true_eq, decide_eq_true_eq] at s1 s2
      have e1 := s1.2.2
      have e2 := s2.2.2
      rw [e] at e1
      have e3 : a.length - 1 - k - 1 = a.length - 1 - (k + 1) := by omega
      rw [e3] at e1 e2
      exact hno _ _ (by omega) (by omega) (e1.symm.trans e2)
  have := key (a.length - 1 - i) (by omega)
  have e : a.length - 1 - (a.length - 1 - i) = i := by omega
  rwa [e] at this
end Go.Proofs.YtjhaamffgkialaaDoor
/-
  What this file is for: a label's versions in memory: one of them, a list that is read, a list of one's own that grows. Nothing of the program is walked here.
-/
namespace Go.Proofs.YtjhaamffgkialaaDoor
open Go.ChangeShapes Go.WideShapes Go.ChangeAt Go.RowKit
set_option linter.unusedVariables false
set_option linter.unusedSimpArgs false
set_option maxRecDepth 20000

/-- 32 bytes -/
structure Hh (K : List Int) : Prop where
  len : K.length = 32
  bs : Bs K
theorem hh_zero : Hh zH := ⟨by simp [zH], fun v hv => by unfold zH at hv; rw [List.mem_replicate] at hv; omega⟩
theorem hh_sum (X : List Int) : Hh (sum X) := ⟨sum_length _, sum_bs _⟩
def I64 (x : Int) : Prop := -9223372036854775808 ≤ x ∧ x ≤ 9223372036854775807
structure Vs.Ok (q : Vs) : Prop where
  n : I64 q.n
  e : I64 q.e
  s : Hh q.s
  b : Hh q.b
  v : Bs q.v
theorem vZ_ok : vZ.Ok := ⟨by unfold I64 vZ; decide, by unfold I64 vZ; decide, hh_zero, hh_zero, fun v hv => by simp [vZ] at hv⟩
/-- a version's cells; V is the slice of its value -/
def vcs (V : Value) (q : Vs) : List Value := .int .i64 q.n :: .int .i64 q.e :: (u8s q.s ++ (u8s q.b ++ [V]))
theorem vcs_length (V : Value) {q : Vs} (h : q.Ok) : (vcs V q).length = 67 := by simp [vcs, u8s_length, h.s.len, h.b.len]
theorem vcs_one {V : Value} (hV : V.oneCell' = true) (q : Vs) : ∀ u ∈ vcs V q, u.oneCell' = true := fun u hu => by
  simp only [vcs, List.mem_cons, List.mem_append, List.not_mem_nil, or_false] at hu
  rcases hu with rfl | rfl | hu | hu | rfl
  · rfl
  · rfl
  · exact u8s_one _ u hu
  · exact u8s_one _ u hu
  · exact hV
theorem vcs_all {V : Value} (hV : V.oneCell' = true) (q : Vs) : (vcs V q).toArray.all (·.oneCell') = true := by
  rw [Array.all_eq_true']
  intro u hu
  exact vcs_one hV q u (by simpa using hu)
theorem crng_rp {w : World} {g o : Nat} {l : List Int} (h : w.rangeAt g o (u8s l)) : Rp w none (some ⟨g, o, none⟩) l := fun _ =>
  ⟨_, rfl, (fun ⟨a, e, _⟩ => by cases e), fun j hj => by rw [Addr.add_lit]; exact h j _ (u8s_get l j hj)⟩
theorem crng_sub {w : World} {g o : Nat} {A B : List Value} (h : w.rangeAt g o (A ++ B)) : w.rangeAt g (o + A.length) B := fun j v hv => by
  rw [Nat.add_assoc]
  refine h (A.length + j) v ?_
  rw [List.getElem?_append_right (by omega), Nat.add_sub_cancel_left]; exact hv
theorem crng_sub0 {w : World} {g o : Nat} {A B : List Value} (h : w.rangeAt g o (A ++ B)) : w.rangeAt g o A := fun j v hv => by
  refine h j v ?_
  rw [List.getElem?_append_left (by
    rcases Nat.lt_or_ge j A.length with h1 | h1
    · exact h1
    · rw [List.getElem?_eq_none h1] at hv; cases hv)]
  exact hv
theorem crng_bel {w w' : World} {g o : Nat} {l : List Value} (hb : Below w.heap.size w w') (h : w.rangeAt g o l) : w'.rangeAt g o l := fun j v hv => by
  have := h j v hv
  exact (hb.cell (block_lt_of_cell this)).trans this
theorem crng_same {w w' : World} {g o : Nat} {l : List Value} (hk : w'.heap[g]? = w.heap[g]?) (h : w.rangeAt g o l) : w'.rangeAt g o l := fun j v hv => (World.cell?_of_block (a := ⟨g, o + j, none⟩) hk).trans (h j v hv)
/-- a version lies there -/
structure VcAt (w : World) (g o : Nat) (V : Value) (q : Vs) : Prop where
  all : w.rangeAt g o (vcs V q)
  n : w.cell? ⟨g, o, none⟩ = some (.int .i64 q.n)
  e : w.cell? ⟨g, o + 1, none⟩ = some (.int .i64 q.e)
  s : w.rangeAt g (o + 2) (u8s q.s)
  b : w.rangeAt g (o + 34) (u8s q.b)
  v : w.cell? ⟨g, o + 66, none⟩ = some V
theorem vc_at {w : World} {g o : Nat} {V : Value} {q : Vs} (h : w.rangeAt g o (vcs V q)) (hq : q.Ok) : VcAt w g o V q := by
  have ls := (u8s_length q.s).trans hq.s.len
  have lb := (u8s_length q.b).trans hq.b.len
  have h1 : w.rangeAt g o ([.int .i64 q.n, .int .i64 q.e] ++ (u8s q.s ++ (u8s q.b ++ [V]))) := h
  have h2 := crng_sub h1
  have h3 := crng_sub h2
  have h4 := crng_sub h3
  have e2 : o + [Value.int .i64 q.n, .int .i64 q.e].length = o + 2 := rfl
  rw [e2] at h2 h3 h4
  rw [ls] at h3 h4
  rw [lb] at h4
  have e3 : o + 2 + 32 = o + 34 := by omega
  have e4 : o + 34 + 32 = o + 66 := by omega
  rw [e3] at h3 h4
  rw [e4] at h4
  exact ⟨h, h 0 _ rfl, h 1 _ rfl, crng_sub0 h2, crng_sub0 h3, h4 0 _ rfl⟩
theorem VcAt.below {w w' : World} {g o : Nat} {V : Value} {q : Vs} (h : VcAt w g o V q) (hq : q.Ok) (hb : Below w.heap.size w w') : VcAt w' g o V q := vc_at (crng_bel hb h.all) hq
theorem VcAt.same {w w' : World} {g o : Nat} {V : Value} {q : Vs} (h : VcAt w g o V q) (hq : q.Ok) (hk : w'.heap[g]? = w.heap[g]?) : VcAt w' g o V q := vc_at (crng_same hk h.all) hq
theorem Blk.vc {w : World} {g : Nat} {t : TypeId} {V : Value} {q : Vs} (h : Blk w g t (vcs V q).toArray) (hq : q.Ok) : VcAt w g 0 V q :=
  vc_at (fun j v hv => by rw [h.cell, Nat.zero_add, List.getElem?_toArray]; exact hv) hq
/-- a version that is handed over: its value can be read -/
structure VArg (w : World) (V : Value) (q : Vs) : Prop where
  ok : q.Ok
  val : ∃ B d, V = .slice B q.v.length d ∧ q.v.length ≤ d ∧ Rp w none B q.v
theorem VArg.below {w w' : World} {V : Value} {q : Vs} (h : VArg w V q) (hb : Below w.heap.size w w') : VArg w' V q := by
  obtain ⟨ok, B, d, e, hd, hr⟩ := h
  exact ⟨ok, B, d, e, hd, hr.belowN hb⟩
theorem VArg.one {w : World} {V : Value} {q : Vs} (h : VArg w V q) : V.oneCell' = true := by
  obtain ⟨_, B, d, e, _⟩ := h
  rw [e]; rfl
/-- a list of versions that can be read -/
structure InV (w : World) (A : Option Addr) (n : Nat) (L : List Vs) : Prop where
  len : L.length = n
  max : n ≤ 9223372036854775807
  at' : 0 < n → ∃ b o, A = some ⟨b, o, none⟩ ∧ b < w.heap.size ∧ ∀ (i : Nat) (q : Vs), L[i]? = some q → ∃ V, w.rangeAt b (o + i * 67) (vcs V q) ∧ VArg w V q
theorem InV.nil (w : World) (A : Option Addr) : InV w A 0 [] := ⟨rfl, by omega, fun h => by omega⟩
theorem InV.below {w w' : World} {A : Option Addr} {n : Nat} {L : List Vs} (h : InV w A n L) (hb : Below w.heap.size w w') : InV w' A n L := by
  refine ⟨h.len, h.max, fun hn => ?_⟩
  obtain ⟨b, o, e, hlt, hat⟩ := h.at' hn
  refine ⟨b, o, e, Nat.lt_of_lt_of_le hlt hb.size, fun i q hq => ?_⟩
  obtain ⟨V, h1, h2⟩ := hat i q hq
  exact ⟨V, crng_bel hb h1, h2.below hb⟩
theorem InV.at {w : World} {A : Option Addr} {n : Nat} {L : List Vs} (h : InV w A n L) {k : Nat} (hk : k < n) : ∃ b o V, A = some ⟨b, o, none⟩ ∧ b < w.heap.size ∧ VcAt w b (o + k * 67) V (vAt L k) ∧ VArg w V (vAt L k) ∧ L[k]? = some (vAt L k) := by
  obtain ⟨b, o, e, hlt, hat⟩ := h.at' (by omega)
  have hl := h.len
  have hq : L[k]? = some (vAt L k) := by unfold vAt; rw [List.getElem?_eq_getElem (by omega)]; rfl
  obtain ⟨V, h1, h2⟩ := hat k _ hq
  exact ⟨b, o, V, e, hlt, vc_at h1 h2.ok, h2, hq⟩
theorem InV.ok {w : World} {A : Option Addr} {n : Nat} {L : List Vs} (h : InV w A n L) : ∀ q ∈ L, q.Ok := fun q hq => by
  obtain ⟨i, hi⟩ := List.mem_iff_getElem?.1 hq
  have hl : i < L.length := by
    rcases Nat.lt_or_ge i L.length with h1 | h1
    · exact h1
    · rw [List.getElem?_eq_none h1] at hi; cases hi
  obtain ⟨b, o, e, hlt, hat⟩ := h.at' (by have := h.len; omega)
  obtain ⟨V, h1, h2⟩ := hat i q hi
  exact h2.ok
theorem vAt_ok {L : List Vs} (h : ∀ q ∈ L, q.Ok) (k : Nat) : (vAt L k).Ok := by
  unfold vAt
  rcases Nat.lt_or_ge k L.length with h1 | h1
  · rw [List.getElem?_eq_getElem h1]; exact h _ (List.getElem_mem h1)
  · rw [List.getElem?_eq_none h1]; exact vZ_ok
theorem InV.front {w : World} {A : Option Addr} {n : Nat} {L : List Vs} (h : InV w A n L) {k : Nat} (hk : k ≤ n) : InV w A k (L.take k) := by
  refine ⟨by rw [List.length_take, h.len]; omega, by have := h.max; omega, fun hn => ?_⟩
  obtain ⟨b, o, e, hlt, hat⟩ := h.at' (by omega)
  refine ⟨b, o, e, hlt, fun i q hq => hat i q ?_⟩
  rw [List.getElem?_take] at hq
  by_cases hik : i < k
  · rw [if_pos hik] at hq; exact hq
  · rw [if_neg hik] at hq; cases hq
/-! A list of versions of one's own. -/
/-- the cells of a list of versions, R their values' slices -/
def vcss : List Value → List Vs → List Value
  | V :: R, q :: L => vcs V q ++ vcss R L
  | _, _ => []
theorem vcss_length : ∀ {R : List Value} {L : List Vs}, R.length = L.length → (∀ q ∈ L, q.Ok) → (vcss R L).length = L.length * 67
  | [], [], _, _ => rfl
  | V :: R, q :: L, h, ho => by
    unfold vcss
    rw [List.length_append, vcs_length V (ho q (by simp)), vcss_length (by simpa using h) (fun q hq => ho q (List.mem_cons_of_mem _ hq)), List.length_cons, Nat.succ_mul, Nat.add_comm]
  | [], q :: L, h, _ => by simp at h
  | V :: R, [], h, _ => by simp at h
theorem vcss_snoc : ∀ {R : List Value} {L : List Vs} (V : Value) (q : Vs), R.length = L.length → vcss (R ++ [V]) (L ++ [q]) = vcss R L ++ vcs V q
  | [], [], V, q, _ => by simp [vcss]
  | V0 :: R, q0 :: L, V, q, h => by
    simp only [List.cons_append, vcss]
    rw [vcss_snoc V q (by simpa using h), List.append_assoc]
  | [], q0 :: L, V, q, h => by simp at h
  | V0 :: R, [], V, q, h => by simp at h
theorem vcss_at : ∀ {R : List Value} {L : List Vs} {i : Nat} {V : Value} {q : Vs}, R.length = L.length → (∀ q ∈ L, q.Ok) → R[i]? = some V → L[i]? = some q → ∀ j u, (vcs V q)[j]? = some u → (vcss R L)[i * 67 + j]? = some u
  | [], L, i, V, q, _, _, h, _, _, _, _ => by simp at h
  | V0 :: R, [], i, V, q, h, _, _, _, _, _, _ => by simp at h
  | V0 :: R, q0 :: L, 0, V, q, hl, ho, hR, hL, j, u, hu => by
    injection hR with hR
    injection hL with hL
    subst hR hL
    unfold vcss
    rw [Nat.zero_mul, Nat.zero_add, List.getElem?_append_left (by
      rcases Nat.lt_or_ge j (vcs V0 q0).length with h1 | h1
      · exact h1
      · rw [List.getElem?_eq_none h1] at hu; cases hu)]
    exact hu
  | V0 :: R, q0 :: L, i + 1, V, q, hl, ho, hR, hL, j, u, hu => by
    have hx := vcs_length V0 (ho q0 (by simp))
    unfold vcss
    rw [List.getElem?_append_right (by rw [hx, Nat.succ_mul]; omega), hx]
    have e : (i + 1) * 67 + j - 67 = i * 67 + j := by rw [Nat.succ_mul]; omega
    rw [e]
    exact vcss_at (by simpa using hl) (fun q hq => ho q (List.mem_cons_of_mem _ hq)) (by simpa using hR) (by simpa using hL) j u hu
theorem vcss_one : ∀ {R : List Value} {L : List Vs}, (∀ V ∈ R, V.oneCell' = true) → ∀ u ∈ vcss R L, u.oneCell' = true
  | [], _, _, u, hu => by simp [vcss] at hu
  | V :: R, [], _, u, hu => by simp [vcss] at hu
  | V :: R, q :: L, h, u, hu => by
    unfold vcss at hu
    rcases List.mem_append.1 hu with hu | hu
    · exact vcs_one (h V (by simp)) q u hu
    · exact vcss_one (fun V hV => h V (List.mem_cons_of_mem _ hV)) u hu
/-- a slice's bytes can be read, and lie below n0 or in a block of bytes -/
structure Vb (n0 : Nat) (w : World) (V : Value) (q : Vs) : Prop where
  ok : q.Ok
  val : ∃ B d, V = .slice B q.v.length d ∧ q.v.length ≤ d ∧ Rp w none B q.v ∧ (0 < q.v.length → ∀ a, B = some a → a.block < n0 ∨ ∃ cs, Blk w a.block 5 cs)
theorem Vb.arg {n0 : Nat} {w : World} {V : Value} {q : Vs} (h : Vb n0 w V q) : VArg w V q := by
  obtain ⟨ok, B, d, e, hd, hr, _⟩ := h
  exact ⟨ok, B, d, e, hd, hr⟩
theorem VArg.vb {n0 : Nat} {w : World} {V : Value} {q : Vs} (h : VArg w V q) (hn : w.heap.size ≤ n0) : Vb n0 w V q := by
  obtain ⟨ok, B, d, e, hd, hr⟩ := h
  refine ⟨ok, B, d, e, hd, hr, fun hx a ha => .inl ?_⟩
  obtain ⟨ad, e1, _, hc⟩ := hr hx
  rw [ha] at e1
  injection e1 with e1
  subst e1
  have := block_lt_of_cell (hc 0 hx)
  rw [add_block] at this
  omega
theorem Vb.same {n0 : Nat} {w w' : World} {V : Value} {q : Vs} (h : Vb n0 w V q) (hk : ∀ k, k < w.heap.size → (k < n0 ∨ ∃ cs, Blk w k 5 cs) → w'.heap[k]? = w.heap[k]?) : Vb n0 w' V q := by
  obtain ⟨ok, B, d, e, hd, hr, hm⟩ := h
  refine ⟨ok, B, d, e, hd, fun hx => ?_, fun hx a ha => ?_⟩
  · obtain ⟨ad, e1, h1, hc⟩ := hr hx
    have hlt := block_lt_of_cell (hc 0 hx)
    rw [add_block] at hlt
    exact ⟨ad, e1, h1, fun j hj => (World.cell?_of_block (w := w) (by rw [add_block]; exact hk _ hlt (hm hx ad e1))).trans (hc j hj)⟩
  · rcases hm hx a ha with h1 | ⟨cs, h1⟩
    · exact .inl h1
    · exact .inr ⟨cs, h1.same (hk _ h1.lt (.inr ⟨cs, h1⟩))⟩
theorem Vb.below {n0 : Nat} {w w' : World} {V : Value} {q : Vs} (h : Vb n0 w V q) (hb : Below w.heap.size w w') : Vb n0 w' V q := h.same fun k hk _ => hb.block k hk
theorem Vb.weak {n0 n1 : Nat} {w : World} {V : Value} {q : Vs} (h : Vb n0 w V q) (hn : n0 ≤ n1) : Vb n1 w V q := by
  obtain ⟨ok, B, d, e, hd, hr, hm⟩ := h
  refine ⟨ok, B, d, e, hd, hr, fun hx a ha => ?_⟩
  rcases hm hx a ha with h1 | h1
  · exact .inl (by omega)
  · exact .inr h1
/-- a list of versions of one's own: its row is new since n0, its values' bytes lie below n0 or in blocks of bytes -/
structure OwV (t : TypeId) (n0 : Nat) (w : World) (v : Value) (L : List Vs) : Prop where
  ex : ∃ R : List Value, R.length = L.length ∧ w.ownsRow n0 t 67 v L.length (vcss R L) ∧ ∀ (i : Nat) (V : Value) (q : Vs), R[i]? = some V → L[i]? = some q → Vb n0 w V q
theorem OwV.nil (t : TypeId) (n0 : Nat) (w : World) : OwV t n0 w (.slice none 0 0) [] := ⟨[], rfl, ⟨rfl, .inl ⟨rfl, rfl⟩⟩, fun i V q h => by simp at h⟩
theorem OwV.below {t : TypeId} {n0 : Nat} {w w' : World} {v : Value} {L : List Vs} (h : OwV t n0 w v L) (hb : Below w.heap.size w w') : OwV t n0 w' v L := by
  obtain ⟨R, hl, ho, hv⟩ := h.ex
  exact ⟨R, hl, own_below ho hb, fun i V q h1 h2 => (hv i V q h1 h2).below hb⟩
theorem OwV.len {t : TypeId} {n0 : Nat} {w : World} {v : Value} {L : List Vs} (h : OwV t n0 w v L) : ∃ A c, v = .slice A L.length c ∧ L.length ≤ c := by
  obtain ⟨R, hl, ho, hv⟩ := h.ex
  rcases ho.2 with ⟨h1, h0⟩ | ⟨g, cap, cur, hv, _, _, hc, _⟩
  · exact ⟨none, 0, by rw [h1, h0], by omega⟩
  · exact ⟨_, _, hv, hc⟩
theorem mem_of_zip {R : List Value} {L : List Vs} (hl : R.length = L.length) {q : Vs} (hq : q ∈ L) : ∃ (i : Nat) (V : Value), R[i]? = some V ∧ L[i]? = some q := by
  obtain ⟨i, hi⟩ := List.mem_iff_getElem?.1 hq
  have h1 : i < L.length := by
    rcases Nat.lt_or_ge i L.length with h1 | h1
    · exact h1
    · rw [List.getElem?_eq_none h1] at hi; cases hi
  exact ⟨i, R[i]'(by omega), List.getElem?_eq_getElem _, hi⟩
theorem OwV.ok {t : TypeId} {n0 : Nat} {w : World} {v : Value} {L : List Vs} (h : OwV t n0 w v L) : ∀ q ∈ L, q.Ok := fun q hq => by
  obtain ⟨R, hl, ho, hv⟩ := h.ex
  obtain ⟨i, V, h1, h2⟩ := mem_of_zip hl hq
  exact (hv i V q h1 h2).ok
theorem OwV.in {t : TypeId} {n0 : Nat} {w : World} {A : Option Addr} {n c : Nat} {L : List Vs} (h : OwV t n0 w (.slice A n c) L) (hm : L.length ≤ 1000000) : InV w A n L := by
  have hok := h.ok
  obtain ⟨A', c', e, hc⟩ := h.len
  injection e with e1 e2 e3
  subst e2
  obtain ⟨R, hl, ho, hv⟩ := h.ex
  refine ⟨rfl, by omega, fun hn => ?_⟩
  rcases ho.2 with ⟨_, h0⟩ | ⟨g, cap, cur, hvv, hb, hh, hnc, hcm, hcs, htk⟩
  · omega
  · injection hvv with hA
    have hlt := (ho.lt g (by rw [hA]; rfl)).2
    refine ⟨g, 0, hA, hlt, fun i q hq => ?_⟩
    have h1 : i < L.length := by
      rcases Nat.lt_or_ge i L.length with h1 | h1
      · exact h1
      · rw [List.getElem?_eq_none h1] at hq; cases hq
    have hR : R[i]? = some (R[i]'(by omega)) := List.getElem?_eq_getElem _
    refine ⟨_, fun j v hj => ?_, (hv i _ q hR hq).arg⟩
    have h2 := vcss_at hl hok hR hq j v hj
    have h3 := ho.cells (g := g) (by rw [hA]; rfl) _ v h2
    rw [Addr.add_lit] at h3
    rw [Nat.add_assoc]
    exact h3
theorem OwV.any {t : TypeId} {n0 : Nat} {w : World} {v : Value} {L : List Vs} (h : OwV t n0 w v L) (hm : L.length ≤ 1000000) : ∃ A c, v = .slice A L.length c ∧ L.length ≤ c ∧ InV w A L.length L := by
  obtain ⟨A, c, e, hc⟩ := h.len
  exact ⟨A, c, e, hc, (OwV.in (n := L.length) (c := c) (by rw [← e]; exact h) hm)⟩
/-- a type of lists of versions -/
structure VTy (tS tE : TypeId) : Prop where
  u : Tryd.prog.underlying tS = some (.slice tE)
  i : (Tryd.prog.info? tE).map (fun i => (i.zero, i.size, i.bytes)) = some (some (.agg (vcs (.slice none 0 0) vZ).toArray), 67, 104)
  ne : tE ≠ 5
theorem wp_ver_one {tS tE : TypeId} (ht : VTy tS tE) {ops : Array Oper} {rest : List Oper} {o : Oper} {a : Act} {w : World} {Q : Exit → Act → World → Prop} (hgd : o.guard = none) (x : Operand) (ho : o.op = .buildSlice tS 1 #[(0, x)]) (V : Value) (q : Vs) (hq : q.Ok) (hx : a.eval x = .agg (vcs V q).toArray)
    (h : wpList Tryd.prog ops Q rest (a.put o.dst (.slice (some ⟨w.heap.size, 0, none⟩) 1 1)) (w.alloc (.cells (vcs V q).toArray tE))) : wpList Tryd.prog ops Q (o :: rest) a w := by
  refine wpList_plain hgd fun _ hK => ?_
  obtain ⟨i0, hi, hz0, hz1, hz2⟩ := info_parts ht.i
  have hl := vcs_length V hq
  refine wp_buildSlice tS tE 1 #[(0, x)] ho (vcs V q).toArray i0 _ ht.u hi hz0 (by rw [hz1]; decide) (by rw [hz1]; decide) ?_ (hK _ _ h)
  have hp : (#[(0, x)].map fun ((i, x) : Nat × Operand) => (i, a.eval x)).toList = [(0, Value.agg (vcs V q).toArray)] := by simp [hx]
  rw [hp, hz1]
  have h := Great.fill_whole (s := 67) (by decide) [Value.agg (vcs V q).toArray] ((Array.range (1 * 67)).map ((Value.agg (vcs (.slice none 0 0) vZ).toArray).cells[· % (Value.agg (vcs (.slice none 0 0) vZ).toArray).cells.size]!)) (fun v hv => by
    rw [List.mem_singleton.1 hv]; exact hl) (by simp)
  simp only [List.flatMap_cons, List.flatMap_nil, List.append_nil] at h
  exact h
/-- what is left alone by an append to a row of one's own -/
theorem vb_grown {n0 : Nat} {w w' : World} {v : Value} {tE : TypeId} (hne : tE ≠ 5) (hg : w.grownBy w' v.ownBlock) (hv : ∀ k, v.ownBlock = some k → n0 ≤ k ∧ ∃ C, Blk w k tE C) {V : Value} {q : Vs} (h : Vb n0 w V q) : Vb n0 w' V q :=
  h.same fun k hk hm => World.grownBy.block hg k hk (fun e => by
    obtain ⟨h1, C, h2⟩ := hv k e.symm
    rcases hm with hm | ⟨cs, hm⟩
    · omega
    · exact hne (h2.inj hm).1)
theorem OwV.ty {t : TypeId} {n0 : Nat} {w : World} {v : Value} {L : List Vs} (h : OwV t n0 w v L) : ∀ k, v.ownBlock = some k → n0 ≤ k ∧ ∃ C, Blk w k t C := fun k hk => by
  obtain ⟨R, hl, ho, hv⟩ := h.ex
  rcases ho.2 with ⟨h1, h0⟩ | ⟨g, cap, cur, hv, hb, hh, _⟩
  · rw [h1] at hk; cases hk
  · rw [hv] at hk; injection hk with hk; subst hk; exact ⟨hb, cur, hh⟩
theorem OwV.push {t : TypeId} {n0 : Nat} {w' : World} {v' : Value} {L : List Vs} {V : Value} {q : Vs} {R : List Value} (hl : R.length = L.length) (hR : ∀ (i : Nat) (V : Value) (q : Vs), R[i]? = some V → L[i]? = some q → Vb n0 w' V q) (hq : Vb n0 w' V q)
    (ho : w'.ownsRow n0 t 67 v' (L.length + 1) (vcss R L ++ vcs V q)) : OwV t n0 w' v' (L ++ [q]) := by
  refine ⟨R ++ [V], by simp [hl], by rw [vcss_snoc V q hl, List.length_append]; exact ho, fun i V' q' h1 h2 => ?_⟩
  rcases Nat.lt_or_ge i L.length with h3 | h3
  · rw [List.getElem?_append_left (by omega)] at h1
    rw [List.getElem?_append_left h3] at h2
    exact hR i V' q' h1 h2
  · rw [List.getElem?_append_right (by omega)] at h1
    rw [List.getElem?_append_right h3] at h2
    have e : i - L.length = 0 := by
      rcases Nat.eq_zero_or_pos (i - L.length) with h | h
      · exact h
      · rw [List.getElem?_eq_none (by simp; omega)] at h2; cases h2
    rw [e] at h2
    rw [hl, e] at h1
    injection h1 with h1
    injection h2 with h2
    subst h1 h2
    exact hq
/-- a version more -/
theorem wpList_append_ver {tS tE : TypeId} (ht : VTy tS tE) {w : World} {ops : Array Oper} {rest : List Oper} {o : Oper} {a : Act} {Q : Exit → Act → World → Prop} (hgd : o.guard = none) (s x : Operand)
    (ho : o.op = .call { callee := .builtin .append, args := #[s, x], argTypes := #[tS, tS] }) (n0 : Nat) (L : List Vs) (v : Value) (hs : a.eval s = v) (hO : OwV tE n0 w v L) (V : Value) (q : Vs) (hq : Vb n0 w V q) (hx : a.eval x = .slice (some ⟨w.heap.size, 0, none⟩) 1 1) (hlen : L.length ≤ 100000) (hn : n0 ≤ w.heap.size)
    (h : ∀ v' w', OwV tE n0 w' v' (L ++ [q]) → w.grownBy w' v.ownBlock → Below n0 w w' → wpList Tryd.prog ops Q rest (a.put o.dst v') w') : wpList Tryd.prog ops Q (o :: rest) a (w.alloc (.cells (vcs V q).toArray tE)) := by
  obtain ⟨i0, hi, hz0, hz1, hz2⟩ := info_parts ht.i
  have hB := Blk.new w tE (vcs V q).toArray
  have hb : Below w.heap.size w (w.alloc (.cells (vcs V q).toArray tE)) := (Below.refl _ _).alloc (Nat.le_refl _) _
  have hty := (hO.below hb).ty
  have hO' := hO.below hb
  obtain ⟨R, hl, hrow, hR⟩ := hO'.ex
  have hq' := hq.below hb
  refine wpList_append_own _ hgd s x tS ho n0 tE i0 _ 67 104 ht.u hi hz0 hz1 hz2 (by rfl) (by decide) v L.length (vcss R L) hs hrow ⟨w.heap.size, 0, none⟩ 1 1 (vcs V q) hx (by rw [vcs_length V hq.ok]) (fun j u hu => ?_) (vcs_one hq.arg.one q) (by unfold maxLen; omega) (by omega) (Nat.le_trans hn hb.size) ?_
  · rw [Addr.add_lit, Nat.zero_add, hB.cell, List.getElem?_toArray]; exact hu
  · intro v' w' h1 h2 _
    refine h v' w' (OwV.push hl (fun i V' q' g1 g2 => vb_grown ht.ne h2 hty (hR i V' q' g1 g2)) (vb_grown ht.ne h2 hty hq') h1) ((World.grownBy_alloc w _ _).trans h2) ((hb.mono hn).trans ((Below.refl _ _).grown h2 (Nat.le_trans hn hb.size) (fun k hk => (hty k hk).1)))
end Go.Proofs.YtjhaamffgkialaaDoor
/-
  What is proved here: a label's key and salt, a version's text and commitment, as the code and as the document have them.
-/
namespace Go.Proofs.YtjhaamffgkialaaDoor
open Go.ChangeShapes Go.WideShapes Go.ChangeAt Go.RowKit
set_option linter.unusedVariables false
set_option linter.unusedSimpArgs false
set_option maxRecDepth 20000

/-- a label that came in -/
structure Lbl (w : World) (A : Option Addr) (c : Nat) (lab : List Int) : Prop where
  rp : Rp w none A lab
  bs : Bs lab
  cap : lab.length ≤ c
  len : lab.length ≤ 300
theorem Lbl.below {w w' : World} {A : Option Addr} {c : Nat} {lab : List Int} (h : Lbl w A c lab) (hb : Below w.heap.size w w') : Lbl w' A c lab := ⟨h.rp.belowN hb, h.bs, h.cap, h.len⟩
def labT (lab : List Int) : List Int := textL 107 [lab]
def saltT (seed lab : List Int) (n : Int) : List Int := textL 122 [seed, lab, be n 4]
def verT (lab : List Int) (q : Vs) : List Int := textL 99 [lab, be q.n 4, be q.e 4, q.s, q.b, q.v]
/-- a version's commitment -/
def cm (lab : List Int) (q : Vs) : List Int := sum (verT lab q)
theorem be_mod (n : Int) : be (n % 4294967296) 4 = be n 4 := by
  simp [be]
  omega
/-- slices of bytes in a literal -/
theorem inR_lit {w : World} {g : Nat} (S : List (Option Addr × Nat × List Int)) (hb : Blk w g 23 (S.map fun p => Value.slice p.1 p.2.2.length p.2.1).toArray) (hm : S.length ≤ 20)
    (h : ∀ p ∈ S, Bs p.2.2 ∧ Rp w none p.1 p.2.2 ∧ p.2.2.length ≤ p.2.1 ∧ p.2.2.length ≤ 300) : InR w (some ⟨g, 0, none⟩) S.length (S.map fun p => p.2.2) := by
  refine ⟨by simp, by omega, fun _ => ⟨g, 0, rfl, hb.lt, fun i hi => ?_⟩⟩
  obtain ⟨h1, h2, h3, h4⟩ := h S[i] (List.getElem_mem hi)
  refine ⟨S[i].1, S[i].2.1, S[i].2.2, by rw [List.getElem?_map, List.getElem?_eq_getElem hi]; rfl, ?_, h1, h2, h3, by omega⟩
  rw [hb.cell, List.getElem?_toArray, Nat.zero_add, List.getElem?_map, List.getElem?_eq_getElem hi]
  rfl
theorem inR_len {S : List (Option Addr × Nat × List Int)} {w : World} (h : ∀ p ∈ S, Bs p.2.2 ∧ Rp w none p.1 p.2.2 ∧ p.2.2.length ≤ p.2.1 ∧ p.2.2.length ≤ 300) : ∀ f ∈ S.map (fun p => p.2.2), f.length ≤ 300 := fun f hf => by
  obtain ⟨p, hp, rfl⟩ := List.mem_map.1 hf
  exact (h p hp).2.2.2
theorem hash_size32 {K : List Int} (h : Hh K) : (u8s K).toArray.size = 32 := by rw [List.size_toArray, u8s_length, h.len]
/-- what a salt's region keeps -/
structure SaS (seed : List Int) (w w' : World) : Prop where
  bl : Below w.heap.size w w'
  ks : Blk w' w.heap.size 26 (u8s seed).toArray
  kz : ∃ cs, Blk w' (w.heap.size + 1) 26 cs ∧ cs.size = 32
theorem SaS.below {seed : List Int} {w w' w2 : World} (h : SaS seed w w') (hb : Below w'.heap.size w' w2) : SaS seed w w2 := by
  obtain ⟨cs, h1, h2⟩ := h.kz
  exact ⟨h.bl.trans (hb.mono h.bl.size), h.ks.same (hb.block _ h.ks.lt), cs, h1.same (hb.block _ h1.lt), h2⟩
theorem SaS.set {seed : List Int} {w w' : World} (h : SaS seed w w') {cs' : Array Value} (hc : cs'.size = 32) : SaS seed w (w'.setRow (w.heap.size + 1) cs') := by
  obtain ⟨cs, h1, h2⟩ := h.kz
  exact ⟨below_setRow h.bl (by omega) _, h.ks.rowFar (by omega) _, cs', h1.row _, hc⟩
theorem be4_eq (n : Int) : be n 4 = [n / 16777216 % 256, n / 65536 % 256, n / 256 % 256, n % 256] := by
  simp [be]
theorem u32_wrap (n : Int) : IntKind.u32.wrap n = n % 4294967296 := by simp [IntKind.wrap, IntKind.signed, IntKind.bits]
/-- four bytes, in new memory -/
def FourA (w : World) (n : Int) (e : Ending) (w' : World) : Prop := (∃ A c, e = .returned (.slice A 4 c) ∧ 4 ≤ c ∧ Fresh w w' A (be n 4)) ∧ Below w.heap.size w w'
/-- bytes, in new memory -/
def BytA (w : World) (X : List Int) (e : Ending) (w' : World) : Prop := (∃ A c, e = .returned (.slice A X.length c) ∧ X.length ≤ c ∧ Fresh w w' A X) ∧ Below w.heap.size w w'
theorem fresh_blk {w : World} {a b : Int} {X : List Int} (cs : Array Value) (h : cs = (u8s X).toArray) : Fresh w (w.alloc (.cells cs 5)) (some ⟨w.heap.size, 0, none⟩) X := fun hx =>
  ⟨w.heap.size, cs, rfl, Nat.le_refl _, Blk.new w 5 cs, fun j hj => by rw [h, List.getElem?_toArray]; exact u8s_get X j hj⟩
theorem fourC_any (n : Int) (w : World) : Calls Tryd.prog 83 #[.int .i64 n] w (FourA w n) := by
  unfold FourA
  go_enter Tryd.func83, Tryd.ntmps83
  go_wp2
  go_ret
  refine ⟨⟨_, _, rfl, by decide, ?_⟩, (Below.refl _ _).alloc (Nat.le_refl _) _⟩
  refine fresh_blk (a := 0) (b := 0) _ ?_
  rw [be4_eq]
  simp [u8s]
  omega
theorem fourR_any (n : Int) (w : World) : Calls Tryd.prog 84 #[.int .i64 n] w (FourA w n) := by
  have HN := Number_any (n % 4294967296) 4 w (by omega) (by decide)
  rw [be_mod] at HN
  have HN := hid HN
  have HT : Hid ((IntKind.u64.wrap n).tmod 4294967296 = n % 4294967296) := by
    show _ = _
    have hw : IntKind.u64.wrap n = n % 18446744073709551616 := by simp [IntKind.wrap, IntKind.signed, IntKind.bits]
    rw [hw, Int.tmod_eq_emod_of_nonneg (by omega)]
    omega
  unfold FourA
  go_enter Tryd.func84, Tryd.ntmps84
  go_wp2_with (rw [HT.out]; go_at_call 113; refine HN.out.mono ?_; rintro e w1 ⟨A, c, rfl, h1, h2, h3⟩)
  go_ret
  exact ⟨⟨A, c, rfl, h1, h2⟩, h3⟩
theorem keyC_any {A : Option Addr} {c : Nat} {lab : List Int} {w : World} (h : Lbl w A c lab) (ht : Tab w) : Calls Tryd.prog 32 #[.slice A lab.length c] w fun e w' => e = .returned (.agg (u8s (sum (labT lab))).toArray) ∧ Below w.heap.size w w' := by
  obtain ⟨Z, HZ, hZ0, hZs⟩ := zero_Hash
  obtain ⟨S, hS⟩ : ∃ S, S = sum (labT lab) := ⟨_, rfl⟩
  have HI : Hid ((Tryd.prog.info? 26).map (·.size) = some (u8s S).toArray.size) := info_hash S (by rw [hS]; exact sum_length _)
  have HZS : Hid (Z.size = (u8s S).toArray.size) := by
    show _ = _
    rw [HZ.out, List.size_toArray, List.size_toArray, u8s_length, u8s_length, hS, sum_length]; simp
  have KZ : Hid (Blk (w.alloc (.cells Z 26)) w.heap.size 26 Z) := Blk.new w 26 Z
  have B0 : Below w.heap.size w (w.alloc (.cells Z 26)) := (Below.refl _ _).alloc (Nat.le_refl _) _
  have B1 : Hid (Below w.heap.size w ((w.alloc (.cells Z 26)).alloc (.cells #[.slice A lab.length c] 23))) := B0.alloc (by simp) _
  have NB := Blk.new (w.alloc (.cells Z 26)) 23 #[.slice A lab.length c]
  have KZ1 := hid (KZ.out.alloc (.cells #[.slice A lab.length c] 23))
  rw [show (w.alloc (.cells Z 26)).heap.size = w.heap.size + 1 by simp] at NB
  have h1 := h.below B1.out
  have HS : ∀ p ∈ [(A, c, lab)], Bs p.2.2 ∧ Rp ((w.alloc (.cells Z 26)).alloc (.cells #[.slice A lab.length c] 23)) none p.1 p.2.2 ∧ p.2.2.length ≤ p.2.1 ∧ p.2.2.length ≤ 300 := fun p hp => by
    rw [List.mem_singleton.1 hp]; exact ⟨h1.bs, h1.rp, h1.cap, h1.len⟩
  have CT0 := Tagged_any 107 _ 1 1 [lab] _ (inR_lit [(A, c, lab)] NB (by simp) HS) (by decide) (inR_len HS) (by decide) (ht.below B1.out)
  have e1 : sum (textL 107 [lab]) = S := hS.symm
  rw [e1] at CT0
  have CT := hid CT0
  rw [← hS]
  clear CT0 e1 hS HS h1 NB B0 h ht
  go_enter Tryd.func32, Tryd.ntmps32
  go_wp2_with (first
    | (go_at_call 81; refine CT.out.mono ?_; rintro e w2 ⟨rfl, hb⟩; have KZ2 := hid (KZ1.out.same (hb.block _ KZ1.out.lt)); have B2 := hid (B1.out.trans (hb.mono B1.out.size)); clear hb)
    | (refine wpList_store_row rfl 26 (.tmp 2) (.tmp 5) rfl w.heap.size (u8s S).toArray rfl rfl 26 Z KZ2.out HI.out HZS.out (u8s_all S) ?_))
  try go_frame
  refine bodyPost_ret (results_cell_row Tryd.results32 _ _ w.heap.size 26 (u8s S).toArray (0, 0) _ rfl (KZ2.out.row _) Tryd.underlying26 rfl HI.out) rfl ?_
  exact ⟨rfl, below_setRow B2.out (Nat.le_refl _) _⟩
theorem keyR_any {A : Option Addr} {c : Nat} {lab : List Int} {w : World} (h : Lbl w A c lab) : Calls Tryd.prog 33 #[.slice A lab.length c] w fun e w' => e = .returned (.agg (u8s (sum (labT lab))).toArray) ∧ Below w.heap.size w w' := by
  obtain ⟨Z, HZ, hZ0, hZs⟩ := zero_Hash
  obtain ⟨S, hS⟩ : ∃ S, S = sum (labT lab) := ⟨_, rfl⟩
  have HI : Hid ((Tryd.prog.info? 26).map (·.size) = some (u8s S).toArray.size) := info_hash S (by rw [hS]; exact sum_length _)
  have HZS : Hid (Z.size = (u8s S).toArray.size) := by
    show _ = _
    rw [HZ.out, List.size_toArray, List.size_toArray, u8s_length, u8s_length, hS, sum_length]; simp
  have KZ : Hid (Blk (w.alloc (.cells Z 26)) w.heap.size 26 Z) := Blk.new w 26 Z
  have B0 : Below w.heap.size w (w.alloc (.cells Z 26)) := (Below.refl _ _).alloc (Nat.le_refl _) _
  have B1 : Hid (Below w.heap.size w ((w.alloc (.cells Z 26)).alloc (.cells #[.slice A lab.length c] 23))) := B0.alloc (by simp) _
  have NB := Blk.new (w.alloc (.cells Z 26)) 23 #[.slice A lab.length c]
  have KZ1 := hid (KZ.out.alloc (.cells #[.slice A lab.length c] 23))
  rw [show (w.alloc (.cells Z 26)).heap.size = w.heap.size + 1 by simp] at NB
  have h1 := h.below B1.out
  have HS : ∀ p ∈ [(A, c, lab)], Bs p.2.2 ∧ Rp ((w.alloc (.cells Z 26)).alloc (.cells #[.slice A lab.length c] 23)) none p.1 p.2.2 ∧ p.2.2.length ≤ p.2.1 ∧ p.2.2.length ≤ 300 := fun p hp => by
    rw [List.mem_singleton.1 hp]; exact ⟨h1.bs, h1.rp, h1.cap, h1.len⟩
  have CT0 := RTagged_any 107 _ 1 1 [lab] _ (inR_lit [(A, c, lab)] NB (by simp) HS) (by decide) (inR_len HS) (by decide)
  have e1 : sum (textL 107 [lab]) = S := hS.symm
  rw [e1] at CT0
  have CT := hid CT0
  rw [← hS]
  clear CT0 e1 hS HS h1 NB B0 h
  go_enter Tryd.func33, Tryd.ntmps33
  go_wp2_with (first
    | (go_at_call 82; refine CT.out.mono ?_; rintro e w2 ⟨rfl, hb⟩; have KZ2 := hid (KZ1.out.same (hb.block _ KZ1.out.lt)); have B2 := hid (B1.out.trans (hb.mono B1.out.size)); clear hb)
    | (refine wpList_store_row rfl 26 (.tmp 2) (.tmp 5) rfl w.heap.size (u8s S).toArray rfl rfl 26 Z KZ2.out HI.out HZS.out (u8s_all S) ?_))
  try go_frame
  refine bodyPost_ret (results_cell_row Tryd.results33 _ _ w.heap.size 26 (u8s S).toArray (0, 0) _ rfl (KZ2.out.row _) Tryd.underlying26 rfl HI.out) rfl ?_
  exact ⟨rfl, below_setRow B2.out (Nat.le_refl _) _⟩
theorem saltC_call {w x : World} {A : Option Addr} {c : Nat} {lab seed : List Int} (n : Int) (h : Lbl w A c lab) (hs : Hh seed) (ht : Tab w) (g : SaS seed w x) {g4 : Nat} {A3 : Option Addr} {c3 : Nat} (hk : Blk x g4 23 #[.slice (some ⟨w.heap.size, 0, none⟩) 32 32, .slice A lab.length c, .slice A3 4 c3]) (hc : 4 ≤ c3) (hr : Fresh w x A3 (be n 4)) :
    Calls Tryd.prog 81 #[.int .u8 122, .slice (some ⟨g4, 0, none⟩) 3 3] x fun e w' => e = .returned (.agg (u8s (sum (saltT seed lab n))).toArray) ∧ Below x.heap.size x w' := by
  have hl := h.below g.bl
  have ks := blk_rp g.ks
  have HSS : ∀ p ∈ [((some ⟨w.heap.size, 0, none⟩ : Option Addr), 32, seed), (A, c, lab), (A3, c3, be n 4)], Bs p.2.2 ∧ Rp x none p.1 p.2.2 ∧ p.2.2.length ≤ p.2.1 ∧ p.2.2.length ≤ 300 := fun p hp => by
    simp only [List.mem_cons, List.not_mem_nil, or_false] at hp
    rcases hp with rfl | rfl | rfl
    · exact ⟨hs.bs, ks, Nat.le_of_eq hs.len, by show seed.length ≤ 300; have := hs.len; omega⟩
    · exact ⟨hl.bs, hl.rp, hl.cap, hl.len⟩
    · exact ⟨be_bs n 4, hr.rp0, by show (be n 4).length ≤ c3; rw [be_length]; exact hc, by show (be n 4).length ≤ 300; rw [be_length]; decide⟩
  exact Tagged_any 122 _ 3 3 _ x (inR_lit [((some ⟨w.heap.size, 0, none⟩ : Option Addr), 32, seed), (A, c, lab), (A3, c3, be n 4)] (g := g4) (by simp only [List.map_cons, List.map_nil, hs.len, be_length]; exact hk) (by simp) HSS) (by decide) (inR_len HSS) (by decide) (ht.below g.bl)
set_option maxHeartbeats 4000000 in
theorem saltC_any {A : Option Addr} {c : Nat} {lab seed : List Int} (n : Int) {w : World} (h : Lbl w A c lab) (hs : Hh seed) (ht : Tab w) : Calls Tryd.prog 34 #[.agg (u8s seed).toArray, .slice A lab.length c, .int .i64 n] w fun e w' => e = .returned (.agg (u8s (sum (saltT seed lab n))).toArray) ∧ Below w.heap.size w w' := by
  obtain ⟨Z, HZ, hZ0, hZs⟩ := zero_Hash
  obtain ⟨S, hS⟩ : ∃ S, S = sum (saltT seed lab n) := ⟨_, rfl⟩
  have HI : Hid ((Tryd.prog.info? 26).map (·.size) = some (u8s S).toArray.size) := info_hash S (by rw [hS]; exact sum_length _)
  have HZS : Hid (Z.size = (u8s S).toArray.size) := by
    show _ = _
    rw [HZ.out, List.size_toArray, List.size_toArray, u8s_length, u8s_length, hS, sum_length]; simp
  have HZ32 : Hid ((u8s S).toArray.size = 32) := by show _ = _; rw [List.size_toArray, u8s_length, hS, sum_length]
  have KZ : Blk ((w.alloc (.cells (u8s seed).toArray 26)).alloc (.cells Z 26)) (w.heap.size + 1) 26 Z := by
    have := Blk.new (w.alloc (.cells (u8s seed).toArray 26)) 26 Z
    rw [show (w.alloc (.cells (u8s seed).toArray 26)).heap.size = w.heap.size + 1 by simp] at this
    exact this
  have D0 : Hid (SaS seed w ((w.alloc (.cells (u8s seed).toArray 26)).alloc (.cells Z 26))) := ⟨((Below.refl _ _).alloc (Nat.le_refl _) _).alloc (by simp) _, (Blk.new w 26 (u8s seed).toArray).alloc (.cells Z 26), Z, KZ, by have := HZS.out; rw [this, HZ32.out]⟩
  have CT : Hid (∀ (x : World), SaS seed w x → ∀ (g4 : Nat) (A3 : Option Addr) (c3 : Nat), Blk x g4 23 #[.slice (some ⟨w.heap.size, 0, none⟩) 32 32, .slice A lab.length c, .slice A3 4 c3] → 4 ≤ c3 → Fresh w x A3 (be n 4) → Calls Tryd.prog 81 #[.int .u8 122, .slice (some ⟨g4, 0, none⟩) 3 3] x fun e w' => e = .returned (.agg (u8s S).toArray) ∧ Below x.heap.size x w') := fun x hg g4 A3 c3 hk hc hr => by
    rw [hS]; exact saltC_call n h hs ht hg hk hc hr
  rw [← hS]
  clear hS h hs ht KZ
  go_enter Tryd.func34, Tryd.ntmps34
  go_wp2
  generalize (w.alloc (.cells (u8s seed).toArray 26)).alloc (.cells Z 26) = w0 at D0 ⊢
  refine wp_region_held (S := fun w' => Hid (SaS seed w w')) (by kernel_rfl) ?_
  change wpAnyH _ _ _ _ _ _ _ _ w0.drew
  have Gx0 : Hid (SaS seed w w0.drew) := D0.out.below (Below.refl _ _).drew
  generalize w0.drew = x0 at Gx0  ⊢
  refine wpAnyH_take (i := 0) (oi := { dst := some 7, op := _, type := _, pos := _, after := _, guard := _ }) (v := ?_) rfl (by kernel_rfl) (by kernel_rfl) (by kernel_rfl) (fun _ _ _ h => h) (Or.inl ⟨by kernel_rfl, ?_⟩) Gx0 ?_
  rotate_left
  · (intro w hSw; go_simp; try with_reducible rfl)
  try simp only [Act.put, List.setIfInBounds_toArray, List.set_cons_zero, List.set_cons_succ]
  refine wpAnyH_take (i := 1) (oi := { dst := some 8, op := _, type := _, pos := _, after := _, guard := _ }) (v := ?_) rfl (by kernel_rfl) (by kernel_rfl) (by kernel_rfl) (fun _ _ _ h => h) (Or.inl ⟨by kernel_rfl, ?_⟩) Gx0 ?_
  rotate_left
  · (intro w hSw; go_simp; try with_reducible rfl)
  try simp only [Act.put, List.setIfInBounds_toArray, List.set_cons_zero, List.set_cons_succ]
  refine wpAnyH_take (i := 2) (oi := { dst := some 9, op := _, type := _, pos := _, after := _, guard := _ }) (v := ?_) rfl (by kernel_rfl) (by kernel_rfl) (by kernel_rfl) (fun _ _ _ h => h) (Or.inl ⟨by kernel_rfl, ?_⟩) Gx0 ?_
  rotate_left
  · (intro w hSw; go_simp; try with_reducible rfl)
  try simp only [Act.put, List.setIfInBounds_toArray, List.set_cons_zero, List.set_cons_succ]
  refine wpAnyH_ready (rs := [3]) (by kernel_rfl) (by simp) ?_
  refine (AllReadyH.cons (o := { dst := some 10, op := _, type := _, pos := _, after := _, guard := _ }) rfl (fun Qc hQc => ?_) AllReadyH.nil)
  go_simp
  go_at_call 83
  refine (fourC_any n x0).mono ?_
  rintro e x1 ⟨⟨A3, c3, rfl, h3, hf3⟩, hb⟩
  have Gx1 := hid (Gx0.out.below hb)
  have F3 := hid (hf3.more Gx0.out.bl.size)
  clear hb
  go_wp2_with fail
  refine hQc.out _ _ Gx1 (fun hHeld => ?_)
  clear hQc Qc hHeld
  try simp only [Act.put, List.setIfInBounds_toArray, List.set_cons_zero, List.set_cons_succ]
  refine wpAnyH_ready (rs := [4]) (by kernel_rfl) (by simp) ?_
  refine (AllReadyH.cons (o := { dst := some 11, op := _, type := _, pos := _, after := _, guard := _ }) rfl (fun Qc hQc => ?_) AllReadyH.nil)
  go_simp
  have NBx2 : Hid (Blk (x1.alloc (.cells #[.slice (some ⟨w.heap.size, 0, none⟩) 32 32, .slice A lab.length c, .slice A3 4 c3] 23)) x1.heap.size 23 #[.slice (some ⟨w.heap.size, 0, none⟩) 32 32, .slice A lab.length c, .slice A3 4 c3]) := Blk.new x1 23 #[.slice (some ⟨w.heap.size, 0, none⟩) 32 32, .slice A lab.length c, .slice A3 4 c3]
  have Bx2 : Below x1.heap.size x1 (x1.alloc (.cells #[.slice (some ⟨w.heap.size, 0, none⟩) 32 32, .slice A lab.length c, .slice A3 4 c3] 23)) := (Below.refl _ _).alloc (Nat.le_refl _) _
  have Gx2 := hid (Gx1.out.below Bx2)
  have F3' := hid (F3.out.below Bx2)
  clear F3
  have F3 := F3'
  clear F3'
  clear Bx2
  refine hQc.out _ _ Gx2 (fun hHeld => ?_)
  clear hQc Qc hHeld
  generalize x1.heap.size = g4 at NBx2 ⊢
  generalize x1.alloc (.cells #[.slice (some ⟨w.heap.size, 0, none⟩) 32 32, .slice A lab.length c, .slice A3 4 c3] 23) = x2 at NBx2 Gx2 F3 ⊢
  try simp only [Act.put, List.setIfInBounds_toArray, List.set_cons_zero, List.set_cons_succ]
  refine wpAnyH_ready (rs := [5]) (by kernel_rfl) (by simp) ?_
  refine (AllReadyH.cons (o := { dst := some 12, op := _, type := _, pos := _, after := _, guard := _ }) rfl (fun Qc hQc => ?_) AllReadyH.nil)
  go_simp
  go_at_call 81
  refine (CT.out x2 Gx2.out g4 A3 c3 NBx2.out h3 F3.out).mono ?_
  rintro e x3 ⟨rfl, hb⟩
  have Gx3 := hid (Gx2.out.below hb)
  clear hb
  go_wp2_with fail
  refine hQc.out _ _ Gx3 (fun hHeld => ?_)
  clear hQc Qc hHeld
  try simp only [Act.put, List.setIfInBounds_toArray, List.set_cons_zero, List.set_cons_succ]
  refine wpAnyH_ready (rs := [6]) (by kernel_rfl) (by simp) ?_
  refine (AllReadyH.cons (o := { dst := none, op := _, type := _, pos := _, after := _, guard := _ }) rfl (fun Qc hQc => ?_) AllReadyH.nil)
  rw [if_pos (by rfl)]
  obtain ⟨cs, hk, hcs⟩ := Gx3.out.kz
  refine wp_store_row 26 (.tmp 6) (.tmp 12) rfl (w.heap.size + 1) (u8s S).toArray rfl rfl 26 cs hk HI.out (by rw [hcs, HZ32.out]) (u8s_all S) ?_
  have Gx4 : Hid (SaS seed w (x3.setRow (w.heap.size + 1) (u8s S).toArray)) := Gx3.out.set HZ32.out
  have KF : Hid (Blk (x3.setRow (w.heap.size + 1) (u8s S).toArray) (w.heap.size + 1) 26 (u8s S).toArray) := hk.row _
  clear hk hcs
  refine hQc.out _ _ Gx4 (fun hHeld => ?_)
  clear hQc Qc hHeld
  generalize x3.setRow (w.heap.size + 1) (u8s S).toArray = x4 at Gx4 KF ⊢
  try simp only [Act.put, List.setIfInBounds_toArray, List.set_cons_zero, List.set_cons_succ]
  refine wpAnyH_done (by kernel_rfl) ?_ _
  try simp only [Act.put, List.setIfInBounds_toArray, List.set_cons_zero, List.set_cons_succ]
  go_wp2
  try go_frame
  first | rw [Exit.noGoto_ret] | skip
  refine bodyPost_ret (results_cell_row Tryd.results34 _ _ (w.heap.size + 1) 26 (u8s S).toArray (0, 0) _ rfl KF.out Tryd.underlying26 rfl HI.out) rfl ?_
  exact ⟨rfl, Gx4.out.bl⟩
theorem saltR_call {w x : World} {A : Option Addr} {c : Nat} {lab seed : List Int} (n : Int) (h : Lbl w A c lab) (hs : Hh seed) (g : SaS seed w x) {g4 : Nat} {A3 : Option Addr} {c3 : Nat} (hk : Blk x g4 23 #[.slice (some ⟨w.heap.size, 0, none⟩) 32 32, .slice A lab.length c, .slice A3 4 c3]) (hc : 4 ≤ c3) (hr : Fresh w x A3 (be n 4)) :
    Calls Tryd.prog 82 #[.int .u8 122, .slice (some ⟨g4, 0, none⟩) 3 3] x fun e w' => e = .returned (.agg (u8s (sum (saltT seed lab n))).toArray) ∧ Below x.heap.size x w' := by
  have hl := h.below g.bl
  have ks := blk_rp g.ks
  have HSS : ∀ p ∈ [((some ⟨w.heap.size, 0, none⟩ : Option Addr), 32, seed), (A, c, lab), (A3, c3, be n 4)], Bs p.2.2 ∧ Rp x none p.1 p.2.2 ∧ p.2.2.length ≤ p.2.1 ∧ p.2.2.length ≤ 300 := fun p hp => by
    simp only [List.mem_cons, List.not_mem_nil, or_false] at hp
    rcases hp with rfl | rfl | rfl
    · exact ⟨hs.bs, ks, Nat.le_of_eq hs.len, by show seed.length ≤ 300; have := hs.len; omega⟩
    · exact ⟨hl.bs, hl.rp, hl.cap, hl.len⟩
    · exact ⟨be_bs n 4, hr.rp0, by show (be n 4).length ≤ c3; rw [be_length]; exact hc, by show (be n 4).length ≤ 300; rw [be_length]; decide⟩
  exact RTagged_any 122 _ 3 3 _ x (inR_lit [((some ⟨w.heap.size, 0, none⟩ : Option Addr), 32, seed), (A, c, lab), (A3, c3, be n 4)] (g := g4) (by simp only [List.map_cons, List.map_nil, hs.len, be_length]; exact hk) (by simp) HSS) (by decide) (inR_len HSS) (by decide)
set_option maxHeartbeats 4000000 in
theorem saltR_any {A : Option Addr} {c : Nat} {lab seed : List Int} (n : Int) {w : World} (h : Lbl w A c lab) (hs : Hh seed) : Calls Tryd.prog 35 #[.agg (u8s seed).toArray, .slice A lab.length c, .int .i64 n] w fun e w' => e = .returned (.agg (u8s (sum (saltT seed lab n))).toArray) ∧ Below w.heap.size w w' := by
  obtain ⟨Z, HZ, hZ0, hZs⟩ := zero_Hash
  obtain ⟨S, hS⟩ : ∃ S, S = sum (saltT seed lab n) := ⟨_, rfl⟩
  have HI : Hid ((Tryd.prog.info? 26).map (·.size) = some (u8s S).toArray.size) := info_hash S (by rw [hS]; exact sum_length _)
  have HZS : Hid (Z.size = (u8s S).toArray.size) := by
    show _ = _
    rw [HZ.out, List.size_toArray, List.size_toArray, u8s_length, u8s_length, hS, sum_length]; simp
  have HZ32 : Hid ((u8s S).toArray.size = 32) := by show _ = _; rw [List.size_toArray, u8s_length, hS, sum_length]
  have KZ : Blk ((w.alloc (.cells (u8s seed).toArray 26)).alloc (.cells Z 26)) (w.heap.size + 1) 26 Z := by
    have := Blk.new (w.alloc (.cells (u8s seed).toArray 26)) 26 Z
    rw [show (w.alloc (.cells (u8s seed).toArray 26)).heap.size = w.heap.size + 1 by simp] at this
    exact this
  have D0 : Hid (SaS seed w ((w.alloc (.cells (u8s seed).toArray 26)).alloc (.cells Z 26))) := ⟨((Below.refl _ _).alloc (Nat.le_refl _) _).alloc (by simp) _, (Blk.new w 26 (u8s seed).toArray).alloc (.cells Z 26), Z, KZ, by have := HZS.out; rw [this, HZ32.out]⟩
  have CT : Hid (∀ (x : World), SaS seed w x → ∀ (g4 : Nat) (A3 : Option Addr) (c3 : Nat), Blk x g4 23 #[.slice (some ⟨w.heap.size, 0, none⟩) 32 32, .slice A lab.length c, .slice A3 4 c3] → 4 ≤ c3 → Fresh w x A3 (be n 4) → Calls Tryd.prog 82 #[.int .u8 122, .slice (some ⟨g4, 0, none⟩) 3 3] x fun e w' => e = .returned (.agg (u8s S).toArray) ∧ Below x.heap.size x w') := fun x hg g4 A3 c3 hk hc hr => by
    rw [hS]; exact saltR_call n h hs hg hk hc hr
  rw [← hS]
  clear hS h hs KZ
  go_enter Tryd.func35, Tryd.ntmps35
  go_wp2
  generalize (w.alloc (.cells (u8s seed).toArray 26)).alloc (.cells Z 26) = w0 at D0 ⊢
  refine wp_region_held (S := fun w' => Hid (SaS seed w w')) (by kernel_rfl) ?_
  change wpAnyH _ _ _ _ _ _ _ _ w0.drew
  have Gx0 : Hid (SaS seed w w0.drew) := D0.out.below (Below.refl _ _).drew
  generalize w0.drew = x0 at Gx0  ⊢
  refine wpAnyH_take (i := 0) (oi := { dst := some 7, op := _, type := _, pos := _, after := _, guard := _ }) (v := ?_) rfl (by kernel_rfl) (by kernel_rfl) (by kernel_rfl) (fun _ _ _ h => h) (Or.inl ⟨by kernel_rfl, ?_⟩) Gx0 ?_
  rotate_left
  · (intro w hSw; go_simp; try with_reducible rfl)
  try simp only [Act.put, List.setIfInBounds_toArray, List.set_cons_zero, List.set_cons_succ]
  refine wpAnyH_take (i := 1) (oi := { dst := some 8, op := _, type := _, pos := _, after := _, guard := _ }) (v := ?_) rfl (by kernel_rfl) (by kernel_rfl) (by kernel_rfl) (fun _ _ _ h => h) (Or.inl ⟨by kernel_rfl, ?_⟩) Gx0 ?_
  rotate_left
  · (intro w hSw; go_simp; try with_reducible rfl)
  try simp only [Act.put, List.setIfInBounds_toArray, List.set_cons_zero, List.set_cons_succ]
  refine wpAnyH_take (i := 2) (oi := { dst := some 9, op := _, type := _, pos := _, after := _, guard := _ }) (v := ?_) rfl (by kernel_rfl) (by kernel_rfl) (by kernel_rfl) (fun _ _ _ h => h) (Or.inl ⟨by kernel_rfl, ?_⟩) Gx0 ?_
  rotate_left
  · (intro w hSw; go_simp; try with_reducible rfl)
  try simp only [Act.put, List.setIfInBounds_toArray, List.set_cons_zero, List.set_cons_succ]
  refine wpAnyH_ready (rs := [3]) (by kernel_rfl) (by simp) ?_
  refine (AllReadyH.cons (o := { dst := some 10, op := _, type := _, pos := _, after := _, guard := _ }) rfl (fun Qc hQc => ?_) AllReadyH.nil)
  go_simp
  go_at_call 84
  refine (fourR_any n x0).mono ?_
  rintro e x1 ⟨⟨A3, c3, rfl, h3, hf3⟩, hb⟩
  have Gx1 := hid (Gx0.out.below hb)
  have F3 := hid (hf3.more Gx0.out.bl.size)
  clear hb
  go_wp2_with fail
  refine hQc.out _ _ Gx1 (fun hHeld => ?_)
  clear hQc Qc hHeld
  try simp only [Act.put, List.setIfInBounds_toArray, List.set_cons_zero, List.set_cons_succ]
  refine wpAnyH_ready (rs := [4]) (by kernel_rfl) (by simp) ?_
  refine (AllReadyH.cons (o := { dst := some 11, op := _, type := _, pos := _, after := _, guard := _ }) rfl (fun Qc hQc => ?_) AllReadyH.nil)
  go_simp
  have NBx2 : Hid (Blk (x1.alloc (.cells #[.slice (some ⟨w.heap.size, 0, none⟩) 32 32, .slice A lab.length c, .slice A3 4 c3] 23)) x1.heap.size 23 #[.slice (some ⟨w.heap.size, 0, none⟩) 32 32, .slice A lab.length c, .slice A3 4 c3]) := Blk.new x1 23 #[.slice (some ⟨w.heap.size, 0, none⟩) 32 32, .slice A lab.length c, .slice A3 4 c3]
  have Bx2 : Below x1.heap.size x1 (x1.alloc (.cells #[.slice (some ⟨w.heap.size, 0, none⟩) 32 32, .slice A lab.length c, .slice A3 4 c3] 23)) := (Below.refl _ _).alloc (Nat.le_refl _) _
  have Gx2 := hid (Gx1.out.below Bx2)
  have F3' := hid (F3.out.below Bx2)
  clear F3
  have F3 := F3'
  clear F3'
  clear Bx2
  refine hQc.out _ _ Gx2 (fun hHeld => ?_)
  clear hQc Qc hHeld
  generalize x1.heap.size = g4 at NBx2 ⊢
  generalize x1.alloc (.cells #[.slice (some ⟨w.heap.size, 0, none⟩) 32 32, .slice A lab.length c, .slice A3 4 c3] 23) = x2 at NBx2 Gx2 F3 ⊢
  try simp only [Act.put, List.setIfInBounds_toArray, List.set_cons_zero, List.set_cons_succ]
  refine wpAnyH_ready (rs := [5]) (by kernel_rfl) (by simp) ?_
  refine (AllReadyH.cons (o := { dst := some 12, op := _, type := _, pos := _, after := _, guard := _ }) rfl (fun Qc hQc => ?_) AllReadyH.nil)
  go_simp
  go_at_call 82
  refine (CT.out x2 Gx2.out g4 A3 c3 NBx2.out h3 F3.out).mono ?_
  rintro e x3 ⟨rfl, hb⟩
  have Gx3 := hid (Gx2.out.below hb)
  clear hb
  go_wp2_with fail
  refine hQc.out _ _ Gx3 (fun hHeld => ?_)
  clear hQc Qc hHeld
  try simp only [Act.put, List.setIfInBounds_toArray, List.set_cons_zero, List.set_cons_succ]
  refine wpAnyH_ready (rs := [6]) (by kernel_rfl) (by simp) ?_
  refine (AllReadyH.cons (o := { dst := none, op := _, type := _, pos := _, after := _, guard := _ }) rfl (fun Qc hQc => ?_) AllReadyH.nil)
  rw [if_pos (by rfl)]
  obtain ⟨cs, hk, hcs⟩ := Gx3.out.kz
  refine wp_store_row 26 (.tmp 6) (.tmp 12) rfl (w.heap.size + 1) (u8s S).toArray rfl rfl 26 cs hk HI.out (by rw [hcs, HZ32.out]) (u8s_all S) ?_
  have Gx4 : Hid (SaS seed w (x3.setRow (w.heap.size + 1) (u8s S).toArray)) := Gx3.out.set HZ32.out
  have KF : Hid (Blk (x3.setRow (w.heap.size + 1) (u8s S).toArray) (w.heap.size + 1) 26 (u8s S).toArray) := hk.row _
  clear hk hcs
  refine hQc.out _ _ Gx4 (fun hHeld => ?_)
  clear hQc Qc hHeld
  generalize x3.setRow (w.heap.size + 1) (u8s S).toArray = x4 at Gx4 KF ⊢
  try simp only [Act.put, List.setIfInBounds_toArray, List.set_cons_zero, List.set_cons_succ]
  refine wpAnyH_done (by kernel_rfl) ?_ _
  try simp only [Act.put, List.setIfInBounds_toArray, List.set_cons_zero, List.set_cons_succ]
  go_wp2
  try go_frame
  first | rw [Exit.noGoto_ret] | skip
  refine bodyPost_ret (results_cell_row Tryd.results35 _ _ (w.heap.size + 1) 26 (u8s S).toArray (0, 0) _ rfl KF.out Tryd.underlying26 rfl HI.out) rfl ?_
  exact ⟨rfl, Gx4.out.bl⟩
end Go.Proofs.YtjhaamffgkialaaDoor
/-
  What is proved here: a version's text and commitment, as the code and as the document have them.
-/
namespace Go.Proofs.YtjhaamffgkialaaDoor
open Go.ChangeShapes Go.WideShapes Go.ChangeAt Go.RowKit
set_option linter.unusedVariables false
set_option linter.unusedSimpArgs false
set_option maxRecDepth 20000

theorem ccell_bel {w w' : World} {p : Addr} {v : Value} (hb : Below w.heap.size w w') (h : w.cell? p = some v) : w'.cell? p = some v := (hb.cell (block_lt_of_cell h)).trans h
theorem vinfoC (V : Value) {q : Vs} (h : q.Ok) : (Tryd.prog.info? 75).map (·.size) = some (vcs V q).toArray.size := by rw [List.size_toArray, vcs_length V h]; kernel_rfl
theorem vinfoR (V : Value) {q : Vs} (h : q.Ok) : (Tryd.prog.info? 69).map (·.size) = some (vcs V q).toArray.size := by rw [List.size_toArray, vcs_length V h]; kernel_rfl
theorem verTbs {lab : List Int} {q : Vs} (hl : Bs lab) (hq : q.Ok) : Bs (verT lab q) := textL_bs 99 _ (by decide) fun f hf => by
  simp only [List.mem_cons, List.not_mem_nil, or_false] at hf
  rcases hf with rfl | rfl | rfl | rfl | rfl | rfl
  · exact hl
  · exact be_bs _ _
  · exact be_bs _ _
  · exact hq.s.bs
  · exact hq.b.bs
  · exact hq.v
theorem verTlen {lab : List Int} {q : Vs} (hl : lab.length ≤ 300) (hq : q.Ok) (hv : q.v.length ≤ 300) : (verT lab q).length ≤ 10000 := textL_all 99 _ 6 rfl (by decide) fun f hf => by
  simp only [List.mem_cons, List.not_mem_nil, or_false] at hf
  rcases hf with rfl | rfl | rfl | rfl | rfl | rfl
  · exact hl
  · rw [be_length]; decide
  · rw [be_length]; decide
  · rw [hq.s.len]; decide
  · rw [hq.b.len]; decide
  · exact hv
theorem text_parts {x : World} {g : Nat} {A B S1 S2 A3 A6 : Option Addr} {c d c3 c6 : Nat} {lab : List Int} {q : Vs} (hb : Blk x g 23 #[.slice A lab.length c, .slice A3 4 c3, .slice A6 4 c6, .slice S1 32 32, .slice S2 32 32, .slice B q.v.length d]) (h : Lbl x A c lab) (hq : q.Ok)
    (h3 : 4 ≤ c3) (r3 : Rp x none A3 (be q.n 4)) (h6 : 4 ≤ c6) (r6 : Rp x none A6 (be q.e 4)) (rs : Rp x none S1 q.s) (rb : Rp x none S2 q.b) (rv : Rp x none B q.v) (hd : q.v.length ≤ d) (hv : q.v.length ≤ 300) :
    InR x (some ⟨g, 0, none⟩) 6 [lab, be q.n 4, be q.e 4, q.s, q.b, q.v] ∧ ∀ f ∈ [lab, be q.n 4, be q.e 4, q.s, q.b, q.v], f.length ≤ 300 := by
  have HSS : ∀ p ∈ [(A, c, lab), (A3, c3, be q.n 4), (A6, c6, be q.e 4), (S1, 32, q.s), (S2, 32, q.b), (B, d, q.v)], Bs p.2.2 ∧ Rp x none p.1 p.2.2 ∧ p.2.2.length ≤ p.2.1 ∧ p.2.2.length ≤ 300 := fun p hp => by
    simp only [List.mem_cons, List.not_mem_nil, or_false] at hp
    rcases hp with rfl | rfl | rfl | rfl | rfl | rfl
    · exact ⟨h.bs, h.rp, h.cap, h.len⟩
    · exact ⟨be_bs _ 4, r3, by show (be q.n 4).length ≤ c3; rw [be_length]; exact h3, by show (be q.n 4).length ≤ 300; rw [be_length]; decide⟩
    · exact ⟨be_bs _ 4, r6, by show (be q.e 4).length ≤ c6; rw [be_length]; exact h6, by show (be q.e 4).length ≤ 300; rw [be_length]; decide⟩
    · exact ⟨hq.s.bs, rs, Nat.le_of_eq hq.s.len, by show q.s.length ≤ 300; have := hq.s.len; omega⟩
    · exact ⟨hq.b.bs, rb, Nat.le_of_eq hq.b.len, by show q.b.length ≤ 300; have := hq.b.len; omega⟩
    · exact ⟨hq.v, rv, hd, hv⟩
  exact ⟨inR_lit [(A, c, lab), (A3, c3, be q.n 4), (A6, c6, be q.e 4), (S1, 32, q.s), (S2, 32, q.b), (B, d, q.v)] (g := g) (by simp only [List.map_cons, List.map_nil, be_length, hq.s.len, hq.b.len]; exact hb) (by simp) HSS, inR_len HSS⟩
set_option maxHeartbeats 4000000 in
theorem verTC_any {A : Option Addr} {c : Nat} {lab : List Int} {V : Value} {q : Vs} {w : World} (h : Lbl w A c lab) (hq : VArg w V q) (hv : q.v.length ≤ 300) : Calls Tryd.prog 39 #[.slice A lab.length c, .agg (vcs V q).toArray] w (BytA w (verT lab q)) := by
  obtain ⟨hok, B, d, rfl, hd, hrv⟩ := hq
  have G0 : Hid (Below w.heap.size w (w.alloc (.cells (vcs (.slice B q.v.length d) q).toArray 75))) := (Below.refl _ _).alloc (Nat.le_refl _) _
  have hvc := (Blk.new w 75 (vcs (.slice B q.v.length d) q).toArray).vc hok
  have CN := hid hvc.n
  have CE : Hid (World.cell? (w.alloc (.cells (vcs (.slice B q.v.length d) q).toArray 75)) ⟨w.heap.size, 1, none⟩ = some (.int .i64 q.e)) := hvc.e
  have CV : Hid (World.cell? (w.alloc (.cells (vcs (.slice B q.v.length d) q).toArray 75)) ⟨w.heap.size, 66, none⟩ = some (.slice B q.v.length d)) := by have := hvc.v; rw [Nat.zero_add] at this; exact this
  have hs : Rp (w.alloc (.cells (vcs (.slice B q.v.length d) q).toArray 75)) none (some ⟨w.heap.size, 2, none⟩) q.s := by have := crng_rp hvc.s; rw [Nat.zero_add] at this; exact this
  have hbb : Rp (w.alloc (.cells (vcs (.slice B q.v.length d) q).toArray 75)) none (some ⟨w.heap.size, 34, none⟩) q.b := by have := crng_rp hvc.b; rw [Nat.zero_add] at this; exact this
  have h0 := h.below G0.out
  have hv0 := hrv.belowN G0.out
  have CT : Hid (∀ (x : World), Below (w.alloc (.cells (vcs (.slice B q.v.length d) q).toArray 75)).heap.size (w.alloc (.cells (vcs (.slice B q.v.length d) q).toArray 75)) x → ∀ (g4 : Nat) (A3 : Option Addr) (c3 : Nat) (A6 : Option Addr) (c6 : Nat), Blk x g4 23 #[.slice A lab.length c, .slice A3 4 c3, .slice A6 4 c6, .slice (some ⟨w.heap.size, 2, none⟩) 32 32, .slice (some ⟨w.heap.size, 34, none⟩) 32 32, .slice B q.v.length d] → 4 ≤ c3 → Rp x none A3 (be q.n 4) → 4 ≤ c6 → Rp x none A6 (be q.e 4) → Calls Tryd.prog 64 #[.int .u8 99, .slice (some ⟨g4, 0, none⟩) 6 6] x (BytA x (verT lab q))) := fun x hb g4 A3 c3 A6 c6 hk h3 r3 h6 r6 => by
    obtain ⟨hin, hle⟩ := text_parts hk (h0.below hb) hok h3 r3 h6 r6 (hs.belowN hb) (hbb.belowN hb) (hv0.belowN hb) hd hv
    exact (Text_any 99 _ 6 6 _ x hin (by decide) hle (by decide)).mono fun e w' ⟨A, c, h1, h2, h3, h4⟩ => ⟨⟨A, c, h1, h2, h3⟩, h4⟩
  have DZ := hid (vcs_length (.slice B q.v.length d) hok)
  clear h hok hd hrv hvc hs hbb h0 hv0 hv
  unfold BytA at CT ⊢
  go_enter Tryd.func39, Tryd.ntmps39
  go_wp2
  generalize w.alloc (.cells (vcs (.slice B q.v.length d) q).toArray 75) = w0 at G0 CN CE CV CT ⊢
  refine wp_region_held (S := fun w' => Hid (Below w0.heap.size w0 w')) (by kernel_rfl) ?_
  change wpAnyH _ _ _ _ _ _ _ _ w0.drew
  have Gx0 : Hid (Below w0.heap.size w0 w0.drew) := (Below.refl _ _).drew
  generalize w0.drew = x0 at Gx0  ⊢
  refine wpAnyH_take (i := 0) (oi := { dst := some 5, op := _, type := _, pos := _, after := _, guard := _ }) (v := ?_) rfl (by kernel_rfl) (by kernel_rfl) (by kernel_rfl) (fun _ _ _ h => h) (Or.inl ⟨by kernel_rfl, ?_⟩) Gx0 ?_
  rotate_left
  · (intro w hSw; go_simp; try with_reducible rfl)
  try simp only [Act.put, List.setIfInBounds_toArray, List.set_cons_zero, List.set_cons_succ]
  refine wpAnyH_take (i := 1) (oi := { dst := some 6, op := _, type := _, pos := _, after := _, guard := _ }) (v := ?_) rfl (by kernel_rfl) (by kernel_rfl) (by kernel_rfl) (fun _ _ _ h => h) (Or.inl ⟨by kernel_rfl, ?_⟩) Gx0 ?_
  rotate_left
  · (intro w hSw; go_simp; try with_reducible rfl)
  try simp only [Act.put, List.setIfInBounds_toArray, List.set_cons_zero, List.set_cons_succ]
  refine wpAnyH_take (i := 2) (oi := { dst := some 7, op := _, type := _, pos := _, after := _, guard := _ }) (v := .int .i64 q.n) rfl (by kernel_rfl) (by kernel_rfl) (by kernel_rfl) (fun _ _ _ h => h) (Or.inl ⟨by kernel_rfl, ?_⟩) Gx0 ?_
  · (intro w hSw; have c9 := ccell_bel hSw.out CN.out; go_simp; try with_reducible rfl)
  try simp only [Act.put, List.setIfInBounds_toArray, List.set_cons_zero, List.set_cons_succ]
  refine wpAnyH_take (i := 4) (oi := { dst := some 9, op := _, type := _, pos := _, after := _, guard := _ }) (v := ?_) rfl (by kernel_rfl) (by kernel_rfl) (by kernel_rfl) (fun _ _ _ h => h) (Or.inl ⟨by kernel_rfl, ?_⟩) Gx0 ?_
  rotate_left
  · (intro w hSw; go_simp; try with_reducible rfl)
  try simp only [Act.put, List.setIfInBounds_toArray, List.set_cons_zero, List.set_cons_succ]
  refine wpAnyH_take (i := 5) (oi := { dst := some 10, op := _, type := _, pos := _, after := _, guard := _ }) (v := .int .i64 q.e) rfl (by kernel_rfl) (by kernel_rfl) (by kernel_rfl) (fun _ _ _ h => h) (Or.inl ⟨by kernel_rfl, ?_⟩) Gx0 ?_
  · (intro w hSw; have c9 := ccell_bel hSw.out CE.out; go_simp; try with_reducible rfl)
  try simp only [Act.put, List.setIfInBounds_toArray, List.set_cons_zero, List.set_cons_succ]
  refine wpAnyH_take (i := 7) (oi := { dst := some 12, op := _, type := _, pos := _, after := _, guard := _ }) (v := ?_) rfl (by kernel_rfl) (by kernel_rfl) (by kernel_rfl) (fun _ _ _ h => h) (Or.inl ⟨by kernel_rfl, ?_⟩) Gx0 ?_
  rotate_left
  · (intro w hSw; go_simp; try with_reducible rfl)
  try simp only [Act.put, List.setIfInBounds_toArray, List.set_cons_zero, List.set_cons_succ]
  refine wpAnyH_take (i := 8) (oi := { dst := some 13, op := _, type := _, pos := _, after := _, guard := _ }) (v := ?_) rfl (by kernel_rfl) (by kernel_rfl) (by kernel_rfl) (fun _ _ _ h => h) (Or.inl ⟨by kernel_rfl, ?_⟩) Gx0 ?_
  rotate_left
  · (intro w hSw; go_simp; try with_reducible rfl)
  try simp only [Act.put, List.setIfInBounds_toArray, List.set_cons_zero, List.set_cons_succ]
  refine wpAnyH_take (i := 9) (oi := { dst := some 14, op := _, type := _, pos := _, after := _, guard := _ }) (v := ?_) rfl (by kernel_rfl) (by kernel_rfl) (by kernel_rfl) (fun _ _ _ h => h) (Or.inl ⟨by kernel_rfl, ?_⟩) Gx0 ?_
  rotate_left
  · (intro w hSw; go_simp; try with_reducible rfl)
  try simp only [Act.put, List.setIfInBounds_toArray, List.set_cons_zero, List.set_cons_succ]
  refine wpAnyH_take (i := 10) (oi := { dst := some 15, op := _, type := _, pos := _, after := _, guard := _ }) (v := ?_) rfl (by kernel_rfl) (by kernel_rfl) (by kernel_rfl) (fun _ _ _ h => h) (Or.inl ⟨by kernel_rfl, ?_⟩) Gx0 ?_
  rotate_left
  · (intro w hSw; go_simp; try with_reducible rfl)
  try simp only [Act.put, List.setIfInBounds_toArray, List.set_cons_zero, List.set_cons_succ]
  refine wpAnyH_take (i := 11) (oi := { dst := some 16, op := _, type := _, pos := _, after := _, guard := _ }) (v := ?_) rfl (by kernel_rfl) (by kernel_rfl) (by kernel_rfl) (fun _ _ _ h => h) (Or.inl ⟨by kernel_rfl, ?_⟩) Gx0 ?_
  rotate_left
  · (intro w hSw; go_simp; try with_reducible rfl)
  try simp only [Act.put, List.setIfInBounds_toArray, List.set_cons_zero, List.set_cons_succ]
  refine wpAnyH_take (i := 12) (oi := { dst := some 17, op := _, type := _, pos := _, after := _, guard := _ }) (v := .slice B q.v.length d) rfl (by kernel_rfl) (by kernel_rfl) (by kernel_rfl) (fun _ _ _ h => h) (Or.inl ⟨by kernel_rfl, ?_⟩) Gx0 ?_
  · (intro w hSw; have c9 := ccell_bel hSw.out CV.out; go_simp; try with_reducible rfl)
  try simp only [Act.put, List.setIfInBounds_toArray, List.set_cons_zero, List.set_cons_succ]
  refine wpAnyH_ready (rs := [3]) (by kernel_rfl) (by simp) ?_
  refine (AllReadyH.cons (o := { dst := some 8, op := _, type := _, pos := _, after := _, guard := _ }) rfl (fun Qc hQc => ?_) AllReadyH.nil)
  go_simp
  go_at_call 83
  refine (fourC_any q.n x0).mono ?_
  rintro e x1 ⟨⟨A3, c3, rfl, h3, hf3⟩, hb⟩
  have Gx1 := hid (Gx0.out.trans (hb.mono Gx0.out.size))
  have F3 := hid (hf3.more (Nat.le_refl _))
  clear hb
  go_wp2_with fail
  refine hQc.out _ _ Gx1 (fun hHeld => ?_)
  clear hQc Qc hHeld
  try simp only [Act.put, List.setIfInBounds_toArray, List.set_cons_zero, List.set_cons_succ]
  refine wpAnyH_ready (rs := [6]) (by kernel_rfl) (by simp) ?_
  refine (AllReadyH.cons (o := { dst := some 11, op := _, type := _, pos := _, after := _, guard := _ }) rfl (fun Qc hQc => ?_) AllReadyH.nil)
  go_simp
  go_at_call 83
  refine (fourC_any q.e x1).mono ?_
  rintro e x2 ⟨⟨A6, c6, rfl, h6, hf6⟩, hb⟩
  have Gx2 := hid (Gx1.out.trans (hb.mono Gx1.out.size))
  have F6 := hid (hf6.more (Nat.le_refl _))
  have F3' := hid (F3.out.below hb)
  clear F3
  have F3 := F3'
  clear F3'
  clear hb
  go_wp2_with fail
  refine hQc.out _ _ Gx2 (fun hHeld => ?_)
  clear hQc Qc hHeld
  try simp only [Act.put, List.setIfInBounds_toArray, List.set_cons_zero, List.set_cons_succ]
  refine wpAnyH_ready (rs := [13]) (by kernel_rfl) (by simp) ?_
  refine (AllReadyH.cons (o := { dst := some 18, op := _, type := _, pos := _, after := _, guard := _ }) rfl (fun Qc hQc => ?_) AllReadyH.nil)
  go_simp
  have NBx3 : Hid (Blk (x2.alloc (.cells #[.slice A lab.length c, .slice A3 4 c3, .slice A6 4 c6, .slice (some ⟨w.heap.size, 2, none⟩) 32 32, .slice (some ⟨w.heap.size, 34, none⟩) 32 32, .slice B q.v.length d] 23)) x2.heap.size 23 #[.slice A lab.length c, .slice A3 4 c3, .slice A6 4 c6, .slice (some ⟨w.heap.size, 2, none⟩) 32 32, .slice (some ⟨w.heap.size, 34, none⟩) 32 32, .slice B q.v.length d]) := Blk.new x2 23 #[.slice A lab.length c, .slice A3 4 c3, .slice A6 4 c6, .slice (some ⟨w.heap.size, 2, none⟩) 32 32, .slice (some ⟨w.heap.size, 34, none⟩) 32 32, .slice B q.v.length d]
  have Bx3 : Below x2.heap.size x2 (x2.alloc (.cells #[.slice A lab.length c, .slice A3 4 c3, .slice A6 4 c6, .slice (some ⟨w.heap.size, 2, none⟩) 32 32, .slice (some ⟨w.heap.size, 34, none⟩) 32 32, .slice B q.v.length d] 23)) := (Below.refl _ _).alloc (Nat.le_refl _) _
  have Gx3 := hid (Gx2.out.trans (Bx3.mono Gx2.out.size))
  have F3' := hid (F3.out.below Bx3)
  have F6' := hid (F6.out.below Bx3)
  clear F3 F6
  have F3 := F3'
  have F6 := F6'
  clear F3'
  clear F6'
  clear Bx3
  refine hQc.out _ _ Gx3 (fun hHeld => ?_)
  clear hQc Qc hHeld
  generalize x2.heap.size = g4 at NBx3 ⊢
  generalize x2.alloc (.cells #[.slice A lab.length c, .slice A3 4 c3, .slice A6 4 c6, .slice (some ⟨w.heap.size, 2, none⟩) 32 32, .slice (some ⟨w.heap.size, 34, none⟩) 32 32, .slice B q.v.length d] 23) = x3 at NBx3 Gx3 F3 F6 ⊢
  try simp only [Act.put, List.setIfInBounds_toArray, List.set_cons_zero, List.set_cons_succ]
  refine wpAnyH_ready (rs := [14]) (by kernel_rfl) (by simp) ?_
  refine (AllReadyH.cons (o := { dst := some 19, op := _, type := _, pos := _, after := _, guard := _ }) rfl (fun Qc hQc => ?_) AllReadyH.nil)
  go_simp
  go_at_call 64
  refine (CT.out x3 Gx3.out g4 A3 c3 A6 c6 NBx3.out h3 F3.out.rp0 h6 F6.out.rp0).mono ?_
  rintro e x4 ⟨⟨A9, c9, rfl, h9, hf9⟩, hb⟩
  have Gx4 := hid (Gx3.out.trans (hb.mono Gx3.out.size))
  have F9 := hid (hf9.more Gx3.out.size)
  clear hb
  go_wp2_with fail
  refine hQc.out _ _ Gx4 (fun hHeld => ?_)
  clear hQc Qc hHeld
  try simp only [Act.put, List.setIfInBounds_toArray, List.set_cons_zero, List.set_cons_succ]
  refine wpAnyH_take (i := 15) (oi := { dst := some 4, op := _, type := _, pos := _, after := _, guard := _ }) (v := ?_) rfl (by kernel_rfl) (by kernel_rfl) (by kernel_rfl) (fun _ _ _ h => h) (Or.inl ⟨by kernel_rfl, ?_⟩) Gx4 ?_
  rotate_left
  · (intro w hSw; go_simp; try with_reducible rfl)
  try simp only [Act.put, List.setIfInBounds_toArray, List.set_cons_zero, List.set_cons_succ]
  refine wpAnyH_done (by kernel_rfl) ?_ _
  try simp only [Act.put, List.setIfInBounds_toArray, List.set_cons_zero, List.set_cons_succ]
  go_wp2
  go_ret
  exact ⟨⟨A9, c9, rfl, h9, F9.out.more G0.out.size⟩, G0.out.trans (Gx4.out.mono G0.out.size)⟩
set_option maxHeartbeats 4000000 in
theorem verTR_any {A : Option Addr} {c : Nat} {lab : List Int} {V : Value} {q : Vs} {w : World} (h : Lbl w A c lab) (hq : VArg w V q) (hv : q.v.length ≤ 300) : Calls Tryd.prog 40 #[.slice A lab.length c, .agg (vcs V q).toArray] w (BytA w (verT lab q)) := by
  obtain ⟨hok, B, d, rfl, hd, hrv⟩ := hq
  have G0 : Hid (Below w.heap.size w (w.alloc (.cells (vcs (.slice B q.v.length d) q).toArray 69))) := (Below.refl _ _).alloc (Nat.le_refl _) _
  have hvc := (Blk.new w 69 (vcs (.slice B q.v.length d) q).toArray).vc hok
  have CN := hid hvc.n
  have CE : Hid (World.cell? (w.alloc (.cells (vcs (.slice B q.v.length d) q).toArray 69)) ⟨w.heap.size, 1, none⟩ = some (.int .i64 q.e)) := hvc.e
  have CV : Hid (World.cell? (w.alloc (.cells (vcs (.slice B q.v.length d) q).toArray 69)) ⟨w.heap.size, 66, none⟩ = some (.slice B q.v.length d)) := by have := hvc.v; rw [Nat.zero_add] at this; exact this
  have hs : Rp (w.alloc (.cells (vcs (.slice B q.v.length d) q).toArray 69)) none (some ⟨w.heap.size, 2, none⟩) q.s := by have := crng_rp hvc.s; rw [Nat.zero_add] at this; exact this
  have hbb : Rp (w.alloc (.cells (vcs (.slice B q.v.length d) q).toArray 69)) none (some ⟨w.heap.size, 34, none⟩) q.b := by have := crng_rp hvc.b; rw [Nat.zero_add] at this; exact this
  have h0 := h.below G0.out
  have hv0 := hrv.belowN G0.out
  have CT : Hid (∀ (x : World), Below (w.alloc (.cells (vcs (.slice B q.v.length d) q).toArray 69)).heap.size (w.alloc (.cells (vcs (.slice B q.v.length d) q).toArray 69)) x → ∀ (g4 : Nat) (A3 : Option Addr) (c3 : Nat) (A6 : Option Addr) (c6 : Nat), Blk x g4 23 #[.slice A lab.length c, .slice A3 4 c3, .slice A6 4 c6, .slice (some ⟨w.heap.size, 2, none⟩) 32 32, .slice (some ⟨w.heap.size, 34, none⟩) 32 32, .slice B q.v.length d] → 4 ≤ c3 → Rp x none A3 (be q.n 4) → 4 ≤ c6 → Rp x none A6 (be q.e 4) → Calls Tryd.prog 68 #[.int .u8 99, .slice (some ⟨g4, 0, none⟩) 6 6] x (BytA x (verT lab q))) := fun x hb g4 A3 c3 A6 c6 hk h3 r3 h6 r6 => by
    obtain ⟨hin, hle⟩ := text_parts hk (h0.below hb) hok h3 r3 h6 r6 (hs.belowN hb) (hbb.belowN hb) (hv0.belowN hb) hd hv
    exact (RText_any 99 _ 6 6 _ x hin (by decide) hle (by decide)).mono fun e w' ⟨A, c, h1, h2, h3, h4⟩ => ⟨⟨A, c, h1, h2, h3⟩, h4⟩
  have DZ := hid (vcs_length (.slice B q.v.length d) hok)
  clear h hok hd hrv hvc hs hbb h0 hv0 hv
  unfold BytA at CT ⊢
  go_enter Tryd.func40, Tryd.ntmps40
  go_wp2
  generalize w.alloc (.cells (vcs (.slice B q.v.length d) q).toArray 69) = w0 at G0 CN CE CV CT ⊢
  refine wp_region_held (S := fun w' => Hid (Below w0.heap.size w0 w')) (by kernel_rfl) ?_
  change wpAnyH _ _ _ _ _ _ _ _ w0.drew
  have Gx0 : Hid (Below w0.heap.size w0 w0.drew) := (Below.refl _ _).drew
  generalize w0.drew = x0 at Gx0  ⊢
  refine wpAnyH_take (i := 0) (oi := { dst := some 5, op := _, type := _, pos := _, after := _, guard := _ }) (v := ?_) rfl (by kernel_rfl) (by kernel_rfl) (by kernel_rfl) (fun _ _ _ h => h) (Or.inl ⟨by kernel_rfl, ?_⟩) Gx0 ?_
  rotate_left
  · (intro w hSw; go_simp; try with_reducible rfl)
  try simp only [Act.put, List.setIfInBounds_toArray, List.set_cons_zero, List.set_cons_succ]
  refine wpAnyH_take (i := 1) (oi := { dst := some 6, op := _, type := _, pos := _, after := _, guard := _ }) (v := ?_) rfl (by kernel_rfl) (by kernel_rfl) (by kernel_rfl) (fun _ _ _ h => h) (Or.inl ⟨by kernel_rfl, ?_⟩) Gx0 ?_
  rotate_left
  · (intro w hSw; go_simp; try with_reducible rfl)
  try simp only [Act.put, List.setIfInBounds_toArray, List.set_cons_zero, List.set_cons_succ]
  refine wpAnyH_take (i := 2) (oi := { dst := some 7, op := _, type := _, pos := _, after := _, guard := _ }) (v := .int .i64 q.n) rfl (by kernel_rfl) (by kernel_rfl) (by kernel_rfl) (fun _ _ _ h => h) (Or.inl ⟨by kernel_rfl, ?_⟩) Gx0 ?_
  · (intro w hSw; have c9 := ccell_bel hSw.out CN.out; go_simp; try with_reducible rfl)
  try simp only [Act.put, List.setIfInBounds_toArray, List.set_cons_zero, List.set_cons_succ]
  refine wpAnyH_take (i := 4) (oi := { dst := some 9, op := _, type := _, pos := _, after := _, guard := _ }) (v := ?_) rfl (by kernel_rfl) (by kernel_rfl) (by kernel_rfl) (fun _ _ _ h => h) (Or.inl ⟨by kernel_rfl, ?_⟩) Gx0 ?_
  rotate_left
  · (intro w hSw; go_simp; try with_reducible rfl)
  try simp only [Act.put, List.setIfInBounds_toArray, List.set_cons_zero, List.set_cons_succ]
  refine wpAnyH_take (i := 5) (oi := { dst := some 10, op := _, type := _, pos := _, after := _, guard := _ }) (v := .int .i64 q.e) rfl (by kernel_rfl) (by kernel_rfl) (by kernel_rfl) (fun _ _ _ h => h) (Or.inl ⟨by kernel_rfl, ?_⟩) Gx0 ?_
  · (intro w hSw; have c9 := ccell_bel hSw.out CE.out; go_simp; try with_reducible rfl)
  try simp only [Act.put, List.setIfInBounds_toArray, List.set_cons_zero, List.set_cons_succ]
  refine wpAnyH_take (i := 7) (oi := { dst := some 12, op := _, type := _, pos := _, after := _, guard := _ }) (v := ?_) rfl (by kernel_rfl) (by kernel_rfl) (by kernel_rfl) (fun _ _ _ h => h) (Or.inl ⟨by kernel_rfl, ?_⟩) Gx0 ?_
  rotate_left
  · (intro w hSw; go_simp; try with_reducible rfl)
  try simp only [Act.put, List.setIfInBounds_toArray, List.set_cons_zero, List.set_cons_succ]
  refine wpAnyH_take (i := 8) (oi := { dst := some 13, op := _, type := _, pos := _, after := _, guard := _ }) (v := ?_) rfl (by kernel_rfl) (by kernel_rfl) (by kernel_rfl) (fun _ _ _ h => h) (Or.inl ⟨by kernel_rfl, ?_⟩) Gx0 ?_
  rotate_left
  · (intro w hSw; go_simp; try with_reducible rfl)
  try simp only [Act.put, List.setIfInBounds_toArray, List.set_cons_zero, List.set_cons_succ]
  refine wpAnyH_take (i := 9) (oi := { dst := some 14, op := _, type := _, pos := _, after := _, guard := _ }) (v := ?_) rfl (by kernel_rfl) (by kernel_rfl) (by kernel_rfl) (fun _ _ _ h => h) (Or.inl ⟨by kernel_rfl, ?_⟩) Gx0 ?_
  rotate_left
  · (intro w hSw; go_simp; try with_reducible rfl)
  try simp only [Act.put, List.setIfInBounds_toArray, List.set_cons_zero, List.set_cons_succ]
  refine wpAnyH_take (i := 10) (oi := { dst := some 15, op := _, type := _, pos := _, after := _, guard := _ }) (v := ?_) rfl (by kernel_rfl) (by kernel_rfl) (by kernel_rfl) (fun _ _ _ h => h) (Or.inl ⟨by kernel_rfl, ?_⟩) Gx0 ?_
  rotate_left
  · (intro w hSw; go_simp; try with_reducible rfl)
  try simp only [Act.put, List.setIfInBounds_toArray, List.set_cons_zero, List.set_cons_succ]
  refine wpAnyH_take (i := 11) (oi := { dst := some 16, op := _, type := _, pos := _, after := _, guard := _ }) (v := ?_) rfl (by kernel_rfl) (by kernel_rfl) (by kernel_rfl) (fun _ _ _ h => h) (Or.inl ⟨by kernel_rfl, ?_⟩) Gx0 ?_
  rotate_left
  · (intro w hSw; go_simp; try with_reducible rfl)
  try simp only [Act.put, List.setIfInBounds_toArray, List.set_cons_zero, List.set_cons_succ]
  refine wpAnyH_take (i := 12) (oi := { dst := some 17, op := _, type := _, pos := _, after := _, guard := _ }) (v := .slice B q.v.length d) rfl (by kernel_rfl) (by kernel_rfl) (by kernel_rfl) (fun _ _ _ h => h) (Or.inl ⟨by kernel_rfl, ?_⟩) Gx0 ?_
  · (intro w hSw; have c9 := ccell_bel hSw.out CV.out; go_simp; try with_reducible rfl)
  try simp only [Act.put, List.setIfInBounds_toArray, List.set_cons_zero, List.set_cons_succ]
  refine wpAnyH_ready (rs := [3]) (by kernel_rfl) (by simp) ?_
  refine (AllReadyH.cons (o := { dst := some 8, op := _, type := _, pos := _, after := _, guard := _ }) rfl (fun Qc hQc => ?_) AllReadyH.nil)
  go_simp
  go_at_call 84
  refine (fourR_any q.n x0).mono ?_
  rintro e x1 ⟨⟨A3, c3, rfl, h3, hf3⟩, hb⟩
  have Gx1 := hid (Gx0.out.trans (hb.mono Gx0.out.size))
  have F3 := hid (hf3.more (Nat.le_refl _))
  clear hb
  go_wp2_with fail
  refine hQc.out _ _ Gx1 (fun hHeld => ?_)
  clear hQc Qc hHeld
  try simp only [Act.put, List.setIfInBounds_toArray, List.set_cons_zero, List.set_cons_succ]
  refine wpAnyH_ready (rs := [6]) (by kernel_rfl) (by simp) ?_
  refine (AllReadyH.cons (o := { dst := some 11, op := _, type := _, pos := _, after := _, guard := _ }) rfl (fun Qc hQc => ?_) AllReadyH.nil)
  go_simp
  go_at_call 84
  refine (fourR_any q.e x1).mono ?_
  rintro e x2 ⟨⟨A6, c6, rfl, h6, hf6⟩, hb⟩
  have Gx2 := hid (Gx1.out.trans (hb.mono Gx1.out.size))
  have F6 := hid (hf6.more (Nat.le_refl _))
  have F3' := hid (F3.out.below hb)
  clear F3
  have F3 := F3'
  clear F3'
  clear hb
  go_wp2_with fail
  refine hQc.out _ _ Gx2 (fun hHeld => ?_)
  clear hQc Qc hHeld
  try simp only [Act.put, List.setIfInBounds_toArray, List.set_cons_zero, List.set_cons_succ]
  refine wpAnyH_ready (rs := [13]) (by kernel_rfl) (by simp) ?_
  refine (AllReadyH.cons (o := { dst := some 18, op := _, type := _, pos := _, after := _, guard := _ }) rfl (fun Qc hQc => ?_) AllReadyH.nil)
  go_simp
  have NBx3 : Hid (Blk (x2.alloc (.cells #[.slice A lab.length c, .slice A3 4 c3, .slice A6 4 c6, .slice (some ⟨w.heap.size, 2, none⟩) 32 32, .slice (some ⟨w.heap.size, 34, none⟩) 32 32, .slice B q.v.length d] 23)) x2.heap.size 23 #[.slice A lab.length c, .slice A3 4 c3, .slice A6 4 c6, .slice (some ⟨w.heap.size, 2, none⟩) 32 32, .slice (some ⟨w.heap.size, 34, none⟩) 32 32, .slice B q.v.length d]) := Blk.new x2 23 #[.slice A lab.length c, .slice A3 4 c3, .slice A6 4 c6, .slice (some ⟨w.heap.size, 2, none⟩) 32 32, .slice (some ⟨w.heap.size, 34, none⟩) 32 32, .slice B q.v.length d]
  have Bx3 : Below x2.heap.size x2 (x2.alloc (.cells #[.slice A lab.length c, .slice A3 4 c3, .slice A6 4 c6, .slice (some ⟨w.heap.size, 2, none⟩) 32 32, .slice (some ⟨w.heap.size, 34, none⟩) 32 32, .slice B q.v.length d] 23)) := (Below.refl _ _).alloc (Nat.le_refl _) _
  have Gx3 := hid (Gx2.out.trans (Bx3.mono Gx2.out.size))
  have F3' := hid (F3.out.below Bx3)
  have F6' := hid (F6.out.below Bx3)
  clear F3 F6
  have F3 := F3'
  have F6 := F6'
  clear F3'
  clear F6'
  clear Bx3
  refine hQc.out _ _ Gx3 (fun hHeld => ?_)
  clear hQc Qc hHeld
  generalize x2.heap.size = g4 at NBx3 ⊢
  generalize x2.alloc (.cells #[.slice A lab.length c, .slice A3 4 c3, .slice A6 4 c6, .slice (some ⟨w.heap.size, 2, none⟩) 32 32, .slice (some ⟨w.heap.size, 34, none⟩) 32 32, .slice B q.v.length d] 23) = x3 at NBx3 Gx3 F3 F6 ⊢
  try simp only [Act.put, List.setIfInBounds_toArray, List.set_cons_zero, List.set_cons_succ]
  refine wpAnyH_ready (rs := [14]) (by kernel_rfl) (by simp) ?_
  refine (AllReadyH.cons (o := { dst := some 19, op := _, type := _, pos := _, after := _, guard := _ }) rfl (fun Qc hQc => ?_) AllReadyH.nil)
  go_simp
  go_at_call 68
  refine (CT.out x3 Gx3.out g4 A3 c3 A6 c6 NBx3.out h3 F3.out.rp0 h6 F6.out.rp0).mono ?_
  rintro e x4 ⟨⟨A9, c9, rfl, h9, hf9⟩, hb⟩
  have Gx4 := hid (Gx3.out.trans (hb.mono Gx3.out.size))
  have F9 := hid (hf9.more Gx3.out.size)
  clear hb
  go_wp2_with fail
  refine hQc.out _ _ Gx4 (fun hHeld => ?_)
  clear hQc Qc hHeld
  try simp only [Act.put, List.setIfInBounds_toArray, List.set_cons_zero, List.set_cons_succ]
  refine wpAnyH_take (i := 15) (oi := { dst := some 4, op := _, type := _, pos := _, after := _, guard := _ }) (v := ?_) rfl (by kernel_rfl) (by kernel_rfl) (by kernel_rfl) (fun _ _ _ h => h) (Or.inl ⟨by kernel_rfl, ?_⟩) Gx4 ?_
  rotate_left
  · (intro w hSw; go_simp; try with_reducible rfl)
  try simp only [Act.put, List.setIfInBounds_toArray, List.set_cons_zero, List.set_cons_succ]
  refine wpAnyH_done (by kernel_rfl) ?_ _
  try simp only [Act.put, List.setIfInBounds_toArray, List.set_cons_zero, List.set_cons_succ]
  go_wp2
  go_ret
  exact ⟨⟨A9, c9, rfl, h9, F9.out.more G0.out.size⟩, G0.out.trans (Gx4.out.mono G0.out.size)⟩
set_option maxHeartbeats 4000000 in
theorem cmC_any {A : Option Addr} {c : Nat} {lab : List Int} {V : Value} {q : Vs} {w : World} (h : Lbl w A c lab) (hq : VArg w V q) (hv : q.v.length ≤ 300) (ht : Tab w) : Calls Tryd.prog 36 #[.slice A lab.length c, .agg (vcs V q).toArray] w fun e w' => e = .returned (.agg (u8s (cm lab q)).toArray) ∧ Below w.heap.size w w' := by
  have hq0 := hq
  obtain ⟨hok, B, d, rfl, hd, hrv⟩ := hq
  obtain ⟨Z, HZ, hZ0, hZs⟩ := zero_Hash
  obtain ⟨S, hS⟩ : ∃ S, S = cm lab q := ⟨_, rfl⟩
  have HI : Hid ((Tryd.prog.info? 26).map (·.size) = some (u8s S).toArray.size) := info_hash S (by rw [hS]; exact sum_length _)
  have HZS : Hid (Z.size = (u8s S).toArray.size) := by
    show _ = _
    rw [HZ.out, List.size_toArray, List.size_toArray, u8s_length, u8s_length, hS]; unfold cm; rw [sum_length]; simp
  have KV : Blk ((w.alloc (.cells (vcs (.slice B q.v.length d) q).toArray 75)).alloc (.cells Z 26)) w.heap.size 75 (vcs (.slice B q.v.length d) q).toArray := (Blk.new w 75 (vcs (.slice B q.v.length d) q).toArray).alloc (.cells Z 26)
  have KZ : Hid (Blk ((w.alloc (.cells (vcs (.slice B q.v.length d) q).toArray 75)).alloc (.cells Z 26)) (w.heap.size + 1) 26 Z) := by
    have := Blk.new (w.alloc (.cells (vcs (.slice B q.v.length d) q).toArray 75)) 26 Z
    rw [show (w.alloc (.cells (vcs (.slice B q.v.length d) q).toArray 75)).heap.size = w.heap.size + 1 by simp] at this
    exact this
  have B0 : Hid (Below w.heap.size w ((w.alloc (.cells (vcs (.slice B q.v.length d) q).toArray 75)).alloc (.cells Z 26))) := ((Below.refl _ _).alloc (Nat.le_refl _) _).alloc (by simp) _

  have CT := hid (verTC_any (h.below B0.out) (hq0.below B0.out) hv)
  have CS : Hid (∀ (x : World) (A1 : Option Addr) (c1 : Nat), Below w.heap.size w x → (verT lab q).length ≤ c1 → Rp x none A1 (verT lab q) → Calls Tryd.prog 61 #[.slice A1 (verT lab q).length c1] x fun e w' => e = .returned (.agg (u8s S).toArray) ∧ Below x.heap.size x w') := fun x A1 c1 hb hc hr => by
    rw [hS]; exact Sum_any A1 c1 _ x hr (verTbs h.bs hok) (by have := verTlen h.len hok hv; omega) hc (ht.below hb)
  rw [← hS]
  have DZ := hid (vinfoC (.slice B q.v.length d) hok)
  have KV := hid KV
  generalize verT lab q = X at CT CS
  clear hS h hok hd hrv hq0 hv ht
  unfold BytA at CT
  go_enter Tryd.func36, Tryd.ntmps36
  go_wp2_with (first
    | (refine wpList_load_row rfl 75 (.tmp 3) rfl w.heap.size rfl 75 (vcs (.slice B q.v.length d) q).toArray (0, 0) _ KV.out Tryd.underlying75 rfl DZ.out ?_)
    | (go_at_call 39; refine CT.out.mono ?_; rintro e w2 ⟨⟨A1, c1, rfl, hc1, hf1⟩, hb⟩; have KZ2 := hid (KZ.out.same (hb.block _ KZ.out.lt)); have B2 := hid (B0.out.trans (hb.mono B0.out.size)); have C1 := hid hc1; have R1 := hid hf1.rp0; clear hb hc1 hf1)
    | (go_at_call 61; refine (CS.out _ A1 c1 B2.out C1.out R1.out).mono ?_; rintro e w3 ⟨rfl, hb⟩; have KZ3 := hid (KZ2.out.same (hb.block _ KZ2.out.lt)); have B3 := hid (B2.out.trans (hb.mono B2.out.size)); clear hb)
    | (refine wpList_store_row rfl 26 (.tmp 4) (.tmp 8) rfl (w.heap.size + 1) (u8s S).toArray rfl rfl 26 Z KZ3.out HI.out HZS.out (u8s_all S) ?_))
  try go_frame
  refine bodyPost_ret (results_cell_row Tryd.results36 _ _ (w.heap.size + 1) 26 (u8s S).toArray (0, 0) _ rfl (KZ3.out.row _) Tryd.underlying26 rfl HI.out) rfl ?_
  exact ⟨rfl, below_setRow B3.out (by omega) _⟩
set_option maxHeartbeats 4000000 in
theorem cmR_any {A : Option Addr} {c : Nat} {lab : List Int} {V : Value} {q : Vs} {w : World} (h : Lbl w A c lab) (hq : VArg w V q) (hv : q.v.length ≤ 300) : Calls Tryd.prog 37 #[.slice A lab.length c, .agg (vcs V q).toArray] w fun e w' => e = .returned (.agg (u8s (cm lab q)).toArray) ∧ Below w.heap.size w w' := by
  have hq0 := hq
  obtain ⟨hok, B, d, rfl, hd, hrv⟩ := hq
  obtain ⟨Z, HZ, hZ0, hZs⟩ := zero_Hash
  obtain ⟨S, hS⟩ : ∃ S, S = cm lab q := ⟨_, rfl⟩
  have HI : Hid ((Tryd.prog.info? 26).map (·.size) = some (u8s S).toArray.size) := info_hash S (by rw [hS]; exact sum_length _)
  have HZS : Hid (Z.size = (u8s S).toArray.size) := by
    show _ = _
    rw [HZ.out, List.size_toArray, List.size_toArray, u8s_length, u8s_length, hS]; unfold cm; rw [sum_length]; simp
  have KV : Blk ((w.alloc (.cells (vcs (.slice B q.v.length d) q).toArray 69)).alloc (.cells Z 26)) w.heap.size 69 (vcs (.slice B q.v.length d) q).toArray := (Blk.new w 69 (vcs (.slice B q.v.length d) q).toArray).alloc (.cells Z 26)
  have KZ : Hid (Blk ((w.alloc (.cells (vcs (.slice B q.v.length d) q).toArray 69)).alloc (.cells Z 26)) (w.heap.size + 1) 26 Z) := by
    have := Blk.new (w.alloc (.cells (vcs (.slice B q.v.length d) q).toArray 69)) 26 Z
    rw [show (w.alloc (.cells (vcs (.slice B q.v.length d) q).toArray 69)).heap.size = w.heap.size + 1 by simp] at this
    exact this
  have B0 : Hid (Below w.heap.size w ((w.alloc (.cells (vcs (.slice B q.v.length d) q).toArray 69)).alloc (.cells Z 26))) := ((Below.refl _ _).alloc (Nat.le_refl _) _).alloc (by simp) _

  have CT := hid (verTR_any (h.below B0.out) (hq0.below B0.out) hv)
  have CS : Hid (∀ (x : World) (A1 : Option Addr) (c1 : Nat), Below w.heap.size w x → (verT lab q).length ≤ c1 → Rp x none A1 (verT lab q) → Calls Tryd.prog 62 #[.slice A1 (verT lab q).length c1] x fun e w' => e = .returned (.agg (u8s S).toArray) ∧ Below x.heap.size x w') := fun x A1 c1 hb hc hr => by
    rw [hS]; exact RSum_any A1 c1 _ x hr (verTbs h.bs hok) (by have := verTlen h.len hok hv; omega)
  rw [← hS]
  have DZ := hid (vinfoR (.slice B q.v.length d) hok)
  have KV := hid KV
  generalize verT lab q = X at CT CS
  clear hS h hok hd hrv hq0 hv
  unfold BytA at CT
  go_enter Tryd.func37, Tryd.ntmps37
  go_wp2_with (first
    | (refine wpList_load_row rfl 69 (.tmp 3) rfl w.heap.size rfl 69 (vcs (.slice B q.v.length d) q).toArray (0, 0) _ KV.out Tryd.underlying69 rfl DZ.out ?_)
    | (go_at_call 40; refine CT.out.mono ?_; rintro e w2 ⟨⟨A1, c1, rfl, hc1, hf1⟩, hb⟩; have KZ2 := hid (KZ.out.same (hb.block _ KZ.out.lt)); have B2 := hid (B0.out.trans (hb.mono B0.out.size)); have C1 := hid hc1; have R1 := hid hf1.rp0; clear hb hc1 hf1)
    | (go_at_call 62; refine (CS.out _ A1 c1 B2.out C1.out R1.out).mono ?_; rintro e w3 ⟨rfl, hb⟩; have KZ3 := hid (KZ2.out.same (hb.block _ KZ2.out.lt)); have B3 := hid (B2.out.trans (hb.mono B2.out.size)); clear hb)
    | (refine wpList_store_row rfl 26 (.tmp 4) (.tmp 8) rfl (w.heap.size + 1) (u8s S).toArray rfl rfl 26 Z KZ3.out HI.out HZS.out (u8s_all S) ?_))
  try go_frame
  refine bodyPost_ret (results_cell_row Tryd.results37 _ _ (w.heap.size + 1) 26 (u8s S).toArray (0, 0) _ rfl (KZ3.out.row _) Tryd.underlying26 rfl HI.out) rfl ?_
  exact ⟨rfl, below_setRow B3.out (by omega) _⟩
end Go.Proofs.YtjhaamffgkialaaDoor
/-
  What is proved here: lists of versions, copied over, looked at, and their first ones, as the statements and the document have them.
-/
namespace Go.Proofs.YtjhaamffgkialaaDoor
open Go.ChangeShapes Go.WideShapes Go.ChangeAt Go.RowKit
set_option linter.unusedVariables false
set_option linter.unusedSimpArgs false
set_option maxRecDepth 20000

theorem vTyC : VTy 83 75 := ⟨Tryd.underlying83, by kernel_rfl, by decide⟩
theorem vTyR : VTy 81 69 := ⟨Tryd.underlying81, by kernel_rfl, by decide⟩
theorem vlenC (V : Value) {q : Vs} (h : q.Ok) : (Tryd.prog.info? 75).map (·.size) = some (vcs V q).length := by rw [vcs_length V h]; kernel_rfl
theorem vlenR (V : Value) {q : Vs} (h : q.Ok) : (Tryd.prog.info? 69).map (·.size) = some (vcs V q).length := by rw [vcs_length V h]; kernel_rfl
/-- a list of versions in new memory -/
def OvA (t : TypeId) (w : World) (L : List Vs) (e : Ending) (w' : World) : Prop := ∃ v, e = .returned v ∧ OwV t w.heap.size w' v L ∧ Below w.heap.size w w'
theorem take_vAt {L : List Vs} {k : Nat} (h : L[k]? = some (vAt L k)) : L.take (k + 1) = L.take k ++ [vAt L k] := by rw [List.take_add_one, h]; rfl
set_option maxHeartbeats 4000000 in
theorem from_any {A : Option Addr} {n c : Nat} {L : List Vs} {w : World} (h : InV w A n L) (hn : n ≤ 1000) : Calls Tryd.prog 42 #[.slice A n c] w (OvA 75 w L) := by
  have H := hid h; have HN := hid hn; have HL := hid h.len
  have hmax := h.max
  unfold OvA
  clear h hn
  go_enter Tryd.func42, Tryd.ntmps42
  go_wp2
  go_loopw [3, 4] (fun v i wr => ∃ k : Nat, k ≤ n ∧ i = .int .i64 (k : Nat) ∧ Hid (OwV 75 w.heap.size wr v (L.take k)) ∧ Hid (Below w.heap.size w wr)) (fun _ i _ => n - (intOf i).toNat)
  case atStart => exact ⟨0, Nat.zero_le _, rfl, OwV.nil _ _ _, Below.refl _ _⟩
  case round =>
    obtain ⟨k, hk, rfl, OV, BL⟩ := hrel
    by_cases hkn : k < n
    · have hlt : ((k : Int) < (n : Int)) := by omega
      obtain ⟨b, oo, V, rfl, hbl, hat, harg, hq⟩ := H.out.at hkn
      have RA := hid (crng_bel BL.out hat.all)
      have VBk := hid ((harg.vb (Nat.le_refl _)).below BL.out)
      have DI := hid (vlenR V harg.ok)
      have HK := hid (take_vAt hq)
      have OK := hid harg.ok
      have HT : Hid ((L.take k).length ≤ 100000) := by have := HN.out; rw [List.length_take]; show _ ≤ _; omega
      generalize vAt L k = q at RA VBk DI HK OK
      clear hat harg hq hbl
      go_wp2_with (first
        | (refine wpList_load_mid rfl 69 (.tmp 14) rfl b (oo + k * 67) rfl (vcs V q) _ RA.out Tryd.underlying69 rfl DI.out ?_)
        | (refine wp_ver_one vTyC rfl (.tmp 15) rfl V q OK.out rfl ?_)
        | (at_builtin; refine wpList_append_ver vTyC rfl (.tmp 11) (.tmp 16) rfl w.heap.size (L.take k) _ rfl OV.out V q VBk.out rfl HT.out BL.out.size ?_; intro v2 w2 ho2 hg2 hb2; have O2 := hid ho2; have B2 := hid (BL.out.trans hb2); clear ho2 hg2 hb2))
      go_roundw
      case rel =>
        refine ⟨k + 1, by omega, by go_num, ?_, B2.out⟩
        show OwV _ _ _ _ _
        rw [HK.out]; exact O2.out
      case measure => simp [intOf]; omega
    · have hkn2 : k = n := by omega
      subst hkn2
      go_wp2
      go_ret
      refine ⟨_, rfl, ?_, BL.out⟩
      have := OV.out
      rw [← HL.out, List.take_length] at this
      exact this
set_option maxHeartbeats 4000000 in
theorem to_any {A : Option Addr} {n c : Nat} {L : List Vs} {w : World} (h : InV w A n L) (hn : n ≤ 1000) : Calls Tryd.prog 48 #[.slice A n c] w (OvA 69 w L) := by
  have H := hid h; have HN := hid hn; have HL := hid h.len
  have hmax := h.max
  unfold OvA
  clear h hn
  go_enter Tryd.func48, Tryd.ntmps48
  go_wp2
  go_loopw [3, 4] (fun v i wr => ∃ k : Nat, k ≤ n ∧ i = .int .i64 (k : Nat) ∧ Hid (OwV 69 w.heap.size wr v (L.take k)) ∧ Hid (Below w.heap.size w wr)) (fun _ i _ => n - (intOf i).toNat)
  case atStart => exact ⟨0, Nat.zero_le _, rfl, OwV.nil _ _ _, Below.refl _ _⟩
  case round =>
    obtain ⟨k, hk, rfl, OV, BL⟩ := hrel
    by_cases hkn : k < n
    · have hlt : ((k : Int) < (n : Int)) := by omega
      obtain ⟨b, oo, V, rfl, hbl, hat, harg, hq⟩ := H.out.at hkn
      have RA := hid (crng_bel BL.out hat.all)
      have VBk := hid ((harg.vb (Nat.le_refl _)).below BL.out)
      have DI := hid (vlenC V harg.ok)
      have HK := hid (take_vAt hq)
      have OK := hid harg.ok
      have HT : Hid ((L.take k).length ≤ 100000) := by have := HN.out; rw [List.length_take]; show _ ≤ _; omega
      generalize vAt L k = q at RA VBk DI HK OK
      clear hat harg hq hbl
      go_wp2_with (first
        | (refine wpList_load_mid rfl 75 (.tmp 14) rfl b (oo + k * 67) rfl (vcs V q) _ RA.out Tryd.underlying75 rfl DI.out ?_)
        | (refine wp_ver_one vTyR rfl (.tmp 15) rfl V q OK.out rfl ?_)
        | (at_builtin; refine wpList_append_ver vTyR rfl (.tmp 11) (.tmp 16) rfl w.heap.size (L.take k) _ rfl OV.out V q VBk.out rfl HT.out BL.out.size ?_; intro v2 w2 ho2 hg2 hb2; have O2 := hid ho2; have B2 := hid (BL.out.trans hb2); clear ho2 hg2 hb2))
      go_roundw
      case rel =>
        refine ⟨k + 1, by omega, by go_num, ?_, B2.out⟩
        show OwV _ _ _ _ _
        rw [HK.out]; exact O2.out
      case measure => simp [intOf]; omega
    · have hkn2 : k = n := by omega
      subst hkn2
      go_wp2
      go_ret
      refine ⟨_, rfl, ?_, BL.out⟩
      have := OV.out
      rw [← HL.out, List.take_length] at this
      exact this
set_option maxHeartbeats 4000000 in
theorem uptoR_any {A : Option Addr} {n c : Nat} {L : List Vs} {w : World} (ep : Int) (h : InV w A n L) (hn : n ≤ 1000) : Calls Tryd.prog 50 #[.slice A n c, .int .i64 ep] w (OvA 69 w (upt L ep)) := by
  have H := hid h; have HN := hid hn; have HL := hid h.len
  have hmax := h.max
  unfold OvA
  clear h hn
  go_enter Tryd.func50, Tryd.ntmps50
  go_wp2
  go_loopw [5, 6] (fun v i wr => ∃ k : Nat, k ≤ n ∧ i = .int .i64 (k : Nat) ∧ Hid (∀ j, j < k → (vAt L j).e ≤ ep) ∧ Hid (OwV 69 w.heap.size wr v (L.take k)) ∧ Hid (Below w.heap.size w wr)) (fun _ i _ => n - (intOf i).toNat)
  case atStart => exact ⟨0, Nat.zero_le _, rfl, (fun j hj => absurd hj (Nat.not_lt_zero _)), OwV.nil _ _ _, Below.refl _ _⟩
  case round =>
    obtain ⟨k, hk, rfl, HE, OV, BL⟩ := hrel
    by_cases hkn : k < n
    · have hlt : ((k : Int) < (n : Int)) := by omega
      obtain ⟨b, oo, V, rfl, hbl, hat, harg, hq⟩ := H.out.at hkn
      have RA := hid (crng_bel BL.out hat.all)
      have VBk := hid ((harg.vb (Nat.le_refl _)).below BL.out)
      have DI := hid (vlenR V harg.ok)
      have HK := hid (take_vAt hq)
      have OK := hid harg.ok
      have c1 := ccell_bel BL.out hat.e
      have HT : Hid ((L.take k).length ≤ 100000) := by have := HN.out; rw [List.length_take]; show _ ≤ _; omega
      have QK : Hid (vAt L k = vAt L k) := rfl
      obtain ⟨q, hqq⟩ : ∃ q, q = vAt L k := ⟨_, rfl⟩
      rw [← hqq] at RA VBk DI HK OK c1
      have HQ := hid hqq
      clear hat harg hq hbl hqq QK
      by_cases hep : q.e ≤ ep
      · go_wp2_with (first
          | (refine wpList_load_mid rfl 69 (.tmp 25) rfl b (oo + k * 67) rfl (vcs V q) _ RA.out Tryd.underlying69 rfl DI.out ?_)
          | (refine wp_ver_one vTyR rfl (.tmp 26) rfl V q OK.out rfl ?_)
          | (at_builtin; refine wpList_append_ver vTyR rfl (.tmp 22) (.tmp 27) rfl w.heap.size (L.take k) _ rfl OV.out V q VBk.out rfl HT.out BL.out.size ?_; intro v2 w2 ho2 hg2 hb2; have O2 := hid ho2; have B2 := hid (BL.out.trans hb2); clear ho2 hg2 hb2))
        go_roundw
        case rel =>
          refine ⟨k + 1, by omega, by go_num, ?_, ?_, B2.out⟩
          · intro j hj
            by_cases hjk : j = k
            · subst hjk; rw [← HQ.out]; exact hep
            · exact HE.out j (by omega)
          · show OwV _ _ _ _ _
            rw [HK.out]; exact O2.out
        case measure => simp [intOf]; omega
      · go_wp2
        go_ret
        refine ⟨_, rfl, ?_, BL.out⟩
        rw [upt_take L ep k (by rw [HL.out]; exact hk) HE.out (fun _ => by rw [← HQ.out]; omega)]
        exact OV.out
    · have hkn2 : k = n := by omega
      subst hkn2
      go_wp2
      go_ret
      refine ⟨_, rfl, ?_, BL.out⟩
      rw [upt_take L ep k (by rw [HL.out]; exact Nat.le_refl _) HE.out (fun h => by rw [HL.out] at h; omega)]
      exact OV.out
/-- few versions, with short values -/
def fewV (L : List Vs) (n : Nat) : Bool := (L.take 100).all (fun q => decide (q.v.length ≤ 200)) && decide (L.length ≤ n)
theorem fewV_all {L : List Vs} {n : Nat} (h : fewV L n = true) (hn : n ≤ 100) : L.length ≤ n ∧ ∀ q ∈ L, q.v.length ≤ 200 := by
  unfold fewV at h
  rw [Bool.and_eq_true, decide_eq_true_eq] at h
  refine ⟨h.2, fun q hq => ?_⟩
  have h1 := h.1
  rw [List.take_of_length_le (by omega), List.all_eq_true] at h1
  simpa using h1 q hq
set_option maxHeartbeats 4000000 in
theorem few_any {A : Option Addr} {n c : Nat} {L : List Vs} {w : World} (m : Nat) (h : InV w A n L) : Calls Tryd.prog 41 #[.slice A n c, .int .i64 (m : Nat)] w fun e w' => e = .returned (.bool (fewV L m)) ∧ w = w' := by
  have H := hid h; have HL := hid h.len
  have hmax := h.max
  obtain ⟨r, hr⟩ : ∃ r, r = fewV L m := ⟨_, rfl⟩
  rw [← hr]
  have HR := hid hr
  clear h hr
  go_enter Tryd.func41, Tryd.ntmps41
  go_wp2
  go_loop [5] (fun i => ∃ k : Nat, k ≤ n ∧ k ≤ 100 ∧ i = .int .i64 (k : Nat) ∧ Hid ((L.take k).all (fun q => decide (q.v.length ≤ 200)) = true)) (fun i => n - (intOf i).toNat)
  case atStart => exact ⟨0, Nat.zero_le _, by decide, rfl, by show _ = _; simp⟩
  case round =>
    obtain ⟨k, hk, hk2, rfl, HA⟩ := hrel
    by_cases hkn : k < n
    · have hlt : ((k : Int) < (n : Int)) := by omega
      by_cases hk3 : k < 100
      · have hlt3 : ((k : Int) < 100) := by omega
        obtain ⟨b, oo, V, rfl, hbl, hat, harg, hq⟩ := H.out.at hkn
        obtain ⟨hok, B, d, rfl, hd, _⟩ := harg
        have c1 := hat.v
        have HK := hid (take_vAt hq)
        obtain ⟨q, hqq⟩ : ∃ q, q = vAt L k := ⟨_, rfl⟩
        rw [← hqq] at HK c1
        obtain ⟨z, hz⟩ : ∃ z, z = q.v.length := ⟨_, rfl⟩
        rw [← hz] at c1
        have HZ := hid hz; have HQ := hid hqq; have HQA := hid hq
        clear hat hok hd hbl hqq hz hq
        by_cases hbig : 200 < z
        · have hb2 : (200 : Int) < (z : Int) := by omega
          have hf : r = false := by
            rw [HR.out]
            unfold fewV
            have hin : q ∈ L.take 100 := by
              rw [List.mem_iff_getElem?]
              exact ⟨k, by rw [List.getElem?_take, if_pos hk3, HQ.out]; exact HQA.out⟩
            have : ((L.take 100).all fun q => decide (q.v.length ≤ 200)) = false := by
              rw [List.all_eq_false]
              refine ⟨_, hin, ?_⟩
              have := HZ.out
              simp; omega
            rw [this]; rfl
          have HF := hid hf
          clear hf
          go_wp2
          go_ret
          rw [HF.out]
          exact ⟨rfl, rfl⟩
        · have hb2 : ¬ (200 : Int) < (z : Int) := by omega
          go_wp2
          go_round
          case rel =>
            refine ⟨k + 1, by omega, by omega, by go_num, ?_⟩
            show _ = _
            rw [HK.out, List.all_append, HA.out]
            have := HZ.out
            simp; omega
          case measure => simp [intOf]; omega
      · have hk4 : k = 100 := by omega
        subst hk4
        have hf : r = decide (n ≤ m) := by
          rw [HR.out]; unfold fewV; rw [HA.out, HL.out]; simp
        have HF := hid hf
        clear hf
        go_wp2
        go_ret
        rw [HF.out]
        exact ⟨ret_bool (by first | rfl | (rw [decide_eq_decide]; omega)), rfl⟩
    · have hk4 : k = n := by omega
      subst hk4
      have hf : r = decide (k ≤ m) := by
        have ha := HA.out
        have hl := HL.out
        rw [List.take_of_length_le (by omega)] at ha
        rw [HR.out]; unfold fewV; rw [hl, List.take_of_length_le (by omega), ha]
        simp
      have HF := hid hf
      clear hf
      go_wp2
      go_ret
      rw [HF.out]
      exact ⟨ret_bool (by first | rfl | (rw [decide_eq_decide]; omega)), rfl⟩
end Go.Proofs.YtjhaamffgkialaaDoor
/-
  What is proved here: two versions, and two chains, compared; a chain's texts; its last commitment.
-/
namespace Go.Proofs.YtjhaamffgkialaaDoor
open Go.ChangeShapes Go.WideShapes Go.ChangeAt Go.RowKit
set_option linter.unusedVariables false
set_option linter.unusedSimpArgs false
set_option maxRecDepth 20000

theorem csame_any {A B : Option Addr} {c d : Nat} {X Y : List Int} (w : World) (hx : Rp w none A X) (hy : Rp w none B Y) (hl : X.length < 1000000000) (hl2 : Y.length < 1000000000) :
    Calls Tryd.prog 38 #[.slice A X.length c, .slice B Y.length d] w fun e w' => e = .returned (.bool (decide (X = Y))) ∧ Below w.heap.size w w' :=
  (Same_quiet A B c d X Y w hx hy (by omega) (by omega)).mono fun e w' ⟨he, q, hw⟩ => ⟨he, by rw [hw]; exact ⟨rfl, rfl, rfl, Nat.le_refl _, fun _ _ => rfl⟩⟩
theorem load_mid_g {P : Program} {ops : Array Oper} {rest : List Oper} {op : Oper} {a : Act} {w : World} {Q : Exit → Act → World → Prop} (hw : Region.wanted op (yielded ops a.tmps) = true) (ty : TypeId) (x : Operand) (ho : op.op = .load ty x)
    (b o : Nat) (hx : a.eval x = .pointer (some ⟨b, o, none⟩)) (cs : List Value) (d : TypeDesc) (hc : w.rangeAt b o cs) (hu : P.underlying ty = some d) (hd : d.isRow = true) (hi : (P.info? ty).map (·.size) = some cs.length)
    (h : wpList P ops Q rest (a.put op.dst (.agg cs.toArray)) w) : wpList P ops Q (op :: rest) a w :=
  BigFrame.wpList_want hw fun K hK => wp_load_mid ty x ho b o hx cs d hc hu hd hi (hK _ _ h)
theorem hinfo {K : List Int} (h : Hh K) : (Tryd.prog.info? 26).map (·.size) = some (u8s K).length := by rw [u8s_length, h.len]; kernel_rfl
theorem vs_ext {q r : Vs} : q = r ↔ q.n = r.n ∧ q.e = r.e ∧ q.s = r.s ∧ q.b = r.b ∧ q.v = r.v := by
  cases q; cases r; simp
set_option maxHeartbeats 8000000 in
theorem one_any {V V' : Value} {q r : Vs} {w : World} (h : VArg w V q) (h' : VArg w V' r) (hl : q.v.length < 1000000000) (hl' : r.v.length < 1000000000) : Calls Tryd.prog 87 #[.agg (vcs V q).toArray, .agg (vcs V' r).toArray] w fun e w' => e = .returned (.bool (decide (q = r))) ∧ Below w.heap.size w w' := by
  obtain ⟨ok, B, d, rfl, hd, hr⟩ := h
  obtain ⟨ok', B', d', rfl, hd', hr'⟩ := h'
  have B0 : Hid (Below w.heap.size w ((w.alloc (.cells (vcs (.slice B q.v.length d) q).toArray 69)).alloc (.cells (vcs (.slice B' r.v.length d') r).toArray 69))) := ((Below.refl _ _).alloc (Nat.le_refl _) _).alloc (by simp) _
  have a1 := ((Blk.new w 69 (vcs (.slice B q.v.length d) q).toArray).alloc (.cells (vcs (.slice B' r.v.length d') r).toArray 69)).vc ok
  have k2 := Blk.new (w.alloc (.cells (vcs (.slice B q.v.length d) q).toArray 69)) 69 (vcs (.slice B' r.v.length d') r).toArray
  rw [show (w.alloc (.cells (vcs (.slice B q.v.length d) q).toArray 69)).heap.size = w.heap.size + 1 by simp] at k2
  have a2 := k2.vc ok'
  have CS := hid (csame_any (c := d) (d := d') _ (hr.belowN B0.out) (hr'.belowN B0.out) hl hl')
  have CN1 := hid a1.n; have CN2 := hid a2.n
  have CE1 : Hid (World.cell? ((w.alloc (.cells (vcs (.slice B q.v.length d) q).toArray 69)).alloc (.cells (vcs (.slice B' r.v.length d') r).toArray 69)) ⟨w.heap.size, 1, none⟩ = some (.int .i64 q.e)) := a1.e
  have CE2 : Hid (World.cell? ((w.alloc (.cells (vcs (.slice B q.v.length d) q).toArray 69)).alloc (.cells (vcs (.slice B' r.v.length d') r).toArray 69)) ⟨w.heap.size + 1, 1, none⟩ = some (.int .i64 r.e)) := a2.e
  have CV1 : Hid (World.cell? ((w.alloc (.cells (vcs (.slice B q.v.length d) q).toArray 69)).alloc (.cells (vcs (.slice B' r.v.length d') r).toArray 69)) ⟨w.heap.size, 66, none⟩ = some (.slice B q.v.length d)) := by have := a1.v; rw [Nat.zero_add] at this; exact this
  have CV2 : Hid (World.cell? ((w.alloc (.cells (vcs (.slice B q.v.length d) q).toArray 69)).alloc (.cells (vcs (.slice B' r.v.length d') r).toArray 69)) ⟨w.heap.size + 1, 66, none⟩ = some (.slice B' r.v.length d')) := by have := a2.v; rw [Nat.zero_add] at this; exact this
  have RS1 : Hid (World.rangeAt ((w.alloc (.cells (vcs (.slice B q.v.length d) q).toArray 69)).alloc (.cells (vcs (.slice B' r.v.length d') r).toArray 69)) w.heap.size 2 (u8s q.s)) := by have := a1.s; rw [Nat.zero_add] at this; exact this
  have RS2 : Hid (World.rangeAt ((w.alloc (.cells (vcs (.slice B q.v.length d) q).toArray 69)).alloc (.cells (vcs (.slice B' r.v.length d') r).toArray 69)) (w.heap.size + 1) 2 (u8s r.s)) := by have := a2.s; rw [Nat.zero_add] at this; exact this
  have RB1 : Hid (World.rangeAt ((w.alloc (.cells (vcs (.slice B q.v.length d) q).toArray 69)).alloc (.cells (vcs (.slice B' r.v.length d') r).toArray 69)) w.heap.size 34 (u8s q.b)) := by have := a1.b; rw [Nat.zero_add] at this; exact this
  have RB2 : Hid (World.rangeAt ((w.alloc (.cells (vcs (.slice B q.v.length d) q).toArray 69)).alloc (.cells (vcs (.slice B' r.v.length d') r).toArray 69)) (w.heap.size + 1) 34 (u8s r.b)) := by have := a2.b; rw [Nat.zero_add] at this; exact this
  have HS1 := hid (hinfo ok.s); have HS2 := hid (hinfo ok'.s); have HB1 := hid (hinfo ok.b); have HB2 := hid (hinfo ok'.b)
  have heq3 := fun w => eql_hash q.s r.s ok.s.bs ok'.s.bs ok.s.len ok'.s.len w
  have heq4 := fun w => eql_hash q.b r.b ok.b.bs ok'.b.bs ok.b.len ok'.b.len w
  have HD : Hid (decide (q = r) = (decide (q.n = r.n) && decide (q.e = r.e) && decide (q.s = r.s) && decide (q.b = r.b) && decide (q.v = r.v))) := by
    show _ = _
    rw [Bool.eq_iff_iff]
    simp only [Bool.and_eq_true, decide_eq_true_eq]
    rw [vs_ext]
    simp only [and_assoc]
  have DZ1 := hid (vcs_length (.slice B q.v.length d) ok)
  clear a1 a2 k2 hd hd' hr hr' hl hl' ok ok'
  obtain ⟨m1, hm1⟩ : ∃ m, m = q.v.length := ⟨_, rfl⟩
  obtain ⟨m2, hm2⟩ : ∃ m, m = r.v.length := ⟨_, rfl⟩
  obtain ⟨V1, hV1⟩ : ∃ m, m = vcs (.slice B q.v.length d) q := ⟨_, rfl⟩
  obtain ⟨V2, hV2⟩ : ∃ m, m = vcs (.slice B' r.v.length d') r := ⟨_, rfl⟩
  rw [← hV1, ← hV2] at B0 CN1 CN2 CE1 CE2 CV1 CV2 RS1 RS2 RB1 RB2 CS ⊢
  rw [← hm1] at CV1 CS; rw [← hm2] at CV2 CS
  rw [HD.out]
  clear hm1 hm2 hV1 hV2 HD DZ1
  generalize decide (q.s = r.s) = v3 at heq3 ⊢
  generalize decide (q.b = r.b) = v4 at heq4 ⊢
  generalize decide (q.v = r.v) = v5 at CS ⊢
  generalize q.s = qs at RS1 HS1 heq3; generalize r.s = rs at RS2 HS2 heq3; generalize q.b = qb at RB1 HB1 heq4; generalize r.b = rb at RB2 HB2 heq4
  generalize q.n = x1 at CN1 ⊢; generalize r.n = y1 at CN2 ⊢; generalize q.e = x2 at CE1 ⊢; generalize r.e = y2 at CE2 ⊢
  go_enter Tryd.func87, Tryd.ntmps87
  go_upto_region 1 with (fail)
  generalize (w.alloc (.cells V1.toArray 69)).alloc (.cells V2.toArray 69) = w0 at B0 CN1 CN2 CE1 CE2 CV1 CV2 RS1 RS2 RB1 RB2 CS ⊢
  have n1 := CN1.out; have n2 := CN2.out; have e1 := CE1.out; have e2 := CE2.out; have f1 := CV1.out; have f2 := CV2.out
  clear CN1 CN2 CE1 CE2 CV1 CV2
  by_cases h1 : x1 = y1
  · subst h1
    by_cases h2 : x2 = y2
    · subst h2
      cases v3 with
      | true =>
        cases v4 with
        | true =>
          go_wp2_with (first
            | (refine load_mid_g (by rfl) 26 (.tmp 18) rfl w.heap.size 2 rfl (u8s qs) _ RS1.out Tryd.underlying26 rfl HS1.out ?_)
            | (refine load_mid_g (by rfl) 26 (.tmp 20) rfl (w.heap.size + 1) 2 rfl (u8s rs) _ RS2.out Tryd.underlying26 rfl HS2.out ?_)
            | (refine load_mid_g (by rfl) 26 (.tmp 25) rfl w.heap.size 34 rfl (u8s qb) _ RB1.out Tryd.underlying26 rfl HB1.out ?_)
            | (refine load_mid_g (by rfl) 26 (.tmp 27) rfl (w.heap.size + 1) 34 rfl (u8s rb) _ RB2.out Tryd.underlying26 rfl HB2.out ?_)
            | (go_at_call 38; refine CS.out.mono ?_; rintro e w1 ⟨rfl, hb⟩; have B1 := hid (B0.out.trans (hb.mono B0.out.size)); clear hb))
          go_ret
          exact ⟨congrArg (fun q : Bool => Ending.returned (.bool q)) (by simp ), B1.out⟩

        | false =>
          go_wp2_with (first
            | (refine load_mid_g (by rfl) 26 (.tmp 18) rfl w.heap.size 2 rfl (u8s qs) _ RS1.out Tryd.underlying26 rfl HS1.out ?_)
            | (refine load_mid_g (by rfl) 26 (.tmp 20) rfl (w.heap.size + 1) 2 rfl (u8s rs) _ RS2.out Tryd.underlying26 rfl HS2.out ?_)
            | (refine load_mid_g (by rfl) 26 (.tmp 25) rfl w.heap.size 34 rfl (u8s qb) _ RB1.out Tryd.underlying26 rfl HB1.out ?_)
            | (refine load_mid_g (by rfl) 26 (.tmp 27) rfl (w.heap.size + 1) 34 rfl (u8s rb) _ RB2.out Tryd.underlying26 rfl HB2.out ?_)
            | (go_at_call 38; refine CS.out.mono ?_; rintro e w1 ⟨rfl, hb⟩; have B1 := hid (B0.out.trans (hb.mono B0.out.size)); clear hb))
          go_ret
          exact ⟨congrArg (fun q : Bool => Ending.returned (.bool q)) (by simp ), B0.out⟩

      | false =>
        go_wp2_with (first
          | (refine load_mid_g (by rfl) 26 (.tmp 18) rfl w.heap.size 2 rfl (u8s qs) _ RS1.out Tryd.underlying26 rfl HS1.out ?_)
          | (refine load_mid_g (by rfl) 26 (.tmp 20) rfl (w.heap.size + 1) 2 rfl (u8s rs) _ RS2.out Tryd.underlying26 rfl HS2.out ?_)
          | (refine load_mid_g (by rfl) 26 (.tmp 25) rfl w.heap.size 34 rfl (u8s qb) _ RB1.out Tryd.underlying26 rfl HB1.out ?_)
          | (refine load_mid_g (by rfl) 26 (.tmp 27) rfl (w.heap.size + 1) 34 rfl (u8s rb) _ RB2.out Tryd.underlying26 rfl HB2.out ?_)
          | (go_at_call 38; refine CS.out.mono ?_; rintro e w1 ⟨rfl, hb⟩; have B1 := hid (B0.out.trans (hb.mono B0.out.size)); clear hb))
        go_ret
        exact ⟨congrArg (fun q : Bool => Ending.returned (.bool q)) (by simp ), B0.out⟩

    · have h2b : (x2 == y2) = false := by simpa using h2
      go_wp2_with (first
        | (refine load_mid_g (by rfl) 26 (.tmp 18) rfl w.heap.size 2 rfl (u8s qs) _ RS1.out Tryd.underlying26 rfl HS1.out ?_)
        | (refine load_mid_g (by rfl) 26 (.tmp 20) rfl (w.heap.size + 1) 2 rfl (u8s rs) _ RS2.out Tryd.underlying26 rfl HS2.out ?_)
        | (refine load_mid_g (by rfl) 26 (.tmp 25) rfl w.heap.size 34 rfl (u8s qb) _ RB1.out Tryd.underlying26 rfl HB1.out ?_)
        | (refine load_mid_g (by rfl) 26 (.tmp 27) rfl (w.heap.size + 1) 34 rfl (u8s rb) _ RB2.out Tryd.underlying26 rfl HB2.out ?_)
        | (go_at_call 38; refine CS.out.mono ?_; rintro e w1 ⟨rfl, hb⟩; have B1 := hid (B0.out.trans (hb.mono B0.out.size)); clear hb))
      go_ret
      exact ⟨congrArg (fun q : Bool => Ending.returned (.bool q)) (by simp [h2]), B0.out⟩

  · have h1b : (x1 == y1) = false := by simpa using h1
    go_wp2_with (first
      | (refine load_mid_g (by rfl) 26 (.tmp 18) rfl w.heap.size 2 rfl (u8s qs) _ RS1.out Tryd.underlying26 rfl HS1.out ?_)
      | (refine load_mid_g (by rfl) 26 (.tmp 20) rfl (w.heap.size + 1) 2 rfl (u8s rs) _ RS2.out Tryd.underlying26 rfl HS2.out ?_)
      | (refine load_mid_g (by rfl) 26 (.tmp 25) rfl w.heap.size 34 rfl (u8s qb) _ RB1.out Tryd.underlying26 rfl HB1.out ?_)
      | (refine load_mid_g (by rfl) 26 (.tmp 27) rfl (w.heap.size + 1) 34 rfl (u8s rb) _ RB2.out Tryd.underlying26 rfl HB2.out ?_)
      | (go_at_call 38; refine CS.out.mono ?_; rintro e w1 ⟨rfl, hb⟩; have B1 := hid (B0.out.trans (hb.mono B0.out.size)); clear hb))
    go_ret
    exact ⟨congrArg (fun q : Bool => Ending.returned (.bool q)) (by simp [h1]), B0.out⟩

end Go.Proofs.YtjhaamffgkialaaDoor
/-
  What is proved here: two chains compared; a chain's last commitment; what the document says a chain is.
-/
namespace Go.Proofs.YtjhaamffgkialaaDoor
open Go.ChangeShapes Go.WideShapes Go.ChangeAt Go.RowKit
set_option linter.unusedVariables false
set_option linter.unusedSimpArgs false
set_option maxRecDepth 20000

theorem cneq_hash (a b : List Int) (ha : Hh a) (hb : Hh b) (w : World) :
    (binOp .neq 26 (.agg (u8s a).toArray) (.agg (u8s b).toArray)).run Tryd.prog w = .ok (.bool (!decide (a = b))) w := by
  have h := run_equalIn_bytes (P := Tryd.prog) w 9998 26 5 32 Tryd.underlying26 Tryd.underlying5 (fun w => by kernel_rfl) (a.map fun v => UInt8.ofNat v.toNat) (b.map fun v => UInt8.ofNat v.toNat) (by simp [ha.len]) (by simp [hb.len])
  rw [← to_u8 a ha.bs, ← to_u8 b hb.bs] at h
  rw [run_neq_struct, h]
  simp only [Result.andThen]
  congr 3
  rw [Bool.eq_iff_iff, beq_iff_eq, decide_eq_true_iff]
  exact ⟨fun e => u8_inj a b ha.bs hb.bs e, fun e => by rw [e]⟩
theorem cbuilt_h0 : Tryd.prog.built 26 [] = some (u8s zH).toArray := by kernel_rfl
theorem cbuild_h0 {ops : Array Oper} {rest : List Oper} {o : Oper} {a : Act} {w : World} {Q : Exit → Act → World → Prop} (hg : o.guard = none) (ho : o.op = .build 26 #[])
    (h : wpList Tryd.prog ops Q rest (a.put o.dst (.agg (u8s zH).toArray)) w) : wpList Tryd.prog ops Q (o :: rest) a w := by
  have e : (Array.map (fun (i, x) => (i, a.eval x)) (#[] : Array (Nat × Operand))).toList = [] := by simp
  refine wpList_build hg 26 #[] ho (by rw [e, cbuilt_h0]; rfl) ?_
  rw [e, cbuilt_h0]
  exact h
theorem cbuild_h0g {ops : Array Oper} {rest : List Oper} {o : Oper} {a : Act} {w : World} {Q : Exit → Act → World → Prop} (hw : Region.wanted o (yielded ops a.tmps) = true) (ho : o.op = .build 26 #[])
    (h : wpList Tryd.prog ops Q rest (a.put o.dst (.agg (u8s zH).toArray)) w) : wpList Tryd.prog ops Q (o :: rest) a w := by
  refine BigFrame.wpList_want hw fun K hK => ?_
  have h1 := hK _ _ h
  unfold Oper.wp execOp
  rw [ho]
  have e : (Array.map (fun (i, x) => (i, a.eval x)) (#[] : Array (Nat × Operand))) = #[] := by simp
  simp only [e]
  have e3 : (Instr.build 26 #[]).run Tryd.prog w = .ok (.agg (u8s zH).toArray) w := by kernel_rfl
  simp only [Sem.run_bind, Sem.run_pure, Result.andThen_ok, e3]
  exact h1
theorem InV.shorts {w : World} {A : Option Addr} {n : Nat} {L : List Vs} (h : InV w A n L) {m : Nat} (hv : ∀ q ∈ L, q.v.length ≤ m) {k : Nat} (hk : k < n) : (vAt L k).v.length ≤ m := by
  obtain ⟨_, _, _, _, _, _, _, hq⟩ := h.at hk
  exact hv _ (List.mem_of_getElem? hq)
set_option maxHeartbeats 4000000 in
theorem sameV_any {A B : Option Addr} {n m c d : Nat} {L M : List Vs} {w : World} (hL : InV w A n L) (hM : InV w B m M) (h1 : ∀ q ∈ L, q.v.length ≤ 1000) (h2 : ∀ q ∈ M, q.v.length ≤ 1000) :
    Calls Tryd.prog 47 #[.slice A n c, .slice B m d] w fun e w' => e = .returned (.bool (decide (L = M))) ∧ Below w.heap.size w w' := by
  have HL := hid hL; have HM := hid hM; have H1 := hid h1; have H2 := hid h2
  have LL := hid hL.len; have LM := hid hM.len
  have hn := hL.max; have hm := hM.max
  clear hL hM h1 h2
  go_enter Tryd.func47, Tryd.ntmps47
  by_cases hnm : n = m
  · subst hnm
    go_wp2
    go_loopw [5] (fun i wr => ∃ k : Nat, k ≤ n ∧ i = .int .i64 (k : Nat) ∧ Hid (∀ j, j < k → vAt L j = vAt M j) ∧ Hid (Below w.heap.size w wr)) (fun i _ => n - (intOf i).toNat)
    case atStart => exact ⟨0, Nat.zero_le _, rfl, (fun j hj => absurd hj (Nat.not_lt_zero _)), Below.refl _ _⟩
    case round =>
      obtain ⟨k, hk, rfl, HE, BL⟩ := hrel
      by_cases hkn : k < n
      · have hlt : ((k : Int) < (n : Int)) := by omega
        obtain ⟨b, oo, V, rfl, hbl, hat, harg, hq⟩ := HL.out.at hkn
        obtain ⟨b2, oo2, V2, rfl, hbl2, hat2, harg2, hq2⟩ := HM.out.at hkn
        have hv1 := HL.out.shorts H1.out hkn
        have hv2 := HM.out.shorts H2.out hkn
        have RA := hid (fun p : PW (Kp wr) => crng_bel (p.h) (crng_bel BL.out hat.all))
        have RB := hid (fun p : PW (Kp wr) => crng_bel (p.h) (crng_bel BL.out hat2.all))
        have CO := hid (fun p : PW (Kp wr) => one_any (w := p.w) ((harg.below BL.out).below p.h) ((harg2.below BL.out).below p.h) (by omega) (by omega))
        have I1 := hid (vlenR V harg.ok); have I2 := hid (vlenR V2 harg2.ok)
        obtain ⟨v5, hv5⟩ : ∃ v5, v5 = decide (vAt L k = vAt M k) := ⟨_, rfl⟩
        rw [← hv5] at CO
        have HV5 := hid hv5
        clear hat harg hq hat2 harg2 hq2 hv1 hv2 hv5 hbl hbl2
        go_upto_region 6 with (fail)
        refine region_kept (Kp wr) (by kernel_rfl) (by kernel_rfl) (kp_begin wr) ?_
        repeat (first
          | go_big_quiet_skip
          | (go_big_quiet_want; refine quiet_load 69 (.tmp 19) rfl b (oo + k * 67) rfl (vcs V (vAt L k)) _ (fun p => RA.out p) Tryd.underlying69 rfl I1.out (vcs V (vAt L k)).toArray rfl ?_; go_big_quiet_on; simp only [Act.put, List.setIfInBounds_toArray, List.set_cons_zero, List.set_cons_succ])
          | (go_big_quiet_want; refine quiet_load 69 (.tmp 23) rfl b2 (oo2 + k * 67) rfl (vcs V2 (vAt M k)) _ (fun p => RB.out p) Tryd.underlying69 rfl I2.out (vcs V2 (vAt M k)).toArray rfl ?_; go_big_quiet_on; simp only [Act.put, List.setIfInBounds_toArray, List.set_cons_zero, List.set_cons_succ])
          | (go_big_quiet_want; go_big_quiet_op; first | go_big_quiet_on | go_big_quiet_call (first | (go_at_call 87; with_reducible exact kp_call (CO.out _)))))
        refine wpQuiet_nil ?_
        intro _ hw'
        obtain ⟨p9, hw''⟩ := hw'
        subst hw''
        have BL9 := hid (BL.out.trans (Below.mono p9.h BL.out.size))
        cases v5 with
        | true =>
          go_wp2
          go_roundw
          case rel =>
            refine ⟨k + 1, by omega, by go_num, ?_, BL9.out⟩
            intro j hj
            by_cases hjk : j = k
            · subst hjk; have := HV5.out; exact of_decide_eq_true this.symm
            · exact HE.out j (by omega)
          case measure => simp [intOf]; omega
        | false =>
          go_wp2
          go_ret
          exact ⟨by rw [decide_eq_false (fun e => by have := HV5.out; rw [e] at this; simp at this)]; rfl, BL9.out⟩
      · have hkn2 : k = n := by omega
        subst hkn2
        go_wp2
        go_ret
        have e : L = M := ext_vAt (by rw [LL.out, LM.out]) (fun i hi => HE.out i (by rw [LL.out] at hi; exact hi))
        exact ⟨by rw [e]; simp, BL.out⟩
  · have hne : ((n : Int) != (m : Int)) = true := by simp; omega
    have hne2 : ¬ (n : Int) = (m : Int) := by omega
    have e : ¬ L = M := fun e => hnm (by rw [← LL.out, e, LM.out])
    have HE := hid e
    clear e
    go_wp2
    go_ret
    exact ⟨by simp [HE.out], Below.refl _ _⟩
/-- the places of a chain's versions -/
theorem lastC_some {C : Vs → List Int} {L : List Vs} (h : 0 < L.length) : lastC C L = C (vAt L (L.length - 1)) := by
  unfold lastC; rw [if_neg (List.length_pos_iff.1 h)]
theorem lastC_nil (C : Vs → List Int) : lastC C [] = zH := rfl
set_option maxHeartbeats 4000000 in
theorem last_any {A B : Option Addr} {n c c2 : Nat} {lab : List Int} {L : List Vs} {w : World} (h : Lbl w A c lab) (hL : InV w B n L) (hv : ∀ q ∈ L, q.v.length ≤ 300) (ht : Tab w) :
    Calls Tryd.prog 85 #[.slice A lab.length c, .slice B n c2] w fun e w' => e = .returned (.agg (u8s (lastC (cm lab) L)).toArray) ∧ Below w.heap.size w w' := by
  obtain ⟨Z, HZ, hZ0, hZs⟩ := zero_Hash
  have KZ : Hid (Blk (w.alloc (.cells Z 26)) w.heap.size 26 Z) := Blk.new w 26 Z
  have B0 : Hid (Below w.heap.size w (w.alloc (.cells Z 26))) := (Below.refl _ _).alloc (Nat.le_refl _) _
  have ll := hL.len
  have hmax := hL.max
  have hzl : Z.size = 32 := by rw [HZ.out, List.size_toArray, u8s_length]; simp
  by_cases h0 : n = 0
  · subst h0
    have e : L = [] := List.length_eq_zero_iff.1 ll
    have HI : Hid ((Tryd.prog.info? 26).map (·.size) = some (u8s zH).toArray.size) := info_hash zH (by simp [zH])
    have HZS : Hid (Z.size = (u8s zH).toArray.size) := by show _ = _; rw [hzl, hash_size32 hh_zero]
    rw [e, lastC_nil]
    clear e ll h hL hv ht hzl
    go_enter Tryd.func85, Tryd.ntmps85
    go_wp2_with (first
      | (refine cbuild_h0 rfl rfl ?_)
      | (refine wpList_store_row rfl 26 (.tmp 4) (.tmp 8) rfl w.heap.size (u8s zH).toArray rfl rfl 26 Z KZ.out HI.out HZS.out (u8s_all zH) ?_))
    try go_frame
    first | rw [Exit.noGoto_ret] | skip
    refine bodyPost_ret (results_cell_row Tryd.results85 _ _ w.heap.size 26 (u8s zH).toArray (0, 0) _ rfl (KZ.out.row _) Tryd.underlying26 rfl HI.out) rfl ?_
    exact ⟨rfl, below_setRow B0.out (Nat.le_refl _) _⟩
  · have hn : n - 1 < n := by omega
    have hlz : ((n : Int) == 0) = false := by simp; omega
    have hlz2 : ¬ (n : Int) = 0 := by omega
    have hsub : (n : Int) - 1 = ((n - 1 : Nat) : Int) := by omega
    obtain ⟨b, oo, V, rfl, hbl, hat, harg, hq⟩ := hL.at hn
    have hvl := hL.shorts hv hn
    have RA := hid (crng_bel B0.out hat.all)
    have DI := hid (vlenC V harg.ok)
    have CT := cmC_any (h.below B0.out) (harg.below B0.out) hvl (ht.below B0.out)
    have e : lastC (cm lab) L = cm lab (vAt L (n - 1)) := by rw [lastC_some (by omega), ll]
    obtain ⟨S, hS⟩ : ∃ S, S = cm lab (vAt L (n - 1)) := ⟨_, rfl⟩
    rw [← hS] at CT
    rw [e, ← hS]
    have CT := hid CT
    have hk : Hh S := by rw [hS]; exact hh_sum _
    have HI : Hid ((Tryd.prog.info? 26).map (·.size) = some (u8s S).toArray.size) := info_hash S hk.len
    have HZS : Hid (Z.size = (u8s S).toArray.size) := by show _ = _; rw [hzl, hash_size32 hk]
    have HSUB := hid hsub
    obtain ⟨k, hkk⟩ : ∃ k, k = n - 1 := ⟨_, rfl⟩
    rw [← hkk] at RA DI CT HSUB hn
    have hsubw : IntKind.i64.wrap ((n : Int) - 1) = (k : Int) := by rw [HSUB.out]; exact IntWalk.i64_in _ (by omega)
    clear e hS hat harg hq hvl h hL hv ht hzl hbl hk hkk hsub HZ
    go_enter Tryd.func85, Tryd.ntmps85
    go_wp2_with (first
      | (refine wpList_load_mid rfl 75 (.tmp 14) rfl b (oo + k * 67) rfl (vcs V (vAt L k)) _ RA.out Tryd.underlying75 rfl DI.out ?_)
      | (go_at_call 36; refine CT.out.mono ?_; rintro e w2 ⟨rfl, hb⟩; have KZ2 := hid (KZ.out.same (hb.block _ KZ.out.lt)); have B2 := hid (B0.out.trans (hb.mono B0.out.size)); clear hb)
      | (refine wpList_store_row rfl 26 (.tmp 4) (.tmp 16) rfl w.heap.size (u8s S).toArray rfl rfl 26 Z KZ2.out HI.out HZS.out (u8s_all S) ?_))
    try go_frame
    first | rw [Exit.noGoto_ret] | skip
    refine bodyPost_ret (results_cell_row Tryd.results85 _ _ w.heap.size 26 (u8s S).toArray (0, 0) _ rfl (KZ2.out.row _) Tryd.underlying26 rfl HI.out) rfl ?_
    exact ⟨rfl, below_setRow B2.out (Nat.le_refl _) _⟩
end Go.Proofs.YtjhaamffgkialaaDoor
