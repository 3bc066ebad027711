/-
  What this file is for: trees of keys and values, lists of pairs that rise by keys, and the document's root, in plain mathematics. Nothing of the program is walked here.
-/
import Derived.Test.YtjhaamffgkialaaGreatDoorMP1
set_option linter.unusedSimpArgs false
set_option linter.unusedVariables false
namespace Go.Proofs.YtjhaamffgkialaaGreatDoor
open Go.ChangeShapes Go.RowKit
set_option linter.unusedVariables false

abbrev KV := List Int × List Int
/-- a list of pairs that rises -/
def Srt (l : List KV) : Prop := l.Pairwise (fun a b => lss a.1 b.1 = true)
def Kys (l : List KV) : Prop := ∀ q ∈ l, Ky q.1 ∧ Ky q.2
theorem Kys.app {a b : List KV} (h : Kys a) (g : Kys b) : Kys (a ++ b) := fun q hq => by
  rcases List.mem_append.1 hq with h1 | h1
  · exact h q h1
  · exact g q h1
/-- what is less by a bit -/
theorem lss_bits {K L : List Int} {n : Nat} (hn : n < 256) (hc : cut K n = cut L n) (h0 : bit K n = 0) (h1 : bit L n = 1) : lss K L = true ∧ shr K L = n := by
  have hs : IsShr K L n := ⟨by omega, fun i hi => cut_eq_iff.1 hc i (by omega) hi, fun _ => by rw [h0, h1]; decide⟩
  exact ⟨by rw [lss_of hs]; exact decide_eq_true ⟨hn, h0⟩, hs.eq.symm⟩

/-! Pairs put into a list. -/
/-- one step of the document's Put -/
def putS (k v : List Int) (s : List KV × Bool) (q : KV) : List KV × Bool :=
  let s1 := if s.2 = false ∧ lss q.1 k = false then (s.1 ++ [(k, v)], true) else s
  (if q.1 ≠ k then s1.1 ++ [q] else s1.1, s1.2)
/-- a key put into a list, as the document has it -/
def putL (l : List KV) (k v : List Int) : List KV :=
  let s := l.foldl (putS k v) ([], false)
  if s.2 = false then s.1 ++ [(k, v)] else s.1
/-- what comes ahead of a key, and behind it -/
def lo (l : List KV) (k : List Int) : List KV := l.filter (fun q => lss q.1 k)
def hi (l : List KV) (k : List Int) : List KV := l.filter (fun q => lss k q.1)
theorem lo_app (a b : List KV) (k : List Int) : lo (a ++ b) k = lo a k ++ lo b k := List.filter_append ..
theorem hi_app (a b : List KV) (k : List Int) : hi (a ++ b) k = hi a k ++ hi b k := List.filter_append ..
theorem put_hi (k v : List Int) (hk : Ky k) : ∀ (l : List KV) (o : List KV), Kys l → (∀ q ∈ l, lss q.1 k = false) → l.foldl (putS k v) (o, true) = (o ++ hi l k, true)
  | [], o, _, _ => by simp [hi]
  | q :: l, o, hl, h => by
    have hq := h q (by simp)
    rw [List.foldl_cons]
    have e : putS k v (o, true) q = (if q.1 ≠ k then o ++ [q] else o, true) := by
      unfold putS
      simp
    rw [e, put_hi k v hk l _ (fun q hq => hl q (List.mem_cons_of_mem _ hq)) (fun q hq => h q (List.mem_cons_of_mem _ hq))]
    by_cases hqk : q.1 = k
    · rw [if_neg (fun h => h hqk)]
      unfold hi
      rw [List.filter_cons_of_neg (by simp [hqk, lss_self])]
    · rw [if_pos hqk]
      unfold hi
      rw [List.filter_cons_of_pos (by simpa using lss_total (hl q (by simp)).1 hk hqk hq), List.append_assoc, List.singleton_append]
theorem put_lo (k v : List Int) (hk : Ky k) : ∀ (l : List KV) (o : List KV), Srt l → Kys l →
    l.foldl (putS k v) (o, false) = if (∀ q ∈ l, lss q.1 k = true) then (o ++ l, false) else (o ++ lo l k ++ [(k, v)] ++ hi l k, true)
  | [], o, _, _ => by simp
  | q :: l, o, hs, hl => by
    have hs' := List.pairwise_cons.1 hs
    rw [List.foldl_cons]
    cases hq : lss q.1 k with
    | true =>
      have e : putS k v (o, false) q = (o ++ [q], false) := by
        unfold putS
        rw [if_neg (fun h => by rw [hq] at h; cases h.2)]
        simp only
        rw [if_pos (fun e => by rw [e, lss_self] at hq; cases hq)]
      rw [e, put_lo k v hk l _ hs'.2 (fun q hq => hl q (List.mem_cons_of_mem _ hq))]
      by_cases hall : ∀ x ∈ l, lss x.1 k = true
      · rw [if_pos hall, if_pos (fun x hx => by rcases List.mem_cons.1 hx with h | h; rw [h]; exact hq; exact hall x h)]
        simp
      · rw [if_neg hall, if_neg (fun h => hall (fun x hx => h x (List.mem_cons_of_mem _ hx)))]
        unfold lo hi
        rw [List.filter_cons_of_pos (by simpa using hq), List.filter_cons_of_neg (by rw [lss_asym hq]; simp)]
        simp
    | false =>
      have hrest : ∀ x ∈ l, lss x.1 k = false := fun x hx => by
        cases hx2 : lss x.1 k with
        | false => rfl
        | true => have := lss_trans (hs'.1 x hx) hx2; rw [this] at hq; cases hq
      have e : putS k v (o, false) q = (if q.1 ≠ k then o ++ [(k, v)] ++ [q] else o ++ [(k, v)], true) := by
        unfold putS
        rw [if_pos ⟨rfl, hq⟩]
      rw [e, put_hi k v hk l _ (fun q hq => hl q (List.mem_cons_of_mem _ hq)) hrest]
      have hn : ¬ ∀ x ∈ q :: l, lss x.1 k = true := fun h => by have := h q (List.mem_cons_self ..); rw [hq] at this; cases this
      rw [if_neg hn]
      have elo : lo (q :: l) k = [] := by
        unfold lo
        rw [List.filter_eq_nil_iff]
        intro x hx
        rcases List.mem_cons.1 hx with h | h
        · rw [h, hq]; simp
        · rw [hrest x h]; simp
      rw [elo, List.append_nil]
      by_cases hqk : q.1 = k
      · have hnn : ¬ q.1 ≠ k := fun h => h hqk
        rw [if_neg hnn]
        unfold hi
        rw [List.filter_cons_of_neg (by simp [hqk, lss_self])]
      · rw [if_pos hqk]
        unfold hi
        rw [List.filter_cons_of_pos (by simpa using lss_total (hl q (by simp)).1 hk hqk hq)]
        simp
/-- of a list that rises: what is less, the pair, what is greater -/
theorem putL_eq {l : List KV} {k v : List Int} (hs : Srt l) (hl : Kys l) (hk : Ky k) : putL l k v = lo l k ++ [(k, v)] ++ hi l k := by
  unfold putL
  rw [put_lo k v hk l [] hs hl]
  by_cases hall : ∀ q ∈ l, lss q.1 k = true
  · rw [if_pos hall]
    have e1 : lo l k = l := List.filter_eq_self.2 (fun q hq => by simpa using hall q hq)
    have e2 : hi l k = [] := by
      unfold hi
      rw [List.filter_eq_nil_iff]
      intro q hq
      rw [lss_asym (hall q hq)]; simp
    simp [e1, e2]
  · rw [if_neg hall]
    simp
theorem Srt.put {l : List KV} {k v : List Int} (hs : Srt l) (hl : Kys l) (hk : Ky k) : Srt (putL l k v) := by
  rw [putL_eq hs hl hk]
  unfold Srt
  rw [List.append_assoc, List.pairwise_append]
  refine ⟨hs.filter _, ?_, fun a ha b hb => ?_⟩
  · rw [List.singleton_append, List.pairwise_cons]
    exact ⟨fun b hb => by simpa using (List.mem_filter.1 hb).2, hs.filter _⟩
  · have h1 : lss a.1 k = true := by simpa using (List.mem_filter.1 ha).2
    rcases List.mem_append.1 hb with h2 | h2
    · rw [List.mem_singleton.1 h2]; exact h1
    · exact lss_trans h1 (by simpa using (List.mem_filter.1 h2).2)
theorem Kys.put {l : List KV} {k v : List Int} (hs : Srt l) (hl : Kys l) (hk : Ky k) (hv : Ky v) : Kys (putL l k v) := by
  rw [putL_eq hs hl hk]
  exact Kys.app (Kys.app (fun q hq => hl q (List.mem_filter.1 hq).1) (fun q hq => by rw [List.mem_singleton.1 hq]; exact ⟨hk, hv⟩)) (fun q hq => hl q (List.mem_filter.1 hq).1)
/-- some pairs, put one behind the other -/
def allL (puts : List KV) : List KV := puts.foldl (fun l q => putL l q.1 q.2) []
theorem allL_snoc (puts : List KV) (q : KV) : allL (puts ++ [q]) = putL (allL puts) q.1 q.2 := by unfold allL; rw [List.foldl_append]; rfl
theorem allL_ok : ∀ (puts : List KV), Kys puts → Srt (allL puts) ∧ Kys (allL puts) := by
  suffices ∀ (puts l : List KV), Srt l → Kys l → Kys puts → Srt (puts.foldl (fun l q => putL l q.1 q.2) l) ∧ Kys (puts.foldl (fun l q => putL l q.1 q.2) l) from
    fun puts h => this puts [] List.Pairwise.nil (fun q hq => by simp at hq) h
  intro puts
  induction puts with
  | nil => intro l hs hl _; exact ⟨hs, hl⟩
  | cons q puts ih =>
    intro l hs hl hp
    obtain ⟨h1, h2⟩ := hp q (by simp)
    exact ih _ (hs.put hl h1) (hl.put hs h1 h2) (fun x hx => hp x (List.mem_cons_of_mem _ hx))

/-! What a list tells of a key. -/
def getL (l : List KV) (k : List Int) : Option (List Int) := (l.find? (fun q => q.1 = k)).map (·.2)
theorem getL_app (a b : List KV) (k : List Int) : getL (a ++ b) k = (getL a k).or (getL b k) := by
  unfold getL
  rw [List.find?_append]
  cases List.find? (fun q => decide (q.1 = k)) a <;> rfl
theorem getL_none {l : List KV} {k : List Int} (h : ∀ q ∈ l, q.1 ≠ k) : getL l k = none := by
  unfold getL
  rw [List.find?_eq_none.2 (fun q hq => by simpa using h q hq)]
  rfl
theorem getL_lo {l : List KV} {k k' : List Int} (h : lss k' k = true) : getL (lo l k) k' = getL l k' := by
  unfold getL lo
  rw [List.find?_filter]
  congr 1
  induction l with
  | nil => rfl
  | cons q l ih =>
    rw [List.find?_cons, List.find?_cons, ih]
    by_cases hq : q.1 = k'
    · simp [hq, h]
    · simp [hq]
theorem getL_hi {l : List KV} {k k' : List Int} (h : lss k k' = true) : getL (hi l k) k' = getL l k' := by
  unfold getL hi
  rw [List.find?_filter]
  congr 1
  induction l with
  | nil => rfl
  | cons q l ih =>
    rw [List.find?_cons, List.find?_cons, ih]
    by_cases hq : q.1 = k'
    · simp [hq, h]
    · simp [hq]
theorem getL_put {l : List KV} {k v k' : List Int} (hs : Srt l) (hl : Kys l) (hk : Ky k) (hk' : Ky k') : getL (putL l k v) k' = if k' = k then some v else getL l k' := by
  rw [putL_eq hs hl hk, getL_app, getL_app]
  have one : getL [(k, v)] k' = if k' = k then some v else none := by
    unfold getL
    by_cases h : k' = k
    · simp [h]
    · rw [if_neg h, List.find?_eq_none.2 (fun q hq => by rw [List.mem_singleton.1 hq]; simpa using fun e => h e.symm)]; rfl
  rw [one]
  have fl : ∀ {q : KV}, q ∈ lo l k → lss q.1 k = true := fun hq => by simpa using (List.mem_filter.1 hq).2
  have fh : ∀ {q : KV}, q ∈ hi l k → lss k q.1 = true := fun hq => by simpa using (List.mem_filter.1 hq).2
  by_cases h : k' = k
  · rw [if_pos h, if_pos h, h, getL_none (fun q hq e => by
      have := fl hq
      rw [e, lss_self] at this; cases this)]
    rfl
  · rw [if_neg h, if_neg h]
    cases hlt : lss k' k with
    | true =>
      rw [getL_lo hlt, getL_none (l := hi l k) (fun q hq e => by
        have := fh hq
        rw [e, lss_asym hlt] at this; cases this)]
      cases getL l k' <;> rfl
    | false =>
      have hgt := lss_total hk' hk h hlt
      rw [getL_none (l := lo l k) (fun q hq e => by
        have := fl hq
        rw [e, hlt] at this; cases this), getL_hi hgt]
      cases getL l k' <;> rfl
theorem getL_mem {l : List KV} (hs : Srt l) {q : KV} (hq : q ∈ l) : getL l q.1 = some q.2 := by
  induction l with
  | nil => simp at hq
  | cons x l ih =>
    have hs' := List.pairwise_cons.1 hs
    rcases List.mem_cons.1 hq with h | h
    · unfold getL; rw [h]; simp
    · have hne : x.1 ≠ q.1 := fun e => by
        have := hs'.1 q h
        rw [e, lss_self] at this; cases this
      have := ih hs'.2 h
      unfold getL at this ⊢
      rw [List.find?_cons_of_neg (by simpa using hne)]
      exact this
/-- a list that rises is what it tells of all keys -/
theorem srt_ext : ∀ {a b : List KV}, Srt a → Srt b → Kys a → Kys b → (∀ k, Ky k → getL a k = getL b k) → a = b
  | [], [], _, _, _, _, _ => rfl
  | [], y :: b, _, hb, _, kb, h => by
    have := h y.1 (kb y (by simp)).1
    rw [getL_mem hb (q := y) (by simp)] at this
    cases this
  | x :: a, [], ha, _, ka, _, h => by
    have := h x.1 (ka x (by simp)).1
    rw [getL_mem ha (q := x) (by simp)] at this
    cases this
  | x :: a, y :: b, ha, hb, ka, kb, h => by
    have ha' := List.pairwise_cons.1 ha
    have hb' := List.pairwise_cons.1 hb
    have kx := (ka x (by simp)).1
    have ky := (kb y (by simp)).1
    -- nothing is less than a list's head
    have below : ∀ {z : KV} {l : List KV} {k : List Int}, Srt (z :: l) → lss k z.1 = true → getL (z :: l) k = none := fun {z l k} hs hk => getL_none (fun q hq e => by
      rcases List.mem_cons.1 hq with h1 | h1
      · rw [← e, h1, lss_self] at hk; cases hk
      · have := lss_asym ((List.pairwise_cons.1 hs).1 q h1)
        rw [e, hk] at this; cases this)
    have hxy : x.1 = y.1 := by
      refine Decidable.byContradiction fun hne => ?_
      cases hlt : lss x.1 y.1 with
      | true =>
        have := h x.1 kx
        rw [getL_mem ha (q := x) (by simp), below hb hlt] at this
        cases this
      | false =>
        have hgt := lss_total kx ky hne hlt
        have := h y.1 ky
        rw [getL_mem hb (q := y) (by simp), below ha hgt] at this
        cases this
    have hv : x.2 = y.2 := by
      have := h x.1 kx
      rw [getL_mem ha (q := x) (by simp), hxy, getL_mem hb (q := y) (by simp)] at this
      injection this
    have e : x = y := Prod.ext hxy hv
    have htail : ∀ {z : KV} {l : List KV}, Srt (z :: l) → ∀ k, getL l k = if k = z.1 then none else getL (z :: l) k := fun {z l} hs k => by
      by_cases hk : k = z.1
      · rw [if_pos hk]
        refine getL_none (fun q hq e => ?_)
        have := (List.pairwise_cons.1 hs).1 q hq
        rw [e, hk, lss_self] at this; cases this
      · rw [if_neg hk]
        unfold getL
        rw [List.find?_cons_of_neg (by simpa using fun e => hk e.symm)]
    rw [e, srt_ext ha'.2 hb'.2 (fun q hq => ka q (List.mem_cons_of_mem _ hq)) (fun q hq => kb q (List.mem_cons_of_mem _ hq)) (fun k hk => by rw [htail ha k, htail hb k, e, ← e, h k hk, e])]
theorem rev_ind {P : List KV → Prop} (h0 : P []) (h1 : ∀ l q, P l → P (l ++ [q])) (l : List KV) : P l := by
  have : ∀ n (l : List KV), l.length = n → P l := fun n => by
    induction n with
    | zero => intro l hl; rw [List.length_eq_zero_iff.1 hl]; exact h0
    | succ n ih =>
      intro l hl
      have hne : l ≠ [] := fun e => by rw [e] at hl; simp at hl
      rw [← List.dropLast_concat_getLast hne]
      exact h1 _ _ (ih _ (by rw [List.length_dropLast]; omega))
  exact this _ l rfl
/-- the last one put of a key -/
def lastP (puts : List KV) (k : List Int) : Option (List Int) := getL puts.reverse k
theorem getL_all (puts : List KV) : Kys puts → ∀ k, Ky k → getL (allL puts) k = lastP puts k := by
  refine rev_ind (P := fun puts => Kys puts → ∀ k, Ky k → getL (allL puts) k = lastP puts k) (fun _ k _ => rfl) (fun l q ih hp k hk => ?_) puts
  · skip
    obtain ⟨h1, h2⟩ := allL_ok l (fun x hx => hp x (List.mem_append_left _ hx))
    have hq := hp q (by simp)
    rw [allL_snoc, getL_put h1 h2 hq.1 hk, ih (fun x hx => hp x (List.mem_append_left _ hx)) k hk]
    unfold lastP
    rw [List.reverse_append, List.reverse_singleton, List.singleton_append]
    by_cases hkq : k = q.1
    · rw [if_pos hkq]; unfold getL; simp [hkq]
    · rw [if_neg hkq]
      unfold getL
      rw [List.find?_cons_of_neg (by simpa using fun e => hkq e.symm)]
/-- put once more, behind whatever of the same keys: the same -/
theorem allL_over {a b : List KV} (ha : Kys a) (hb : Kys b) (h : ∀ q ∈ a, ∃ p ∈ b, p.1 = q.1) : allL (a ++ b) = allL b := by
  obtain ⟨s1, k1⟩ := allL_ok (a ++ b) (ha.app hb)
  obtain ⟨s2, k2⟩ := allL_ok b hb
  refine srt_ext s1 s2 k1 k2 (fun k hk => ?_)
  rw [getL_all _ (ha.app hb) k hk, getL_all _ hb k hk]
  unfold lastP
  rw [List.reverse_append, getL_app]
  cases hx : getL b.reverse k with
  | some v => rfl
  | none =>
    rw [Option.none_or]
    refine getL_none (fun q hq e => ?_)
    obtain ⟨p, hp, e2⟩ := h q (List.mem_reverse.1 hq)
    unfold getL at hx
    rw [Option.map_eq_none_iff, List.find?_eq_none] at hx
    have := hx p (List.mem_reverse.2 hp)
    simp at this
    exact this (e2.trans e)
end Go.Proofs.YtjhaamffgkialaaGreatDoor
/-
  What this file is for: trees of keys and values: the list, the hash, the document's root of the list; a key put, and looked for. Nothing of the program is walked here.
-/
namespace Go.Proofs.YtjhaamffgkialaaGreatDoor
open Go.ChangeShapes Go.RowKit
set_option linter.unusedVariables false

/-- a tree: a leaf; an inner node with its prefix (length and bits) -/
inductive Tr where
  | leaf (k v : List Int)
  | inner (n : Nat) (b : List Int) (l r : Tr)
def Tr.list : Tr → List KV
  | .leaf k v => [(k, v)]
  | .inner _ _ l r => l.list ++ r.list
/-- as the document has it: all keys of an inner node have its prefix, then a 0, or a 1 -/
def Tr.ok : Tr → Prop
  | .leaf k v => Ky k ∧ Ky v
  | .inner n b l r => l.ok ∧ r.ok ∧ n < 256 ∧ (∀ q ∈ l.list, cut q.1 n = b ∧ bit q.1 n = 0) ∧ (∀ q ∈ r.list, cut q.1 n = b ∧ bit q.1 n = 1)
theorem Tr.pos (t : Tr) : 0 < t.list.length := by
  induction t with
  | leaf k v => simp [Tr.list]
  | inner n b l r hl hr => simp only [Tr.list, List.length_append]; omega
theorem Tr.one (t : Tr) : ∃ q, q ∈ t.list := by
  have := t.pos
  cases h : t.list with
  | nil => rw [h] at this; simp at this
  | cons q l => exact ⟨q, by simp⟩
theorem Tr.srt : ∀ {t : Tr}, t.ok → Srt t.list ∧ Kys t.list
  | .leaf k v, h => ⟨List.pairwise_singleton .., fun q hq => by rw [List.mem_singleton.1 hq]; exact h⟩
  | .inner n b l r, h => by
    obtain ⟨h1, h2, h3, h4, h5⟩ := h
    obtain ⟨s1, k1⟩ := Tr.srt h1
    obtain ⟨s2, k2⟩ := Tr.srt h2
    refine ⟨?_, k1.app k2⟩
    show List.Pairwise _ (l.list ++ r.list)
    rw [List.pairwise_append]
    exact ⟨s1, s2, fun x hx y hy => (lss_bits h3 ((h4 x hx).1.trans (h5 y hy).1.symm) (h4 x hx).2 (h5 y hy).2).1⟩

/-! The document's root, over hashes of whatever kind. -/
/-- how many first bits the first and the last key share; those bits -/
def ovN (l : List KV) : Nat := shr (l.head?.getD ([], [])).1 (l.getLast?.getD ([], [])).1
def ovB (l : List KV) : List Int := cut (l.head?.getD ([], [])).1 (ovN l)
/-- how many first keys have a 0 there -/
def prt (l : List KV) (n : Nat) : Nat := (l.takeWhile (fun q => decide (bit q.1 n = 0))).length
section
variable (E : List Int) (hL : List Int → List Int → List Int) (hI : Nat → List Int → List Int → List Int → List Int)
def rootF : Nat → List KV → List Int
  | 0, _ => E
  | _ + 1, [] => E
  | _ + 1, [q] => hL q.1 q.2
  | f + 1, q :: p :: l => hI (ovN (q :: p :: l)) (ovB (q :: p :: l)) (rootF f ((q :: p :: l).take (prt (q :: p :: l) (ovN (q :: p :: l))))) (rootF f ((q :: p :: l).drop (prt (q :: p :: l) (ovN (q :: p :: l)))))
theorem root_two {f : Nat} {l : List KV} (h : 2 ≤ l.length) : rootF E hL hI (f + 1) l = hI (ovN l) (ovB l) (rootF E hL hI f (l.take (prt l (ovN l)))) (rootF E hL hI f (l.drop (prt l (ovN l)))) := by
  match l, h with
  | q :: p :: l, _ => rfl
def Tr.hash : Tr → List Int
  | .leaf k v => hL k v
  | .inner n b l r => hI n b (l.hash) (r.hash)
/-- an inner node's list, as the document parts it -/
theorem inner_parts {n : Nat} {b : List Int} {l r : Tr} (h : (Tr.inner n b l r).ok) : ovN (Tr.inner n b l r).list = n ∧ ovB (Tr.inner n b l r).list = b ∧ prt (Tr.inner n b l r).list n = l.list.length := by
  obtain ⟨h1, h2, h3, h4, h5⟩ := h
  have hl := l.pos
  have hr := r.pos
  obtain ⟨x, A, hx⟩ : ∃ x A, l.list = x :: A := by
    cases h : l.list with
    | nil => rw [h] at hl; simp at hl
    | cons q l => exact ⟨q, l, rfl⟩
  obtain ⟨y, B, hy⟩ : ∃ y B, r.list = y :: B := by
    cases h : r.list with
    | nil => rw [h] at hr; simp at hr
    | cons q l => exact ⟨q, l, rfl⟩
  have hne : r.list ≠ [] := by rw [hy]; simp
  have hlast : (Tr.inner n b l r).list.getLast?.getD ([], []) = r.list.getLast hne := by
    show (l.list ++ r.list).getLast?.getD _ = _
    rw [List.getLast?_append, List.getLast?_eq_some_getLast hne]
    rfl
  have hfirst : (Tr.inner n b l r).list.head?.getD ([], []) = x := by
    show (l.list ++ r.list).head?.getD _ = _
    rw [hx]; rfl
  have hx1 := h4 x (by rw [hx]; simp)
  have hz1 := h5 _ (List.getLast_mem hne)
  have hov : ovN (Tr.inner n b l r).list = n := by
    unfold ovN
    rw [hfirst, hlast]
    exact (lss_bits h3 (hx1.1.trans hz1.1.symm) hx1.2 hz1.2).2
  refine ⟨hov, ?_, ?_⟩
  · unfold ovB
    rw [hov, hfirst]
    exact hx1.1
  · unfold prt
    show ((l.list ++ r.list).takeWhile _).length = _
    rw [List.takeWhile_append_of_pos (fun q hq => by simpa using (h4 q hq).2), hy, List.takeWhile_cons_of_neg (by have := (h5 y (by rw [hy]; simp)).2; simp [this])]
    simp
theorem root_tree : ∀ (t : Tr), t.ok → ∀ f, t.list.length ≤ f → rootF E hL hI f t.list = t.hash hL hI
  | .leaf k v, _, f, hf => by
    cases f with
    | zero => simp [Tr.list] at hf
    | succ f => rfl
  | .inner n b l r, h, f, hf => by
    obtain ⟨e1, e2, e3⟩ := inner_parts h
    have hl := l.pos
    have hr := r.pos
    have hlen : (Tr.inner n b l r).list.length = l.list.length + r.list.length := by show (l.list ++ r.list).length = _; rw [List.length_append]
    cases f with
    | zero => omega
    | succ f =>
      rw [root_two E hL hI (by omega), e1, e2, e3]
      have et : (Tr.inner n b l r).list.take l.list.length = l.list := by show (l.list ++ r.list).take _ = _; exact List.take_left' rfl
      have ed : (Tr.inner n b l r).list.drop l.list.length = r.list := by show (l.list ++ r.list).drop _ = _; exact List.drop_left' rfl
      rw [et, ed, root_tree l h.1 f (by omega), root_tree r h.2.1 f (by omega)]
      rfl
end

/-! A key put into a tree. -/
/-- two side by side, their keys parted behind the first m bits -/
def joinT (k v : List Int) (t : Tr) (m : Nat) : Tr := if bit k m = 0 then .inner m (cut k m) (.leaf k v) t else .inner m (cut k m) t (.leaf k v)
def Tr.put : Tr → List Int → List Int → Tr
  | .leaf k' v', k, v => if k' = k then .leaf k v else joinT k v (.leaf k' v') (shr k k')
  | .inner n b l r, k, v => if cut k n = b then (if bit k n = 0 then .inner n b (l.put k v) r else .inner n b l (r.put k v)) else joinT k v (.inner n b l r) (shr k b)
/-- where a key parts from all of a tree's -/
def Apart (t : Tr) (k : List Int) (m : Nat) : Prop := m < 256 ∧ ∀ q ∈ t.list, cut q.1 m = cut k m ∧ bit q.1 m ≠ bit k m
theorem lo_none {l : List KV} {k : List Int} (h : ∀ q ∈ l, lss k q.1 = true) : lo l k = [] ∧ hi l k = l := by
  constructor
  · unfold lo
    rw [List.filter_eq_nil_iff]
    intro q hq
    rw [lss_asym (h q hq)]; simp
  · exact List.filter_eq_self.2 (fun q hq => by simpa using h q hq)
theorem lo_full {l : List KV} {k : List Int} (h : ∀ q ∈ l, lss q.1 k = true) : lo l k = l ∧ hi l k = [] := by
  constructor
  · exact List.filter_eq_self.2 (fun q hq => by simpa using h q hq)
  · unfold hi
    rw [List.filter_eq_nil_iff]
    intro q hq
    rw [lss_asym (h q hq)]; simp
theorem joinOk {t : Tr} {k v : List Int} {m : Nat} (ht : t.ok) (hk : Ky k) (hv : Ky v) (h : Apart t k m) : (joinT k v t m).ok ∧ (joinT k v t m).list = lo t.list k ++ [(k, v)] ++ hi t.list k := by
  obtain ⟨hm, hq⟩ := h
  unfold joinT
  by_cases hb : bit k m = 0
  · rw [if_pos hb]
    have h1 : ∀ q ∈ t.list, bit q.1 m = 1 := fun q hq' => by have := (hq q hq').2; have := bit01 q.1 m; omega
    have hl := lo_none (l := t.list) (k := k) (fun q hq' => (lss_bits hm (hq q hq').1.symm hb (h1 q hq')).1)
    refine ⟨⟨⟨hk, hv⟩, ht, hm, fun q hq' => ?_, fun q hq' => ⟨(hq q hq').1, h1 q hq'⟩⟩, ?_⟩
    · rw [List.mem_singleton.1 hq']; exact ⟨rfl, hb⟩
    · rw [hl.1, hl.2]; rfl
  · rw [if_neg hb]
    have hb1 : bit k m = 1 := by have := bit01 k m; omega
    have h1 : ∀ q ∈ t.list, bit q.1 m = 0 := fun q hq' => by have := (hq q hq').2; have := bit01 q.1 m; omega
    have hl := lo_full (l := t.list) (k := k) (fun q hq' => (lss_bits hm (hq q hq').1 (h1 q hq') hb1).1)
    refine ⟨⟨ht, ⟨hk, hv⟩, hm, fun q hq' => ⟨(hq q hq').1, h1 q hq'⟩, fun q hq' => ?_⟩, ?_⟩
    · rw [List.mem_singleton.1 hq']; exact ⟨rfl, hb1⟩
    · rw [hl.1, hl.2, List.append_nil]; rfl
theorem apart_leaf {k k' v' : List Int} (hk : Ky k) (hk' : Ky k') (h : k' ≠ k) : Apart (.leaf k' v') k (shr k k') := by
  have g := shr_is k k'
  have hlt : shr k k' < 256 := by
    have := g.le
    rcases Nat.lt_or_ge (shr k k') 256 with h1 | h1
    · exact h1
    · exact (h ((shr_eq_256 hk hk').1 (by omega)).symm).elim
  refine ⟨hlt, fun q hq => ?_⟩
  rw [List.mem_singleton.1 hq]
  exact ⟨(le_shr_iff (by omega)).1 (by rw [shr_comm]; exact Nat.le_refl _), fun e => g.diff hlt e.symm⟩
theorem apart_inner {n : Nat} {b : List Int} {l r : Tr} {k : List Int} (h : (Tr.inner n b l r).ok) (hc : cut k n ≠ b) : Apart (.inner n b l r) k (shr k b) ∧ shr k b < n := by
  obtain ⟨h1, h2, h3, h4, h5⟩ := h
  have hall : ∀ q ∈ (Tr.inner n b l r).list, cut q.1 n = b := fun q hq => by
    rcases List.mem_append.1 (show q ∈ l.list ++ r.list from hq) with h | h
    · exact (h4 q h).1
    · exact (h5 q h).1
  obtain ⟨x, hx⟩ := l.one
  have hb : cut b n = b := by rw [← (h4 x hx).1, cut_cut, Nat.min_self]
  have hlt : shr k b < n := by
    rcases Nat.lt_or_ge (shr k b) n with h | h
    · exact h
    · exact (hc (((le_shr_iff (by omega)).1 h).trans hb)).elim
  have g := shr_is k b
  refine ⟨⟨by omega, fun q hq => ?_⟩, hlt⟩
  have hqb : cut q.1 n = cut b n := (hall q hq).trans hb.symm
  have hbits := cut_eq_iff.1 hqb
  refine ⟨cut_eq (fun i hi him => (hbits i hi (by omega)).trans (g.same i him).symm), fun e => ?_⟩
  exact g.diff (by omega) (by rw [← e]; exact hbits _ (by omega) hlt)
theorem Tr.put_ok : ∀ {t : Tr} {k v : List Int}, t.ok → Ky k → Ky v → (t.put k v).ok ∧ (t.put k v).list = lo t.list k ++ [(k, v)] ++ hi t.list k
  | .leaf k' v', k, v, h, hk, hv => by
    unfold Tr.put
    by_cases e : k' = k
    · rw [if_pos e]
      subst e
      refine ⟨⟨hk, hv⟩, ?_⟩
      simp [Tr.list, lo, hi, lss_self]
    · rw [if_neg e]
      exact joinOk h hk hv (apart_leaf hk h.1 e)
  | .inner n b l r, k, v, h, hk, hv => by
    unfold Tr.put
    by_cases hc : cut k n = b
    · rw [if_pos hc]
      obtain ⟨h1, h2, h3, h4, h5⟩ := h
      by_cases hb : bit k n = 0
      · rw [if_pos hb]
        obtain ⟨p1, p2⟩ := Tr.put_ok (k := k) (v := v) h1 hk hv
        have hr := lo_none (l := r.list) (k := k) (fun q hq => (lss_bits h3 (hc.trans (h5 q hq).1.symm) hb (h5 q hq).2).1)
        refine ⟨⟨p1, h2, h3, fun q hq => ?_, h5⟩, ?_⟩
        · rw [p2] at hq
          rcases List.mem_append.1 hq with h | h
          · rcases List.mem_append.1 h with h | h
            · exact h4 q (List.mem_filter.1 h).1
            · rw [List.mem_singleton.1 h]; exact ⟨hc, hb⟩
          · exact h4 q (List.mem_filter.1 h).1
        · show (l.put k v).list ++ r.list = lo (l.list ++ r.list) k ++ [(k, v)] ++ hi (l.list ++ r.list) k
          rw [p2, lo_app, hi_app, hr.1, hr.2, List.append_nil]; simp only [List.append_assoc]
      · rw [if_neg hb]
        have hb1 : bit k n = 1 := by have := bit01 k n; omega
        obtain ⟨p1, p2⟩ := Tr.put_ok (k := k) (v := v) h2 hk hv
        have hl := lo_full (l := l.list) (k := k) (fun q hq => (lss_bits h3 ((h4 q hq).1.trans hc.symm) (h4 q hq).2 hb1).1)
        refine ⟨⟨h1, p1, h3, h4, fun q hq => ?_⟩, ?_⟩
        · rw [p2] at hq
          rcases List.mem_append.1 hq with h | h
          · rcases List.mem_append.1 h with h | h
            · exact h5 q (List.mem_filter.1 h).1
            · rw [List.mem_singleton.1 h]; exact ⟨hc, hb1⟩
          · exact h5 q (List.mem_filter.1 h).1
        · show l.list ++ (r.put k v).list = lo (l.list ++ r.list) k ++ [(k, v)] ++ hi (l.list ++ r.list) k
          rw [p2, lo_app, hi_app, hl.1, hl.2]; simp only [List.append_assoc, List.nil_append]
    · rw [if_neg hc]
      exact joinOk h hk hv (apart_inner h hc).1
/-- the tree has what the list has -/
theorem Tr.put_list {t : Tr} {k v : List Int} (h : t.ok) (hk : Ky k) (hv : Ky v) : (t.put k v).list = putL t.list k v := by
  rw [(Tr.put_ok h hk hv).2, putL_eq (Tr.srt h).1 (Tr.srt h).2 hk]
/-- a key looked for -/
def Tr.get : Tr → List Int → Option (List Int)
  | .leaf k' v, k => if k' = k then some v else none
  | .inner n b l r, k => if bit k n = 0 then l.get k else r.get k
theorem Tr.get_list : ∀ {t : Tr} {k : List Int}, t.ok → t.get k = getL t.list k
  | .leaf k' v, k, _ => by
    unfold Tr.get getL
    by_cases e : k' = k
    · simp [Tr.list, e]
    · simp [Tr.list, e]
  | .inner n b l r, k, h => by
    obtain ⟨h1, h2, h3, h4, h5⟩ := h
    unfold Tr.get
    show _ = getL (l.list ++ r.list) k
    rw [getL_app]
    by_cases hb : bit k n = 0
    · rw [if_pos hb, Tr.get_list h1, getL_none (l := r.list) (fun q hq e => by have := (h5 q hq).2; rw [e, hb] at this; cases this)]
      cases getL l.list k <;> rfl
    · rw [if_neg hb, Tr.get_list h2, getL_none (l := l.list) (fun q hq e => hb (by rw [← e]; exact (h4 q hq).2))]
      rfl
/-- what isn't held by the prefix isn't there -/
theorem Tr.get_none {n : Nat} {b : List Int} {l r : Tr} {k : List Int} (h : (Tr.inner n b l r).ok) (hc : cut k n ≠ b) : getL (Tr.inner n b l r).list k = none := getL_none fun q hq e => by
  rcases List.mem_append.1 (show q ∈ l.list ++ r.list from hq) with h9 | h9
  · exact hc (by rw [← e]; exact (h.2.2.2.1 q h9).1)
  · exact hc (by rw [← e]; exact (h.2.2.2.2 q h9).1)
/-- each list that rises is a tree's -/
theorem tree_of : ∀ {l : List KV}, Srt l → Kys l → l ≠ [] → ∃ t : Tr, t.ok ∧ t.list = l
  | [], _, _, h => (h rfl).elim
  | [q], _, hk, _ => ⟨.leaf q.1 q.2, hk q (by simp), rfl⟩
  | q :: p :: l, hs, hk, _ => by
    have hs' := List.pairwise_cons.1 hs
    obtain ⟨t, h1, h2⟩ := tree_of (l := p :: l) hs'.2 (fun x hx => hk x (List.mem_cons_of_mem _ hx)) (by simp)
    have hq := hk q (by simp)
    obtain ⟨p1, p2⟩ := Tr.put_ok (k := q.1) (v := q.2) h1 hq.1 hq.2
    refine ⟨_, p1, ?_⟩
    have hn := lo_none (l := p :: l) (k := q.1) hs'.1
    rw [p2, h2, hn.1, hn.2]
    rfl
/-- one tree alone has a list -/
theorem tree_eq : ∀ {t u : Tr}, t.ok → u.ok → t.list = u.list → t = u
  | .leaf k v, .leaf k' v', _, _, h => by
    injection h with h
    injection h with h1 h2
    rw [h1, h2]
  | .leaf k v, .inner n b l r, _, _, h => by
    have := congrArg List.length h
    have h1 := l.pos; have h2 := r.pos
    simp only [Tr.list, List.length_append, List.length_singleton] at this
    omega
  | .inner n b l r, .leaf k v, _, _, h => by
    have := congrArg List.length h
    have h1 := l.pos; have h2 := r.pos
    simp only [Tr.list, List.length_append, List.length_singleton] at this
    omega
  | .inner n b l r, .inner n' b' l' r', ht, hu, h => by
    obtain ⟨e1, e2, e3⟩ := inner_parts ht
    obtain ⟨f1, f2, f3⟩ := inner_parts hu
    rw [h, f1] at e1
    rw [h, f2] at e2
    subst e1
    rw [h, f3] at e3
    subst e2
    have h' : l.list ++ r.list = l'.list ++ r'.list := h
    have hl := List.append_inj h' e3.symm
    rw [tree_eq ht.1 hu.1 hl.1, tree_eq ht.2.1 hu.2.1 hl.2]
end Go.Proofs.YtjhaamffgkialaaGreatDoor
/-
  What this file is for: trees whose nodes lie in a list, by numbers; which prefixes hold all keys of a tree. Nothing of the program is walked here.
-/
namespace Go.Proofs.YtjhaamffgkialaaGreatDoor
open Go.ChangeShapes Go.RowKit
set_option linter.unusedVariables false

/-- a tree's prefix: of a leaf the whole key -/
def Tr.pre : Tr → Nat × List Int
  | .leaf k _ => (256, k)
  | .inner n b _ _ => (n, b)
/-- a prefix holds all keys of a tree just if it holds the tree's own prefix -/
theorem held_iff {t : Tr} (h : t.ok) {m : Nat} {c : List Int} (hm : m ≤ 256) : (∀ q ∈ t.list, cut q.1 m = c) ↔ (m ≤ t.pre.1 ∧ cut t.pre.2 m = c) := by
  cases t with
  | leaf k v =>
    refine ⟨fun g => ⟨hm, g (k, v) (by simp [Tr.list])⟩, fun g q hq => ?_⟩
    rw [List.mem_singleton.1 hq]
    exact g.2
  | inner n b l r =>
    obtain ⟨h1, h2, h3, h4, h5⟩ := h
    refine ⟨fun g => ?_, fun g q hq => ?_⟩
    · obtain ⟨x, hx⟩ := l.one
      obtain ⟨y, hy⟩ := r.one
      have gx := g x (List.mem_append_left _ hx)
      have gy := g y (List.mem_append_right _ hy)
      have hs := (lss_bits h3 ((h4 x hx).1.trans (h5 y hy).1.symm) (h4 x hx).2 (h5 y hy).2).2
      have hle : m ≤ n := by
        have := (le_shr_iff (K := x.1) (L := y.1) hm).2 (gx.trans gy.symm)
        omega
      refine ⟨hle, ?_⟩
      show cut b m = c
      rw [← (h4 x hx).1, cut_cut, Nat.min_eq_right hle]
      exact gx
    · obtain ⟨hle, hb⟩ := g
      have hc : cut q.1 n = b := by
        rcases List.mem_append.1 (show q ∈ l.list ++ r.list from hq) with h | h
        · exact (h4 q h).1
        · exact (h5 q h).1
      have hb' : cut b m = c := hb
      have hle' : m ≤ n := hle
      rw [← hb', ← hc, cut_cut, Nat.min_eq_right hle']
/-- an inner node over two trees, as Add wants it: the prefix's children hold the trees' own prefixes -/
theorem inner_ok_iff {l r : Tr} {n : Nat} {b : List Int} (hl : l.ok) (hr : r.ok) (hn : n < 256) : (Tr.inner n b l r).ok ↔ (∀ q ∈ l.list, cut q.1 n = b ∧ bit q.1 n = 0) ∧ (∀ q ∈ r.list, cut q.1 n = b ∧ bit q.1 n = 1) :=
  ⟨fun h => h.2.2.2, fun h => ⟨hl, hr, hn, h⟩⟩
/-- the first n + 1 bits: those of a prefix, and one more -/
theorem cut_succ {K b : List Int} {n : Nat} (hn : n < 256) (hb : cut b n = b) (hbk : Ky b) (x : Int) (hx : x = 0 ∨ x = 1) : (cut K n = b ∧ bit K n = x) ↔ cut K (n + 1) = (if x = 1 then setb b n else b) := by
  have hbits : ∀ i, i < 256 → n ≤ i → bit b i = 0 := fun i hi hni => by
    rw [← hb, bit_cut b n i hi, if_neg (by omega)]
  have hc : Ky (if x = 1 then setb b n else b) := by split; exact setb_ky _ _; exact hbk
  have hval : ∀ i, i < 256 → bit (if x = 1 then setb b n else b) i = if i = n then x else bit b i := fun i hi => by
    rcases hx with h | h
    · rw [if_neg (by rw [h]; decide)]
      by_cases hin : i = n
      · rw [if_pos hin, h]; exact hbits i hi (by omega)
      · rw [if_neg hin]
    · rw [if_pos h, bit_setb b n i hi]
      by_cases hin : i = n
      · rw [if_pos hin, if_pos hin, h]
      · rw [if_neg hin, if_neg hin]
  rw [cut_is_iff hc, cut_is_iff hbk]
  refine ⟨fun h i hi => ?_, fun h => ⟨fun i hi => ?_, ?_⟩⟩
  · rw [hval i hi]
    by_cases hin : i = n
    · rw [if_pos hin, if_pos (by omega), hin]; exact h.2.symm
    · rw [if_neg hin, h.1 i hi]
      by_cases hlt : i < n
      · rw [if_pos hlt, if_pos (by omega)]
      · rw [if_neg hlt, if_neg (by omega)]
  · by_cases hlt : i < n
    · have := h i hi
      rw [hval i hi, if_neg (by omega), if_pos (by omega)] at this
      rw [if_pos hlt]; exact this
    · rw [if_neg hlt]; exact hbits i hi (by omega)
  · have := h n hn
    rw [hval n hn, if_pos rfl, if_pos (by omega)] at this
    exact this.symm

/-! Nodes in a list. -/
/-- a node: whether it is a leaf; key and value; prefix; what is left and right of it; its hash -/
structure Nd where
  leaf : Bool
  k : List Int
  v : List Int
  n : Int
  b : List Int
  l : Int
  r : Int
  h : List Int
def z32 : List Int := List.replicate 32 0
def ndL (k v h : List Int) : Nd := ⟨true, k, v, 0, z32, -1, -1, h⟩
def ndI (n : Nat) (b : List Int) (l r : Nat) (h : List Int) : Nd := ⟨false, z32, z32, n, b, l, r, h⟩
section
variable (hL : List Int → List Int → List Int) (hI : Nat → List Int → List Int → List Int → List Int)
/-- the tree at a number -/
def Rep (N : List Nd) : Nat → Tr → Prop
  | i, .leaf k v => N[i]? = some (ndL k v (hL k v))
  | i, .inner n b l r => ∃ a c, N[i]? = some (ndI n b a c ((Tr.inner n b l r).hash hL hI)) ∧ a < i ∧ c < i ∧ Rep N a l ∧ Rep N c r
theorem Rep.more {N : List Nd} (M : List Nd) : ∀ {i : Nat} {t : Tr}, Rep hL hI N i t → Rep hL hI (N ++ M) i t
  | i, .leaf k v, h => by
    have h' : N[i]? = some (ndL k v (hL k v)) := h
    show (N ++ M)[i]? = _
    rw [List.getElem?_append_left (by
      rcases Nat.lt_or_ge i N.length with h9 | h9
      · exact h9
      · rw [List.getElem?_eq_none h9] at h'; cases h')]
    exact h'
  | i, .inner n b l r, ⟨a, c, h, h1, h2, h3, h4⟩ => by
    refine ⟨a, c, ?_, h1, h2, Rep.more M h3, Rep.more M h4⟩
    rw [List.getElem?_append_left (by
      rcases Nat.lt_or_ge i N.length with h9 | h9
      · exact h9
      · rw [List.getElem?_eq_none h9] at h; cases h)]
    exact h
theorem Rep.lt {N : List Nd} {i : Nat} {t : Tr} (h : Rep hL hI N i t) : i < N.length := by
  rcases Nat.lt_or_ge i N.length with h9 | h9
  · exact h9
  · exfalso
    cases t with
    | leaf k v =>
      have h' : N[i]? = some (ndL k v (hL k v)) := h
      rw [List.getElem?_eq_none h9] at h'; cases h'
    | inner n b l r =>
      obtain ⟨a, c, h, _⟩ := h
      rw [List.getElem?_eq_none h9] at h; cases h
/-- all nodes are trees' -/
def FrOk (N : List Nd) : Prop := ∀ i, i < N.length → ∃ t : Tr, t.ok ∧ Rep hL hI N i t
theorem FrOk.nil : FrOk hL hI [] := fun i hi => by simp at hi
theorem FrOk.leaf {N : List Nd} (h : FrOk hL hI N) {k v : List Int} (hk : Ky k) (hv : Ky v) : FrOk hL hI (N ++ [ndL k v (hL k v)]) ∧ Rep hL hI (N ++ [ndL k v (hL k v)]) N.length (.leaf k v) := by
  have hr : Rep hL hI (N ++ [ndL k v (hL k v)]) N.length (.leaf k v) := by
    show (N ++ _)[N.length]? = _
    rw [List.getElem?_append_right (Nat.le_refl _), Nat.sub_self]
    rfl
  refine ⟨fun i hi => ?_, hr⟩
  rw [List.length_append, List.length_singleton] at hi
  by_cases hlt : i < N.length
  · obtain ⟨t, h1, h2⟩ := h i hlt
    exact ⟨t, h1, h2.more hL hI _⟩
  · obtain rfl : i = N.length := by omega
    exact ⟨.leaf k v, ⟨hk, hv⟩, hr⟩
theorem FrOk.inner {N : List Nd} (h : FrOk hL hI N) {n : Nat} {b : List Int} {a c : Nat} {l r : Tr} (hl : Rep hL hI N a l) (hr : Rep hL hI N c r) (ht : (Tr.inner n b l r).ok) :
    FrOk hL hI (N ++ [ndI n b a c ((Tr.inner n b l r).hash hL hI)]) ∧ Rep hL hI (N ++ [ndI n b a c ((Tr.inner n b l r).hash hL hI)]) N.length (.inner n b l r) := by
  have hrep : Rep hL hI (N ++ [ndI n b a c ((Tr.inner n b l r).hash hL hI)]) N.length (.inner n b l r) := by
    refine ⟨a, c, ?_, hl.lt, hr.lt, hl.more hL hI _, hr.more hL hI _⟩
    rw [List.getElem?_append_right (Nat.le_refl _), Nat.sub_self]
    rfl
  refine ⟨fun i hi => ?_, hrep⟩
  rw [List.length_append, List.length_singleton] at hi
  by_cases hlt : i < N.length
  · obtain ⟨t, h1, h2⟩ := h i hlt
    exact ⟨t, h1, h2.more hL hI _⟩
  · obtain rfl : i = N.length := by omega
    exact ⟨_, ht, hrep⟩
/-- one tree alone stands at a number -/
theorem Rep.same {N : List Nd} : ∀ {i : Nat} {t u : Tr}, Rep hL hI N i t → Rep hL hI N i u → t = u
  | i, .leaf k v, .leaf k' v', h, g => by
    have h' : N[i]? = some (ndL k v (hL k v)) := h
    have g' : N[i]? = some (ndL k' v' (hL k' v')) := g
    rw [h'] at g'
    injection g' with g'
    unfold ndL at g'
    injection g' with _ e1 e2
    rw [e1, e2]
  | i, .leaf k v, .inner n b l r, h, ⟨a, c, g, _⟩ => by
    have h' : N[i]? = some (ndL k v (hL k v)) := h
    rw [h'] at g
    injection g with g
    unfold ndL ndI at g
    injection g with e
    cases e
  | i, .inner n b l r, .leaf k v, ⟨a, c, h, _⟩, g => by
    have g' : N[i]? = some (ndL k v (hL k v)) := g
    rw [h] at g'
    injection g' with g'
    unfold ndL ndI at g'
    injection g' with e
    cases e
  | i, .inner n b l r, .inner n' b' l' r', ⟨a, c, h, _, _, h3, h4⟩, ⟨a', c', g, _, _, g3, g4⟩ => by
    rw [h] at g
    injection g with g
    unfold ndI at g
    injection g with _ _ _ e1 e2 e3 e4
    have e1' : n = n' := by omega
    have e3' : a = a' := by omega
    have e4' : c = c' := by omega
    subst e1' e2 e3' e4'
    rw [Rep.same h3 g3, Rep.same h4 g4]
end
end Go.Proofs.YtjhaamffgkialaaGreatDoor
