/-
  What this file is for: the words of proofs: a step's and a proof's cells, when steps lead to a key, the texts, what is told of them; and that two right ones that don't show the same have texts that clash. Nothing of the program is walked here.
-/
import Derived.Test.YtjhaamffgkialaaGreatDoorMX21
set_option linter.unusedSimpArgs false
set_option linter.unusedVariables false
namespace Go.Proofs.YtjhaamffgkialaaGreatDoor
open Go.ChangeShapes Go.WideShapes Go.ChangeAt Go.RowKit
set_option linter.unusedVariables false
set_option linter.unusedSimpArgs false
set_option maxRecDepth 20000

/-- a step -/
structure QS where
  n : Int
  b : List Int
  o : List Int
structure QS.Ok (s : QS) : Prop where
  b : Ky s.b
  o : Ky s.o
/-- a proof -/
structure QP where
  ss : List QS
  e : Int
  k : List Int
  v : List Int
  n : Int
  b : List Int
  l : List Int
  r : List Int
structure QP.Ok (q : QP) : Prop where
  ss : ∀ s ∈ q.ss, s.Ok
  k : Ky q.k
  v : Ky q.v
  b : Ky q.b
  l : Ky q.l
  r : Ky q.r
def stc (s : QS) : List Value := (.int .i64 s.n :: u8s s.b) ++ u8s s.o
theorem QS.Ok.len {s : QS} (h : s.Ok) : (stc s).length = 65 := by
  unfold stc
  rw [List.length_append, List.length_cons, u8s_length, u8s_length, h.b.len, h.o.len]
theorem stc_one (s : QS) : ∀ v ∈ stc s, v.oneCell' = true := fun v hv => by
  unfold stc at hv
  simp only [List.mem_append, List.mem_cons] at hv
  rcases hv with (rfl | hv) | hv
  · rfl
  · exact u8s_one _ v hv
  · exact u8s_one _ v hv
/-- a proof's cells; V is its list of steps -/
def prc (V : Value) (q : QP) : List Value := V :: .int .i64 q.e :: (u8s q.k ++ (u8s q.v ++ ((.int .i64 q.n :: u8s q.b) ++ (u8s q.l ++ u8s q.r))))
theorem QP.Ok.len {q : QP} (h : q.Ok) (V : Value) : (prc V q).length = 163 := by
  unfold prc
  simp only [List.length_cons, List.length_append, u8s_length, h.k.len, h.v.len, h.b.len, h.l.len, h.r.len]
theorem prc_one (A : Option Addr) (n c : Nat) (q : QP) : ∀ v ∈ prc (.slice A n c) q, v.oneCell' = true := fun v hv => by
  unfold prc at hv
  simp only [List.mem_append, List.mem_cons] at hv
  rcases hv with rfl | rfl | hv | hv | (rfl | hv) | hv | hv
  · rfl
  · rfl
  · exact u8s_one _ v hv
  · exact u8s_one _ v hv
  · rfl
  · exact u8s_one _ v hv
  · exact u8s_one _ v hv
  · exact u8s_one _ v hv

/-! When steps lead to a key. -/
def stepB (key : List Int) (l : Int) (B : List Int) (s : QS) : Bool := wth l B s.n s.b && hld s.n s.b key && decide (s.n ≠ 256)
/-- what the steps behind leave: the child of the last one -/
def leadS (key : List Int) : Int → List Int → List QS → Option (Int × List Int)
  | l, B, [] => some (l, B)
  | l, B, s :: ss => if stepB key l B s = true then leadS key (s.n + 1) (chK s.n s.b (bitI key s.n)) ss else none
def endB (key : List Int) (q : QP) (c : Int × List Int) : Bool :=
  if q.e = 0 then decide (q.ss.length = 0) else if q.e = 1 then hld c.1 c.2 q.k else if q.e = 2 then wth c.1 c.2 q.n q.b && decide (q.n < 256) && !(hld q.n q.b key) else false
def leadB (key : List Int) (q : QP) : Bool := match leadS key 0 zk q.ss with | none => false | some c => endB key q c
theorem bit_ok {key : List Int} {l : Int} {B : List Int} {s : QS} (h : stepB key l B s = true) : chB s.n s.b (bitI key s.n) = true := by
  unfold stepB at h
  rw [Bool.and_eq_true, Bool.and_eq_true, decide_eq_true_eq] at h
  have hf : frm s.n s.b = true := by
    have h1 := h.1.1
    unfold wth at h1
    rw [Bool.and_eq_true, Bool.and_eq_true] at h1
    exact h1.1.1
  have h01 := bitI01 key s.n
  unfold chB
  rw [hf, decide_eq_true h.2]
  rcases h01 with e | e <;> rw [e] <;> rfl
theorem bit_no {key : List Int} {l : Int} {B : List Int} {s : QS} (h1 : wth l B s.n s.b = true) (h2 : hld s.n s.b key = true) (h : stepB key l B s = false) : chB s.n s.b (bitI key s.n) = false := by
  unfold stepB at h
  rw [h1, h2, Bool.true_and, Bool.true_and] at h
  unfold chB
  rw [h, Bool.and_false, Bool.false_and]
theorem chk_ky {l : Int} {B : List Int} {b : Int} (h : Ky B) (hc : chB l B b = true) : Ky (chK l B b) := by
  unfold chK
  by_cases h1 : b = 1
  · rw [if_pos h1]; exact setb_ky _ _
  · rw [if_neg h1]; exact h

/-! Texts. -/
/-- an inner node's, also of a length that has no two bytes -/
def innX (n : Int) (b l r : List Int) : List Int := if 0 ≤ n ∧ n ≤ 65535 then innerT n b l r else textL 110 [[], b, l, r]
def emptyT : List Int := textL 101 []
def endX (q : QP) : List Int := if q.e = 0 then emptyT else if q.e = 1 then leafT q.k q.v else innX q.n q.b q.l q.r
def stepX (key : List Int) (s : QS) (x : List Int) : List Int := if bitI key s.n = 1 then innX s.n s.b s.o (sum x) else innX s.n s.b (sum x) s.o
def topX (key t : List Int) : List QS → List Int
  | [] => t
  | s :: ss => stepX key s (topX key t ss)
/-- all texts, the uppermost one first -/
def allX (key t : List Int) : List QS → List (List Int)
  | [] => [t]
  | s :: ss => topX key t (s :: ss) :: allX key t ss
def isEnd (e : Int) : Bool := decide (e = 0) || decide (e = 1) || decide (e = 2)
/-- as they are told: the end's first -/
def txsX (key : List Int) (q : QP) : List (List Int) := if isEnd q.e = true then (allX key (endX q) q.ss).reverse else []
theorem all_len (key t : List Int) (ss : List QS) : (allX key t ss).length = ss.length + 1 := by
  induction ss with
  | nil => rfl
  | cons s ss ih => show (allX key t ss).length + 1 = _; rw [ih]; rfl
theorem all_head (key t : List Int) (ss : List QS) : (allX key t ss)[0]? = some (topX key t ss) := by cases ss <;> rfl
theorem all_last (key t : List Int) (ss : List QS) : (allX key t ss).reverse[ss.length]? = some (topX key t ss) := by
  rw [List.getElem?_reverse (by rw [all_len]; omega), all_len, show ss.length + 1 - 1 - ss.length = 0 from by omega, all_head]
theorem all_step (key t : List Int) {ss : List QS} {i : Nat} {s : QS} (h : ss[i]? = some s) : allX key t (ss.drop i) = stepX key s (topX key t (ss.drop (i + 1))) :: allX key t (ss.drop (i + 1)) := by
  obtain ⟨hl, rfl⟩ := List.getElem?_eq_some_iff.1 h
  rw [List.drop_eq_getElem_cons hl]
  rfl
theorem innX_len {n : Int} {b l r : List Int} (hb : Ky b) (hl : Ky l) (hr : Ky r) : (innX n b l r).length < 20000 := by
  unfold innX
  split
  · exact Nat.lt_of_le_of_lt (textL_all 110 [be n 2, b, l, r] 4 rfl (by decide) (len_4k (be_length n 2) hb hl hr)) (by decide)
  · refine Nat.lt_of_le_of_lt (textL_all 110 [[], b, l, r] 4 rfl (by decide) (fun f hf => ?_)) (by decide)
    simp only [List.mem_cons, List.not_mem_nil, or_false] at hf
    rcases hf with rfl | rfl | rfl | rfl
    · decide
    · rw [hb.len]; decide
    · rw [hl.len]; decide
    · rw [hr.len]; decide
theorem sum_ky (x : List Int) : Ky (sum x) := ⟨sum_length _, sum_bs _⟩
theorem stepX_len {key x : List Int} {s : QS} (h : s.Ok) : (stepX key s x).length < 20000 := by
  unfold stepX
  split
  · exact innX_len h.b h.o (sum_ky _)
  · exact innX_len h.b (sum_ky _) h.o
theorem endX_len {q : QP} (h : q.Ok) : (endX q).length < 20000 := by
  unfold endX
  split
  · exact Nat.lt_of_le_of_lt (textL_all 101 [] 0 rfl (by decide) (fun f hf => by simp at hf)) (by decide)
  · split
    · exact Nat.lt_of_le_of_lt (textL_all 108 [q.k, q.v] 2 rfl (by decide) (len_2k h.k h.v)) (by decide)
    · exact innX_len h.b h.l h.r
theorem all_mem_len {key t : List Int} (ht : t.length < 20000) : ∀ {ss : List QS}, (∀ s ∈ ss, s.Ok) → ∀ x ∈ allX key t ss, x.length < 20000
  | [], _, x, hx => by rw [List.mem_singleton.1 hx]; exact ht
  | s :: ss, h, x, hx => by
    rcases List.mem_cons.1 hx with rfl | hx
    · exact stepX_len (h s (by simp))
    · exact all_mem_len ht (fun s hs => h s (List.mem_cons_of_mem _ hs)) x hx
theorem top_len {key t : List Int} (ht : t.length < 20000) {ss : List QS} (h : ∀ s ∈ ss, s.Ok) : (topX key t ss).length < 20000 :=
  all_mem_len ht h _ (List.mem_of_getElem? (all_head key t ss))

/-! What is told. -/
def topQ (key : List Int) (q : QP) : List Int := topX key (endX q) q.ss
def chkB (key root : List Int) (q : QP) : Bool := leadB key q && decide (sum (topQ key q) = root)
/-- what it shows -/
def shwO (key : List Int) (q : QP) : Option (List Int) := if q.e = 1 ∧ q.k = key then some q.v else none
def chkV (key root : List Int) (q : QP) : Value := if chkB key root q = true then .tuple #[.agg (kc ((shwO key q).getD zk)), .bool (shwO key q).isSome, .bool true] else .tuple #[.agg (kc zk), .bool false, .bool false]
theorem lead_end {key : List Int} {q : QP} (h : leadB key q = true) : isEnd q.e = true := by
  unfold leadB at h
  cases hh : leadS key 0 zk q.ss with
  | none => rw [hh] at h; cases h
  | some c =>
    rw [hh] at h
    change endB key q c = true at h
    unfold endB at h
    unfold isEnd
    split at h
    · rename_i h0; rw [decide_eq_true h0]; rfl
    · split at h
      · rename_i h0; rw [decide_eq_true h0, Bool.or_true]; rfl
      · split at h
        · rename_i h0; rw [decide_eq_true h0, Bool.or_true]
        · cases h

/-! Of two that are right of one root some texts clash. -/
def toS (s : QS) : StpP := ⟨s.n.toNat, s.b, s.o⟩
def toE (q : QP) : PEnd := if q.e = 0 then .none else if q.e = 1 then .leaf q.k q.v else .inner q.n.toNat q.b q.l q.r
def inT (n : Nat) (b l r : List Int) : List Int := innerT n b l r
theorem innX_in {n : Int} (h : 0 ≤ n ∧ n ≤ 256) (b l r : List Int) : innX n b l r = inT n.toNat b l r := by
  unfold innX inT
  rw [if_pos (by omega), Int.toNat_of_nonneg h.1]
theorem hld_in {l : Int} {B K : List Int} (h : hld l B K = true) : 0 ≤ l ∧ l ≤ 256 ∧ cut K l.toNat = B := by
  unfold hld at h; rwa [decide_eq_true_eq] at h
theorem frm_in {l : Int} {B : List Int} (h : frm l B = true) : 0 ≤ l ∧ l ≤ 256 ∧ cut B l.toNat = B := by
  unfold frm at h; rwa [decide_eq_true_eq] at h
theorem step_in {key : List Int} {l : Int} {B : List Int} {s : QS} (h : stepB key l B s = true) : 0 ≤ s.n ∧ s.n < 256 ∧ cut key s.n.toNat = s.b := by
  unfold stepB at h
  rw [Bool.and_eq_true, Bool.and_eq_true, decide_eq_true_eq] at h
  obtain ⟨h0, h1, h2⟩ := hld_in h.1.2
  exact ⟨h0, by omega, h2⟩
theorem lead_steps {key : List Int} : ∀ {ss : List QS} {l : Int} {B : List Int} {c : Int × List Int}, leadS key l B ss = some c → ∀ s ∈ ss, 0 ≤ s.n ∧ s.n < 256 ∧ cut key s.n.toNat = s.b
  | [], _, _, _, _, s, hs => by simp at hs
  | x :: ss, l, B, c, h, s, hs => by
    unfold leadS at h
    by_cases h1 : stepB key l B x = true
    · rw [if_pos h1] at h
      rcases List.mem_cons.1 hs with rfl | hs
      · exact step_in h1
      · exact lead_steps h s hs
    · rw [if_neg h1] at h; cases h
theorem lead_ss {key : List Int} {q : QP} (h : leadB key q = true) : ∃ c, leadS key 0 zk q.ss = some c ∧ endB key q c = true := by
  unfold leadB at h
  cases hh : leadS key 0 zk q.ss with
  | none => rw [hh] at h; cases h
  | some c => rw [hh] at h; exact ⟨c, rfl, h⟩
theorem lead_two {key : List Int} {q : QP} (h : leadB key q = true) (h2 : q.e = 2) : 0 ≤ q.n ∧ q.n < 256 ∧ cut key q.n.toNat ≠ q.b := by
  obtain ⟨c, h3, h4⟩ := lead_ss h
  unfold endB at h4
  rw [if_neg (by omega), if_neg (by omega), if_pos h2, Bool.and_eq_true, Bool.and_eq_true, decide_eq_true_eq, Bool.not_eq_true'] at h4
  obtain ⟨⟨h5, h6⟩, h7⟩ := h4
  have h8 : frm q.n q.b = true := by
    unfold wth at h5; rw [Bool.and_eq_true, Bool.and_eq_true] at h5; exact h5.1.1
  obtain ⟨h9, h10, h11⟩ := frm_in h8
  refine ⟨h9, h6, fun e => ?_⟩
  have : hld q.n q.b key = true := by unfold hld; rw [decide_eq_true_eq]; exact ⟨h9, h10, e⟩
  rw [this] at h7; cases h7
theorem lead_chain {key : List Int} {q : QP} (hq : q.Ok) (h : leadB key q = true) : ChainP key (toE q) (q.ss.map toS) := by
  obtain ⟨c, h1, h2⟩ := lead_ss h
  have h3 := lead_steps h1
  refine ⟨fun s hs => ?_, ?_, fun n b l r e => ?_⟩
  · obtain ⟨x, hx, rfl⟩ := List.mem_map.1 hs
    obtain ⟨a1, a2, a3⟩ := h3 x hx
    exact ⟨by show x.n.toNat < 256; omega, (hq.ss x hx).b, (hq.ss x hx).o, a3⟩
  · unfold toE
    split
    · trivial
    · split
      · exact ⟨hq.k, hq.v⟩
      · rename_i e0 e1
        have e2 : q.e = 2 := by
          have := lead_end h
          unfold isEnd at this
          rw [decide_eq_false e0, decide_eq_false e1] at this
          simpa using this
        have := lead_two h e2
        exact ⟨by omega, hq.b, hq.l, hq.r⟩
  · unfold toE at e
    split at e
    · cases e
    · split at e
      · cases e
      · rename_i e0 e1
        have e2 : q.e = 2 := by
          have := lead_end h
          unfold isEnd at this
          rw [decide_eq_false e0, decide_eq_false e1] at this
          simpa using this
        have := lead_two h e2
        injection e with h1 h2 h3 h4
        subst h1; subst h2
        exact this.2.2
theorem top_to {key : List Int} {q : QP} (h : leadB key q = true) : ∀ {ss : List QS}, (∀ s ∈ ss, 0 ≤ s.n ∧ s.n < 256 ∧ cut key s.n.toNat = s.b) → topX key (endX q) ss = topT sum emptyT leafT inT key (toE q) (ss.map toS) ∧ allX key (endX q) ss = allT sum emptyT leafT inT key (toE q) (ss.map toS)
  | [], _ => by
    have e : endX q = endT emptyT leafT inT (toE q) := by
      unfold endX toE
      by_cases h0 : q.e = 0
      · rw [if_pos h0, if_pos h0]; rfl
      · rw [if_neg h0, if_neg h0]
        by_cases h1 : q.e = 1
        · rw [if_pos h1, if_pos h1]; rfl
        · rw [if_neg h1, if_neg h1]
          have e2 : q.e = 2 := by
            have := lead_end h
            unfold isEnd at this
            rw [decide_eq_false h0, decide_eq_false h1] at this
            simpa using this
          have := lead_two h e2
          exact innX_in ⟨this.1, by omega⟩ _ _ _
    exact ⟨e, by show [endX q] = [_]; rw [e]⟩
  | s :: ss, hs => by
    obtain ⟨i1, i2⟩ := top_to h (ss := ss) (fun x hx => hs x (List.mem_cons_of_mem _ hx))
    obtain ⟨a1, a2, a3⟩ := hs s (by simp)
    have e : stepX key s (topX key (endX q) ss) = topT sum emptyT leafT inT key (toE q) ((s :: ss).map toS) := by
      unfold stepX
      rw [i1, show bitI key s.n = bit key s.n.toNat from by unfold bitI; rw [if_pos (by omega)]]
      rw [List.map_cons]
      show _ = if bit key s.n.toNat = 0 then _ else _
      rcases bit01 key s.n.toNat with h0 | h0
      · rw [if_neg (by rw [h0]; decide), if_pos h0]; exact innX_in ⟨a1, by omega⟩ _ _ _
      · rw [if_pos h0, if_neg (by rw [h0]; decide)]; exact innX_in ⟨a1, by omega⟩ _ _ _
    exact ⟨e, by show _ :: _ = _ :: _; rw [i2]; exact congrArg (· :: _) e⟩
theorem tells_in : Tells emptyT leafT inT := ⟨fun k v e => by unfold leafT emptyT textL at e; injection e with e; revert e; decide, fun n b l r e => by unfold inT innerT emptyT textL at e; injection e with e; revert e; decide, fun k v n b l r e => by unfold inT innerT leafT textL at e; injection e with e; revert e; decide⟩
theorem tells_l : TellsL leafT := fun k v k' v' hk hv hk' hv' e => by
  have := ((textL_inj _ _ _ _ (len_2k hk hv) (len_2k hk' hv')).1 e).2
  injection this with h1 h2
  injection h2 with h2 _
  exact ⟨h1, h2⟩
theorem be2_inj {a b : Nat} (ha : a ≤ 256) (hb : b ≤ 256) (h : be (a : Int) 2 = be (b : Int) 2) : a = b := by
  have h1 : ∀ x : Nat, be (x : Int) 2 = [((x : Int) / 256) % 256, (x : Int) % 256] := fun x => by
    simp [be]
  rw [h1, h1] at h
  injection h with h2 h3
  injection h3 with h3 _
  omega
theorem tells_i : TellsI inT := fun n b l r n' b' l' r' hn hn' hb hl hr hb' hl' hr' e => by
  have := ((textL_inj _ _ _ _ (len_4k (be_length _ 2) hb hl hr) (len_4k (be_length _ 2) hb' hl' hr')).1 e).2
  injection this with h1 h2
  injection h2 with h2 h3
  injection h3 with h3 h4
  injection h4 with h4 _
  exact ⟨be2_inj hn hn' h1, h2, h3, h4⟩
/-- has some text of the one list and some of the other one the same hash, though they are different? -/
def clashB (A B : List (List Int)) : Bool := A.any fun x => B.any fun y => !decide (x = y) && decide (sum x = sum y)
theorem clash_yes {A B : List (List Int)} (h : Clash sum A B) : clashB A.reverse B.reverse = true := by
  obtain ⟨x, hx, y, hy, hne, hs⟩ := h
  unfold clashB
  rw [List.any_eq_true]
  refine ⟨x, List.mem_reverse.2 hx, ?_⟩
  rw [List.any_eq_true]
  refine ⟨y, List.mem_reverse.2 hy, ?_⟩
  rw [decide_eq_false hne, decide_eq_true hs]
  rfl
theorem shw_to {key : List Int} {q : QP} (h : leadB key q = true) : (toE q).shows key = shwO key q := by
  unfold toE shwO
  by_cases h0 : q.e = 0
  · rw [if_pos h0, if_neg (by omega)]; rfl
  · rw [if_neg h0]
    by_cases h1 : q.e = 1
    · rw [if_pos h1]
      show (if q.k = key then some q.v else none) = _
      by_cases h2 : q.k = key
      · rw [if_pos h2, if_pos ⟨h1, h2⟩]
      · rw [if_neg h2, if_neg (fun h => h2 h.2)]
    · rw [if_neg h1, if_neg (fun h => h1 h.1)]; rfl
theorem right_clash {key root : List Int} {p q : QP} (hp : p.Ok) (hq : q.Ok) (h1 : chkB key root p = true) (h2 : chkB key root q = true) (hne : shwO key p ≠ shwO key q) : clashB (txsX key p) (txsX key q) = true := by
  unfold chkB at h1 h2
  rw [Bool.and_eq_true, decide_eq_true_eq] at h1 h2
  obtain ⟨c1, l1, _⟩ := lead_ss h1.1
  obtain ⟨c2, l2, _⟩ := lead_ss h2.1
  obtain ⟨t1, a1⟩ := top_to h1.1 (lead_steps l1)
  obtain ⟨t2, a2⟩ := top_to h2.1 (lead_steps l2)
  have hs : sum (topT sum emptyT leafT inT key (toE p) (p.ss.map toS)) = sum (topT sum emptyT leafT inT key (toE q) (q.ss.map toS)) := by
    rw [← t1, ← t2]; exact h1.2.trans h2.2.symm
  have := chains_clash sum emptyT leafT inT sum_ky tells_in tells_l tells_i (lead_chain hp h1.1) (lead_chain hq h2.1) hs (by rw [shw_to h1.1, shw_to h2.1]; exact hne)
  rw [← a1, ← a2] at this
  unfold txsX
  rw [if_pos (lead_end h1.1), if_pos (lead_end h2.1)]
  exact clash_yes this
end Go.Proofs.YtjhaamffgkialaaGreatDoor
/-
  What this file is for: lists of steps and proofs in memory. Nothing of the program is walked here.
-/
namespace Go.Proofs.YtjhaamffgkialaaGreatDoor
open Go.ChangeShapes Go.WideShapes Go.ChangeAt Go.RowKit
set_option linter.unusedVariables false
set_option linter.unusedSimpArgs false
set_option maxRecDepth 20000

/-- a list of steps that can be read -/
structure InS (w : World) (A : Option Addr) (n : Nat) (S : List QS) : Prop where
  len : S.length = n
  max : n ≤ 9223372036854775807
  ok : ∀ s ∈ S, s.Ok
  at' : 0 < n → ∃ b o, A = some ⟨b, o, none⟩ ∧ b < w.heap.size ∧ ∀ (i : Nat) (s : QS), S[i]? = some s → w.rangeAt b (o + i * 65) (stc s)
theorem InS.below {w w' : World} {A : Option Addr} {n : Nat} {S : List QS} (h : InS w A n S) (hb : Below w.heap.size w w') : InS w' A n S := by
  refine ⟨h.len, h.max, h.ok, fun hn => ?_⟩
  obtain ⟨b, o, e, hlt, hat⟩ := h.at' hn
  exact ⟨b, o, e, Nat.lt_of_lt_of_le hlt hb.size, fun i q hq => rng_bel hb (hat i q hq)⟩
theorem InS.nil (w : World) (A : Option Addr) : InS w A 0 [] := ⟨rfl, by omega, fun s hs => by simp at hs, fun h => by omega⟩
def stcs (S : List QS) : List Value := S.flatMap stc
theorem stcs_length {S : List QS} (h : ∀ s ∈ S, s.Ok) : (stcs S).length = S.length * 65 := by
  induction S with
  | nil => rfl
  | cons q N ih =>
    unfold stcs at ih ⊢
    rw [List.flatMap_cons, List.length_append, (h q (by simp)).len, ih (fun q hq => h q (List.mem_cons_of_mem _ hq)), List.length_cons, Nat.succ_mul, Nat.add_comm]
theorem stcs_at : ∀ {S : List QS} {i : Nat} {q : QS}, (∀ s ∈ S, s.Ok) → S[i]? = some q → ∀ j v, (stc q)[j]? = some v → (stcs S)[i * 65 + j]? = some v
  | [], i, q, _, h, _, _, _ => by simp at h
  | x :: S, 0, q, hN, h, j, v, hv => by
    injection h with h
    subst h
    unfold stcs
    rw [List.flatMap_cons, Nat.zero_mul, Nat.zero_add, List.getElem?_append_left (by
      rcases Nat.lt_or_ge j (stc x).length with h1 | h1
      · exact h1
      · rw [List.getElem?_eq_none h1] at hv; cases hv)]
    exact hv
  | x :: S, i + 1, q, hN, h, j, v, hv => by
    have hx := (hN x (by simp)).len
    unfold stcs
    rw [List.flatMap_cons, List.getElem?_append_right (by rw [hx, Nat.succ_mul]; omega), hx]
    have e : (i + 1) * 65 + j - 65 = i * 65 + j := by rw [Nat.succ_mul]; omega
    rw [e]
    exact stcs_at (S := S) (fun q hq => hN q (List.mem_cons_of_mem _ hq)) (by simpa using h) j v hv
theorem stcs_snoc (S : List QS) (q : QS) : stcs (S ++ [q]) = stcs S ++ stc q := by unfold stcs; rw [List.flatMap_append]; simp
theorem stcs_one {S : List QS} : ∀ v ∈ stcs S, v.oneCell' = true := fun v hv => by
  unfold stcs at hv
  obtain ⟨s, hs, h⟩ := List.mem_flatMap.1 hv
  exact stc_one s v h
/-- a row of one's own can be read -/
theorem InS.own {w : World} {base n c : Nat} {t : TypeId} {A : Option Addr} {S : List QS} (h : w.ownsRow base t 65 (.slice A n c) n (stcs S)) (hl : S.length = n) (hok : ∀ s ∈ S, s.Ok) (hm : n ≤ 1000000) : InS w A n S := by
  refine ⟨hl, by omega, hok, fun hn => ?_⟩
  rcases h.2 with ⟨_, h0⟩ | ⟨g, cap, cur, hv, hb, hh, hnc, hcm, hcs, htk⟩
  · omega
  · injection hv with hA
    have hlt := (h.lt g (by rw [hA]; rfl)).2
    refine ⟨g, 0, hA, hlt, fun i s hs j v hv => ?_⟩
    have h1 := stcs_at hok hs j v hv
    have h2 := h.cells (g := g) (by rw [hA]; rfl) _ v h1
    rw [Addr.add_lit] at h2
    rw [Nat.add_assoc]
    exact h2
/-- a proof lies there: all its parts -/
structure PrAt (w : World) (g : Nat) (V : Value) (q : QP) : Prop where
  all : w.rangeAt g 0 (prc V q)
  steps : w.cell? ⟨g, 0, none⟩ = some V
  «end» : w.cell? ⟨g, 1, none⟩ = some (.int .i64 q.e)
  key : w.rangeAt g 2 (u8s q.k)
  val : w.rangeAt g 34 (u8s q.v)
  pre : w.rangeAt g 66 (.int .i64 q.n :: u8s q.b)
  len : w.cell? ⟨g, 66, none⟩ = some (.int .i64 q.n)
  left : w.rangeAt g 99 (u8s q.l)
  right : w.rangeAt g 131 (u8s q.r)
theorem pr_at {w : World} {g : Nat} {V : Value} {q : QP} (h : w.rangeAt g 0 (prc V q)) (hq : q.Ok) : PrAt w g V q := by
  have lk := (u8s_length q.k).trans hq.k.len
  have lv := (u8s_length q.v).trans hq.v.len
  have lb := (u8s_length q.b).trans hq.b.len
  have ll := (u8s_length q.l).trans hq.l.len
  have h' := h
  unfold prc at h
  have h1 : w.rangeAt g 0 ([V, .int .i64 q.e] ++ (u8s q.k ++ (u8s q.v ++ ((.int .i64 q.n :: u8s q.b) ++ (u8s q.l ++ u8s q.r))))) := h
  have h2 : w.rangeAt g 0 (([V, .int .i64 q.e] ++ u8s q.k) ++ (u8s q.v ++ ((.int .i64 q.n :: u8s q.b) ++ (u8s q.l ++ u8s q.r)))) := by rw [List.append_assoc]; exact h1
  have h3 : w.rangeAt g 0 ((([V, .int .i64 q.e] ++ u8s q.k) ++ u8s q.v) ++ ((.int .i64 q.n :: u8s q.b) ++ (u8s q.l ++ u8s q.r))) := by rw [List.append_assoc]; exact h2
  have h4 : w.rangeAt g 0 (((([V, .int .i64 q.e] ++ u8s q.k) ++ u8s q.v) ++ (.int .i64 q.n :: u8s q.b)) ++ (u8s q.l ++ u8s q.r)) := by rw [List.append_assoc]; exact h3
  have h5 : w.rangeAt g 0 ((((([V, .int .i64 q.e] ++ u8s q.k) ++ u8s q.v) ++ (.int .i64 q.n :: u8s q.b)) ++ u8s q.l) ++ (u8s q.r ++ [])) := by rw [List.append_nil, List.append_assoc]; exact h4
  refine ⟨h', h1 0 _ rfl, h1 1 _ rfl, ?_, ?_, ?_, ?_, ?_, ?_⟩
  · exact range_sub h1
  · have := range_sub h2; rw [List.length_append, lk] at this; exact this
  · have := range_sub h3; rw [List.length_append, List.length_append, lk, lv] at this; exact this
  · have := range_sub h3; rw [List.length_append, List.length_append, lk, lv] at this; exact range_one this
  · have := range_sub h4; simp only [List.length_append, List.length_cons, lk, lv, lb, List.length_nil] at this; exact this
  · have := range_sub h5; simp only [List.length_append, List.length_cons, lk, lv, lb, ll, List.length_nil] at this; exact this
theorem PrAt.same {w w' : World} {g : Nat} {V : Value} {q : QP} (h : PrAt w g V q) (hq : q.Ok) (hk : w'.heap[g]? = w.heap[g]?) : PrAt w' g V q :=
  pr_at (fun j v hv => (World.cell?_of_block (a := ⟨g, 0 + j, none⟩) hk).trans (h.all j v hv)) hq
theorem Blk.pr {w : World} {g : Nat} {t : TypeId} {V : Value} {q : QP} (h : Blk w g t (prc V q).toArray) (hq : q.Ok) : PrAt w g V q :=
  pr_at (fun j v hv => by rw [h.cell, Nat.zero_add, List.getElem?_toArray]; exact hv) hq
theorem PrAt.below {w w' : World} {g : Nat} {V : Value} {q : QP} (h : PrAt w g V q) (hq : q.Ok) (hb : Below w.heap.size w w') : PrAt w' g V q :=
  h.same hq (hb.block g (block_lt_of_cell h.steps))
/-- a step lies there -/
structure StAt (w : World) (g o : Nat) (s : QS) : Prop where
  all : w.rangeAt g o (stc s)
  len : w.cell? ⟨g, o, none⟩ = some (.int .i64 s.n)
  pre : w.rangeAt g o (.int .i64 s.n :: u8s s.b)
  oth : w.rangeAt g (o + 33) (u8s s.o)
theorem st_at {w : World} {g o : Nat} {s : QS} (h : w.rangeAt g o (stc s)) (hs : s.Ok) : StAt w g o s := by
  have h2 : w.rangeAt g o ((.int .i64 s.n :: u8s s.b) ++ (u8s s.o ++ [])) := by rw [List.append_nil]; exact h
  have h3 := range_sub h2
  rw [List.length_cons, u8s_length, hs.b.len] at h3
  exact ⟨h, range_one h, range_sub0 h2, h3⟩
theorem StAt.below {w w' : World} {g o : Nat} {s : QS} (h : StAt w g o s) (hs : s.Ok) (hb : Below w.heap.size w w') : StAt w' g o s := st_at (rng_bel hb h.all) hs
/-! Lists of bytes that grow. -/
/-- bytes in a block of bytes -/
def Byt (w : World) (B : Option Addr) (xs : List Int) : Prop := Rp w none B xs ∧ (0 < xs.length → ∀ a, B = some a → ∃ cs, Blk w a.block 5 cs)
def Txs (n0 : Nat) (w : World) (M : List (List Int)) (v : Value) : Prop :=
  ∃ A c rows, v = .slice A M.length c ∧ w.ownsRow n0 65 1 v M.length rows ∧ ∀ j, j < M.length → ∃ B d, rows[j]? = some (.slice B (M[j]?.getD []).length d) ∧ (M[j]?.getD []).length ≤ d ∧ Byt w B (M[j]?.getD [])
theorem Byt.same {w w' : World} {B : Option Addr} {xs : List Int} (h : Byt w B xs) (hk : ∀ g cs, Blk w g 5 cs → w'.heap[g]? = w.heap[g]?) : Byt w' B xs := by
  refine ⟨fun hx => ?_, fun hx a ha => ?_⟩
  · obtain ⟨ad, e, h1, hc⟩ := h.1 hx
    obtain ⟨cs, h5⟩ := h.2 hx ad e
    exact ⟨ad, e, h1, fun k hkk => (World.cell?_of_block (w := w) (by rw [add_block]; exact hk _ _ h5)).trans (hc k hkk)⟩
  · obtain ⟨cs, h5⟩ := h.2 hx a ha
    exact ⟨cs, h5.same (hk _ _ h5)⟩
theorem Byt.below {w w' : World} {B : Option Addr} {xs : List Int} (h : Byt w B xs) (hb : Below w.heap.size w w') : Byt w' B xs := h.same fun g cs hg => hb.block g hg.lt
theorem Fresh.byt {w w' : World} {B : Option Addr} {xs : List Int} (h : Fresh w w' B xs) : Byt w' B xs := ⟨h.rp0, fun hx a ha => by
  obtain ⟨g, cur, e, hg, hb, hc⟩ := h hx
  rw [e] at ha
  injection ha with ha
  subst ha
  exact ⟨cur, hb⟩⟩
theorem Txs.nil (n0 : Nat) (w : World) : Txs n0 w [] (.slice none 0 0) := ⟨none, 0, [], rfl, ⟨rfl, .inl ⟨rfl, rfl⟩⟩, fun j hj => by simp at hj⟩
theorem Txs.below {n0 : Nat} {w w' : World} {M : List (List Int)} {v : Value} (h : Txs n0 w M v) (hb : Below w.heap.size w w') : Txs n0 w' M v := by
  obtain ⟨A, c, rows, h1, h2, h3⟩ := h
  exact ⟨A, c, rows, h1, own_below h2 hb, fun j hj => by
    obtain ⟨B, d, h4, h5, h6⟩ := h3 j hj
    exact ⟨B, d, h4, h5, h6.below hb⟩⟩
theorem Txs.weak {n0 n1 : Nat} {w : World} {M : List (List Int)} {v : Value} (h : Txs n0 w M v) (hn : n1 ≤ n0) : Txs n1 w M v := by
  obtain ⟨A, c, rows, h1, h2, h3⟩ := h
  exact ⟨A, c, rows, h1, own_weak h2 hn, h3⟩
theorem Txs.len {n0 : Nat} {w : World} {M : List (List Int)} {v : Value} (h : Txs n0 w M v) : ∃ A c, v = .slice A M.length c := by
  obtain ⟨A', c', rows, hv, _⟩ := h
  exact ⟨A', c', hv⟩
/-- one of them -/
theorem Txs.at {n0 : Nat} {w : World} {M : List (List Int)} {A : Option Addr} {c lm : Nat} (h : Txs n0 w M (.slice A lm c)) {j : Nat} (hj : j < M.length) : lm = M.length ∧ ∃ g B d, A = some ⟨g, 0, none⟩ ∧ g < w.heap.size ∧ w.cell? ⟨g, j, none⟩ = some (.slice B (M[j]?.getD []).length d) ∧ (M[j]?.getD []).length ≤ d ∧ Byt w B (M[j]?.getD []) := by
  obtain ⟨A', c', rows, hv, hown, hr⟩ := h
  injection hv with e1 e2 e3
  subst e1; subst e2; subst e3
  obtain ⟨B, d, h4, h5, h6⟩ := hr j hj
  refine ⟨rfl, ?_⟩
  rcases hown.2 with ⟨_, h0⟩ | ⟨g, cap, cur, hv, hb, hh, hnc, _, hcs, htk⟩
  · omega
  · injection hv with hA
    refine ⟨g, B, d, hA, (hown.lt g (by rw [hA]; rfl)).2, ?_, h5, h6⟩
    have h2 := hown.cells (g := g) (by rw [hA]; rfl) _ _ h4
    rw [Addr.add_lit, Nat.zero_add] at h2
    exact h2
theorem Txs.in {n0 : Nat} {w : World} {M : List (List Int)} {A : Option Addr} {c lm : Nat} (h : Txs n0 w M (.slice A lm c)) (hb : ∀ x ∈ M, Bs x) (hs : ∀ x ∈ M, x.length < 20000) (hm : M.length ≤ 1000) : InR w A lm M := by
  have hl : lm = M.length := by obtain ⟨A', c', e⟩ := h.len; injection e
  subst hl
  refine ⟨rfl, by omega, fun hn => ?_⟩
  obtain ⟨_, g, _, _, hA, hg, _⟩ := h.at (j := 0) hn
  refine ⟨g, 0, hA, hg, fun i hi => ?_⟩
  obtain ⟨_, g2, B, d, hA2, _, hc, hd, hB⟩ := h.at hi
  rw [hA] at hA2
  injection hA2 with hA2
  injection hA2 with hA2
  subst hA2
  have hmem : M[i]?.getD [] ∈ M := by rw [List.getElem?_eq_getElem hi]; exact List.getElem_mem hi
  refine ⟨B, d, M[i]?.getD [], ?_, by rw [Nat.zero_add]; exact hc, hb _ hmem, hB.1, hd, by have := hs _ hmem; omega⟩
  rw [List.getElem?_eq_getElem hi]; rfl
end Go.Proofs.YtjhaamffgkialaaGreatDoor
/-
  What this file is for: steps and texts put behind lists; what a call answers that has two rows. Nothing of the program is walked here.
-/
namespace Go.Proofs.YtjhaamffgkialaaGreatDoor
open Go.ChangeShapes Go.WideShapes Go.ChangeAt Go.RowKit
set_option linter.unusedVariables false
set_option linter.unusedSimpArgs false
set_option maxRecDepth 20000

def stZ : QS := ⟨0, z32, z32⟩
/-- a type of lists of steps -/
structure StTy (tS tE : TypeId) : Prop where
  u : Tryz.prog.underlying tS = some (.slice tE)
  i : (Tryz.prog.info? tE).map (fun i => (i.zero, i.size, i.bytes)) = some (some (.agg (stc stZ).toArray), 65, 72)
theorem wp_step_one {tS tE : TypeId} (ht : StTy tS tE) {o : Oper} {a : Act} {w : World} {K : Act → World → Prop} {Q : Exit → Act → World → Prop} (x : Operand) (ho : o.op = .buildSlice tS 1 #[(0, x)]) (q : QS) (hq : q.Ok) (hx : a.eval x = .agg (stc q).toArray)
    (h : K (a.put o.dst (.slice (some ⟨w.heap.size, 0, none⟩) 1 1)) (w.alloc (.cells (stc q).toArray tE))) : o.wp Tryz.prog a w K Q := by
  obtain ⟨i0, hi, hz0, hz1, hz2⟩ := info_parts ht.i
  have hl := hq.len
  refine wp_buildSlice tS tE 1 #[(0, x)] ho (stc q).toArray i0 _ ht.u hi hz0 (by rw [hz1]; decide) (by rw [hz1]; decide) ?_ h
  have hp : (#[(0, x)].map fun ((i, x) : Nat × Operand) => (i, a.eval x)).toList = [(0, Value.agg (stc q).toArray)] := by simp [hx]
  rw [hp, hz1]
  have h := Great.fill_whole (s := 65) (by decide) [Value.agg (stc q).toArray] ((Array.range (1 * 65)).map ((Value.agg (stc stZ).toArray).cells[· % (Value.agg (stc stZ).toArray).cells.size]!)) (fun v hv => by
    rw [List.mem_singleton.1 hv]; exact hl) (by simp)
  simp only [List.flatMap_cons, List.flatMap_nil, List.append_nil] at h
  exact h
/-- a list of steps of one's own, that grows -/
structure OwS (n0 : Nat) (t : TypeId) (w : World) (v : Value) (S : List QS) : Prop where
  row : w.ownsRow n0 t 65 v S.length (stcs S)
  ok : ∀ s ∈ S, s.Ok
theorem OwS.nil (n0 : Nat) (t : TypeId) (w : World) : OwS n0 t w (.slice none 0 0) [] := ⟨⟨rfl, .inl ⟨rfl, rfl⟩⟩, fun s hs => by simp at hs⟩
theorem OwS.below {n0 : Nat} {t : TypeId} {w w' : World} {v : Value} {S : List QS} (h : OwS n0 t w v S) (hb : Below w.heap.size w w') : OwS n0 t w' v S := ⟨own_below h.row hb, h.ok⟩
theorem OwS.keep {n0 : Nat} {t : TypeId} {w w' : World} {v : Value} {S : List QS} (h : OwS n0 t w v S) (hk : ∀ k, v.ownBlock = some k → w'.heap[k]? = w.heap[k]?) : OwS n0 t w' v S := ⟨own_keep h.row hk, h.ok⟩
theorem OwS.len {n0 : Nat} {t : TypeId} {w : World} {v : Value} {S : List QS} (h : OwS n0 t w v S) : ∃ A c, v = .slice A S.length c := by
  rcases h.row.2 with ⟨h1, h0⟩ | ⟨g, cap, cur, hv, _⟩
  · exact ⟨none, 0, by rw [h1, h0]⟩
  · exact ⟨_, _, hv⟩
theorem OwS.in {n0 n c : Nat} {t : TypeId} {w : World} {A : Option Addr} {S : List QS} (h : OwS n0 t w (.slice A n c) S) (hm : S.length ≤ 1000000) : InS w A n S := by
  obtain ⟨A', c', e⟩ := h.len
  injection e with e1 e2 e3
  subst e2
  exact InS.own h.row rfl h.ok hm
theorem OwS.ty {n0 : Nat} {t : TypeId} {w : World} {v : Value} {S : List QS} (h : OwS n0 t w v S) : ∀ k, v.ownBlock = some k → n0 ≤ k ∧ ∃ C, Blk w k t C := fun k hk => by
  rcases h.row.2 with ⟨h1, h0⟩ | ⟨g, cap, cur, hv, hb, hh, _⟩
  · rw [h1] at hk; cases hk
  · rw [hv] at hk; injection hk with hk; subst hk; exact ⟨hb, cur, hh⟩
/-- what stays where a list turns: all blocks but its own -/
def But (v : Value) (w w' : World) : Prop := w.grownBy w' v.ownBlock
theorem But.size {v : Value} {w w' : World} (h : But v w w') : w.heap.size ≤ w'.heap.size := World.grownBy.size h
theorem But.at {v : Value} {w w' : World} (h : But v w w') : ∀ k, k < w.heap.size → v.ownBlock ≠ some k → w'.heap[k]? = w.heap[k]? := fun k hk hne => World.grownBy.block h k hk (fun e => hne e.symm)
theorem But.blk {v : Value} {w w' : World} (h : But v w w') {k : Nat} {t : TypeId} {cs : Array Value} (hb : Blk w k t cs) (hne : v.ownBlock ≠ some k) : Blk w' k t cs := hb.same (h.at k hb.lt hne)
theorem But.bel {v : Value} {w w' : World} {n0 : Nat} (h : But v w w') (hn : n0 ≤ w.heap.size) (hv : ∀ k, v.ownBlock = some k → n0 ≤ k) : Below n0 w w' := (Below.refl _ _).grown h hn hv
theorem wp_append_st {tS tE : TypeId} (ht : StTy tS tE) {x : World} {o : Oper} {a : Act} {K : Act → World → Prop} {Q : Exit → Act → World → Prop} (s y : Operand)
    (ho : o.op = .call { callee := .builtin .append, args := #[s, y], argTypes := #[tS, tS] }) (n0 : Nat) (S : List QS) (v : Value) (hs : a.eval s = v) (hO : OwS n0 tE x v S) (g5 : Nat) (q : QS) (hx : a.eval y = .slice (some ⟨g5, 0, none⟩) 1 1)
    (hq : Blk x g5 tE (stc q).toArray) (hok : q.Ok) (hlen : S.length ≤ 1000) (hn : n0 ≤ x.heap.size)
    (h : ∀ v' w', OwS n0 tE w' v' (S ++ [q]) → But v x w' → K (a.put o.dst v') w') : o.wp Tryz.prog a x K Q := by
  obtain ⟨i0, hi, hz0, hz1, hz2⟩ := info_parts ht.i
  refine wp_append_own x s y tS ho n0 tE i0 _ 65 72 ht.u hi hz0 hz1 hz2 (by rfl) (by decide) v S.length (stcs S) hs hO.row ⟨g5, 0, none⟩ 1 1 (stc q) hx (by rw [hok.len]) (fun j u hu => ?_) (stc_one q) (by unfold maxLen; omega) (by omega) hn ?_
  · rw [Addr.add_lit, Nat.zero_add, hq.cell, List.getElem?_toArray]; exact hu
  · intro v' w' h1 h2 _
    refine h v' w' ⟨by rw [List.length_append, stcs_snoc]; exact h1, fun p hp => ?_⟩ h2
    rcases List.mem_append.1 hp with hp | hp
    · exact hO.ok p hp
    · rw [List.mem_singleton.1 hp]; exact hok
theorem info_tx : (Tryz.prog.info? 65).map (fun i => (i.zero, i.size, i.bytes)) = some (some (.slice none 0 0), 1, 24) := by kernel_rfl
/-- a text more -/
theorem wp_append_tx {x : World} {o : Oper} {a : Act} {K : Act → World → Prop} {Q : Exit → Act → World → Prop} (s y : Operand)
    (ho : o.op = .call { callee := .builtin .append, args := #[s, y], argTypes := #[114, 114] }) (n0 : Nat) (M : List (List Int)) (v : Value) (hs : a.eval s = v) (hM : Txs n0 x M v) (g5 : Nat) (B : Option Addr) (d m : Nat) (xs : List Int) (hm : m = xs.length) (hx : a.eval y = .slice (some ⟨g5, 0, none⟩) 1 1)
    (hO : Blk x g5 65 #[.slice B m d]) (hd : xs.length ≤ d) (hB : Byt x B xs) (hlen : M.length ≤ 1000) (hn : n0 ≤ x.heap.size)
    (h : ∀ v' w', Txs n0 w' (M ++ [xs]) v' → But v x w' → K (a.put o.dst v') w') : o.wp Tryz.prog a x K Q := by
  subst hm
  obtain ⟨i0, hi, hz0, hz1, hz2⟩ := info_parts info_tx
  obtain ⟨A, cc, rows, hv, hown, hj⟩ := hM
  refine wp_append_own x s y 114 ho n0 65 i0 (.slice none 0 0) 1 24 Tryz.underlying114 hi hz0 hz1 hz2 rfl (by decide) v M.length rows hs hown ⟨g5, 0, none⟩ 1 1 [.slice B xs.length d] hx rfl ?_ (fun u hu => by rw [List.mem_singleton.1 hu]; rfl) (by unfold maxLen; omega) (by omega) hn ?_
  · intro j u hu
    match j, hu with
    | 0, hu => rw [Addr.add_lit, hO.cell]; exact hu
    | j + 1, hu => simp at hu
  · intro v9 w9 ow9 gr9 _
    have hl : rows.length = M.length := by have := hown.1; omega
    obtain ⟨A9, c9, hv9⟩ : ∃ A' c', v9 = .slice A' (M.length + 1) c' := by
      rcases ow9.2 with ⟨_, h0⟩ | ⟨g, cap, cur, hv, _⟩
      · omega
      · exact ⟨_, _, hv⟩
    have ku : ∀ g cs, Blk x g 5 cs → w9.heap[g]? = x.heap[g]? := fun g cs hg => gr9.block g hg.lt (fun e => by
      rcases hown.2 with ⟨h1, h0⟩ | ⟨g', cap, cur, hv', hb, hh, _⟩
      · rw [h1] at e; cases e
      · rw [hv'] at e; injection e with e; subst e
        exact hg.ne (show Blk x g 65 cur from hh) (by decide) rfl)
    refine h v9 w9 ⟨A9, c9, rows ++ [.slice B xs.length d], by rw [hv9]; simp, by rw [List.length_append]; exact ow9, fun j hjj => ?_⟩ gr9
    rw [List.length_append, List.length_singleton] at hjj
    by_cases hlt : j < M.length
    · obtain ⟨B', d', h4, h5, h6⟩ := hj j hlt
      rw [List.getElem?_append_left hlt]
      exact ⟨B', d', by rw [List.getElem?_append_left (by omega)]; exact h4, h5, h6.same ku⟩
    · obtain rfl : j = M.length := by omega
      rw [List.getElem?_append_right (Nat.le_refl _), Nat.sub_self]
      exact ⟨B, d, by rw [List.getElem?_append_right (by omega), hl, Nat.sub_self]; rfl, hd, hB.same ku⟩
theorem Txs.ty {n0 : Nat} {w : World} {v : Value} {M : List (List Int)} (h : Txs n0 w M v) : ∀ k, v.ownBlock = some k → n0 ≤ k ∧ ∃ C, Blk w k 65 C := fun k hk => by
  obtain ⟨A, c, rows, hv, hown, _⟩ := h
  rcases hown.2 with ⟨h1, h0⟩ | ⟨g, cap, cur, hv, hb, hh, _⟩
  · rw [h1] at hk; cases hk
  · rw [hv] at hk; injection hk with hk; subst hk; exact ⟨hb, cur, hh⟩
theorem But.blkt {n0 : Nat} {v : Value} {w w' : World} {M : List (List Int)} (h : But v w w') (hM : Txs n0 w M v) {k : Nat} {t : TypeId} {cs : Array Value} (hb : Blk w k t cs) (ht : t ≠ 65) : Blk w' k t cs := h.blk hb (fun e => by
  obtain ⟨_, C, hC⟩ := hM.ty k e
  exact hb.ne hC ht rfl)
/-! What calls answer. -/
theorem results_two {P : Program} {fn : Func} {p q : Tmp} {ty : TypeId} (h : fn.results = #[.cell p ty, .cell q ty]) (tmps : Array Value) (w : World) (g1 g2 : Nat) (t1 t2 : TypeId) (c1 c2 : Array Value) (d : TypeDesc)
    (hp : tmps.getD p undef = .pointer (some ⟨g1, 0, none⟩)) (hq : tmps.getD q undef = .pointer (some ⟨g2, 0, none⟩)) (h1 : Blk w g1 t1 c1) (h2 : Blk w g2 t2 c2)
    (hu : P.underlying ty = some d) (hd : (match d with | .struct _ | .array _ _ => true | _ => false) = true) (hi1 : (P.info? ty).map (·.size) = some c1.size) (hi2 : (P.info? ty).map (·.size) = some c2.size) :
    (results fn tmps).run P w = .ok (.tuple #[.agg c1, .agg c2]) w := by
  have hp' : tmps[p]?.getD undef = .pointer (some ⟨g1, 0, none⟩) := by simpa using hp
  have hq' : tmps[q]?.getD undef = .pointer (some ⟨g2, 0, none⟩) := by simpa using hq
  simp [results, h, hp', hq', asAddr, run_loadVar_row w g1 t1 ty c1 (0, 0) d h1 hu hd hi1, run_loadVar_row w g2 t2 ty c2 (0, 0) d h2 hu hd hi2]
theorem results_three {P : Program} {fn : Func} {p q r : Tmp} {ty : TypeId} (h : fn.results = #[.cell p ty, .tmp q, .tmp r]) (tmps : Array Value) (w : World) (g : Nat) (t : TypeId) (cs : Array Value) (fr : Nat × Nat) (d : TypeDesc)
    (hp : tmps.getD p undef = .pointer (some ⟨g, 0, none⟩)) (hg : w.heap[g]? = some (.cells cs t fr))
    (hu : P.underlying ty = some d) (hd : (match d with | .struct _ | .array _ _ => true | _ => false) = true) (hi : (P.info? ty).map (·.size) = some cs.size) :
    (results fn tmps).run P w = .ok (.tuple #[.agg cs, tmps.getD q undef, tmps.getD r undef]) w := by
  have hp' : tmps[p]?.getD undef = .pointer (some ⟨g, 0, none⟩) := by simpa using hp
  simp [results, h, hp', asAddr, run_loadVar_row w g t ty cs fr d hg hu hd hi]
end Go.Proofs.YtjhaamffgkialaaGreatDoor
/-
  What is proved here: what is on the way and what isn't, on its sides.
-/
namespace Go.Proofs.YtjhaamffgkialaaGreatDoor
open Go.ChangeShapes Go.WideShapes Go.ChangeAt Go.RowKit
set_option linter.unusedVariables false
set_option linter.unusedSimpArgs false
set_option maxRecDepth 20000

/-- turned, if the key has a 1 behind the prefix -/
def sdV {α : Type} (K : List Int) (n : Int) (a c : α) : α × α := if bitI K n = 1 then (c, a) else (a, c)
/-- the two that go in, and where they go -/
structure Sd (w : World) (K a c : List Int) (g : Nat) (Z1 Z2 : Array Value) (x : World) : Prop where
  k5 : Blk x (g + 1) 25 (kc K)
  k6 : Blk x (g + 1 + 1) 25 (kc a)
  k7 : Blk x (g + 1 + 1 + 1) 25 (kc c)
  k8 : Blk x (g + 1 + 1 + 1 + 1) 25 Z1
  k9 : Blk x (g + 1 + 1 + 1 + 1 + 1) 25 Z2
  bl : Below g w x
theorem Sd.below {w x y : World} {K a c : List Int} {g : Nat} {Z1 Z2 : Array Value} (h : Sd w K a c g Z1 Z2 x) (hb : Below x.heap.size x y) : Sd w K a c g Z1 Z2 y :=
  ⟨h.k5.below hb, h.k6.below hb, h.k7.below hb, h.k8.below hb, h.k9.below hb, h.bl.trans (hb.mono (by have := h.k5.lt; omega))⟩
theorem six_blks (w : World) (P : Array Value) (K a c : List Int) (Z : Array Value) :
    Blk ((((((w.alloc (.cells P 47)).alloc (.cells (kc K) 25)).alloc (.cells (kc a) 25)).alloc (.cells (kc c) 25)).alloc (.cells Z 25)).alloc (.cells Z 25)) w.heap.size 47 P ∧
    Sd w K a c w.heap.size Z Z ((((((w.alloc (.cells P 47)).alloc (.cells (kc K) 25)).alloc (.cells (kc a) 25)).alloc (.cells (kc c) 25)).alloc (.cells Z 25)).alloc (.cells Z 25)) := by
  obtain ⟨h1, h2, h3, hb⟩ := three_blks w P (kc K) (kc a) 47 25 25
  have hs : (((w.alloc (.cells P 47)).alloc (.cells (kc K) 25)).alloc (.cells (kc a) 25)).heap.size = w.heap.size + 1 + 1 + 1 := by simp
  generalize ((w.alloc (.cells P 47)).alloc (.cells (kc K) 25)).alloc (.cells (kc a) 25) = w3 at h1 h2 h3 hb hs ⊢
  obtain ⟨h4, h5, h6, hb2⟩ := three_blks w3 (kc c) Z Z 25 25 25
  rw [hs] at h4 h5 h6
  exact ⟨h1.below hb2, h2.below hb2, h3.below hb2, h4, h5, h6, hb.trans (hb2.mono hb.size)⟩
/-- what stands while they are stored -/
structure SdS (w : World) (a c : List Int) (g : Nat) (x : World) : Prop where
  k6 : Blk x (g + 1 + 1) 25 (kc a)
  k7 : Blk x (g + 1 + 1 + 1) 25 (kc c)
  bl : Below g w x
end Go.Proofs.YtjhaamffgkialaaGreatDoor
