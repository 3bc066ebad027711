/-
  What this file is for: the words of hash, wire, prefix and trees together: a node's cells, a list of nodes in memory, a forest. Nothing of the program is walked here.
-/
import Derived.Test.YtjhaamffgkialaaGreatDoorMP2
import Derived.Test.YtjhaamffgkialaaGreatDoorMP1
import Derived.Test.YtjhaamffgkialaaGreatDoorMT1
import Derived.Test.YtjhaamffgkialaaGreatDoorMWi1
import Derived.Test.YtjhaamffgkialaaGreatDoorMA2
import Derived.Test.YtjhaamffgkialaaGreatDoorMA1
import Derived.Great.BuildSlice
import Derived.Laws.OwnMore
import Derived.Laws.LoneSync
set_option linter.unusedSimpArgs false
set_option linter.unusedVariables false
namespace Go.Proofs.YtjhaamffgkialaaGreatDoor
open Go.ChangeShapes Go.WideShapes Go.ChangeAt Go.RowKit
set_option linter.unusedVariables false
set_option maxRecDepth 20000

/-- a node's cells -/
def nc (q : Nd) : List Value := .bool q.leaf :: (u8s q.k ++ (u8s q.v ++ ((.int .i64 q.n :: u8s q.b) ++ ([.int .i64 q.l, .int .i64 q.r] ++ u8s q.h))))
structure NdOk (q : Nd) : Prop where
  k : Ky q.k
  v : Ky q.v
  b : Ky q.b
  h : Ky q.h
theorem ky_zero : Ky z32 := ⟨rfl, fun v hv => by rw [List.eq_of_mem_replicate hv]; decide⟩
theorem NdOk.nc {q : Nd} (h : NdOk q) : (nc q).length = 132 := by
  unfold Go.Proofs.YtjhaamffgkialaaGreatDoor.nc
  simp only [List.length_cons, List.length_append, u8s_length, h.k.len, h.v.len, h.b.len, h.h.len, List.length_nil]
theorem nc_one (q : Nd) : ∀ v ∈ nc q, v.oneCell' = true := fun v hv => by
  unfold nc at hv
  simp only [List.mem_cons, List.mem_append, List.not_mem_nil, or_false] at hv
  rcases hv with rfl | hv | hv | (rfl | hv) | (rfl | rfl) | hv
  · rfl
  · exact u8s_one _ v hv
  · exact u8s_one _ v hv
  · rfl
  · exact u8s_one _ v hv
  · rfl
  · rfl
  · exact u8s_one _ v hv
/-- the zero node -/
def ndZ : Nd := ⟨false, z32, z32, 0, z32, 0, 0, z32⟩
theorem ndZ_ok : NdOk ndZ := ⟨ky_zero, ky_zero, ky_zero, ky_zero⟩
theorem info_node : (Tryz.prog.info? 63).map (fun i => (i.zero, i.size, i.bytes)) = some (some (.agg (nc ndZ).toArray), 132, 160) := by kernel_rfl
theorem node_info {q : Nd} (h : NdOk q) : (Tryz.prog.info? 63).map (·.size) = some (nc q).length := by rw [h.nc]; kernel_rfl
theorem node_info2 {q : Nd} (h : NdOk q) : (Tryz.prog.info? 63).map (·.size) = some (nc q).toArray.size := by rw [List.size_toArray, h.nc]; kernel_rfl
theorem node_zero (w : World) : Sem.run Tryz.prog (zeroValue 63) w = .ok (.agg (nc ndZ).toArray) w := (Tryz.zeroValue63 w).trans (by rw [show Tryz.zeroCells63 = (nc ndZ).toArray by kernel_rfl])
theorem range_sub {w : World} {g o : Nat} {A B C : List Value} (h : w.rangeAt g o (A ++ (B ++ C))) : w.rangeAt g (o + A.length) B := fun j v hv => by
  have hj : j < B.length := by
    rcases Nat.lt_or_ge j B.length with h1 | h1
    · exact h1
    · rw [List.getElem?_eq_none h1] at hv; cases hv
  rw [Nat.add_assoc]
  exact h _ v (by rw [List.getElem?_append_right (by omega), Nat.add_sub_cancel_left, List.getElem?_append_left hj]; exact hv)
theorem range_sub0 {w : World} {g o : Nat} {A B : List Value} (h : w.rangeAt g o (A ++ B)) : w.rangeAt g o A := fun j v hv => by
  have hj : j < A.length := by
    rcases Nat.lt_or_ge j A.length with h1 | h1
    · exact h1
    · rw [List.getElem?_eq_none h1] at hv; cases hv
  exact h j v (by rw [List.getElem?_append_left hj]; exact hv)
theorem range_one {w : World} {g o : Nat} {v : Value} {A : List Value} (h : w.rangeAt g o (v :: A)) : w.cell? ⟨g, o, none⟩ = some v := h 0 v rfl
/-- a node lies there: all its parts -/
structure NodeAt (w : World) (g o : Nat) (q : Nd) : Prop where
  all : w.rangeAt g o (nc q)
  leaf : w.cell? ⟨g, o, none⟩ = some (.bool q.leaf)
  key : w.rangeAt g (o + 1) (u8s q.k)
  val : w.rangeAt g (o + 33) (u8s q.v)
  pre : w.rangeAt g (o + 65) (.int .i64 q.n :: u8s q.b)
  len : w.cell? ⟨g, o + 65, none⟩ = some (.int .i64 q.n)
  bits : w.rangeAt g (o + 66) (u8s q.b)
  left : w.cell? ⟨g, o + 98, none⟩ = some (.int .i64 q.l)
  right : w.cell? ⟨g, o + 99, none⟩ = some (.int .i64 q.r)
  hash : w.rangeAt g (o + 100) (u8s q.h)
theorem node_at {w : World} {g o : Nat} {q : Nd} (h : w.rangeAt g o (nc q)) (hq : NdOk q) : NodeAt w g o q := by
  have lk := (u8s_length q.k).trans hq.k.len
  have lv := (u8s_length q.v).trans hq.v.len
  have lb := (u8s_length q.b).trans hq.b.len
  have h' := h
  unfold nc at h
  have h1 : w.rangeAt g o ([.bool q.leaf] ++ (u8s q.k ++ (u8s q.v ++ ((.int .i64 q.n :: u8s q.b) ++ ([.int .i64 q.l, .int .i64 q.r] ++ u8s q.h))))) := h
  have h2 : w.rangeAt g o (([.bool q.leaf] ++ u8s q.k) ++ (u8s q.v ++ ((.int .i64 q.n :: u8s q.b) ++ ([.int .i64 q.l, .int .i64 q.r] ++ u8s q.h)))) := by rw [List.append_assoc]; exact h1
  have h3 : w.rangeAt g o ((([.bool q.leaf] ++ u8s q.k) ++ u8s q.v) ++ ((.int .i64 q.n :: u8s q.b) ++ ([.int .i64 q.l, .int .i64 q.r] ++ u8s q.h))) := by rw [List.append_assoc]; exact h2
  have h4 : w.rangeAt g o (((([.bool q.leaf] ++ u8s q.k) ++ u8s q.v) ++ [.int .i64 q.n]) ++ (u8s q.b ++ ([.int .i64 q.l, .int .i64 q.r] ++ u8s q.h))) := by
    have := h3
    rw [show (Value.int .i64 q.n :: u8s q.b) = [Value.int .i64 q.n] ++ u8s q.b from rfl, List.append_assoc [Value.int .i64 q.n]] at this
    rw [List.append_assoc]
    exact this
  have h5 : w.rangeAt g o ((((([.bool q.leaf] ++ u8s q.k) ++ u8s q.v) ++ [.int .i64 q.n]) ++ u8s q.b) ++ ([.int .i64 q.l] ++ ([.int .i64 q.r] ++ u8s q.h))) := by rw [List.append_assoc]; exact h4
  have h6 : w.rangeAt g o (((((([.bool q.leaf] ++ u8s q.k) ++ u8s q.v) ++ [.int .i64 q.n]) ++ u8s q.b) ++ [.int .i64 q.l]) ++ ([.int .i64 q.r] ++ u8s q.h)) := by rw [List.append_assoc]; exact h5
  have h7 : w.rangeAt g o ((((((([.bool q.leaf] ++ u8s q.k) ++ u8s q.v) ++ [.int .i64 q.n]) ++ u8s q.b) ++ [.int .i64 q.l]) ++ [.int .i64 q.r]) ++ (u8s q.h ++ [])) := by rw [List.append_nil, List.append_assoc]; exact h6
  refine ⟨h', range_one h1, ?_, ?_, ?_, ?_, ?_, ?_, ?_, ?_⟩
  · exact range_sub h1
  · have := range_sub h2; rw [List.length_append, lk] at this; exact this
  · have := range_sub h3; rw [List.length_append, List.length_append, lk, lv] at this; exact this
  · have := range_sub h3; rw [List.length_append, List.length_append, lk, lv] at this; exact range_one this
  · have := range_sub h4; simp only [List.length_append, lk, lv, List.length_singleton] at this; exact this
  · have := range_sub h5; simp only [List.length_append, lk, lv, lb, List.length_singleton] at this; exact range_one this
  · have := range_sub h6; simp only [List.length_append, lk, lv, lb, List.length_singleton] at this; exact range_one this
  · have := range_sub h7; simp only [List.length_append, lk, lv, lb, List.length_singleton] at this; exact this
theorem NodeAt.same {w w' : World} {g o : Nat} {q : Nd} (h : NodeAt w g o q) (hq : NdOk q) (hk : w'.heap[g]? = w.heap[g]?) : NodeAt w' g o q :=
  node_at (fun j v hv => (World.cell?_of_block (a := ⟨g, o + j, none⟩) hk).trans (h.all j v hv)) hq
theorem Blk.node {w : World} {g : Nat} {t : TypeId} {q : Nd} (h : Blk w g t (nc q).toArray) (hq : NdOk q) : NodeAt w g 0 q :=
  node_at (fun j v hv => by rw [h.cell, Nat.zero_add, List.getElem?_toArray]; exact hv) hq

/-! Nodes in a row. -/
def ncs (N : List Nd) : List Value := N.flatMap nc
theorem ncs_length {N : List Nd} (h : ∀ q ∈ N, NdOk q) : (ncs N).length = N.length * 132 := by
  induction N with
  | nil => rfl
  | cons q N ih =>
    unfold ncs at ih ⊢
    rw [List.flatMap_cons, List.length_append, (h q (by simp)).nc, ih (fun q hq => h q (List.mem_cons_of_mem _ hq)), List.length_cons, Nat.succ_mul, Nat.add_comm]
theorem ncs_at : ∀ {N : List Nd} {i : Nat} {q : Nd}, (∀ q ∈ N, NdOk q) → N[i]? = some q → ∀ j v, (nc q)[j]? = some v → (ncs N)[i * 132 + j]? = some v
  | [], i, q, _, h, _, _, _ => by simp at h
  | x :: N, 0, q, hN, h, j, v, hv => by
    injection h with h
    subst h
    unfold ncs
    rw [List.flatMap_cons, Nat.zero_mul, Nat.zero_add, List.getElem?_append_left (by
      rcases Nat.lt_or_ge j (nc x).length with h1 | h1
      · exact h1
      · rw [List.getElem?_eq_none h1] at hv; cases hv)]
    exact hv
  | x :: N, i + 1, q, hN, h, j, v, hv => by
    have hx := (hN x (by simp)).nc
    unfold ncs
    rw [List.flatMap_cons, List.getElem?_append_right (by rw [hx, Nat.succ_mul]; omega), hx]
    have e : (i + 1) * 132 + j - 132 = i * 132 + j := by rw [Nat.succ_mul]; omega
    rw [e]
    exact ncs_at (N := N) (fun q hq => hN q (List.mem_cons_of_mem _ hq)) (by simpa using h) j v hv
theorem ncs_snoc (N : List Nd) (q : Nd) : ncs (N ++ [q]) = ncs N ++ nc q := by unfold ncs; rw [List.flatMap_append]; simp

/-! A forest. -/
/-- a forest at block f, its nodes in block g, how many places are taken in block b -/
structure Fo (w : World) (f g b : Nat) (N : List Nd) (A : Option Addr) (c : Nat) (tv : Value) : Prop where
  kf : Blk w f 53 #[.slice A N.length c, tv]
  row : w.ownsRow 0 63 132 (.slice A N.length c) N.length (ncs N)
  how : (N = [] ∧ A = none ∧ c = 0 ∧ tv = .pointer none ∧ g = f ∧ b = f) ∨ (0 < N.length ∧ A = some ⟨g, 0, none⟩ ∧ tv = .pointer (some ⟨b, 0, none⟩) ∧ Blk w b 158 #[.int .i64 N.length] ∧ ∃ C, Blk w g 63 C)
  ok : ∀ q ∈ N, NdOk q
  few : N.length ≤ 1048576
  cap : N.length ≤ c ∧ c ≤ maxLen
def Ow (f g b k : Nat) : Prop := k = f ∨ k = g ∨ k = b
section
variable {w w' : World} {f g b : Nat} {N : List Nd} {A : Option Addr} {c : Nat} {tv : Value}
theorem own_keep {w w' : World} {base e size n : Nat} {v : Value} {xs : List Value} (h : w.ownsRow base e size v n xs) (hk : ∀ k, v.ownBlock = some k → w'.heap[k]? = w.heap[k]?) : w'.ownsRow base e size v n xs := by
  refine ⟨h.1, ?_⟩
  rcases h.2 with h1 | ⟨g, cap, cur, hv, hb, hh, rest⟩
  · exact .inl h1
  · exact .inr ⟨g, cap, cur, hv, hb, (hk g (by rw [hv]; rfl)).trans hh, rest⟩
theorem Fo.lts (h : Fo w f g b N A c tv) : f < w.heap.size ∧ g < w.heap.size ∧ b < w.heap.size := by
  have h1 := h.kf.lt
  rcases h.how with ⟨_, _, _, _, rfl, rfl⟩ | ⟨_, _, _, hb, C, hg⟩
  · exact ⟨h1, h1, h1⟩
  · exact ⟨h1, hg.lt, hb.lt⟩
theorem Fo.keep (h : Fo w f g b N A c tv) (hk : ∀ k, Ow f g b k → w'.heap[k]? = w.heap[k]?) : Fo w' f g b N A c tv := by
  refine ⟨h.kf.same (hk f (.inl rfl)), own_keep h.row (fun k e => ?_), ?_, h.ok, h.few, h.cap⟩
  · rcases h.how with ⟨_, rfl, _⟩ | ⟨_, rfl, _⟩
    · cases e
    · injection e with e
      exact hk k (.inr (.inl e.symm))
  · rcases h.how with h1 | ⟨h1, h2, h3, h4, C, h5⟩
    · exact .inl h1
    · exact .inr ⟨h1, h2, h3, h4.same (hk b (.inr (.inr rfl))), C, h5.same (hk g (.inr (.inl rfl)))⟩
theorem Fo.below (h : Fo w f g b N A c tv) (hb : Below w.heap.size w w') : Fo w' f g b N A c tv := h.keep (fun k hk => hb.block k (by
  obtain ⟨h1, h2, h3⟩ := h.lts
  rcases hk with rfl | rfl | rfl <;> assumption))
/-- a block of another type is none of the forest's -/
theorem Fo.not_own (h : Fo w f g b N A c tv) {k : Nat} {t : TypeId} {cs : Array Value} (hk : Blk w k t cs) (h1 : t ≠ 53) (h2 : t ≠ 63) (h3 : t ≠ 158) : ¬ Ow f g b k := by
  intro ho
  have e1 : k ≠ f := hk.ne h.kf h1
  rcases h.how with ⟨_, _, _, _, rfl, rfl⟩ | ⟨_, _, _, hb, C, hg⟩
  · rcases ho with h | h | h <;> exact e1 h
  · rcases ho with h | h | h
    · exact e1 h
    · exact hk.ne hg h2 h
    · exact hk.ne hb h3 h
/-- a node of the forest -/
theorem Fo.node (h : Fo w f g b N A c tv) {i : Nat} {q : Nd} (hi : N[i]? = some q) : A = some ⟨g, 0, none⟩ ∧ NodeAt w g (i * 132) q := by
  have hlt : i < N.length := (List.getElem?_eq_some_iff.1 hi).1
  rcases h.how with ⟨rfl, _⟩ | ⟨h1, hA, h3, h4, C, h5⟩
  · simp at hi
  · refine ⟨hA, node_at (fun j v hv => ?_) (h.ok q (List.mem_of_getElem? hi))⟩
    have hat := ncs_at h.ok hi j v hv
    have hc := h.row.cells (g := g) (by rw [hA]; rfl)
    have := hc _ _ hat
    rw [Addr.add_lit, Nat.zero_add] at this
    exact this
end
end Go.Proofs.YtjhaamffgkialaaGreatDoor
/-
  What is proved here: what the code reads of a forest: how many nodes, whether a number is a node's, or a tree's, a node's prefix.
-/
namespace Go.Proofs.YtjhaamffgkialaaGreatDoor
open Go.ChangeShapes Go.WideShapes Go.ChangeAt Go.RowKit
set_option linter.unusedVariables false
set_option maxRecDepth 20000

section
variable {w : World} {f g b : Nat} {N : List Nd} {A : Option Addr} {c : Nat} {tv : Value}
set_option maxHeartbeats 1000000 in
theorem xSize_at (h : Fo w f g b N A c tv) : Calls Tryz.prog 58 #[.pointer (some ⟨f, 0, none⟩)] w fun e w' => e = .returned (.int .i64 N.length) ∧ w = w' := by
  have cn : w.cell? ⟨f, 0, none⟩ = some (.slice A N.length c) := h.kf.cell 0
  obtain ⟨n, hn⟩ : ∃ n, n = N.length := ⟨_, rfl⟩
  rw [← hn] at cn ⊢
  clear h hn
  go_enter Tryz.func58, Tryz.ntmps58
  go_wp2
  go_ret
  exact ⟨rfl, rfl⟩
theorem xSize_nil (w : World) : Calls Tryz.prog 58 #[.pointer none] w fun e w' => e = .returned (.int .i64 0) ∧ w = w' := by
  go_enter Tryz.func58, Tryz.ntmps58
  go_wp2
  go_ret
  exact ⟨rfl, rfl⟩
/-- whether a number is a node's -/
def isNd (n : Nat) (i : Int) : Bool := decide (0 ≤ i ∧ i < n)
set_option maxHeartbeats 1000000 in
theorem xisNode_at (h : Fo w f g b N A c tv) (i : Int) : Calls Tryz.prog 34 #[.pointer (some ⟨f, 0, none⟩), .int .i64 i] w fun e w' => e = .returned (.bool (isNd N.length i)) ∧ w = w' := by
  have CS := hid (xSize_at h)
  obtain ⟨n, hn⟩ : ∃ n, n = N.length := ⟨_, rfl⟩
  rw [← hn] at CS ⊢
  clear h hn
  by_cases h0 : 0 ≤ i
  · have hd0 : decide (0 ≤ i) = true := decide_eq_true h0
    have e : isNd n i = decide (i < (n : Int)) := by unfold isNd; simp [h0]
    rw [e]
    go_enter Tryz.func34, Tryz.ntmps34
    go_wp2_with (go_at_call 58; refine CS.out.mono ?_; rintro e w1 ⟨rfl, rfl⟩)
    go_ret
    exact ⟨rfl, rfl⟩
  · have hd0 : decide (0 ≤ i) = false := decide_eq_false h0
    have e : isNd n i = false := by unfold isNd; simp [h0]
    rw [e]
    go_enter Tryz.func34, Tryz.ntmps34
    go_wp2
    go_ret
    exact ⟨rfl, rfl⟩
set_option maxHeartbeats 1000000 in
theorem xisNode_nil (i : Int) (w : World) : Calls Tryz.prog 34 #[.pointer none, .int .i64 i] w fun e w' => e = .returned (.bool false) ∧ w = w' := by
  have CS := hid (xSize_nil w)
  by_cases h0 : 0 ≤ i
  · have hd0 : decide (0 ≤ i) = true := decide_eq_true h0
    have hd1 : decide (i < 0) = false := decide_eq_false (by omega)
    go_enter Tryz.func34, Tryz.ntmps34
    go_wp2_with (go_at_call 58; refine CS.out.mono ?_; rintro e w1 ⟨rfl, rfl⟩)
    go_ret
    exact ⟨by first | rfl | simp [hd1], rfl⟩
  · have hd0 : decide (0 ≤ i) = false := decide_eq_false h0
    go_enter Tryz.func34, Tryz.ntmps34
    go_wp2
    go_ret
    exact ⟨rfl, rfl⟩
/-- whether a number is a tree's -/
def isTr (n : Nat) (i : Int) : Bool := decide (i = -1) || isNd n i
set_option maxHeartbeats 1000000 in
theorem xisTree_at (h : Fo w f g b N A c tv) (i : Int) : Calls Tryz.prog 17 #[.pointer (some ⟨f, 0, none⟩), .int .i64 i] w fun e w' => e = .returned (.bool (isTr N.length i)) ∧ w = w' := by
  have CS := hid (xisNode_at h i)
  obtain ⟨r, hr⟩ : ∃ r, r = isNd N.length i := ⟨_, rfl⟩
  unfold isTr
  rw [← hr] at CS ⊢
  clear h hr
  by_cases h0 : i = -1
  · subst h0
    go_enter Tryz.func17, Tryz.ntmps17
    go_wp2
    go_ret
    exact ⟨rfl, rfl⟩
  · have hd0 : decide (i = -1) = false := decide_eq_false h0
    have hd1 : (i == -1) = false := by simp [h0]
    rw [hd0, Bool.false_or]
    go_enter Tryz.func17, Tryz.ntmps17
    go_wp2_with (go_at_call 34; refine CS.out.mono ?_; rintro e w1 ⟨rfl, rfl⟩)
    go_ret
    exact ⟨by simp [hd1], rfl⟩
theorem xisTree_nil (i : Int) (w : World) : Calls Tryz.prog 17 #[.pointer none, .int .i64 i] w fun e w' => e = .returned (.bool false) ∧ w = w' := by
  go_enter Tryz.func17, Tryz.ntmps17
  go_wp2
  go_ret
  exact ⟨rfl, rfl⟩

/-! The node at a number; the prefix of all its keys. -/
/-- what an answer of a node and whether there is one is -/
def ndV (q : Nd) (r : Bool) : Value := .tuple #[.agg (nc q).toArray, .bool r]
theorem zero_node : ∃ Z : Array Value, Hid (Z = (nc ndZ).toArray) ∧ (¬ Z = #[]) ∧ ∀ w : World, Sem.run Tryz.prog (zeroValue 63) w = Result.ok (.agg Z) w := by
  refine ⟨(nc ndZ).toArray, rfl, fun h => ?_, node_zero⟩
  have := congrArg Array.size h
  rw [List.size_toArray, ndZ_ok.nc] at this
  simp at this
theorem built_node0 : Tryz.prog.built 63 [] = some (nc ndZ).toArray := by kernel_rfl
theorem nc_one2 (q : Nd) : (nc q).toArray.all (·.oneCell') = true := by
  rw [Array.all_eq_true']
  intro v hv
  exact nc_one q v (by simpa using hv)
theorem build_n0 {ops : Array Oper} {rest : List Oper} {o : Oper} {a : Act} {w : World} {Q : Exit → Act → World → Prop} (hg : o.guard = none) (ho : o.op = .build 63 #[])
    (h : wpList Tryz.prog ops Q rest (a.put o.dst (.agg (nc ndZ).toArray)) w) : wpList Tryz.prog ops Q (o :: rest) a w := by
  have e : (Array.map (fun (i, x) => (i, a.eval x)) (#[] : Array (Nat × Operand))).toList = [] := by simp
  refine wpList_build hg 63 #[] ho (by rw [e, built_node0]; rfl) ?_
  rw [e, built_node0]
  exact h
set_option maxHeartbeats 2000000 in
theorem xNode_no (h : Fo w f g b N A c tv) (i : Int) (hi : isNd N.length i = false) : Calls Tryz.prog 33 #[.pointer (some ⟨f, 0, none⟩), .int .i64 i] w fun e w' => e = .returned (ndV ndZ false) ∧ Below w.heap.size w w' := by
  obtain ⟨Z, HZ, hZ0, hZs⟩ := zero_node
  have hzs : Hid (Z.size = (nc ndZ).toArray.size) := by show _ = _; rw [HZ.out]
  have KZ : Hid (Blk (w.alloc (.cells Z 63)) w.heap.size 63 Z) := Blk.new w 63 Z
  have B0 : Hid (Below w.heap.size w (w.alloc (.cells Z 63))) := (Below.refl _ _).alloc (Nat.le_refl _) _
  have CS := hid (xisNode_at (h.below B0.out) i)
  have HI := hid (node_info2 ndZ_ok)
  rw [hi] at CS
  clear h hi
  go_enter Tryz.func33, Tryz.ntmps33
  go_wp2_with (first
    | (go_at_call 34; refine CS.out.mono ?_; rintro e w1 ⟨rfl, rfl⟩)
    | (refine build_n0 rfl rfl ?_)
    | (refine wpList_store_row rfl 63 (.tmp 4) (.tmp 10) rfl w.heap.size (nc ndZ).toArray rfl rfl 63 Z KZ.out HI.out hzs.out (nc_one2 _) ?_))
  try go_frame
  refine bodyPost_ret (results_cell_slot Tryz.results33 _ _ w.heap.size 63 (nc ndZ).toArray (0, 0) _ rfl (KZ.out.row _) Tryz.underlying63 rfl HI.out) rfl ?_
  exact ⟨rfl, below_setRow B0.out (Nat.le_refl _) _⟩
set_option maxHeartbeats 2000000 in
theorem xNode_at (h : Fo w f g b N A c tv) (i : Nat) (q : Nd) (hi : N[i]? = some q) : Calls Tryz.prog 33 #[.pointer (some ⟨f, 0, none⟩), .int .i64 i] w fun e w' => e = .returned (ndV q true) ∧ Below w.heap.size w w' := by
  obtain ⟨Z, HZ, hZ0, hZs⟩ := zero_node
  have hq := h.ok q (List.mem_of_getElem? hi)
  have hzs : Hid (Z.size = (nc q).toArray.size) := by show _ = _; rw [HZ.out, List.size_toArray, List.size_toArray, ndZ_ok.nc, hq.nc]
  have KZ : Hid (Blk (w.alloc (.cells Z 63)) w.heap.size 63 Z) := Blk.new w 63 Z
  have B0 : Hid (Below w.heap.size w (w.alloc (.cells Z 63))) := (Below.refl _ _).alloc (Nat.le_refl _) _
  have F1 := h.below B0.out
  have CS := hid (xisNode_at F1 i)
  have HI := hid (node_info2 hq)
  have HI2 := hid (node_info hq)
  have hlt : i < N.length := (List.getElem?_eq_some_iff.1 hi).1
  rw [show isNd N.length i = true by unfold isNd; rw [decide_eq_true_eq]; omega] at CS
  obtain ⟨rfl, na⟩ := F1.node hi
  have NA := hid na.all
  have cn : (w.alloc (.cells Z 63)).cell? ⟨f, 0, none⟩ = some (.slice (some ⟨g, 0, none⟩) N.length c) := F1.kf.cell 0
  obtain ⟨n, hn⟩ : ∃ n, n = N.length := ⟨_, rfl⟩
  rw [← hn] at cn hlt
  clear h hi F1 na hn hq
  go_enter Tryz.func33, Tryz.ntmps33
  go_wp2_with (first
    | (go_at_call 34; refine CS.out.mono ?_; rintro e w1 ⟨rfl, rfl⟩)
    | (refine load_at rfl 63 (.tmp 16) rfl g (i * 132) rfl (nc q) _ NA.out Tryz.underlying63 rfl HI2.out (nc q).toArray rfl ?_)
    | (refine wpList_store_row rfl 63 (.tmp 4) (.tmp 17) rfl w.heap.size (nc q).toArray rfl rfl 63 Z KZ.out HI.out hzs.out (nc_one2 _) ?_))
  try go_frame
  refine bodyPost_ret (results_cell_slot Tryz.results33 _ _ w.heap.size 63 (nc q).toArray (0, 0) _ rfl (KZ.out.row _) Tryz.underlying63 rfl HI.out) rfl ?_
  exact ⟨rfl, below_setRow B0.out (Nat.le_refl _) _⟩
end
end Go.Proofs.YtjhaamffgkialaaGreatDoor
/-
  What is proved here: the longest prefix that holds all keys of a node; whether an inner node may stand above two; whether a node is a key's leaf.
-/
namespace Go.Proofs.YtjhaamffgkialaaGreatDoor
open Go.ChangeShapes Go.WideShapes Go.ChangeAt Go.RowKit
set_option linter.unusedVariables false
set_option maxRecDepth 20000

theorem rng_bel {w w' : World} {g o : Nat} {cs : List Value} (hb : Below w.heap.size w w') (h : w.rangeAt g o cs) : w'.rangeAt g o cs := fun j v hv =>
  (hb.cell (p := ⟨g, o + j, none⟩) (block_lt_of_cell (h j v hv))).trans (h j v hv)
/-- the prefix that holds all keys of a node -/
def Nd.pn (q : Nd) : Int := if q.leaf then 256 else q.n
def Nd.pb (q : Nd) : List Int := if q.leaf then q.k else q.b
theorem Nd.pb_ky {q : Nd} (h : NdOk q) : Ky q.pb := by unfold Nd.pb; split; exact h.k; exact h.b
theorem pcut_all {K : List Int} (hK : Ky K) (w : World) : Calls Tryz.prog 54 #[.agg (kc K), .int .i64 256] w fun e w' => e = .returned (.agg (pc 256 K)) ∧ Below w.heap.size w w' := by
  have h := pCut_any K hK 256 w
  rw [show lim 256 = 256 from rfl, cut_all hK 256 (Nat.le_refl _)] at h
  exact h
theorem pcl_info2 (l : Int) {B : List Int} (h : Ky B) : (Tryz.prog.info? 47).map (·.size) = some (pc l B).size := pc_info l h

section
variable {w : World} {f g b : Nat} {N : List Nd} {A : Option Addr} {c : Nat} {tv : Value}
set_option maxHeartbeats 2000000 in
theorem xholder_at (h : Fo w f g b N A c tv) (i : Nat) (q : Nd) (hi : N[i]? = some q) : Calls Tryz.prog 53 #[.pointer (some ⟨f, 0, none⟩), .int .i64 i] w fun e w' => e = .returned (.agg (pc q.pn q.pb)) ∧ Below w.heap.size w w' := by
  obtain ⟨Z, HZ, hZ0, hZs⟩ := zero_pre
  have hq := h.ok q (List.mem_of_getElem? hi)
  have KZ : Hid (Blk (w.alloc (.cells Z 47)) w.heap.size 47 Z) := Blk.new w 47 Z
  have B0 : Hid (Below w.heap.size w (w.alloc (.cells Z 47))) := (Below.refl _ _).alloc (Nat.le_refl _) _
  have F1 := h.below B0.out
  have HI := hid (pc_info q.pn (Nd.pb_ky hq))
  have hzs : Hid (Z.size = (pc q.pn q.pb).size) := by show _ = _; rw [HZ.out, pc_size _ zk_ky, pc_size _ (Nd.pb_ky hq)]
  have HK := hid (u8s_info hq.k)
  have HP := hid (pcl_info q.n hq.b)
  have CC := hid (fun w => pcut_all hq.k w)
  have hlt : i < N.length := (List.getElem?_eq_some_iff.1 hi).1
  obtain ⟨rfl, na⟩ := F1.node hi
  have cl := na.leaf
  have NK := hid na.key
  have NP := hid na.pre
  have cn : (w.alloc (.cells Z 47)).cell? ⟨f, 0, none⟩ = some (.slice (some ⟨g, 0, none⟩) N.length c) := F1.kf.cell 0
  obtain ⟨n, hn⟩ : ∃ n, n = N.length := ⟨_, rfl⟩
  rw [← hn] at cn hlt
  clear h hi F1 na hn hq
  obtain ⟨l, hl⟩ : ∃ l, l = q.leaf := ⟨_, rfl⟩
  rw [← hl] at cl
  cases l with
  | true =>
    rw [show q.pn = 256 by unfold Nd.pn; rw [if_pos hl.symm], show q.pb = q.k by unfold Nd.pb; rw [if_pos hl.symm]] at HI hzs ⊢
    clear hl
    go_enter Tryz.func53, Tryz.ntmps53
    go_wp2_with (first
      | (refine load_at rfl 25 (.tmp 19) rfl g (i * 132 + 1) rfl (u8s q.k) _ NK.out Tryz.underlying25 rfl HK.out (kc q.k) rfl ?_)
      | (go_at_call 54; refine (CC.out _).mono ?_; rintro e w1 ⟨rfl, hb1⟩; have L1 := hid (KZ.out.below hb1); have B1 := hid (B0.out.trans (hb1.mono B0.out.size)); clear hb1)
      | (refine wpList_store_row rfl 47 (.tmp 4) (.tmp 21) rfl w.heap.size (pc 256 q.k) rfl rfl 47 Z L1.out HI.out hzs.out (pc_one _ _) ?_))
    try go_frame
    refine bodyPost_ret (results_cell_row Tryz.results53 _ _ w.heap.size 47 (pc 256 q.k) (0, 0) _ rfl (L1.out.row _) Tryz.underlying47 rfl HI.out) rfl ?_
    exact ⟨rfl, below_setRow B1.out (Nat.le_refl _) _⟩
  | false =>
    rw [show q.pn = q.n by unfold Nd.pn; rw [← hl]; rfl, show q.pb = q.b by unfold Nd.pb; rw [← hl]; rfl] at HI hzs ⊢
    clear hl
    go_enter Tryz.func53, Tryz.ntmps53
    go_wp2_with (first
      | (refine load_at rfl 47 (.tmp 28) rfl g (i * 132 + 65) rfl (.int .i64 q.n :: u8s q.b) _ NP.out Tryz.underlying47 rfl HP.out (pc q.n q.b) rfl ?_)
      | (refine wpList_store_row rfl 47 (.tmp 4) (.tmp 29) rfl w.heap.size (pc q.n q.b) rfl rfl 47 Z KZ.out HI.out hzs.out (pc_one _ _) ?_))
    try go_frame
    refine bodyPost_ret (results_cell_row Tryz.results53 _ _ w.heap.size 47 (pc q.n q.b) (0, 0) _ rfl (KZ.out.row _) Tryz.underlying47 rfl HI.out) rfl ?_
    exact ⟨rfl, below_setRow B0.out (Nat.le_refl _) _⟩
/-- whether a prefix has a child by a bit, and that holds all keys of a node -/
def fitB (N : List Nd) (l : Int) (B : List Int) (x i : Int) : Bool := chB l B x && isNd N.length i && wth (l + 1) (chK l B x) ((N[i.toNat]?.getD ndZ).pn) ((N[i.toNat]?.getD ndZ).pb)
theorem xisNode_kp (h : Fo w f g b N A c tv) (i : Int) (w' : World) (hb : Below w.heap.size w w') : Calls Tryz.prog 34 #[.pointer (some ⟨f, 0, none⟩), .int .i64 i] w' fun e w'' => e = .returned (.bool (isNd N.length i)) ∧ Below w'.heap.size w' w'' :=
  (xisNode_at (h.below hb) i).mono fun e w'' ⟨he, hw⟩ => ⟨he, by rw [← hw]; exact Below.refl _ _⟩
set_option maxHeartbeats 2000000 in
theorem fits_core (w : World) (f : Nat) (l l2 m : Int) (B B2 C : List Int) (x i : Int) (v1 r v2 : Bool) (hB : Ky B) (hB2 : Ky B2)
    (CC : ∀ w, Calls Tryz.prog 100 #[.agg (pc l B), .int .i64 x] w fun e w' => e = .returned (.tuple #[.agg (pc l2 B2), .bool v1]) ∧ Below w.heap.size w w')
    (CI : ∀ w', Below w.heap.size w w' → Calls Tryz.prog 34 #[.pointer (some ⟨f, 0, none⟩), .int .i64 i] w' fun e w'' => e = .returned (.bool r) ∧ Below w'.heap.size w' w'')
    (CH : r = true → ∀ w', Below w.heap.size w w' → Calls Tryz.prog 53 #[.pointer (some ⟨f, 0, none⟩), .int .i64 i] w' fun e w'' => e = .returned (.agg (pc m C)) ∧ Below w'.heap.size w' w'')
    (CW : ∀ w, Calls Tryz.prog 101 #[.agg (pc l2 B2), .agg (pc m C)] w fun e w' => e = .returned (.bool v2) ∧ Below w.heap.size w w') :
    Calls Tryz.prog 77 #[.pointer (some ⟨f, 0, none⟩), .agg (pc l B), .int .i64 x, .int .i64 i] w fun e w' => e = .returned (.bool (v1 && r && v2)) ∧ Below w.heap.size w w' := by
  have K1 : Hid (Blk (w.alloc (.cells (pc l B) 47)) w.heap.size 47 (pc l B)) := Blk.new w 47 _
  have B0 : Hid (Below w.heap.size w (w.alloc (.cells (pc l B) 47))) := (Below.refl _ _).alloc (Nat.le_refl _) _
  obtain ⟨Z, HZ, hZ0, hZs⟩ := zero_pre
  have HI := hid (pc_info l2 hB2)
  have HI1 := hid (pcl_info l hB)
  have HI2 := hid (pcl_info l2 hB2)
  have HZ33 : Hid (Z.size = (pc l2 B2).size) := by show _ = _; rw [HZ.out, pc_size 0 zk_ky, pc_size _ hB2]
  have C1 := hid CC; have C2 := hid CI; have C3 := hid CH; have C4 := hid CW
  clear CC CI CH CW hB hB2
  cases v1 with
  | false =>
    go_enter Tryz.func77, Tryz.ntmps77
    go_wp2_with (first
      | (refine load_at rfl 47 (.tmp 5) rfl w.heap.size 0 rfl (.int .i64 l :: u8s B) _ (blk_pre K1.out) Tryz.underlying47 rfl HI1.out (pc l B) rfl ?_)
      | (go_at_call 100; refine (C1.out _).mono ?_; rintro e w1 ⟨rfl, hb1⟩; have B1 := hid (B0.out.trans (hb1.mono B0.out.size)); have GR : Hid (w.heap.size ≤ w1.heap.size) := B1.out.size; clear hb1)
      | (refine wpList_store_row rfl 47 (.tmp 9) (.tmp 15) rfl w1.heap.size (pc l2 B2) rfl rfl 47 Z (Blk.new w1 47 Z) HI.out HZ33.out (pc_one _ _) ?_))
    have B2' : Hid (Below w.heap.size w ((w1.alloc (.cells Z 47)).setRow w1.heap.size (pc l2 B2))) := below_setRow (B1.out.alloc GR.out _) GR.out _
    generalize (w1.alloc (.cells Z 47)).setRow w1.heap.size (pc l2 B2) = w0 at B2' ⊢
    refine region_kept (Kp w0) (by kernel_rfl) (by kernel_rfl) (kp_begin w0) ?_
    repeat (first
      | go_big_quiet_skip
      | (go_big_quiet_want; go_big_quiet_op; first | go_big_quiet_on))
    refine wpQuiet_nil ?_
    intro _ hw'
    obtain ⟨p, hw''⟩ := hw'
    subst hw''
    go_wp2
    go_ret
    exact ⟨rfl, B2'.out.trans (Below.mono p.h B2'.out.size)⟩
  | true =>
    cases r with
    | false =>
      go_enter Tryz.func77, Tryz.ntmps77
      go_wp2_with (first
        | (refine load_at rfl 47 (.tmp 5) rfl w.heap.size 0 rfl (.int .i64 l :: u8s B) _ (blk_pre K1.out) Tryz.underlying47 rfl HI1.out (pc l B) rfl ?_)
        | (go_at_call 100; refine (C1.out _).mono ?_; rintro e w1 ⟨rfl, hb1⟩; have B1 := hid (B0.out.trans (hb1.mono B0.out.size)); have GR : Hid (w.heap.size ≤ w1.heap.size) := B1.out.size; clear hb1)
        | (refine wpList_store_row rfl 47 (.tmp 9) (.tmp 15) rfl w1.heap.size (pc l2 B2) rfl rfl 47 Z (Blk.new w1 47 Z) HI.out HZ33.out (pc_one _ _) ?_))
      have B2' : Hid (Below w.heap.size w ((w1.alloc (.cells Z 47)).setRow w1.heap.size (pc l2 B2))) := below_setRow (B1.out.alloc GR.out _) GR.out _
      generalize (w1.alloc (.cells Z 47)).setRow w1.heap.size (pc l2 B2) = w0 at B2' ⊢
      have D2 := hid (fun p : PW (Kp w0) => C2.out p.w (B2'.out.trans (Below.mono p.h B2'.out.size)))
      refine region_kept (Kp w0) (by kernel_rfl) (by kernel_rfl) (kp_begin w0) ?_
      repeat (first
        | go_big_quiet_skip
        | (go_big_quiet_want; go_big_quiet_op; first | go_big_quiet_on | go_big_quiet_call (first
          | (go_at_call 34; with_reducible exact kp_call (D2.out _)))))
      refine wpQuiet_nil ?_
      intro _ hw'
      obtain ⟨p, hw''⟩ := hw'
      subst hw''
      go_wp2
      go_ret
      exact ⟨rfl, B2'.out.trans (Below.mono p.h B2'.out.size)⟩
    | true =>
      have C5 := hid (C3.out rfl)
      go_enter Tryz.func77, Tryz.ntmps77
      go_wp2_with (first
        | (refine load_at rfl 47 (.tmp 5) rfl w.heap.size 0 rfl (.int .i64 l :: u8s B) _ (blk_pre K1.out) Tryz.underlying47 rfl HI1.out (pc l B) rfl ?_)
        | (go_at_call 100; refine (C1.out _).mono ?_; rintro e w1 ⟨rfl, hb1⟩; have B1 := hid (B0.out.trans (hb1.mono B0.out.size)); have GR : Hid (w.heap.size ≤ w1.heap.size) := B1.out.size; clear hb1)
        | (refine wpList_store_row rfl 47 (.tmp 9) (.tmp 15) rfl w1.heap.size (pc l2 B2) rfl rfl 47 Z (Blk.new w1 47 Z) HI.out HZ33.out (pc_one _ _) ?_))
      have B2' : Hid (Below w.heap.size w ((w1.alloc (.cells Z 47)).setRow w1.heap.size (pc l2 B2))) := below_setRow (B1.out.alloc GR.out _) GR.out _
      have KL : Hid (Blk ((w1.alloc (.cells Z 47)).setRow w1.heap.size (pc l2 B2)) w1.heap.size 47 (pc l2 B2)) := (Blk.new w1 47 Z).row _
      generalize (w1.alloc (.cells Z 47)).setRow w1.heap.size (pc l2 B2) = w0 at B2' KL ⊢
      have D2 := hid (fun p : PW (Kp w0) => C2.out p.w (B2'.out.trans (Below.mono p.h B2'.out.size)))
      have D3 := hid (fun p : PW (Kp w0) => C5.out p.w (B2'.out.trans (Below.mono p.h B2'.out.size)))
      refine region_kept (Kp w0) (by kernel_rfl) (by kernel_rfl) (kp_begin w0) ?_
      repeat (first
        | go_big_quiet_skip
        | (go_big_quiet_want; refine quiet_load 47 (.tmp 9) rfl w1.heap.size 0 rfl (.int .i64 l2 :: u8s B2) _ (fun p => kp_pre KL.out p) Tryz.underlying47 rfl HI2.out (pc l2 B2) rfl ?_; go_big_quiet_on; simp only [Act.put, List.setIfInBounds_toArray, List.set_cons_zero, List.set_cons_succ])
        | (go_big_quiet_want; go_big_quiet_op; first | go_big_quiet_on | go_big_quiet_call (first
          | (go_at_call 34; with_reducible exact kp_call (D2.out _))
          | (go_at_call 53; with_reducible exact kp_call (D3.out _))
          | (go_at_call 101; with_reducible exact kp_call (C4.out _)))))
      refine wpQuiet_nil ?_
      intro _ hw'
      obtain ⟨p, hw''⟩ := hw'
      subst hw''
      go_wp2
      go_ret
      exact ⟨by simp, B2'.out.trans (Below.mono p.h B2'.out.size)⟩
theorem xfits_at (h : Fo w f g b N A c tv) (l x i : Int) (B : List Int) (hB : Ky B) : Calls Tryz.prog 77 #[.pointer (some ⟨f, 0, none⟩), .agg (pc l B), .int .i64 x, .int .i64 i] w fun e w' => e = .returned (.bool (fitB N l B x i)) ∧ Below w.heap.size w w' := by
  have CC := fun w => pChild_any l B x hB w
  obtain ⟨q, hq⟩ : ∃ q, q = N[i.toNat]?.getD ndZ := ⟨_, rfl⟩
  have qok : NdOk q := by
    rw [hq]
    cases hi : N[i.toNat]? with
    | none => exact ndZ_ok
    | some q => exact h.ok q (List.mem_of_getElem? hi)
  have CH : isNd N.length i = true → ∀ w', Below w.heap.size w w' → Calls Tryz.prog 53 #[.pointer (some ⟨f, 0, none⟩), .int .i64 i] w' fun e w'' => e = .returned (.agg (pc q.pn q.pb)) ∧ Below w'.heap.size w' w'' := fun hi w' hb => by
    unfold isNd at hi
    rw [decide_eq_true_eq] at hi
    obtain ⟨k, rfl⟩ : ∃ k : Nat, i = k := ⟨i.toNat, by omega⟩
    have hk : N[k]? = some q := by
      have hlt : k < N.length := by omega
      rw [hq, Int.toNat_natCast, List.getElem?_eq_getElem hlt]
      rfl
    exact xholder_at (h.below hb) k q hk
  unfold fitB
  rw [← hq]
  unfold chV at CC
  cases hc : chB l B x with
  | false =>
    rw [hc] at CC
    simp only [Bool.false_eq_true, if_false] at CC
    exact fits_core w f l 0 q.pn B zk q.pb x i false (isNd N.length i) (wth 0 zk q.pn q.pb) hB zk_ky CC (fun w' hb => xisNode_kp h i w' hb) CH (fun w => pWithin_any _ _ _ _ zk_ky (Nd.pb_ky qok) w)
  | true =>
    rw [hc] at CC
    simp only [if_true] at CC
    have hky : Ky (chK l B x) := by unfold chK; split; exact setb_ky _ _; exact hB
    exact fits_core w f l (l + 1) q.pn B (chK l B x) q.pb x i true (isNd N.length i) _ hB hky CC (fun w' hb => xisNode_kp h i w' hb) CH (fun w => pWithin_any _ _ _ _ hky (Nd.pb_ky qok) w)
/-- whether an inner node may have that prefix, and those below it -/
def mayB (N : List Nd) (l : Int) (B : List Int) (a c : Int) : Bool := fitB N l B 0 a && fitB N l B 1 c
set_option maxHeartbeats 2000000 in
theorem xmay_at (h : Fo w f g b N A c tv) (l a d : Int) (B : List Int) (hB : Ky B) : Calls Tryz.prog 57 #[.pointer (some ⟨f, 0, none⟩), .agg (pc l B), .int .i64 a, .int .i64 d] w fun e w' => e = .returned (.bool (mayB N l B a d)) ∧ Below w.heap.size w w' := by
  have K1 : Hid (Blk (w.alloc (.cells (pc l B) 47)) w.heap.size 47 (pc l B)) := Blk.new w 47 _
  have B0 : Hid (Below w.heap.size w (w.alloc (.cells (pc l B) 47))) := (Below.refl _ _).alloc (Nat.le_refl _) _
  have C1 := hid (fun w' (hb : Below w.heap.size w w') => xfits_at (h.below hb) l 0 a B hB)
  have C2 := hid (fun w' (hb : Below w.heap.size w w') => xfits_at (h.below hb) l 1 d B hB)
  have HI1 := hid (pcl_info l hB)
  unfold mayB
  generalize fitB N l B 0 a = v1 at C1 ⊢
  generalize fitB N l B 1 d = v2 at C2 ⊢
  clear h hB
  cases v1 with
  | false =>
    go_enter Tryz.func57, Tryz.ntmps57
    go_wp2_with (first
      | (refine load_at rfl 47 (.tmp 5) rfl w.heap.size 0 rfl (.int .i64 l :: u8s B) _ (blk_pre K1.out) Tryz.underlying47 rfl HI1.out (pc l B) rfl ?_)
      | (go_at_call 77; with_reducible refine (C1.out _ B0.out).mono ?_; rintro e w1 ⟨rfl, hb1⟩; have B1 := hid (B0.out.trans (hb1.mono B0.out.size)); clear hb1))
    go_ret
    exact ⟨rfl, B1.out⟩
  | true =>
    go_enter Tryz.func57, Tryz.ntmps57
    go_wp2_with (first
      | (refine load_at rfl 47 (.tmp 5) rfl w.heap.size 0 rfl (.int .i64 l :: u8s B) _ (blk_pre K1.out) Tryz.underlying47 rfl HI1.out (pc l B) rfl ?_)
      | (go_at_call 77; with_reducible refine (C1.out _ B0.out).mono ?_; rintro e w1 ⟨rfl, hb1⟩; have B1 := hid (B0.out.trans (hb1.mono B0.out.size)); have L1 := hid (K1.out.below hb1); clear hb1)
      | (refine load_at rfl 47 (.tmp 5) rfl w.heap.size 0 rfl (.int .i64 l :: u8s B) _ (blk_pre L1.out) Tryz.underlying47 rfl HI1.out (pc l B) rfl ?_)
      | (go_at_call 77; with_reducible refine (C2.out _ B1.out).mono ?_; rintro e w2 ⟨rfl, hb2⟩; have B2 := hid (B1.out.trans (hb2.mono B1.out.size)); clear hb2))
    go_ret
    exact ⟨rfl, B2.out⟩

/-! Whether a node is a key's leaf. -/
def Nd.has (q : Nd) (K : List Int) : Bool := q.leaf && decide (q.k = K)
set_option maxHeartbeats 2000000 in
theorem xhasKey_none (f : Option Addr) (K : List Int) (w : World) : Calls Tryz.prog 27 #[.pointer f, .int .i64 (-1), .agg (kc K)] w fun e w' => e = .returned (.bool false) ∧ Below w.heap.size w w' := by
  have B0 : Hid (Below w.heap.size w (w.alloc (.cells (kc K) 25))) := (Below.refl _ _).alloc (Nat.le_refl _) _
  go_enter Tryz.func27, Tryz.ntmps27
  go_wp2
  generalize w.alloc (.cells (kc K) 25) = w0 at B0 ⊢
  refine region_kept (Kp w0) (by kernel_rfl) (by kernel_rfl) (kp_begin w0) ?_
  repeat (first
    | go_big_quiet_skip
    | (go_big_quiet_want; go_big_quiet_op; first | go_big_quiet_on))
  refine wpQuiet_nil ?_
  intro _ hw'
  obtain ⟨p, hw''⟩ := hw'
  subst hw''
  go_wp2
  go_ret
  exact ⟨rfl, B0.out.trans (Below.mono p.h B0.out.size)⟩
set_option maxHeartbeats 2000000 in
theorem xhasKey_at (h : Fo w f g b N A c tv) (i : Nat) (q : Nd) (hi : N[i]? = some q) (K : List Int) (hK : Ky K) : Calls Tryz.prog 27 #[.pointer (some ⟨f, 0, none⟩), .int .i64 i, .agg (kc K)] w fun e w' => e = .returned (.bool (q.has K)) ∧ Below w.heap.size w w' := by
  have K1 : Hid (Blk (w.alloc (.cells (kc K) 25)) w.heap.size 25 (kc K)) := Blk.new w 25 _
  have B0 : Hid (Below w.heap.size w (w.alloc (.cells (kc K) 25))) := (Below.refl _ _).alloc (Nat.le_refl _) _
  have F1 := h.below B0.out
  have hq := h.ok q (List.mem_of_getElem? hi)
  have HI := hid (u8s_info hK)
  have HI2 := hid (u8s_info hq.k)
  have heq := fun w => eql_key q.k K hq.k hK w
  have hlt : i < N.length := (List.getElem?_eq_some_iff.1 hi).1
  obtain ⟨rfl, na⟩ := F1.node hi
  have hne : ((i : Int) != -1) = true := by simp
  unfold Nd.has
  generalize decide (q.k = K) = v2 at heq ⊢
  obtain ⟨v1, hv1⟩ : ∃ v1, v1 = q.leaf := ⟨_, rfl⟩
  have cl0 := na.leaf
  rw [← hv1] at cl0 ⊢
  have cn0 : (w.alloc (.cells (kc K) 25)).cell? ⟨f, 0, none⟩ = some (.slice (some ⟨g, 0, none⟩) N.length c) := F1.kf.cell 0
  have NK := hid na.key
  obtain ⟨n, hn⟩ : ∃ n, n = N.length := ⟨_, rfl⟩
  rw [← hn] at cn0 hlt
  clear h hi F1 hn hK hq na hv1
  go_enter Tryz.func27, Tryz.ntmps27
  go_wp2
  generalize w.alloc (.cells (kc K) 25) = w0 at B0 K1 cl0 cn0 NK ⊢
  have cn := fun p : PW (Kp w0) => (Below.cell p.h (p := ⟨f, 0, none⟩) (block_lt_of_cell cn0)).trans cn0
  have cl := fun p : PW (Kp w0) => (Below.cell p.h (p := ⟨g, i * 132, none⟩) (block_lt_of_cell cl0)).trans cl0
  have NKp := hid (fun p : PW (Kp w0) => rng_bel p.h NK.out)
  clear cn0 cl0
  cases v1 with
  | false =>
    refine region_kept (Kp w0) (by kernel_rfl) (by kernel_rfl) (kp_begin w0) ?_
    repeat (first
      | go_big_quiet_skip
      | (go_big_quiet_want; go_big_quiet_op; first | go_big_quiet_on))
    refine wpQuiet_nil ?_
    intro _ hw'
    obtain ⟨p, hw''⟩ := hw'
    subst hw''
    go_wp2
    go_ret
    exact ⟨by simp, B0.out.trans (Below.mono p.h B0.out.size)⟩
  | true =>
    refine region_kept (Kp w0) (by kernel_rfl) (by kernel_rfl) (kp_begin w0) ?_
    repeat (first
      | go_big_quiet_skip
      | (go_big_quiet_want; refine quiet_load 25 (.tmp 26) rfl g (i * 132 + 1) rfl (u8s q.k) _ (fun p => NKp.out p) Tryz.underlying25 rfl HI2.out (kc q.k) rfl ?_; go_big_quiet_on; simp only [Act.put, List.setIfInBounds_toArray, List.set_cons_zero, List.set_cons_succ])
      | (go_big_quiet_want; refine quiet_load 25 (.tmp 5) rfl w.heap.size 0 rfl (u8s K) _ (fun p => kp_key K1.out p) Tryz.underlying25 rfl HI.out (kc K) rfl ?_; go_big_quiet_on; simp only [Act.put, List.setIfInBounds_toArray, List.set_cons_zero, List.set_cons_succ])
      | (go_big_quiet_want; go_big_quiet_op; first | go_big_quiet_on))
    refine wpQuiet_nil ?_
    intro _ hw'
    obtain ⟨p, hw''⟩ := hw'
    subst hw''
    go_wp2
    go_ret
    exact ⟨by simp, B0.out.trans (Below.mono p.h B0.out.size)⟩
end
end Go.Proofs.YtjhaamffgkialaaGreatDoor
/-
  What is proved here: a node's text, and the root without keys, as the code and as the document have them.
-/
namespace Go.Proofs.YtjhaamffgkialaaGreatDoor
open Go.ChangeShapes Go.WideShapes Go.ChangeAt Go.RowKit
set_option linter.unusedVariables false
set_option linter.unusedSimpArgs false
set_option maxRecDepth 20000

/-- bytes that a call tells, in new memory -/
def TxA (w : World) (X : List Int) (e : Ending) (w' : World) : Prop := ∃ A c, e = .returned (.slice A X.length c) ∧ X.length ≤ c ∧ Fresh w w' A X ∧ Below w.heap.size w w'
theorem cell_bel {w w' : World} {p : Addr} {v : Value} (hb : Below w.heap.size w w') (h : w.cell? p = some v) : w'.cell? p = some v := (hb.cell (block_lt_of_cell h)).trans h
theorem rng_rp {w : World} {g o : Nat} {l : List Int} (h : w.rangeAt g o (u8s l)) : Rp w none (some ⟨g, o, none⟩) l := fun _ =>
  ⟨_, rfl, (fun ⟨a, e, _⟩ => by cases e), fun j hj => by rw [Addr.add_lit]; exact h j _ (u8s_get l j hj)⟩
theorem inR_2k {w : World} {g : Nat} {A B : Option Addr} {a b : List Int} (hb : Blk w g 65 #[.slice A 32 32, .slice B 32 32]) (ha : Ky a) (hk : Ky b) (h1 : Rp w none A a) (h2 : Rp w none B b) : InR w (some ⟨g, 0, none⟩) 2 [a, b] := by
  refine ⟨rfl, by decide, fun _ => ⟨g, 0, rfl, hb.lt, fun i hi => ?_⟩⟩
  have h01 : i = 0 ∨ i = 1 := by omega
  rcases h01 with rfl | rfl
  · exact ⟨A, 32, a, rfl, by rw [hb.cell, ha.len]; rfl, ha.bs, h1, by rw [ha.len]; decide, by rw [ha.len]; decide⟩
  · exact ⟨B, 32, b, rfl, by rw [hb.cell, hk.len]; rfl, hk.bs, h2, by rw [hk.len]; decide, by rw [hk.len]; decide⟩
theorem inR_4k {w : World} {g : Nat} {A B C D : Option Addr} {n c : Nat} {x a b d : List Int} (hb : Blk w g 65 #[.slice A n c, .slice B 32 32, .slice C 32 32, .slice D 32 32]) (hx : Bs x) (hn : n = x.length) (hc : n ≤ c) (hn2 : n ≤ 2) (ha : Ky a) (hk : Ky b) (hd : Ky d) (h0 : Rp w none A x) (h1 : Rp w none B a) (h2 : Rp w none C b) (h3 : Rp w none D d) :
    InR w (some ⟨g, 0, none⟩) 4 [x, a, b, d] := by
  subst hn
  refine ⟨rfl, by decide, fun _ => ⟨g, 0, rfl, hb.lt, fun i hi => ?_⟩⟩
  have h01 : i = 0 ∨ i = 1 ∨ i = 2 ∨ i = 3 := by omega
  rcases h01 with rfl | rfl | rfl | rfl
  · exact ⟨A, c, x, rfl, by rw [hb.cell]; rfl, hx, h0, hc, by omega⟩
  · exact ⟨B, 32, a, rfl, by rw [hb.cell, ha.len]; rfl, ha.bs, h1, by rw [ha.len]; decide, by rw [ha.len]; decide⟩
  · exact ⟨C, 32, b, rfl, by rw [hb.cell, hk.len]; rfl, hk.bs, h2, by rw [hk.len]; decide, by rw [hk.len]; decide⟩
  · exact ⟨D, 32, d, rfl, by rw [hb.cell, hd.len]; rfl, hd.bs, h3, by rw [hd.len]; decide, by rw [hd.len]; decide⟩
def leafT (k v : List Int) : List Int := textL 108 [k, v]
def innerT (n : Int) (b l r : List Int) : List Int := textL 110 [be n 2, b, l, r]
theorem len300 {L : List (List Int)} (h : ∀ f ∈ L, f.length ≤ 32) : ∀ f ∈ L, f.length ≤ 300 := fun f hf => Nat.le_trans (h f hf) (by decide)
theorem len_2k {a b : List Int} (ha : Ky a) (hb : Ky b) : ∀ f ∈ [a, b], f.length ≤ 300 := fun f hf => by
  simp only [List.mem_cons, List.not_mem_nil, or_false] at hf
  rcases hf with rfl | rfl
  · rw [ha.len]; decide
  · rw [hb.len]; decide
theorem len_4k {x a b d : List Int} (hx : x.length = 2) (ha : Ky a) (hb : Ky b) (hd : Ky d) : ∀ f ∈ [x, a, b, d], f.length ≤ 300 := fun f hf => by
  simp only [List.mem_cons, List.not_mem_nil, or_false] at hf
  rcases hf with rfl | rfl | rfl | rfl
  · rw [hx]; decide
  · rw [ha.len]; decide
  · rw [hb.len]; decide
  · rw [hd.len]; decide
theorem text_2 {w : World} {F : FuncId} (CT : ∀ (tag : Int) (A : Option Addr) (n c : Nat) (L : List (List Int)) (w : World), InR w A n L → n ≤ 20 → (∀ f ∈ L, f.length ≤ 300) → 0 ≤ tag ∧ tag < 256 → Calls Tryz.prog F #[.int .u8 tag, .slice A n c] w fun e w' => ∃ A' c', e = .returned (.slice A' (textL tag L).length c') ∧ (textL tag L).length ≤ c' ∧ Fresh w w' A' (textL tag L) ∧ Below w.heap.size w w')
    {g : Nat} {A B : Option Addr} {a b : List Int} (hb : Blk w g 65 #[.slice A 32 32, .slice B 32 32]) (ha : Ky a) (hk : Ky b) (h1 : Rp w none A a) (h2 : Rp w none B b) :
    Calls Tryz.prog F #[.int .u8 108, .slice (some ⟨g, 0, none⟩) 2 2] w fun e w' => (∃ A c, e = .returned (.slice A (leafT a b).length c) ∧ (leafT a b).length ≤ c ∧ Fresh w w' A (leafT a b)) ∧ Below w.heap.size w w' :=
  (CT 108 _ 2 2 [a, b] w (inR_2k hb ha hk h1 h2) (by decide) (len_2k ha hk) (by decide)).mono fun e w' ⟨A, c, h1, h2, h3, h4⟩ => ⟨⟨A, c, h1, h2, h3⟩, h4⟩
theorem text_4 {w : World} {F : FuncId} (CT : ∀ (tag : Int) (A : Option Addr) (n c : Nat) (L : List (List Int)) (w : World), InR w A n L → n ≤ 20 → (∀ f ∈ L, f.length ≤ 300) → 0 ≤ tag ∧ tag < 256 → Calls Tryz.prog F #[.int .u8 tag, .slice A n c] w fun e w' => ∃ A' c', e = .returned (.slice A' (textL tag L).length c') ∧ (textL tag L).length ≤ c' ∧ Fresh w w' A' (textL tag L) ∧ Below w.heap.size w w')
    {g : Nat} {A B C D : Option Addr} {c : Nat} {n : Int} {a b d : List Int} (hb : Blk w g 65 #[.slice A 2 c, .slice B 32 32, .slice C 32 32, .slice D 32 32]) (hc : 2 ≤ c) (ha : Ky a) (hk : Ky b) (hd : Ky d) (h0 : Rp w none A (be n 2)) (h1 : Rp w none B a) (h2 : Rp w none C b) (h3 : Rp w none D d) :
    Calls Tryz.prog F #[.int .u8 110, .slice (some ⟨g, 0, none⟩) 4 4] w fun e w' => (∃ A c, e = .returned (.slice A (innerT n a b d).length c) ∧ (innerT n a b d).length ≤ c ∧ Fresh w w' A (innerT n a b d)) ∧ Below w.heap.size w w' :=
  (CT 110 _ 4 4 [be n 2, a, b, d] w (inR_4k hb (be_bs n 2) (be_length n 2).symm hc (by decide) ha hk hd h0 h1 h2 h3) (by decide) (len_4k (be_length n 2) ha hk hd) (by decide)).mono fun e w' ⟨A, c, h1, h2, h3, h4⟩ => ⟨⟨A, c, h1, h2, h3⟩, h4⟩
set_option maxHeartbeats 4000000 in
theorem xText_leaf (q : Nd) (l r : List Int) (w : World) (hq : NdOk q) (hl : q.leaf = true) (hkl : Ky l) (hkr : Ky r) : Calls Tryz.prog 73 #[.agg (nc q).toArray, .agg (kc l), .agg (kc r)] w (TxA w (leafT q.k q.v)) := by
  obtain ⟨hk1, hk2, hk3, hb0⟩ := three_blks w (nc q).toArray (kc l) (kc r) 63 25 25
  have NA := hid (hk1.node hq)
  have G0 := hid hb0
  have HQ := hid hq
  have cl := NA.out.leaf
  rw [hl] at cl
  clear hk1 hk2 hk3 hb0 hq hl hkl hkr
  unfold TxA
  go_enter Tryz.func73, Tryz.ntmps73
  go_wp2
  generalize ((w.alloc (.cells (nc q).toArray 63)).alloc (.cells (kc l) 25)).alloc (.cells (kc r) 25) = w0 at NA G0 cl ⊢
  refine wp_region_held (S := fun w' => Hid (Below w0.heap.size w0 w')) (by kernel_rfl) ?_
  change wpAnyH _ _ _ _ _ _ _ _ w0.drew
  have Gx0 : Hid (Below w0.heap.size w0 w0.drew) := (Below.refl _ _).drew
  generalize w0.drew = x0 at Gx0  ⊢
  refine wpAnyH_take (i := 0) (oi := { dst := some 12, op := _, type := _, pos := _, after := _, guard := _ }) (v := ?_) rfl (by kernel_rfl) (by kernel_rfl) (by kernel_rfl) (fun _ _ _ h => h) (Or.inl ⟨by kernel_rfl, ?_⟩) Gx0 ?_
  rotate_left
  · (intro w hSw; go_simp; try with_reducible rfl)
  try simp only [Act.put, List.setIfInBounds_toArray, List.set_cons_zero, List.set_cons_succ]
  refine wpAnyH_take (i := 1) (oi := { dst := some 13, op := _, type := _, pos := _, after := _, guard := _ }) (v := ?_) rfl (by kernel_rfl) (by kernel_rfl) (by kernel_rfl) (fun _ _ _ h => h) (Or.inl ⟨by kernel_rfl, ?_⟩) Gx0 ?_
  rotate_left
  · (intro w hSw; go_simp; try with_reducible rfl)
  try simp only [Act.put, List.setIfInBounds_toArray, List.set_cons_zero, List.set_cons_succ]
  refine wpAnyH_take (i := 2) (oi := { dst := some 14, op := _, type := _, pos := _, after := _, guard := _ }) (v := ?_) rfl (by kernel_rfl) (by kernel_rfl) (by kernel_rfl) (fun _ _ _ h => h) (Or.inl ⟨by kernel_rfl, ?_⟩) Gx0 ?_
  rotate_left
  · (intro w hSw; go_simp; try with_reducible rfl)
  try simp only [Act.put, List.setIfInBounds_toArray, List.set_cons_zero, List.set_cons_succ]
  refine wpAnyH_take (i := 3) (oi := { dst := some 15, op := _, type := _, pos := _, after := _, guard := _ }) (v := ?_) rfl (by kernel_rfl) (by kernel_rfl) (by kernel_rfl) (fun _ _ _ h => h) (Or.inl ⟨by kernel_rfl, ?_⟩) Gx0 ?_
  rotate_left
  · (intro w hSw; go_simp; try with_reducible rfl)
  try simp only [Act.put, List.setIfInBounds_toArray, List.set_cons_zero, List.set_cons_succ]
  refine wpAnyH_ready (rs := [4]) (by kernel_rfl) (by simp) ?_
  refine (AllReadyH.cons (o := { dst := some 16, op := _, type := _, pos := _, after := _, guard := _ }) rfl (fun Qc hQc => ?_) AllReadyH.nil)
  go_simp
  have NBx1 : Hid (Blk (x0.alloc (.cells #[.slice (some ⟨w.heap.size, 1, none⟩) 32 32, .slice (some ⟨w.heap.size, 33, none⟩) 32 32] 65)) x0.heap.size 65 #[.slice (some ⟨w.heap.size, 1, none⟩) 32 32, .slice (some ⟨w.heap.size, 33, none⟩) 32 32]) := Blk.new x0 65 #[.slice (some ⟨w.heap.size, 1, none⟩) 32 32, .slice (some ⟨w.heap.size, 33, none⟩) 32 32]
  have Gx1 := hid (Gx0.out.alloc Gx0.out.size (.cells #[.slice (some ⟨w.heap.size, 1, none⟩) 32 32, .slice (some ⟨w.heap.size, 33, none⟩) 32 32] 65))
  refine hQc.out _ _ Gx1 (fun hHeld => ?_)
  clear hQc Qc hHeld
  generalize x0.heap.size = g1 at NBx1 ⊢
  generalize x0.alloc (.cells #[.slice (some ⟨w.heap.size, 1, none⟩) 32 32, .slice (some ⟨w.heap.size, 33, none⟩) 32 32] 65) = x1 at NBx1 Gx1 ⊢
  try simp only [Act.put, List.setIfInBounds_toArray, List.set_cons_zero, List.set_cons_succ]
  refine wpAnyH_ready (rs := [5]) (by kernel_rfl) (by simp) ?_
  refine (AllReadyH.cons (o := { dst := some 17, op := _, type := _, pos := _, after := _, guard := _ }) rfl (fun Qc hQc => ?_) AllReadyH.nil)
  go_simp
  go_at_call 60
  refine (text_2 Text_any NBx1.out HQ.out.k HQ.out.v ((rng_rp NA.out.key).belowN Gx1.out) ((rng_rp NA.out.val).belowN Gx1.out)).mono ?_
  rintro e x2 ⟨⟨A5, c5, rfl, h5, hf5⟩, hb⟩
  have Gx2 := hid (Gx1.out.trans (hb.mono Gx1.out.size))
  have F5 := hid (hf5.more Gx1.out.size)
  clear hb
  go_wp2_with fail
  refine hQc.out _ _ Gx2 (fun hHeld => ?_)
  clear hQc Qc hHeld
  try simp only [Act.put, List.setIfInBounds_toArray, List.set_cons_zero, List.set_cons_succ]
  refine wpAnyH_take (i := 6) (oi := { dst := some 6, op := _, type := _, pos := _, after := _, guard := _ }) (v := ?_) rfl (by kernel_rfl) (by kernel_rfl) (by kernel_rfl) (fun _ _ _ h => h) (Or.inl ⟨by kernel_rfl, ?_⟩) Gx2 ?_
  rotate_left
  · (intro w hSw; go_simp; try with_reducible rfl)
  try simp only [Act.put, List.setIfInBounds_toArray, List.set_cons_zero, List.set_cons_succ]
  refine wpAnyH_done (by kernel_rfl) ?_ _
  try simp only [Act.put, List.setIfInBounds_toArray, List.set_cons_zero, List.set_cons_succ]
  go_wp2
  go_ret
  exact ⟨A5, c5, rfl, h5, F5.out.more G0.out.size, G0.out.trans (Gx2.out.mono G0.out.size)⟩
set_option maxHeartbeats 4000000 in
theorem xText_inner (q : Nd) (l r : List Int) (w : World) (hq : NdOk q) (hl : q.leaf = false) (hn : 0 ≤ q.n ∧ q.n ≤ 65535) (hkl : Ky l) (hkr : Ky r) : Calls Tryz.prog 73 #[.agg (nc q).toArray, .agg (kc l), .agg (kc r)] w (TxA w (innerT q.n q.b l r)) := by
  obtain ⟨Z, hz, hz0, z0, z1, z2, z3, z4, hZs⟩ := zero_writer
  obtain ⟨hk1, hk2, hk3, hb0⟩ := three_blks w (nc q).toArray (kc l) (kc r) 63 25 25
  have S1 : (((w.alloc (.cells (nc q).toArray 63)).alloc (.cells (kc l) 25)).alloc (.cells (kc r) 25)).heap.size = w.heap.size + 1 + 1 + 1 := by simp
  have hW0 : WAt ((((w.alloc (.cells (nc q).toArray 63)).alloc (.cells (kc l) 25)).alloc (.cells (kc r) 25)).alloc (.cells Z 149)) (w.heap.size + 1 + 1 + 1) [] := by
    have := new_writer (Blk.new (((w.alloc (.cells (nc q).toArray 63)).alloc (.cells (kc l) 25)).alloc (.cells (kc r) 25)) 149 Z) hz z0.out z1.out z2.out z3.out
    rw [S1] at this; exact this
  have HW0 : Hid (WRep ((((w.alloc (.cells (nc q).toArray 63)).alloc (.cells (kc l) 25)).alloc (.cells (kc r) 25)).alloc (.cells Z 149)) (some ⟨w.heap.size + 1 + 1 + 1, 0, none⟩) (.good [])) := ⟨_, rfl, hW0⟩
  have na := (hk1.alloc (.cells Z 149)).node hq
  have cl := na.leaf
  have cn := na.len
  rw [hl] at cl
  have J1 := hid (hk1.alloc (.cells Z 149))
  have J2 := hid (hk2.alloc (.cells Z 149))
  have J3 := hid (hk3.alloc (.cells Z 149))
  have B0 := hid (hb0.alloc (by rw [S1]; omega) (.cells Z 149))
  have cl0 := (hk1.node hq).leaf
  rw [hl] at cl0
  have HQ := hid hq; have HKL := hid hkl; have HKR := hid hkr
  have HOF : Hid (∀ k, Of (some ⟨w.heap.size + 1 + 1 + 1, 0, none⟩) k → k = w.heap.size + 1 + 1 + 1) := by rintro k ⟨a, ha, rfl⟩; injection ha with ha; subst ha; rfl
  have SK : Hid (((((w.alloc (.cells (nc q).toArray 63)).alloc (.cells (kc l) 25)).alloc (.cells (kc r) 25)).alloc (.cells Z 149)).heap.size = w.heap.size + 1 + 1 + 1 + 1) := by show _ = _; simp
  have H1 := hid (WU16_any (some ⟨w.heap.size + 1 + 1 + 1, 0, none⟩) (.good []) q.n _ HW0.out (by simp [WS.len]))
  have hup : (WS.good []).up 65535 q.n 2 = .good (be q.n 2) := by unfold WS.up; rw [if_neg (by omega)]; rfl
  rw [hup] at H1
  have HPL : Hid ((be q.n 2).length = 2) := be_length _ _
  obtain ⟨PB, hPB⟩ : ∃ PB, PB = be q.n 2 := ⟨_, rfl⟩
  rw [← hPB] at HPL H1
  have HPB := hid hPB
  clear hk1 hk2 hk3 hb0 hq hl hkl hkr hz z0 z1 z2 z3 z4 hW0 HW0 hn hup hPB na
  unfold TxA
  go_enter Tryz.func73, Tryz.ntmps73
  go_upto_region 6 with (first
    | (go_at_call 94; refine H1.out.mono ?_; rintro e w1 ⟨rfl, hw1, ho1⟩; have O1 := hid ho1; have H5 := Out_good (some ⟨w.heap.size + 1 + 1 + 1, 0, none⟩) PB w1 hw1 (by rw [HPL.out]; decide); rw [HPL.out] at H5; have H5 := hid H5; clear hw1 ho1)
    | (go_at_call 95; refine H5.out.mono ?_; rintro e w4 ⟨rfl, hk5, hb5⟩; have K5 := hid hk5; have B5 := hid hb5; clear hk5 hb5))
  have B1 := hid (B0.out.trans (O1.out.below (B := w.heap.size) (by rw [SK.out]; omega) (fun k hk => by rw [HOF.out k hk]; omega)))
  have SZ : w.heap.size + 1 + 1 + 1 + 1 ≤ w1.heap.size := by rw [← SK.out]; exact O1.out.size
  have L1 := hid ((J1.out.same (O1.out.block _ J1.out.lt (fun hk => by have := HOF.out _ hk; omega))).below B5.out)
  have K2 := hid ((J2.out.same (O1.out.block _ J2.out.lt (fun hk => by have := HOF.out _ hk; omega))).below B5.out)
  have K3 := hid ((J3.out.same (O1.out.block _ J3.out.lt (fun hk => by have := HOF.out _ hk; omega))).below B5.out)
  have B4 := hid (B1.out.trans (B5.out.mono B1.out.size))
  have NA := hid (L1.out.node HQ.out)
  have R4 : Hid (Rp w4 none (some ⟨w1.heap.size, 0, none⟩) (be q.n 2)) := by rw [← HPB.out]; exact blk_rp K5.out
  refine wp_region_held (S := fun w' => Hid (Below w4.heap.size w4 w')) (by kernel_rfl) ?_
  change wpAnyH _ _ _ _ _ _ _ _ w4.drew
  have Gx0 : Hid (Below w4.heap.size w4 w4.drew) := (Below.refl _ _).drew
  generalize w4.drew = x0 at Gx0  ⊢
  refine wpAnyH_take (i := 0) (oi := { dst := some 26, op := _, type := _, pos := _, after := _, guard := _ }) (v := ?_) rfl (by kernel_rfl) (by kernel_rfl) (by kernel_rfl) (fun _ _ _ h => h) (Or.inl ⟨by kernel_rfl, ?_⟩) Gx0 ?_
  rotate_left
  · (intro w hSw; go_simp; try with_reducible rfl)
  try simp only [Act.put, List.setIfInBounds_toArray, List.set_cons_zero, List.set_cons_succ]
  refine wpAnyH_take (i := 1) (oi := { dst := some 27, op := _, type := _, pos := _, after := _, guard := _ }) (v := ?_) rfl (by kernel_rfl) (by kernel_rfl) (by kernel_rfl) (fun _ _ _ h => h) (Or.inl ⟨by kernel_rfl, ?_⟩) Gx0 ?_
  rotate_left
  · (intro w hSw; go_simp; try with_reducible rfl)
  try simp only [Act.put, List.setIfInBounds_toArray, List.set_cons_zero, List.set_cons_succ]
  refine wpAnyH_take (i := 2) (oi := { dst := some 28, op := _, type := _, pos := _, after := _, guard := _ }) (v := ?_) rfl (by kernel_rfl) (by kernel_rfl) (by kernel_rfl) (fun _ _ _ h => h) (Or.inl ⟨by kernel_rfl, ?_⟩) Gx0 ?_
  rotate_left
  · (intro w hSw; go_simp; try with_reducible rfl)
  try simp only [Act.put, List.setIfInBounds_toArray, List.set_cons_zero, List.set_cons_succ]
  refine wpAnyH_take (i := 3) (oi := { dst := some 29, op := _, type := _, pos := _, after := _, guard := _ }) (v := ?_) rfl (by kernel_rfl) (by kernel_rfl) (by kernel_rfl) (fun _ _ _ h => h) (Or.inl ⟨by kernel_rfl, ?_⟩) Gx0 ?_
  rotate_left
  · (intro w hSw; go_simp; try with_reducible rfl)
  try simp only [Act.put, List.setIfInBounds_toArray, List.set_cons_zero, List.set_cons_succ]
  refine wpAnyH_take (i := 4) (oi := { dst := some 30, op := _, type := _, pos := _, after := _, guard := _ }) (v := ?_) rfl (by kernel_rfl) (by kernel_rfl) (by kernel_rfl) (fun _ _ _ h => h) (Or.inl ⟨by kernel_rfl, ?_⟩) Gx0 ?_
  rotate_left
  · (intro w hSw; go_simp; try with_reducible rfl)
  try simp only [Act.put, List.setIfInBounds_toArray, List.set_cons_zero, List.set_cons_succ]
  refine wpAnyH_take (i := 5) (oi := { dst := some 31, op := _, type := _, pos := _, after := _, guard := _ }) (v := ?_) rfl (by kernel_rfl) (by kernel_rfl) (by kernel_rfl) (fun _ _ _ h => h) (Or.inl ⟨by kernel_rfl, ?_⟩) Gx0 ?_
  rotate_left
  · (intro w hSw; go_simp; try with_reducible rfl)
  try simp only [Act.put, List.setIfInBounds_toArray, List.set_cons_zero, List.set_cons_succ]
  refine wpAnyH_ready (rs := [6]) (by kernel_rfl) (by simp) ?_
  refine (AllReadyH.cons (o := { dst := some 32, op := _, type := _, pos := _, after := _, guard := _ }) rfl (fun Qc hQc => ?_) AllReadyH.nil)
  go_simp
  have NBx1 : Hid (Blk (x0.alloc (.cells #[.slice (some ⟨w1.heap.size, 0, none⟩) 2 2, .slice (some ⟨w.heap.size, 66, none⟩) 32 32, .slice (some ⟨w.heap.size + 1, 0, none⟩) 32 32, .slice (some ⟨w.heap.size + 1 + 1, 0, none⟩) 32 32] 65)) x0.heap.size 65 #[.slice (some ⟨w1.heap.size, 0, none⟩) 2 2, .slice (some ⟨w.heap.size, 66, none⟩) 32 32, .slice (some ⟨w.heap.size + 1, 0, none⟩) 32 32, .slice (some ⟨w.heap.size + 1 + 1, 0, none⟩) 32 32]) := Blk.new x0 65 #[.slice (some ⟨w1.heap.size, 0, none⟩) 2 2, .slice (some ⟨w.heap.size, 66, none⟩) 32 32, .slice (some ⟨w.heap.size + 1, 0, none⟩) 32 32, .slice (some ⟨w.heap.size + 1 + 1, 0, none⟩) 32 32]
  have Gx1 := hid (Gx0.out.alloc Gx0.out.size (.cells #[.slice (some ⟨w1.heap.size, 0, none⟩) 2 2, .slice (some ⟨w.heap.size, 66, none⟩) 32 32, .slice (some ⟨w.heap.size + 1, 0, none⟩) 32 32, .slice (some ⟨w.heap.size + 1 + 1, 0, none⟩) 32 32] 65))
  refine hQc.out _ _ Gx1 (fun hHeld => ?_)
  clear hQc Qc hHeld
  generalize x0.heap.size = g1 at NBx1 ⊢
  generalize x0.alloc (.cells #[.slice (some ⟨w1.heap.size, 0, none⟩) 2 2, .slice (some ⟨w.heap.size, 66, none⟩) 32 32, .slice (some ⟨w.heap.size + 1, 0, none⟩) 32 32, .slice (some ⟨w.heap.size + 1 + 1, 0, none⟩) 32 32] 65) = x1 at NBx1 Gx1 ⊢
  try simp only [Act.put, List.setIfInBounds_toArray, List.set_cons_zero, List.set_cons_succ]
  refine wpAnyH_ready (rs := [7]) (by kernel_rfl) (by simp) ?_
  refine (AllReadyH.cons (o := { dst := some 33, op := _, type := _, pos := _, after := _, guard := _ }) rfl (fun Qc hQc => ?_) AllReadyH.nil)
  go_simp
  go_at_call 60
  refine (text_4 (n := q.n) Text_any NBx1.out (Nat.le_refl _) HQ.out.b HKL.out HKR.out (R4.out.belowN Gx1.out) ((rng_rp NA.out.bits).belowN Gx1.out) ((blk_rp K2.out).belowN Gx1.out) ((blk_rp K3.out).belowN Gx1.out)).mono ?_
  rintro e x2 ⟨⟨A5, c5, rfl, h5, hf5⟩, hb⟩
  have Gx2 := hid (Gx1.out.trans (hb.mono Gx1.out.size))
  have F5 := hid (hf5.more Gx1.out.size)
  clear hb
  go_wp2_with fail
  refine hQc.out _ _ Gx2 (fun hHeld => ?_)
  clear hQc Qc hHeld
  try simp only [Act.put, List.setIfInBounds_toArray, List.set_cons_zero, List.set_cons_succ]
  refine wpAnyH_take (i := 8) (oi := { dst := some 6, op := _, type := _, pos := _, after := _, guard := _ }) (v := ?_) rfl (by kernel_rfl) (by kernel_rfl) (by kernel_rfl) (fun _ _ _ h => h) (Or.inl ⟨by kernel_rfl, ?_⟩) Gx2 ?_
  rotate_left
  · (intro w hSw; go_simp; try with_reducible rfl)
  try simp only [Act.put, List.setIfInBounds_toArray, List.set_cons_zero, List.set_cons_succ]
  refine wpAnyH_done (by kernel_rfl) ?_ _
  try simp only [Act.put, List.setIfInBounds_toArray, List.set_cons_zero, List.set_cons_succ]
  go_wp2
  go_ret
  exact ⟨A5, c5, rfl, h5, F5.out.more B4.out.size, B4.out.trans (Gx2.out.mono B4.out.size)⟩
/-- a pair's cells -/
def kvc (q : KV) : List Value := u8s q.1 ++ u8s q.2
set_option maxHeartbeats 4000000 in
theorem yLeaf_any (k v : List Int) (w : World) (hk : Ky k) (hv : Ky v) : Calls Tryz.prog 40 #[.agg (kvc (k, v)).toArray] w (TxA w (leafT k v)) := by
  have K1 := Blk.new w 43 (kvc (k, v)).toArray
  have hra : (w.alloc (.cells (kvc (k, v)).toArray 43)).rangeAt w.heap.size 0 (u8s k ++ (u8s v ++ [])) := fun j u hu => by
    rw [K1.cell, Nat.zero_add, List.getElem?_toArray]; rw [List.append_nil] at hu; exact hu
  have RK := hid (rng_rp (range_sub0 hra))
  have rv := range_sub hra
  rw [u8s_length, hk.len] at rv
  have RV := hid (rng_rp rv)
  have G0 : Hid (Below w.heap.size w (w.alloc (.cells (kvc (k, v)).toArray 43))) := (Below.refl _ _).alloc (Nat.le_refl _) _
  have HK := hid hk; have HV := hid hv
  clear K1 hra rv hk hv
  unfold TxA
  go_enter Tryz.func40, Tryz.ntmps40
  go_wp2
  generalize w.alloc (.cells (kvc (k, v)).toArray 43) = w0 at RK RV G0 ⊢
  refine wp_region_held (S := fun w' => Hid (Below w0.heap.size w0 w')) (by kernel_rfl) ?_
  change wpAnyH _ _ _ _ _ _ _ _ w0.drew
  have Gx0 : Hid (Below w0.heap.size w0 w0.drew) := (Below.refl _ _).drew
  generalize w0.drew = x0 at Gx0  ⊢
  refine wpAnyH_take (i := 0) (oi := { dst := some 3, op := _, type := _, pos := _, after := _, guard := _ }) (v := ?_) rfl (by kernel_rfl) (by kernel_rfl) (by kernel_rfl) (fun _ _ _ h => h) (Or.inl ⟨by kernel_rfl, ?_⟩) Gx0 ?_
  rotate_left
  · (intro w hSw; go_simp; try with_reducible rfl)
  try simp only [Act.put, List.setIfInBounds_toArray, List.set_cons_zero, List.set_cons_succ]
  refine wpAnyH_take (i := 1) (oi := { dst := some 4, op := _, type := _, pos := _, after := _, guard := _ }) (v := ?_) rfl (by kernel_rfl) (by kernel_rfl) (by kernel_rfl) (fun _ _ _ h => h) (Or.inl ⟨by kernel_rfl, ?_⟩) Gx0 ?_
  rotate_left
  · (intro w hSw; go_simp; try with_reducible rfl)
  try simp only [Act.put, List.setIfInBounds_toArray, List.set_cons_zero, List.set_cons_succ]
  refine wpAnyH_take (i := 2) (oi := { dst := some 5, op := _, type := _, pos := _, after := _, guard := _ }) (v := ?_) rfl (by kernel_rfl) (by kernel_rfl) (by kernel_rfl) (fun _ _ _ h => h) (Or.inl ⟨by kernel_rfl, ?_⟩) Gx0 ?_
  rotate_left
  · (intro w hSw; go_simp; try with_reducible rfl)
  try simp only [Act.put, List.setIfInBounds_toArray, List.set_cons_zero, List.set_cons_succ]
  refine wpAnyH_take (i := 3) (oi := { dst := some 6, op := _, type := _, pos := _, after := _, guard := _ }) (v := ?_) rfl (by kernel_rfl) (by kernel_rfl) (by kernel_rfl) (fun _ _ _ h => h) (Or.inl ⟨by kernel_rfl, ?_⟩) Gx0 ?_
  rotate_left
  · (intro w hSw; go_simp; try with_reducible rfl)
  try simp only [Act.put, List.setIfInBounds_toArray, List.set_cons_zero, List.set_cons_succ]
  refine wpAnyH_ready (rs := [4]) (by kernel_rfl) (by simp) ?_
  refine (AllReadyH.cons (o := { dst := some 7, op := _, type := _, pos := _, after := _, guard := _ }) rfl (fun Qc hQc => ?_) AllReadyH.nil)
  go_simp
  have NBx1 : Hid (Blk (x0.alloc (.cells #[.slice (some ⟨w.heap.size, 0, none⟩) 32 32, .slice (some ⟨w.heap.size, 32, none⟩) 32 32] 65)) x0.heap.size 65 #[.slice (some ⟨w.heap.size, 0, none⟩) 32 32, .slice (some ⟨w.heap.size, 32, none⟩) 32 32]) := Blk.new x0 65 #[.slice (some ⟨w.heap.size, 0, none⟩) 32 32, .slice (some ⟨w.heap.size, 32, none⟩) 32 32]
  have Gx1 := hid (Gx0.out.alloc Gx0.out.size (.cells #[.slice (some ⟨w.heap.size, 0, none⟩) 32 32, .slice (some ⟨w.heap.size, 32, none⟩) 32 32] 65))
  refine hQc.out _ _ Gx1 (fun hHeld => ?_)
  clear hQc Qc hHeld
  generalize x0.heap.size = g1 at NBx1 ⊢
  generalize x0.alloc (.cells #[.slice (some ⟨w.heap.size, 0, none⟩) 32 32, .slice (some ⟨w.heap.size, 32, none⟩) 32 32] 65) = x1 at NBx1 Gx1 ⊢
  try simp only [Act.put, List.setIfInBounds_toArray, List.set_cons_zero, List.set_cons_succ]
  refine wpAnyH_ready (rs := [5]) (by kernel_rfl) (by simp) ?_
  refine (AllReadyH.cons (o := { dst := some 8, op := _, type := _, pos := _, after := _, guard := _ }) rfl (fun Qc hQc => ?_) AllReadyH.nil)
  go_simp
  go_at_call 61
  refine (text_2 RText_any NBx1.out HK.out HV.out (RK.out.belowN Gx1.out) (RV.out.belowN Gx1.out)).mono ?_
  rintro e x2 ⟨⟨A5, c5, rfl, h5, hf5⟩, hb⟩
  have Gx2 := hid (Gx1.out.trans (hb.mono Gx1.out.size))
  have F5 := hid (hf5.more Gx1.out.size)
  clear hb
  go_wp2_with fail
  refine hQc.out _ _ Gx2 (fun hHeld => ?_)
  clear hQc Qc hHeld
  try simp only [Act.put, List.setIfInBounds_toArray, List.set_cons_zero, List.set_cons_succ]
  refine wpAnyH_take (i := 6) (oi := { dst := some 2, op := _, type := _, pos := _, after := _, guard := _ }) (v := ?_) rfl (by kernel_rfl) (by kernel_rfl) (by kernel_rfl) (fun _ _ _ h => h) (Or.inl ⟨by kernel_rfl, ?_⟩) Gx2 ?_
  rotate_left
  · (intro w hSw; go_simp; try with_reducible rfl)
  try simp only [Act.put, List.setIfInBounds_toArray, List.set_cons_zero, List.set_cons_succ]
  refine wpAnyH_done (by kernel_rfl) ?_ _
  try simp only [Act.put, List.setIfInBounds_toArray, List.set_cons_zero, List.set_cons_succ]
  go_wp2
  go_ret
  exact ⟨A5, c5, rfl, h5, F5.out.more G0.out.size, G0.out.trans (Gx2.out.mono G0.out.size)⟩
set_option maxHeartbeats 4000000 in
theorem yInner_any (n : Int) (b l r : List Int) (w : World) (hn : 0 ≤ n ∧ n ≤ 65535) (hb : Ky b) (hkl : Ky l) (hkr : Ky r) : Calls Tryz.prog 43 #[.agg (pc n b), .agg (kc l), .agg (kc r)] w (TxA w (innerT n b l r)) := by
  obtain ⟨hk1, hk2, hk3, hb0⟩ := three_blks w (pc n b) (kc l) (kc r) 47 25 25
  have CN : Hid (World.cell? (((w.alloc (.cells (pc n b) 47)).alloc (.cells (kc l) 25)).alloc (.cells (kc r) 25)) ⟨w.heap.size, 0, none⟩ = some (.int .i64 n)) := hk1.cell 0
  have NA := hid (pc_range hk1)
  have K2 := hid hk2; have K3 := hid hk3
  have G0 := hid hb0
  have HB := hid hb; have HKL := hid hkl; have HKR := hid hkr
  have HN : Hid (0 ≤ n ∧ n < 18446744073709551616) := ⟨hn.1, by omega⟩
  have hwr : IntKind.u64.wrap n = n := by simp [IntKind.wrap, IntKind.bits, IntKind.signed]; omega
  clear hk1 hk2 hk3 hb0 hb hkl hkr hn
  unfold TxA
  go_enter Tryz.func43, Tryz.ntmps43
  go_wp2
  generalize ((w.alloc (.cells (pc n b) 47)).alloc (.cells (kc l) 25)).alloc (.cells (kc r) 25) = w0 at NA G0 CN K2 K3 ⊢
  refine wp_region_held (S := fun w' => Hid (Below w0.heap.size w0 w')) (by kernel_rfl) ?_
  change wpAnyH _ _ _ _ _ _ _ _ w0.drew
  have Gx0 : Hid (Below w0.heap.size w0 w0.drew) := (Below.refl _ _).drew
  generalize w0.drew = x0 at Gx0  ⊢
  refine wpAnyH_take (i := 0) (oi := { dst := some 7, op := _, type := _, pos := _, after := _, guard := _ }) (v := ?_) rfl (by kernel_rfl) (by kernel_rfl) (by kernel_rfl) (fun _ _ _ h => h) (Or.inl ⟨by kernel_rfl, ?_⟩) Gx0 ?_
  rotate_left
  · (intro w hSw; go_simp; try with_reducible rfl)
  try simp only [Act.put, List.setIfInBounds_toArray, List.set_cons_zero, List.set_cons_succ]
  refine wpAnyH_take (i := 1) (oi := { dst := some 8, op := _, type := _, pos := _, after := _, guard := _ }) (v := ?_) rfl (by kernel_rfl) (by kernel_rfl) (by kernel_rfl) (fun _ _ _ h => h) (Or.inl ⟨by kernel_rfl, ?_⟩) Gx0 ?_
  rotate_left
  · (intro w hSw; have cn := cell_bel hSw.out CN.out; go_simp; try with_reducible rfl)
  try simp only [Act.put, List.setIfInBounds_toArray, List.set_cons_zero, List.set_cons_succ]
  refine wpAnyH_take (i := 2) (oi := { dst := some 9, op := _, type := _, pos := _, after := _, guard := _ }) (v := ?_) rfl (by kernel_rfl) (by kernel_rfl) (by kernel_rfl) (fun _ _ _ h => h) (Or.inl ⟨by kernel_rfl, ?_⟩) Gx0 ?_
  rotate_left
  · (intro w hSw; go_simp; try with_reducible rfl)
  try simp only [Act.put, List.setIfInBounds_toArray, List.set_cons_zero, List.set_cons_succ]
  refine wpAnyH_take (i := 4) (oi := { dst := some 11, op := _, type := _, pos := _, after := _, guard := _ }) (v := ?_) rfl (by kernel_rfl) (by kernel_rfl) (by kernel_rfl) (fun _ _ _ h => h) (Or.inl ⟨by kernel_rfl, ?_⟩) Gx0 ?_
  rotate_left
  · (intro w hSw; go_simp; try with_reducible rfl)
  try simp only [Act.put, List.setIfInBounds_toArray, List.set_cons_zero, List.set_cons_succ]
  refine wpAnyH_take (i := 5) (oi := { dst := some 12, op := _, type := _, pos := _, after := _, guard := _ }) (v := ?_) rfl (by kernel_rfl) (by kernel_rfl) (by kernel_rfl) (fun _ _ _ h => h) (Or.inl ⟨by kernel_rfl, ?_⟩) Gx0 ?_
  rotate_left
  · (intro w hSw; go_simp; try with_reducible rfl)
  try simp only [Act.put, List.setIfInBounds_toArray, List.set_cons_zero, List.set_cons_succ]
  refine wpAnyH_take (i := 6) (oi := { dst := some 13, op := _, type := _, pos := _, after := _, guard := _ }) (v := ?_) rfl (by kernel_rfl) (by kernel_rfl) (by kernel_rfl) (fun _ _ _ h => h) (Or.inl ⟨by kernel_rfl, ?_⟩) Gx0 ?_
  rotate_left
  · (intro w hSw; go_simp; try with_reducible rfl)
  try simp only [Act.put, List.setIfInBounds_toArray, List.set_cons_zero, List.set_cons_succ]
  refine wpAnyH_take (i := 7) (oi := { dst := some 14, op := _, type := _, pos := _, after := _, guard := _ }) (v := ?_) rfl (by kernel_rfl) (by kernel_rfl) (by kernel_rfl) (fun _ _ _ h => h) (Or.inl ⟨by kernel_rfl, ?_⟩) Gx0 ?_
  rotate_left
  · (intro w hSw; go_simp; try with_reducible rfl)
  try simp only [Act.put, List.setIfInBounds_toArray, List.set_cons_zero, List.set_cons_succ]
  refine wpAnyH_ready (rs := [3]) (by kernel_rfl) (by simp) ?_
  refine (AllReadyH.cons (o := { dst := some 10, op := _, type := _, pos := _, after := _, guard := _ }) rfl (fun Qc hQc => ?_) AllReadyH.nil)
  go_simp
  go_at_call 62
  refine (Number_any n 2 x0 HN.out (by decide)).mono ?_
  rintro e x1 ⟨A4, c4, rfl, h4, hf4, hb⟩
  have Gx1 := hid (Gx0.out.trans (hb.mono Gx0.out.size))
  have H4 := hid h4; have R4 := hid hf4.rp0
  clear hb h4 hf4
  go_wp2_with fail
  refine hQc.out _ _ Gx1 (fun hHeld => ?_)
  clear hQc Qc hHeld
  try simp only [Act.put, List.setIfInBounds_toArray, List.set_cons_zero, List.set_cons_succ]
  refine wpAnyH_ready (rs := [8]) (by kernel_rfl) (by simp) ?_
  refine (AllReadyH.cons (o := { dst := some 15, op := _, type := _, pos := _, after := _, guard := _ }) rfl (fun Qc hQc => ?_) AllReadyH.nil)
  have R4a := hid (R4.out.belowN (Below.alloc (Below.refl x1.heap.size x1) (Nat.le_refl _) (.cells #[.slice A4 2 c4, .slice (some ⟨w.heap.size, 1, none⟩) 32 32, .slice (some ⟨w.heap.size + 1, 0, none⟩) 32 32, .slice (some ⟨w.heap.size + 1 + 1, 0, none⟩) 32 32] 65)))
  go_simp
  have NBx2 : Hid (Blk (x1.alloc (.cells #[.slice A4 2 c4, .slice (some ⟨w.heap.size, 1, none⟩) 32 32, .slice (some ⟨w.heap.size + 1, 0, none⟩) 32 32, .slice (some ⟨w.heap.size + 1 + 1, 0, none⟩) 32 32] 65)) x1.heap.size 65 #[.slice A4 2 c4, .slice (some ⟨w.heap.size, 1, none⟩) 32 32, .slice (some ⟨w.heap.size + 1, 0, none⟩) 32 32, .slice (some ⟨w.heap.size + 1 + 1, 0, none⟩) 32 32]) := Blk.new x1 65 #[.slice A4 2 c4, .slice (some ⟨w.heap.size, 1, none⟩) 32 32, .slice (some ⟨w.heap.size + 1, 0, none⟩) 32 32, .slice (some ⟨w.heap.size + 1 + 1, 0, none⟩) 32 32]
  have Gx2 := hid (Gx1.out.alloc Gx1.out.size (.cells #[.slice A4 2 c4, .slice (some ⟨w.heap.size, 1, none⟩) 32 32, .slice (some ⟨w.heap.size + 1, 0, none⟩) 32 32, .slice (some ⟨w.heap.size + 1 + 1, 0, none⟩) 32 32] 65))
  refine hQc.out _ _ Gx2 (fun hHeld => ?_)
  clear hQc Qc hHeld
  generalize x1.heap.size = g1 at NBx2 ⊢
  generalize x1.alloc (.cells #[.slice A4 2 c4, .slice (some ⟨w.heap.size, 1, none⟩) 32 32, .slice (some ⟨w.heap.size + 1, 0, none⟩) 32 32, .slice (some ⟨w.heap.size + 1 + 1, 0, none⟩) 32 32] 65) = x2 at NBx2 Gx2 R4a ⊢
  try simp only [Act.put, List.setIfInBounds_toArray, List.set_cons_zero, List.set_cons_succ]
  refine wpAnyH_ready (rs := [9]) (by kernel_rfl) (by simp) ?_
  refine (AllReadyH.cons (o := { dst := some 16, op := _, type := _, pos := _, after := _, guard := _ }) rfl (fun Qc hQc => ?_) AllReadyH.nil)
  go_simp
  go_at_call 61
  refine (text_4 (n := n) RText_any NBx2.out H4.out HB.out HKL.out HKR.out R4a.out ((rng_rp NA.out).belowN Gx2.out) ((blk_rp K2.out).belowN Gx2.out) ((blk_rp K3.out).belowN Gx2.out)).mono ?_
  rintro e x3 ⟨⟨A5, c5, rfl, h5, hf5⟩, hb⟩
  have Gx3 := hid (Gx2.out.trans (hb.mono Gx2.out.size))
  have F5 := hid (hf5.more Gx2.out.size)
  clear hb
  go_wp2_with fail
  refine hQc.out _ _ Gx3 (fun hHeld => ?_)
  clear hQc Qc hHeld
  try simp only [Act.put, List.setIfInBounds_toArray, List.set_cons_zero, List.set_cons_succ]
  refine wpAnyH_take (i := 10) (oi := { dst := some 6, op := _, type := _, pos := _, after := _, guard := _ }) (v := ?_) rfl (by kernel_rfl) (by kernel_rfl) (by kernel_rfl) (fun _ _ _ h => h) (Or.inl ⟨by kernel_rfl, ?_⟩) Gx3 ?_
  rotate_left
  · (intro w hSw; go_simp; try with_reducible rfl)
  try simp only [Act.put, List.setIfInBounds_toArray, List.set_cons_zero, List.set_cons_succ]
  refine wpAnyH_done (by kernel_rfl) ?_ _
  try simp only [Act.put, List.setIfInBounds_toArray, List.set_cons_zero, List.set_cons_succ]
  go_wp2
  go_ret
  exact ⟨A5, c5, rfl, h5, F5.out.more G0.out.size, G0.out.trans (Gx3.out.mono G0.out.size)⟩
end Go.Proofs.YtjhaamffgkialaaGreatDoor
/-
  What is proved here: the root without keys; how the code counts the places of its row of nodes.
-/
namespace Go.Proofs.YtjhaamffgkialaaGreatDoor
open Go.ChangeShapes Go.WideShapes Go.ChangeAt Go.RowKit
set_option linter.unusedVariables false
set_option linter.unusedSimpArgs false
set_option maxRecDepth 20000

def emptyH : List Int := sum (textL 101 [])
theorem emptyH_ky : Ky emptyH := ⟨sum_length _, sum_bs _⟩
theorem inR_0 (w : World) : InR w none 0 [] := ⟨rfl, by decide, fun h => by omega⟩
theorem kc_info2 {K : List Int} (h : Ky K) : (Tryz.prog.info? 25).map (·.size) = some (kc K).size := kc_info h
set_option maxHeartbeats 2000000 in
theorem xEmpty_any (w : World) (ht : Tab w) : Calls Tryz.prog 18 #[] w fun e w' => e = .returned (.agg (kc emptyH)) ∧ Below w.heap.size w w' := by
  obtain ⟨Z, HZ, hZ0, hZs⟩ := zero_key
  have KZ : Hid (Blk (w.alloc (.cells Z 25)) w.heap.size 25 Z) := Blk.new w 25 Z
  have B0 : Hid (Below w.heap.size w (w.alloc (.cells Z 25))) := (Below.refl _ _).alloc (Nat.le_refl _) _
  have CT : Hid (Calls Tryz.prog 35 #[.int .u8 101, .slice none 0 0] (w.alloc (.cells Z 25)) fun e w' => e = .returned (.agg (kc emptyH)) ∧ Below (w.alloc (.cells Z 25)).heap.size (w.alloc (.cells Z 25)) w') :=
    Tagged_any 101 none 0 0 [] _ (inR_0 _) (by decide) (fun f hf => by simp at hf) (by decide) (ht.below B0.out)
  have HI := hid (kc_info emptyH_ky)
  have hzs : Hid (Z.size = (kc emptyH).size) := by show _ = _; rw [HZ.out, kc_size zk_ky, kc_size emptyH_ky]
  generalize emptyH = E at CT HI hzs ⊢
  clear ht
  go_enter Tryz.func18, Tryz.ntmps18
  go_wp2_with (first
    | (go_at_call 35; refine CT.out.mono ?_; rintro e w1 ⟨rfl, hb1⟩; have L1 := hid (KZ.out.below hb1); have B1 := hid (B0.out.trans (hb1.mono B0.out.size)); clear hb1)
    | (refine wpList_store_row rfl 25 (.tmp 0) (.tmp 1) rfl w.heap.size (kc E) rfl rfl 25 Z L1.out HI.out hzs.out (kc_one _) ?_))
  try go_frame
  refine bodyPost_ret (results_cell_row Tryz.results18 _ _ w.heap.size 25 (kc E) (0, 0) _ rfl (L1.out.row _) Tryz.underlying25 rfl HI.out) rfl ?_
  exact ⟨rfl, below_setRow B1.out (Nat.le_refl _) _⟩
set_option maxHeartbeats 2000000 in
theorem yEmpty_any (w : World) : Calls Tryz.prog 19 #[] w fun e w' => e = .returned (.agg (kc emptyH)) ∧ Below w.heap.size w w' := by
  obtain ⟨Z, HZ, hZ0, hZs⟩ := zero_key
  have KZ : Hid (Blk (w.alloc (.cells Z 25)) w.heap.size 25 Z) := Blk.new w 25 Z
  have B0 : Hid (Below w.heap.size w (w.alloc (.cells Z 25))) := (Below.refl _ _).alloc (Nat.le_refl _) _
  have CT : Hid (Calls Tryz.prog 36 #[.int .u8 101, .slice none 0 0] (w.alloc (.cells Z 25)) fun e w' => e = .returned (.agg (kc emptyH)) ∧ Below (w.alloc (.cells Z 25)).heap.size (w.alloc (.cells Z 25)) w') :=
    RTagged_any 101 none 0 0 [] _ (inR_0 _) (by decide) (fun f hf => by simp at hf) (by decide)
  have HI := hid (kc_info emptyH_ky)
  have hzs : Hid (Z.size = (kc emptyH).size) := by show _ = _; rw [HZ.out, kc_size zk_ky, kc_size emptyH_ky]
  generalize emptyH = E at CT HI hzs ⊢
  go_enter Tryz.func19, Tryz.ntmps19
  go_wp2_with (first
    | (go_at_call 36; refine CT.out.mono ?_; rintro e w1 ⟨rfl, hb1⟩; have L1 := hid (KZ.out.below hb1); have B1 := hid (B0.out.trans (hb1.mono B0.out.size)); clear hb1)
    | (refine wpList_store_row rfl 25 (.tmp 0) (.tmp 1) rfl w.heap.size (kc E) rfl rfl 25 Z L1.out HI.out hzs.out (kc_one _) ?_))
  try go_frame
  refine bodyPost_ret (results_cell_row Tryz.results19 _ _ w.heap.size 25 (kc E) (0, 0) _ rfl (L1.out.row _) Tryz.underlying25 rfl HI.out) rfl ?_
  exact ⟨rfl, below_setRow B1.out (Nat.le_refl _) _⟩

/-! Places that are taken. -/
theorem xCAS_hit (b : Nat) (x y : Int) (w : World) (h0 : w.cell? ⟨b, 0, none⟩ = some (.int .i64 x)) (f0 : w.frozen? ⟨b, 0, none⟩ = false) :
    Calls Tryz.prog 96 #[.pointer (some ⟨b, 0, none⟩), .int .i64 x, .int .i64 y] w fun e w' => e = .returned (.bool true) ∧ w' = w.setCell ⟨b, 0, none⟩ (.int .i64 y) := by
  have hcas := run_call_cas_hit (P := Tryz.prog) Tryz.func112 (by kernel_rfl) (by kernel_rfl) (by kernel_rfl) .i64 (by kernel_rfl) (y := y) h0 f0
  go_enter Tryz.func96, Tryz.ntmps96
  go_wp2
  go_ret
  exact ⟨rfl, rfl⟩
theorem xStore_any (b : Nat) (x y : Int) (w : World) (h0 : w.cell? ⟨b, 0, none⟩ = some (.int .i64 x)) (f0 : w.frozen? ⟨b, 0, none⟩ = false) :
    Calls Tryz.prog 98 #[.pointer (some ⟨b, 0, none⟩), .int .i64 y] w fun e w' => e = .returned (.tuple #[]) ∧ w' = w.setCell ⟨b, 0, none⟩ (.int .i64 y) := by
  have hst := run_call_store (P := Tryz.prog) Tryz.func113 (by kernel_rfl) (by kernel_rfl) (by kernel_rfl) (by kernel_rfl) (k := .i64) (y := y) h0 f0
  go_enter Tryz.func98, Tryz.ntmps98
  go_wp2
  go_end0
  exact ⟨rfl, rfl⟩
theorem xClone_nil (w : World) : Calls Tryz.prog 97 #[.slice none 0 0] w fun e w' => e = .returned (.slice none 0 0) ∧ w = w' := by
  have heq : ∀ w, Sem.run Tryz.prog (binOp .eql 50 (.slice none 0 0) (.slice none 0 0)) w = .ok (.bool true) w := fun w => by kernel_rfl
  go_enter Tryz.func97, Tryz.ntmps97
  go_wp2
  go_ret
  exact ⟨rfl, rfl⟩
end Go.Proofs.YtjhaamffgkialaaGreatDoor
/-
  What is proved here: a place more is taken in the code's row of nodes.
-/
namespace Go.Proofs.YtjhaamffgkialaaGreatDoor
open Go.ChangeShapes Go.WideShapes Go.ChangeAt Go.RowKit
set_option linter.unusedVariables false
set_option linter.unusedSimpArgs false
set_option maxRecDepth 20000

/-- a forest with a place more taken than it has nodes -/
structure FoT (w : World) (f g b : Nat) (N : List Nd) (A : Option Addr) (c : Nat) : Prop where
  kf : Blk w f 53 #[.slice A N.length c, .pointer (some ⟨b, 0, none⟩)]
  row : w.ownsRow 0 63 132 (.slice A N.length c) N.length (ncs N)
  kb : Blk w b 158 #[.int .i64 ((N.length : Int) + 1)]
  how : (N = [] ∧ A = none ∧ c = 0 ∧ g = f) ∨ (0 < N.length ∧ A = some ⟨g, 0, none⟩ ∧ ∃ C, Blk w g 63 C)
set_option maxHeartbeats 2000000 in
theorem xtake_first {w : World} {f : Nat} (h : Blk w f 53 #[.slice none 0 0, .pointer none]) : Calls Tryz.prog 74 #[.pointer (some ⟨f, 0, none⟩), .int .i64 0] w fun e w' => e = .returned (.tuple #[]) ∧ ∃ b, FoT w' f f b [] none 0 ∧ w.heap.size ≤ b ∧ OnlyS (Ow f f f) w w' := by
  have c0 : w.cell? ⟨f, 0, none⟩ = some (.slice none 0 0) := h.cell 0
  have c1 : w.cell? ⟨f, 1, none⟩ = some (.pointer none) := h.cell 1
  have f0 : w.frozen? ⟨f, 0, none⟩ = false := h.frozen 0
  have HK := hid h
  have CC := hid xClone_nil
  have hlt := h.lt
  have OO : Hid (OnlyS (Ow f f f) w w) := OnlyS.refl _ _
  clear h
  go_enter Tryz.func74, Tryz.ntmps74
  go_upto_region 2 with (first
    | (go_at_call 97; refine (CC.out _).mono ?_; rintro e w1 ⟨rfl, rfl⟩))
  have K1 : Hid (Blk (w.setCell ⟨f, 0, none⟩ (.slice none 0 0)) f 53 #[.slice none 0 0, .pointer none]) := HK.out.setd 0 (.slice none 0 0)
  have O1 : Hid (OnlyS (Ow f f f) w (w.setCell ⟨f, 0, none⟩ (.slice none 0 0))) := OO.out.setCell (.inl (.inl rfl)) _
  have S1 : Hid ((w.setCell ⟨f, 0, none⟩ (.slice none 0 0)).heap.size = w.heap.size) := by show _ = _; simp
  generalize w.setCell ⟨f, 0, none⟩ (.slice none 0 0) = w1 at K1 O1 S1 ⊢
  clear c0 c1 f0 HK OO
  have K2 := hid (K1.out.alloc (.cells #[.int .i64 0] 158))
  have N2 : Hid (Blk (w1.alloc (.cells #[.int .i64 0] 158)) w1.heap.size 158 #[.int .i64 0]) := Blk.new w1 158 _
  have O2 := hid (O1.out.alloc (.cells #[.int .i64 0] 158))
  have c1 : (w1.alloc (.cells #[.int .i64 0] 158)).cell? ⟨f, 1, none⟩ = some (.pointer none) := K2.out.cell 1
  have f1 : (w1.alloc (.cells #[.int .i64 0] 158)).frozen? ⟨f, 1, none⟩ = false := K2.out.frozen 1
  go_upto_region 3 with (fail)
  clear c1 f1
  have NE : f ≠ w1.heap.size := by have := K1.out.lt; omega
  have K3 : Hid (Blk ((w1.alloc (.cells #[.int .i64 0] 158)).setCell ⟨f, 1, none⟩ (.pointer (some ⟨w1.heap.size, 0, none⟩))) f 53 #[.slice none 0 0, .pointer (some ⟨w1.heap.size, 0, none⟩)]) := K2.out.setd 1 _
  have N3 := hid (N2.out.far (p := ⟨f, 1, none⟩) (fun e => NE e.symm) (.pointer (some ⟨w1.heap.size, 0, none⟩)))
  have O3 := hid (O2.out.setCell (p := ⟨f, 1, none⟩) (.inl (.inl rfl)) (.pointer (some ⟨w1.heap.size, 0, none⟩)))
  have SB : Hid (w.heap.size ≤ w1.heap.size) := Nat.le_of_eq S1.out.symm
  clear K1 O1 S1 K2 N2 O2
  generalize hg : w1.heap.size = b at *
  generalize (w1.alloc (.cells #[.int .i64 0] 158)).setCell ⟨f, 1, none⟩ (.pointer (some ⟨b, 0, none⟩)) = w3 at K3 N3 O3 ⊢
  have c1 : w3.cell? ⟨f, 1, none⟩ = some (.pointer (some ⟨b, 0, none⟩)) := K3.out.cell 1
  have CS := hid (xStore_any b 0 1 w3 (N3.out.cell 0) (N3.out.frozen 0))
  go_wp2_with (first
    | (go_at_call 98; refine CS.out.mono ?_; rintro e w4 ⟨rfl, hw4⟩; have H4 := hid hw4; clear hw4))
  go_end0
  have N4 : Blk w4 b 158 #[.int .i64 1] := by rw [H4.out]; exact N3.out.setd 0 _
  have K4 : Blk w4 f 53 #[.slice none 0 0, .pointer (some ⟨b, 0, none⟩)] := by rw [H4.out]; exact K3.out.far NE _
  have O4 : OnlyS (Ow f f f) w w4 := by rw [H4.out]; exact O3.out.setCell (.inr SB.out) _
  exact ⟨rfl, b, ⟨K4, ⟨rfl, .inl ⟨rfl, rfl⟩⟩, N4, .inl ⟨rfl, rfl, rfl, rfl⟩⟩, SB.out, O4⟩
set_option maxHeartbeats 2000000 in
theorem xtake_more {w : World} {f g b : Nat} {N : List Nd} {A : Option Addr} {c : Nat} {tv : Value} (h : Fo w f g b N A c tv) (hN : 0 < N.length) : Calls Tryz.prog 74 #[.pointer (some ⟨f, 0, none⟩), .int .i64 N.length] w fun e w' => e = .returned (.tuple #[]) ∧ FoT w' f g b N A c ∧ OnlyS (Ow f g b) w w' := by
  rcases h.how with ⟨rfl, _⟩ | ⟨_, hA, rfl, hb, C, hg⟩
  · simp at hN
  have c1 : w.cell? ⟨f, 1, none⟩ = some (.pointer (some ⟨b, 0, none⟩)) := h.kf.cell 1
  have CC := hid (xCAS_hit b N.length ((N.length : Int) + 1) w (hb.cell 0) (hb.frozen 0))
  have hne : b ≠ f := hb.ne h.kf (by decide)
  have hne2 : b ≠ g := hb.ne hg (by decide)
  have hfew := h.few
  have post : FoT (w.setCell ⟨b, 0, none⟩ (.int .i64 ((N.length : Int) + 1))) f g b N A c ∧ OnlyS (Ow f g b) w (w.setCell ⟨b, 0, none⟩ (.int .i64 ((N.length : Int) + 1))) := by
    refine ⟨⟨h.kf.far (p := ⟨b, 0, none⟩) (fun e => hne e.symm) _, own_keep h.row (fun k e => ?_), hb.setd 0 _, .inr ⟨hN, hA, C, hg.far (p := ⟨b, 0, none⟩) (fun e => hne2 e.symm) _⟩⟩, (OnlyS.refl _ _).setCell (.inl (.inr (.inr rfl))) _⟩
    rw [hA] at e
    injection e with e
    exact Below.heap_setCell w _ _ k (fun e2 => hne2 (Eq.trans e2.symm e.symm))
  obtain ⟨n, hn⟩ : ∃ n, n = N.length := ⟨_, rfl⟩
  rw [← hn] at CC post hfew ⊢
  have HP := hid post
  clear h hb hg hA hn hN hne hne2 post
  go_enter Tryz.func74, Tryz.ntmps74
  go_wp2_with (first
    | (go_at_call 96; refine CC.out.mono ?_; rintro e w1 ⟨rfl, hw1⟩; have H1 := hid hw1; clear hw1))
  refine bodyPost_ret (results_none rfl _ _ _) rfl ?_
  rw [H1.out]
  exact ⟨rfl, HP.out⟩
end Go.Proofs.YtjhaamffgkialaaGreatDoor
/-
  What this file is for: a node as a value, and as a slice of one; appending to a row of nodes, and where the row then lies; a node's hash stored. Nothing of the program is walked here.
-/
namespace Go.Proofs.YtjhaamffgkialaaGreatDoor
open Go.ChangeShapes Go.WideShapes Go.ChangeAt Go.RowKit
set_option linter.unusedVariables false
set_option maxRecDepth 20000

theorem fold_put (off : Nat) : ∀ (vs : List Value) (k : Nat) (cs : Array Value), (vs.zipIdx k).foldl (fun cs x => cs.setIfInBounds (off + x.2) x.1) cs = putRow cs (off + k) vs
  | [], _, _ => rfl
  | v :: r, k, cs => by
    rw [List.zipIdx_cons, List.foldl_cons, fold_put off r (k + 1)]
    rfl
theorem fold_put_arr (off : Nat) (vs : Array Value) (cs : Array Value) : vs.zipIdx.foldl (fun cs x => cs.setIfInBounds (off + x.2) x.1) cs = putRow cs off vs.toList := by
  rw [← Array.foldl_toList, Array.toList_zipIdx]
  exact fold_put off vs.toList 0 cs
theorem putRow_len : ∀ (vs : List Value) (cs : Array Value) (o : Nat), (putRow cs o vs).size = cs.size
  | [], _, _ => rfl
  | v :: r, cs, o => by unfold putRow; rw [putRow_len r]; simp
theorem putRow_mid {A M M' C : List Value} {o : Nat} (ho : o = A.length) (hl : M'.length = M.length) : putRow (A ++ (M ++ C)).toArray o M' = (A ++ (M' ++ C)).toArray := by
  apply Array.ext_getElem?
  intro i
  rw [putRow_at _ _ _ _ (by simp; omega), List.getElem?_toArray, List.getElem?_toArray, ho]
  by_cases h1 : i < A.length
  · rw [if_neg (by omega), List.getElem?_append_left h1, List.getElem?_append_left h1]
  · rw [List.getElem?_append_right (l₁ := A) (by omega), List.getElem?_append_right (l₁ := A) (by omega)]
    by_cases h2 : i - A.length < M'.length
    · rw [if_pos (by omega), List.getElem?_append_left h2]
    · rw [if_neg (by omega), List.getElem?_append_right (by omega), List.getElem?_append_right (by omega), hl]
theorem fill_step {place : Nat → Option (Nat × Nat)} {cells : Array Value} {i off size : Nat} {v : Value} {rest : List (Nat × Value)} (hp : place i = some (off, size)) (hv : v.cells.size = size) (hc : off + size ≤ cells.size) :
    Instr.fill place cells ((i, v) :: rest) = Instr.fill place (putRow cells off v.cells.toList) rest := by
  rw [Instr.fill]
  simp only [hp]
  rw [if_neg (by simp [hv]; omega), fold_put_arr]
theorem fill_end {place : Nat → Option (Nat × Nat)} {cells : Array Value} : Instr.fill place cells [] = some cells := by rw [Instr.fill]
section
variable {q : Nd}
theorem nc_0 (x : Bool) : putRow (nc q).toArray 0 [.bool x] = (nc { q with leaf := x }).toArray :=
  putRow_mid (A := []) (M := [.bool q.leaf]) rfl rfl
theorem nc_1 {x : List Int} (hq : Ky q.k) (hx : Ky x) : putRow (nc q).toArray 1 (u8s x) = (nc { q with k := x }).toArray :=
  putRow_mid (A := [.bool q.leaf]) (M := u8s q.k) rfl (by rw [u8s_length, u8s_length, hq.len, hx.len])
theorem nc_2 {x : List Int} (h1 : Ky q.k) (hq : Ky q.v) (hx : Ky x) : putRow (nc q).toArray 33 (u8s x) = (nc { q with v := x }).toArray :=
  putRow_mid (A := .bool q.leaf :: u8s q.k) (M := u8s q.v) (by rw [List.length_cons, u8s_length, h1.len]) (by rw [u8s_length, u8s_length, hq.len, hx.len])
theorem nc_3 {n : Int} {x : List Int} (h1 : Ky q.k) (h2 : Ky q.v) (hq : Ky q.b) (hx : Ky x) : putRow (nc q).toArray 65 (.int .i64 n :: u8s x) = (nc { q with n := n, b := x }).toArray := by
  have := putRow_mid (A := .bool q.leaf :: (u8s q.k ++ u8s q.v)) (M := .int .i64 q.n :: u8s q.b) (M' := .int .i64 n :: u8s x) (C := [.int .i64 q.l, .int .i64 q.r] ++ u8s q.h) (o := 65) (by rw [List.length_cons, List.length_append, u8s_length, u8s_length, h1.len, h2.len]) (by rw [List.length_cons, List.length_cons, u8s_length, u8s_length, hq.len, hx.len])
  simpa only [nc, List.cons_append, List.append_assoc] using this
theorem nc_4 {x : Int} (h1 : Ky q.k) (h2 : Ky q.v) (h3 : Ky q.b) : putRow (nc q).toArray 98 [.int .i64 x] = (nc { q with l := x }).toArray := by
  have := putRow_mid (A := .bool q.leaf :: (u8s q.k ++ (u8s q.v ++ (.int .i64 q.n :: u8s q.b)))) (M := [.int .i64 q.l]) (M' := [.int .i64 x]) (C := [.int .i64 q.r] ++ u8s q.h) (o := 98) (by simp [u8s_length, h1.len, h2.len, h3.len]) rfl
  simpa only [nc, List.cons_append, List.append_assoc, List.nil_append] using this
theorem nc_5 {x : Int} (h1 : Ky q.k) (h2 : Ky q.v) (h3 : Ky q.b) : putRow (nc q).toArray 99 [.int .i64 x] = (nc { q with r := x }).toArray := by
  have := putRow_mid (A := .bool q.leaf :: (u8s q.k ++ (u8s q.v ++ ((.int .i64 q.n :: u8s q.b) ++ [.int .i64 q.l])))) (M := [.int .i64 q.r]) (M' := [.int .i64 x]) (C := u8s q.h) (o := 99) (by simp [u8s_length, h1.len, h2.len, h3.len]) rfl
  simpa only [nc, List.cons_append, List.append_assoc, List.nil_append] using this
theorem nc_6 {x : List Int} (h1 : Ky q.k) (h2 : Ky q.v) (h3 : Ky q.b) (hq : Ky q.h) (hx : Ky x) : putRow (nc q).toArray 100 (u8s x) = (nc { q with h := x }).toArray := by
  have := putRow_mid (A := .bool q.leaf :: (u8s q.k ++ (u8s q.v ++ ((.int .i64 q.n :: u8s q.b) ++ [.int .i64 q.l, .int .i64 q.r])))) (M := u8s q.h) (M' := u8s x) (C := []) (o := 100) (by simp [u8s_length, h1.len, h2.len, h3.len]) (by rw [u8s_length, u8s_length, hq.len, hx.len])
  simpa only [nc, List.cons_append, List.append_assoc, List.nil_append, List.append_nil] using this
end
theorem node_places : ∃ fields, Tryz.prog.underlying 63 = some (.struct fields) ∧ fields.toList.mapM (fun f => (Tryz.prog.info? f.type).map fun i => (f.offset, i.size)) = some [(0, 1), (1, 32), (33, 32), (65, 33), (98, 1), (99, 1), (100, 32)] := ⟨_, Tryz.underlying63, by kernel_rfl⟩
/-- a leaf as a struct, its hash not yet told -/
theorem leaf_built {k v : List Int} (hk : Ky k) (hv : Ky v) : Tryz.prog.built 63 [(0, .bool true), (1, .agg (kc k)), (2, .agg (kc v)), (4, .int .i64 (-1)), (5, .int .i64 (-1))] = some (nc (ndL k v z32)).toArray := by
  obtain ⟨i0, hi, hz0, hz1, hz2⟩ := info_parts info_node
  obtain ⟨fields, hu, hpl⟩ := node_places
  unfold Program.built
  rw [hi, hu]
  simp only [hz0, hpl]
  have e3 : (Value.agg (nc ndZ).toArray).cells = (nc ndZ).toArray := rfl
  have sz : (nc ndZ).toArray.size = 132 := rfl
  rw [e3, fill_step (v := .bool true) (off := 0) (size := 1) rfl rfl (by simp only [putRow_len, sz]; decide), fill_step (v := .agg (kc k)) (off := 1) (size := 32) rfl (kc_size hk) (by simp only [putRow_len, sz]; decide), fill_step (v := .agg (kc v)) (off := 33) (size := 32) rfl (kc_size hv) (by simp only [putRow_len, sz]; decide), fill_step (v := .int .i64 (-1)) (off := 98) (size := 1) rfl rfl (by simp only [putRow_len, sz]; decide), fill_step (v := .int .i64 (-1)) (off := 99) (size := 1) rfl rfl (by simp only [putRow_len, sz]; decide), fill_end]
  have c1 : (Value.agg (kc k)).cells.toList = u8s k := rfl
  have c2 : (Value.agg (kc v)).cells.toList = u8s v := rfl
  have c0 : (Value.bool true).cells.toList = [.bool true] := rfl
  have c4 : (Value.int .i64 (-1)).cells.toList = [.int .i64 (-1)] := rfl
  rw [c0, c1, c2, c4, nc_0, nc_1 ky_zero hk, nc_2 hk ky_zero hv, nc_4 hk hv ky_zero, nc_5 hk hv ky_zero]
  rfl
/-- an inner node as a struct, its hash not yet told -/
def ndI0 (n : Int) (b : List Int) (l r : Int) : Nd := ⟨false, z32, z32, n, b, l, r, z32⟩
theorem inner_built {n : Int} {b : List Int} {l r : Int} (hb : Ky b) : Tryz.prog.built 63 [(3, .agg (pc n b)), (4, .int .i64 l), (5, .int .i64 r)] = some (nc (ndI0 n b l r)).toArray := by
  obtain ⟨i0, hi, hz0, hz1, hz2⟩ := info_parts info_node
  obtain ⟨fields, hu, hpl⟩ := node_places
  unfold Program.built
  rw [hi, hu]
  simp only [hz0, hpl]
  have e3 : (Value.agg (nc ndZ).toArray).cells = (nc ndZ).toArray := rfl
  have sz : (nc ndZ).toArray.size = 132 := rfl
  rw [e3, fill_step (v := .agg (pc n b)) (off := 65) (size := 33) rfl (pc_size n hb) (by simp only [putRow_len, sz]; decide), fill_step (v := .int .i64 l) (off := 98) (size := 1) rfl rfl (by simp only [putRow_len, sz]; decide), fill_step (v := .int .i64 r) (off := 99) (size := 1) rfl rfl (by simp only [putRow_len, sz]; decide), fill_end]
  have c1 : (Value.agg (pc n b)).cells.toList = .int .i64 n :: u8s b := rfl
  have c4 : ∀ x, (Value.int .i64 x).cells.toList = [.int .i64 x] := fun _ => rfl
  rw [c1, c4, c4, nc_3 ky_zero ky_zero ky_zero hb, nc_4 ky_zero ky_zero hb, nc_5 ky_zero ky_zero hb]
  rfl
/-- a slice literal of one node -/
theorem wp_node_one {o : Oper} {a : Act} {w : World} {K : Act → World → Prop} {Q : Exit → Act → World → Prop} (x : Operand) (ho : o.op = .buildSlice 50 1 #[(0, x)]) (q : Nd) (hq : NdOk q) (hx : a.eval x = .agg (nc q).toArray)
    (h : K (a.put o.dst (.slice (some ⟨w.heap.size, 0, none⟩) 1 1)) (w.alloc (.cells (nc q).toArray 63))) : o.wp Tryz.prog a w K Q := by
  obtain ⟨i0, hi, hz0, hz1, hz2⟩ := info_parts info_node
  have hl := hq.nc
  refine wp_buildSlice 50 63 1 #[(0, x)] ho (nc q).toArray i0 _ Tryz.underlying50 hi hz0 (by rw [hz1]; decide) (by rw [hz1]; decide) ?_ h
  have hp : (#[(0, x)].map fun ((i, x) : Nat × Operand) => (i, a.eval x)).toList = [(0, Value.agg (nc q).toArray)] := by simp [hx]
  rw [hp, hz1]
  have h := Great.fill_whole (s := 132) (by decide) [Value.agg (nc q).toArray] ((Array.range (1 * 132)).map ((Value.agg (nc ndZ).toArray).cells[· % (Value.agg (nc ndZ).toArray).cells.size]!)) (fun v hv => by
    rw [List.mem_singleton.1 hv]; exact hl) (by simp)
  simp only [List.flatMap_cons, List.flatMap_nil, List.append_nil] at h
  exact h
/-- where a row lies behind an append: where it lay, or in new memory -/
def Where (v v' : Value) (w w' : World) : Prop := ∀ k, v'.ownBlock = some k → v.ownBlock = some k ∨ (w.heap.size ≤ k ∧ k < w'.heap.size)
theorem run_append_where {P : Program} (w : World) (t ty e : TypeId) (i : TypeInfo) (z : Value) (size bytes : Nat) (ht : P.underlying t = some (.slice e)) (hi : P.info? e = some i) (hz : i.zero = some z)
    (hsize : i.size = size) (hby : i.bytes = bytes) (hzs : z.cells.size = size) (hsz : 0 < size)
    (v : Value) (n : Nat) (xs : List Value) (hown : w.ownsRow 0 e size v n xs)
    (a : Addr) (m c : Nat) (news : List Value) (hl : news.length = m * size) (hnews : ∀ j u, news[j]? = some u → w.cell? (a.add j) = some u) (h1 : ∀ u ∈ news, u.oneCell' = true)
    (h63 : n + m ≤ maxLen) (hbytes : (n + m) * bytes ≤ 140737488355328) :
    ∃ v' w', (Builtin.append_ #[t, t] ty #[v, .slice (some a) m c]).run P w = .ok v' w' ∧ w'.ownsRow 0 e size v' (n + m) (xs ++ news) ∧ w.grownBy w' v.ownBlock ∧ Where v v' w w' := by
  obtain ⟨v', w', hr, h2, h3, h4⟩ := run_append_own (P := P) w 0 t ty e i z size bytes ht hi hz hsize hby hzs hsz v n xs hown a m c news hl hnews h1 h63 hbytes (Nat.zero_le _)
  refine ⟨v', w', hr, h2, h3, fun k hk => ?_⟩
  have hlt := (h2.lt k hk).2
  rcases hown.2 with ⟨rfl, rfl⟩ | ⟨g, cap, cur, rfl, _, hg, hnc, hcm, hcs, htk⟩
  · obtain ⟨v2, w2, hr2, g2, _, _⟩ := run_append_own (P := P) w w.heap.size t ty e i z size bytes ht hi hz hsize hby hzs hsz (.slice none 0 0) 0 xs ⟨hown.1, .inl ⟨rfl, rfl⟩⟩ a m c news hl hnews h1 h63 hbytes (Nat.le_refl _)
    rw [hr] at hr2
    injection hr2 with e1 e2
    subst e1; subst e2
    exact .inr ⟨(g2.lt k hk).1, hlt⟩
  · by_cases hroom : n + m ≤ cap
    · obtain ⟨w2, hr2, _⟩ := run_append_fits (P := P) w 0 t ty e i size ht hi hsize g n cap xs hown a m c news hl hnews h1 hroom
      rw [hr] at hr2
      injection hr2 with e1 e2
      left
      rw [e1] at hk
      exact hk
    · subst hsize; subst hby
      have hr2 := run_append_grow (P := P) w t ty e i z ht hi hz ⟨g, 0, none⟩ n cap xs hown.1 (hown.cells (g := g) rfl) a m c news hl hnews (by omega) (by unfold maxLen at h63; omega) (growslice_fits (by omega) hbytes)
      rw [hr] at hr2
      injection hr2 with e1 e2
      rw [e1] at hk
      injection hk with hk
      exact .inr ⟨Nat.le_of_eq hk, hlt⟩
theorem wp_append_where {P : Program} {w : World} {o : Oper} {a : Act} {K : Act → World → Prop} {Q : Exit → Act → World → Prop} (s x : Operand) (t : TypeId)
    (ho : o.op = .call { callee := .builtin .append, args := #[s, x], argTypes := #[t, t] }) (e : TypeId) (i : TypeInfo) (z : Value) (size bytes : Nat) (ht : P.underlying t = some (.slice e)) (hi : P.info? e = some i) (hz : i.zero = some z)
    (hsize : i.size = size) (hby : i.bytes = bytes) (hzs : z.cells.size = size) (hsz : 0 < size)
    (v : Value) (n : Nat) (xs : List Value) (hs : a.eval s = v) (hown : w.ownsRow 0 e size v n xs)
    (ad : Addr) (m c : Nat) (news : List Value) (hx : a.eval x = .slice (some ad) m c) (hl : news.length = m * size) (hnews : ∀ j u, news[j]? = some u → w.cell? (ad.add j) = some u) (h1 : ∀ u ∈ news, u.oneCell' = true)
    (h63 : n + m ≤ maxLen) (hbytes : (n + m) * bytes ≤ 140737488355328)
    (h : ∀ v' w', w'.ownsRow 0 e size v' (n + m) (xs ++ news) → w.grownBy w' v.ownBlock → Where v v' w w' → K (a.put o.dst v') w') : o.wp P a w K Q := by
  obtain ⟨v', w', hr, h2, h3, h4⟩ := run_append_where (P := P) w t o.type e i z size bytes ht hi hz hsize hby hzs hsz v n xs hown ad m c news hl hnews h1 h63 hbytes
  unfold Oper.wp execOp
  simp only [ho, resolve, invoke, builtin, Sem.run_bind, Sem.run_pure, Result.andThen_ok, List.map_toArray, List.map_cons, List.map_nil, hs, hx, hr]
  exact h v' w' h2 h3 h4
theorem OnlyS.grown {S : Nat → Prop} {a w w' : World} {row : Option Nat} (h : OnlyS S a w) (hg : w.grownBy w' row) (hr : ∀ k, row = some k → S k ∨ a.heap.size ≤ k) : OnlyS S a w' :=
  ⟨hg.os.trans h.os, hg.tape.trans h.tape, hg.output.trans h.output, Nat.le_trans h.size hg.size, fun k hk hn => (hg.block k (Nat.lt_of_lt_of_le hk h.size) (fun e => by
    rcases hr k e.symm with h1 | h1
    · exact hn h1
    · omega)).trans (h.block k hk hn)⟩
/-- a node more -/
theorem wp_append_nd {w : World} {o : Oper} {a : Act} {K : Act → World → Prop} {Q : Exit → Act → World → Prop} (s x : Operand) (ho : o.op = .call { callee := .builtin .append, args := #[s, x], argTypes := #[50, 50] })
    (v : Value) (U : List Nd) (n : Nat) (hn : n = U.length) (hs : a.eval s = v) (hown : w.ownsRow 0 63 132 v n (ncs U)) (gq c : Nat) (q : Nd) (hx : a.eval x = .slice (some ⟨gq, 0, none⟩) 1 c) (hq : Blk w gq 63 (nc q).toArray) (hl : NdOk q) (hlen : n < 1048576)
    (h : ∀ v' w', w'.ownsRow 0 63 132 v' (n + 1) (ncs (U ++ [q])) → w.grownBy w' v.ownBlock → Where v v' w w' → K (a.put o.dst v') w') : o.wp Tryz.prog a w K Q := by
  obtain ⟨i0, hi, hz0, hz1, hz2⟩ := info_parts info_node
  refine wp_append_where s x 50 ho 63 i0 _ 132 160 Tryz.underlying50 hi hz0 hz1 hz2 (by rfl) (by decide) v n (ncs U) hs hown ⟨gq, 0, none⟩ 1 c (nc q) hx (by rw [hl.nc]) (fun j u hu => ?_) (nc_one q) (by unfold maxLen; omega) (by omega) (fun v' w' h1 h2 h3 => h v' w' ?_ h2 h3)
  · rw [Addr.add_lit, Nat.zero_add, hq.cell, List.getElem?_toArray]; exact hu
  · have e : ncs (U ++ [q]) = ncs U ++ nc q := ncs_snoc U q
    rw [e]; exact h1
theorem setCells_size (g : Nat) : ∀ (vs : List Value) (w : World) (o : Nat), (w.setCells g o vs).heap.size = w.heap.size
  | [], _, _ => rfl
  | v :: r, w, o => (setCells_size g r (w.setCell ⟨g, o, none⟩ v) (o + 1)).trans (by simp [World.setCell])
/-- a node's hash is stored -/
theorem store_hash {ops : Array Oper} {rest : List Oper} {op : Oper} {a : Act} {w : World} {Q : Exit → Act → World → Prop} (hgd : op.guard = none) (x y : Operand) (ho : op.op = .store 25 x y)
    (g : Nat) (hx : a.eval x = .pointer (some ⟨g, 100, none⟩)) (q : Nd) (H : List Int) (hy : a.eval y = .agg (kc H)) (hq : NdOk q) (hH : Ky H) (hb : Blk w g 63 (nc q).toArray)
    (h : ∀ w3, Blk w3 g 63 (nc { q with h := H }).toArray → (∀ k t cs, k ≠ g → Blk w k t cs → Blk w3 k t cs) → (∀ N v, N ≤ g → Below N v w → Below N v w3) → w3.heap.size = w.heap.size → wpList Tryz.prog ops Q rest (a.put op.dst undef) w3) : wpList Tryz.prog ops Q (op :: rest) a w := by
  refine wpList_store_mid hgd 25 x y ho g 100 (kc H) hx hy (fun j hj => ?_) (kc_info hH) (kc_one H) ?_
  · rw [kc_size hH] at hj
    refine ⟨?_, hb.frozen _⟩
    rw [hb.cell, List.getElem?_toArray, List.getElem?_eq_getElem (by rw [hq.nc]; omega)]
    rfl
  · refine h _ ?_ (fun k t cs hk hbk => hbk.farCells hk _ _) (fun N v hN hv => below_setCells hN _ hv _) (setCells_size _ _ _ _)
    have := hb.putCells (u8s H) 100
    rwa [nc_6 hq.k hq.v hq.b hq.h hH] at this
end Go.Proofs.YtjhaamffgkialaaGreatDoor
