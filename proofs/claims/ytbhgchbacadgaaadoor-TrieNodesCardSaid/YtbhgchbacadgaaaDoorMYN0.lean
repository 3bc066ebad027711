/-
  What is proved here: a node of a forest may be added again, its text is its hash's, and a node is as itself.
-/
import Derived.Test.YtbhgchbacadgaaaDoorMX26
import Derived.Test.YtbhgchbacadgaaaDoorMX20
import Derived.Test.YtbhgchbacadgaaaDoorMA2
import Derived.Deep.DeepCutAuto
import Derived.Deep.RegionLaw
set_option linter.unusedSimpArgs false
set_option linter.unusedVariables false
namespace Go.Proofs.YtbhgchbacadgaaaDoor
open Go.ChangeShapes Go.WideShapes Go.ChangeAt Go.RowKit
set_option linter.unusedVariables false
set_option linter.unusedSimpArgs false
set_option maxRecDepth 20000

theorem frm_pre {t : Tr} (h : t.ok) : t.pre.1 ≤ 256 ∧ frm (t.pre.1 : Int) t.pre.2 = true := by
  cases t with
  | leaf k v =>
    refine ⟨Nat.le_refl _, ?_⟩
    unfold frm; rw [decide_eq_true_eq, Int.toNat_natCast]
    exact ⟨by show (0 : Int) ≤ 256; omega, by show (256 : Int) ≤ 256; omega, cut_all h.1 256 (Nat.le_refl _)⟩
  | inner n b l r =>
    obtain ⟨x, hx⟩ := l.one
    have h1 := (h.2.2.2.1 x hx).1
    have hn : n < 256 := h.2.2.1
    refine ⟨Nat.le_of_lt hn, ?_⟩
    unfold frm; rw [decide_eq_true_eq, Int.toNat_natCast]
    exact ⟨by show (0 : Int) ≤ (n : Int); omega, by show (n : Int) ≤ 256; omega, by show cut b n = b; rw [← h1, cut_cut, Nat.min_self]⟩
theorem rep_pref {N : List Nd} {i : Nat} {t : Tr} (h : Rep hLf hIn N i t) : ((N[i]?.getD ndZ).pn = (t.pre.1 : Int) ∧ (N[i]?.getD ndZ).pb = t.pre.2) := by
  cases t with
  | leaf k v =>
    have h' : N[i]? = some (ndL k v (hLf k v)) := h
    rw [h']; exact ⟨rfl, rfl⟩
  | inner n b l r =>
    obtain ⟨a, c, h', _⟩ := h
    rw [h']; exact ⟨rfl, rfl⟩
theorem wth_pre {t : Tr} (h : t.ok) {m : Nat} {c : List Int} (hm : m ≤ 256) (hk : ∀ q ∈ t.list, cut q.1 m = c) : wth (m : Int) c (t.pre.1 : Int) t.pre.2 = true := by
  obtain ⟨h4, h5⟩ := (held_iff h hm).1 hk
  obtain ⟨h6, h7⟩ := frm_pre h
  unfold wth hld
  rw [h7, decide_eq_true (show (m : Int) ≤ (t.pre.1 : Int) by omega), decide_eq_true (show 0 ≤ (m : Int) ∧ (m : Int) ≤ 256 ∧ cut t.pre.2 (m : Int).toNat = c by rw [Int.toNat_natCast]; exact ⟨by omega, by omega, h5⟩)]
  rfl
theorem rep_may {N : List Nd} {a d n : Nat} {b : List Int} {l r : Tr} (hl : Rep hLf hIn N a l) (hr : Rep hLf hIn N d r) (h : (Tr.inner n b l r).ok) : mayB N (n : Int) b (a : Int) (d : Int) = true := by
  obtain ⟨x, hx⟩ := l.one
  have h1 := (h.2.2.2.1 x hx).1
  have hb : Ky b := by rw [← h1]; exact cut_ky _ _
  have hcb : cut b n = b := by rw [← h1, cut_cut, Nat.min_self]
  have hn : n < 256 := h.2.2.1
  have i1 : isNd N.length (a : Int) = true := by unfold isNd; rw [decide_eq_true_eq]; have := hl.lt; omega
  have i2 : isNd N.length (d : Int) = true := by unfold isNd; rw [decide_eq_true_eq]; have := hr.lt; omega
  rw [may_yes i1 i2 (show frm (n : Int) b = true from (frm_pre h).2) (by omega)]
  rw [Int.toNat_natCast, Int.toNat_natCast, Int.toNat_natCast, (rep_pref hl).1, (rep_pref hl).2, (rep_pref hr).1, (rep_pref hr).2]
  have w1 := wth_pre h.1 (m := n + 1) (c := b) (by omega) (fun q hq => by
    have := (cut_succ hn hcb hb 0 (.inl rfl)).1 (h.2.2.2.1 q hq)
    rwa [if_neg (by decide)] at this)
  have w2 := wth_pre h.2.1 (m := n + 1) (c := setb b n) (by omega) (fun q hq => by
    have := (cut_succ hn hcb hb 1 (.inr rfl)).1 (h.2.2.2.2 q hq)
    rwa [if_pos rfl] at this)
  have e : (((n + 1 : Nat)) : Int) = (n : Int) + 1 := by omega
  rw [e] at w1 w2
  rw [w1, w2]
  rfl
section
variable {w : World} {f g b : Nat} {N : List Nd} {A : Option Addr} {c : Nat} {tv : Value}
theorem node_add (h : Fo w f g b N A c tv) {N0 M : List Nd} (hf : FrOk hLf hIn N0) (hN : N = N0 ++ M) {k : Nat} {q : Nd} (hq : N0[k]? = some q) (hlen : Few N.length) (ht : Tab w) :
    Calls Tryd.prog 23 #[.pointer (some ⟨f, 0, none⟩), .agg (nc q).toArray] w fun e w' => e = .returned (.tuple #[.int .i64 N.length, .int .i64 0]) ∧ Grew w f g b (N ++ [q]) w' := by
  have hk : k < N0.length := by
    rcases Nat.lt_or_ge k N0.length with h9 | h9
    · exact h9
    · rw [List.getElem?_eq_none h9] at hq; cases hq
  obtain ⟨t, hok, hr⟩ := hf k hk
  have hqN : N[k]? = some q := by rw [hN, List.getElem?_append_left hk]; exact hq
  have hqo : NdOk q := h.ok q (List.mem_of_getElem? hqN)
  cases t with
  | leaf K V =>
    have h' : N0[k]? = some (ndL K V (hLf K V)) := hr
    obtain rfl : ndL K V (hLf K V) = q := Option.some.inj (h'.symm.trans hq)
    exact xAdd_leaf h _ hqo rfl hlen ht
  | inner n bb l r =>
    obtain ⟨a, d, h', ha, hd, hl, hr'⟩ := hr
    have hl' := hl.more hLf hIn M
    have hr2 := hr'.more hLf hIn M
    rw [← hN] at hl' hr2
    obtain rfl : _ = q := Option.some.inj (h'.symm.trans hq)
    have hh : (Tr.inner n bb l r).hash hLf hIn = hIn n bb (hashN N (a : Int)) (hashN N (d : Int)) := by rw [rep_hash hl', rep_hash hr2]; rfl
    have := xAdd_yes h _ hqo rfl (rep_may hl' hr2 hok) hlen ht
    rw [show ndI (ndI n bb a d ((Tr.inner n bb l r).hash hLf hIn)).n.toNat (ndI n bb a d ((Tr.inner n bb l r).hash hLf hIn)).b (ndI n bb a d ((Tr.inner n bb l r).hash hLf hIn)).l.toNat (ndI n bb a d ((Tr.inner n bb l r).hash hLf hIn)).r.toNat (hIn (ndI n bb a d ((Tr.inner n bb l r).hash hLf hIn)).n.toNat (ndI n bb a d ((Tr.inner n bb l r).hash hLf hIn)).b (hashN N (ndI n bb a d ((Tr.inner n bb l r).hash hLf hIn)).l) (hashN N (ndI n bb a d ((Tr.inner n bb l r).hash hLf hIn)).r)) = ndI n bb a d (hIn n bb (hashN N (a : Int)) (hashN N (d : Int))) from rfl, ← hh] at this
    exact this
theorem node_text {N0 M : List Nd} (hf : FrOk hLf hIn N0) (hN : N = N0 ++ M) (hall : ∀ q ∈ N, NdOk q) {k : Nat} {q : Nd} (hq : N0[k]? = some q) {qa qb : Nd} (hka : Ky qa.h) (hkb : Ky qb.h)
    (ha : isNd N.length q.l = true → qa = N[q.l.toNat]?.getD ndZ) (hb : isNd N.length q.r = true → qb = N[q.r.toNat]?.getD ndZ) :
    ∃ X, (∀ w, Calls Tryd.prog 25 #[.agg (nc q).toArray, .agg (kc qa.h), .agg (kc qb.h)] w (TxA w X)) ∧ sum X = q.h ∧ Bs X ∧ X.length < 1000000000 ∧ (q.leaf = false → q.l < k ∧ q.r < k) := by
  have hk : k < N0.length := by
    rcases Nat.lt_or_ge k N0.length with h9 | h9
    · exact h9
    · rw [List.getElem?_eq_none h9] at hq; cases hq
  obtain ⟨t, hok, hr⟩ := hf k hk
  have hqN : N[k]? = some q := by rw [hN, List.getElem?_append_left hk]; exact hq
  have hqo : NdOk q := hall q (List.mem_of_getElem? hqN)
  cases t with
  | leaf K V =>
    have h' : N0[k]? = some (ndL K V (hLf K V)) := hr
    obtain rfl : ndL K V (hLf K V) = q := Option.some.inj (h'.symm.trans hq)
    exact ⟨leafT K V, fun w => xText_leaf _ _ _ w hqo rfl hka hkb, rfl, leaf_tbs hqo.k hqo.v, Nat.lt_of_le_of_lt (textL_all 108 [K, V] 2 rfl (by decide) (len_2k hqo.k hqo.v)) (by decide), fun h => by cases h⟩
  | inner n bb l r =>
    obtain ⟨a, d, h', hak, hdk, hl, hr'⟩ := hr
    have hl' := hl.more hLf hIn M
    have hr2 := hr'.more hLf hIn M
    rw [← hN] at hl' hr2
    obtain rfl : _ = q := Option.some.inj (h'.symm.trans hq)
    have i1 : isNd N.length (a : Int) = true := by unfold isNd; rw [decide_eq_true_eq]; have := hl'.lt; omega
    have i2 : isNd N.length (d : Int) = true := by unfold isNd; rw [decide_eq_true_eq]; have := hr2.lt; omega
    have ea : qa.h = l.hash hLf hIn := by rw [ha i1]; exact rep_hash hl'
    have eb : qb.h = r.hash hLf hIn := by rw [hb i2]; exact rep_hash hr2
    have hn : n < 256 := hok.2.2.1
    refine ⟨innerT n bb qa.h qb.h, fun w => xText_inner _ _ _ w hqo rfl ⟨by show (0 : Int) ≤ n; omega, by show (n : Int) ≤ 65535; omega⟩ hka hkb, ?_, inner_tbs hqo.b hka hkb, Nat.lt_of_le_of_lt (textL_all 110 [be n 2, bb, qa.h, qb.h] 4 rfl (by decide) (len_4k (be_length n 2) hqo.b hka hkb)) (by decide), fun _ => ⟨by show (a : Int) < k; omega, by show (d : Int) < k; omega⟩⟩
    rw [ea, eb]
    rfl
end
theorem neq_key (a b : List Int) (ha : Ky a) (hb : Ky b) (w : World) : (binOp .neq 24 (.agg (kc a)) (.agg (kc b))).run Tryd.prog w = .ok (.bool (!decide (a = b))) w := by
  rw [run_neq_struct, equal_key 9998 a b ha hb w]
  rfl
section
variable {q : Nd}
theorem nd_ex1 (h : NdOk q) : (List.take 32 (List.drop 1 (nc q))).toArray = kc q.k := by
  show (List.take 32 (u8s q.k ++ _)).toArray = (u8s q.k).toArray
  rw [List.take_left' (by rw [u8s_length, h.k.len])]
theorem nd_ex33 (h : NdOk q) : (List.take 32 (List.drop 33 (nc q))).toArray = kc q.v := by
  show (List.take 32 (List.drop 32 (u8s q.k ++ (u8s q.v ++ _)))).toArray = (u8s q.v).toArray
  rw [List.drop_left' (by rw [u8s_length, h.k.len]), List.take_left' (by rw [u8s_length, h.v.len])]
theorem nd_ex65 (h : NdOk q) : (List.take 33 (List.drop 65 (nc q))).toArray = pc q.n q.b := by
  show (List.take 33 (List.drop 64 (u8s q.k ++ (u8s q.v ++ ((.int .i64 q.n :: u8s q.b) ++ _))))).toArray = (Value.int .i64 q.n :: u8s q.b).toArray
  rw [← List.append_assoc (u8s q.k), List.drop_left' (by rw [List.length_append, u8s_length, u8s_length, h.k.len, h.v.len]), List.take_left' (by rw [List.length_cons, u8s_length, h.b.len])]
theorem nd_tail (h : NdOk q) : List.drop 98 (nc q) = [.int .i64 q.l, .int .i64 q.r] ++ u8s q.h := by
  show List.drop 97 (u8s q.k ++ (u8s q.v ++ ((.int .i64 q.n :: u8s q.b) ++ ([.int .i64 q.l, .int .i64 q.r] ++ u8s q.h)))) = _
  rw [← List.append_assoc (u8s q.k), ← List.append_assoc (u8s q.k ++ u8s q.v), List.drop_left' (by rw [List.length_append, List.length_append, List.length_cons, u8s_length, u8s_length, u8s_length, h.k.len, h.v.len, h.b.len])]
theorem nd_98 (h : NdOk q) : (nc q)[98]? = some (.int .i64 q.l) := by
  have := congrArg (fun l : List Value => l[0]?) (nd_tail h)
  simpa [List.getElem?_drop] using this
theorem nd_99 (h : NdOk q) : (nc q)[99]? = some (.int .i64 q.r) := by
  have := congrArg (fun l : List Value => l[1]?) (nd_tail h)
  simpa [List.getElem?_drop] using this
theorem nd_ex100 (h : NdOk q) : (List.take 32 (List.drop 100 (nc q))).toArray = kc q.h := by
  have e : List.drop 100 (nc q) = u8s q.h := by
    rw [show 100 = 98 + 2 from rfl, ← List.drop_drop, nd_tail h]; rfl
  show _ = (u8s q.h).toArray
  rw [e, List.take_of_length_le (by rw [u8s_length, h.h.len]; decide)]
theorem part_n0 (w : World) : (Go.part 4 (nc q).toArray 0).run Tryd.prog w = .ok (.bool q.leaf) w := by
  have h : (isAgg 4).run Tryd.prog w = .ok false w := by kernel_rfl
  have e : (nc q)[0]? = some (.bool q.leaf) := rfl
  unfold Go.part
  simp [Sem.run_bind, h, Result.andThen_ok, e]
theorem part_n98 (hq : NdOk q) (w : World) : (Go.part 3 (nc q).toArray 98).run Tryd.prog w = .ok (.int .i64 q.l) w := by
  have h : (isAgg 3).run Tryd.prog w = .ok false w := by kernel_rfl
  unfold Go.part
  simp [Sem.run_bind, h, Result.andThen_ok, nd_98 hq]
theorem part_n99 (hq : NdOk q) (w : World) : (Go.part 3 (nc q).toArray 99).run Tryd.prog w = .ok (.int .i64 q.r) w := by
  have h : (isAgg 3).run Tryd.prog w = .ok false w := by kernel_rfl
  unfold Go.part
  simp [Sem.run_bind, h, Result.andThen_ok, nd_99 hq]
theorem part_n1 (hq : NdOk q) (w : World) : (Go.part 24 (nc q).toArray 1).run Tryd.prog w = .ok (.agg (kc q.k)) w := by
  have h : (isAgg 24).run Tryd.prog w = .ok true w := by kernel_rfl
  have e := nd_ex1 hq
  unfold Go.part
  simp [Sem.run_bind, h, Result.andThen_ok, e, -List.drop_one]
theorem part_n33 (hq : NdOk q) (w : World) : (Go.part 24 (nc q).toArray 33).run Tryd.prog w = .ok (.agg (kc q.v)) w := by
  have h : (isAgg 24).run Tryd.prog w = .ok true w := by kernel_rfl
  unfold Go.part
  simp [Sem.run_bind, h, Result.andThen_ok, nd_ex33 hq]
theorem part_n65 (hq : NdOk q) (w : World) : (Go.part 55 (nc q).toArray 65).run Tryd.prog w = .ok (.agg (pc q.n q.b)) w := by
  have h : (isAgg 55).run Tryd.prog w = .ok true w := by kernel_rfl
  unfold Go.part
  simp [Sem.run_bind, h, Result.andThen_ok, nd_ex65 hq]
theorem part_n100 (hq : NdOk q) (w : World) : (Go.part 24 (nc q).toArray 100).run Tryd.prog w = .ok (.agg (kc q.h)) w := by
  have h : (isAgg 24).run Tryd.prog w = .ok true w := by kernel_rfl
  unfold Go.part
  simp [Sem.run_bind, h, Result.andThen_ok, nd_ex100 hq]
theorem equal_pre_same (l : Int) (B : List Int) (hB : Ky B) (w : World) : (Op.equalIn (9998 + 1) 55 (.agg (pc l B)) (.agg (pc l B))).run Tryd.prog w = .ok true w := by
  have hf : ∃ f0 f1 : Field, (Tryd.prog.fieldsOf 55).toList = [f0, f1] ∧ f0.name ≠ "_" ∧ f1.name ≠ "_" ∧ f0.type = 3 ∧ f1.type = 24 ∧ f0.offset = 0 ∧ f1.offset = 1 := by
    refine ⟨_, _, by (have := Tryd.underlying55; unfold Program.fieldsOf; rw [this]), by decide, by decide, rfl, rfl, rfl, rfl⟩
  obtain ⟨f0, f1, e1, n0, n1, t0, t1, o0, o1⟩ := hf
  rw [run_equalIn_struct w 9998 55 _ _ (by kernel_rfl) (by kernel_rfl), e1]
  simp only [Op.eqFields, t0, t1, o0, o1]
  rw [if_pos n0, if_pos n1]
  simp only [Sem.run_bind, part_len, part_bits l B hB, Result.andThen_ok, run_equalIn_int w 9997 3 .i64 .i64 l l Tryd.underlying3, equal_key 9996 B B hB hB, Sem.run_ite, Sem.run_pure]
  simp
theorem equal_node (hq : NdOk q) (w : World) : (Op.equalIn (9999 + 1) 57 (.agg (nc q).toArray) (.agg (nc q).toArray)).run Tryd.prog w = .ok true w := by
  have hf : ∃ f0 f1 f2 f3 f4 f5 f6 : Field, (Tryd.prog.fieldsOf 57).toList = [f0, f1, f2, f3, f4, f5, f6] ∧ (f0.name ≠ "_" ∧ f1.name ≠ "_" ∧ f2.name ≠ "_" ∧ f3.name ≠ "_" ∧ f4.name ≠ "_" ∧ f5.name ≠ "_" ∧ f6.name ≠ "_") ∧ (f0.type = 4 ∧ f1.type = 24 ∧ f2.type = 24 ∧ f3.type = 55 ∧ f4.type = 3 ∧ f5.type = 3 ∧ f6.type = 24) ∧ f0.offset = 0 ∧ f1.offset = 1 ∧ f2.offset = 33 ∧ f3.offset = 65 ∧ f4.offset = 98 ∧ f5.offset = 99 ∧ f6.offset = 100 := by
    refine ⟨_, _, _, _, _, _, _, by (have := Tryd.underlying57; unfold Program.fieldsOf; rw [this]), ⟨by decide, by decide, by decide, by decide, by decide, by decide, by decide⟩, ⟨rfl, rfl, rfl, rfl, rfl, rfl, rfl⟩, rfl, rfl, rfl, rfl, rfl, rfl, rfl⟩
  obtain ⟨f0, f1, f2, f3, f4, f5, f6, e1, ⟨n0, n1, n2, n3, n4, n5, n6⟩, ⟨t0, t1, t2, t3, t4, t5, t6⟩, o0, o1, o2, o3, o4, o5, o6⟩ := hf
  rw [run_equalIn_struct w 9999 57 _ _ (by kernel_rfl) (by kernel_rfl), e1]
  simp only [Op.eqFields, t0, t1, t2, t3, t4, t5, t6, o0, o1, o2, o3, o4, o5, o6]
  rw [if_pos n0, if_pos n1, if_pos n2, if_pos n3, if_pos n4, if_pos n5, if_pos n6]
  have hb0 := run_equalIn_bool w 9998 4 q.leaf q.leaf Tryd.underlying4
  have hi4 := run_equalIn_int w 9998 3 .i64 .i64 q.l q.l Tryd.underlying3
  have hi5 := run_equalIn_int w 9998 3 .i64 .i64 q.r q.r Tryd.underlying3
  simp only [Sem.run_bind, part_n0, part_n1 hq, part_n33 hq, part_n65 hq, part_n98 hq, part_n99 hq, part_n100 hq, Result.andThen_ok, hb0, hi4, hi5, equal_pre_same q.n q.b hq.b, equal_key 9997 q.k q.k hq.k hq.k, equal_key 9997 q.v q.v hq.v hq.v, equal_key 9997 q.h q.h hq.h hq.h, Sem.run_ite, Sem.run_pure]
  simp
theorem neq_node (hq : NdOk q) (w : World) : (binOp .neq 57 (.agg (nc q).toArray) (.agg (nc q).toArray)).run Tryd.prog w = .ok (.bool false) w := by
  rw [run_neq_struct, equal_node hq w]
  rfl
end
end Go.Proofs.YtbhgchbacadgaaaDoor
/-
  What is proved here: nodes of a forest are added again, each as it stands, and their hashes are their texts': the walk of the statement.
-/
namespace Go.Proofs.YtbhgchbacadgaaaDoor
open Go.ChangeShapes Go.WideShapes Go.ChangeAt Go.RowKit
set_option linter.unusedVariables false
set_option linter.unusedSimpArgs false
set_option maxRecDepth 20000

/-- between two rounds: the first k nodes stand twice -/
structure NoI (w : World) (f : Nat) (N0 : List Nd) (k g b : Nat) (N : List Nd) (A : Option Addr) (c : Nat) (tv : Value) (wr : World) : Prop where
  fo : Fo wr f g b N A c tv
  eq : N = N0 ++ N0.take k
  bl : Below w.heap.size w wr
  own : w.heap.size ≤ f ∧ w.heap.size ≤ g ∧ w.heap.size ≤ b
section
variable {w wr w8 w9 : World} {f : Nat} {N0 : List Nd} {k g b : Nat} {N : List Nd} {A : Option Addr} {c : Nat} {tv : Value}
theorem NoI.len (h : NoI w f N0 k g b N A c tv wr) (hk : k ≤ N0.length) : N.length = N0.length + k := by
  rw [h.eq, List.length_append, List.length_take]; omega
theorem NoI.at (h : NoI w f N0 k g b N A c tv wr) {q : Nd} (hq : N0[k]? = some q) : N[k]? = some q := by
  have hk : k < N0.length := by
    rcases Nat.lt_or_ge k N0.length with h9 | h9
    · exact h9
    · rw [List.getElem?_eq_none h9] at hq; cases hq
  rw [h.eq, List.getElem?_append_left hk]; exact hq
theorem NoI.grow {N' : List Nd} (h : NoI w f N0 k g b N A c tv wr) {q : Nd} (hq : N0[k]? = some q) (hN : N' = N ++ [q]) (hb : Below wr.heap.size wr w8) (hgr : Grew w8 f g b N' w9) :
    ∃ g' b' A' c' tv', NoI w f N0 (k + 1) g' b' N' A' c' tv' w9 := by
  obtain ⟨g', b', A', c', tv', hfo, hg, hb', ho⟩ := hgr
  obtain ⟨o1, o2, o3⟩ := h.own
  have bl8 := h.bl.trans (hb.mono h.bl.size)
  have h1 := bl8.size
  refine ⟨g', b', A', c', tv', hfo, ?_, bl8.trans (ho.below (B := w.heap.size) bl8.size (fun k hk => by rcases hk with e | e | e <;> omega)), o1, ?_, ?_⟩
  · rw [hN, h.eq, List.take_add_one, hq, Option.toList_some, List.append_assoc]
  · rcases hg with e | e <;> omega
  · rcases hb' with e | e
    · omega
    · have e' : w8.heap.size ≤ b' := e; omega
theorem nd_keep {N' : List Nd} {p : Nat} {t : TypeId} {cs : Array Value} (h : Fo wr f g b N A c tv) (hp : wr.heap.size ≤ p) (hgr : Grew w8 f g b N' w9) (hK : Blk w8 p t cs) : Blk w9 p t cs := by
  obtain ⟨h1, h2, h3⟩ := h.lts
  obtain ⟨_, _, _, _, _, _, _, _, ho⟩ := hgr
  exact hK.same (ho.block _ hK.lt (fun hw => by rcases hw with e | e | e <;> omega))
end
set_option maxHeartbeats 8000000 in
theorem nodes_main {w : World} {A0 : Option Addr} {m0 c0 : Nat} {P : List KV} (h : InP w A0 m0 P) (hm : ¬ 25 < m0) (ht : Tab w) : Calls Tryd.prog 5 #[.slice A0 m0 c0] w fun e w' => e = .returned (.bool true) ∧ Below w.heap.size w w' := by
  have CA := hid (fun w1 (hb : Below w.heap.size w w1) => xawake_any w1 (ht.below hb))
  have CB := hid (fun w1 (hb : Below w.heap.size w w1) => xBuilt_any (c0 := c0) (h.below hb) (by omega) (ht.below hb))
  have HPL : Hid (P.length ≤ 25) := by have := h.1; show _ ≤ _; omega
  have HT := hid ht
  have hm1 : ¬ (25 : Int) < (m0 : Int) := by omega
  clear h ht
  obtain ⟨Z, HZ, hZ0, hZs⟩ := zero_node
  go_enter Tryd.func5, Tryd.ntmps5
  go_upto_region 4 with (first
    | (go_at_call 10; refine (CA.out _ (Below.refl _ _)).mono ?_; rintro e w1 ⟨rfl, hb⟩; have B1 := hid hb; clear hb)
    | (go_at_call 20; refine (CB.out _ B1.out).mono ?_; rintro e w2 ⟨f, ti, g0, b0, N0, A1, c1, tv0, T, rfl, bt⟩; have BT := hid bt; clear bt))
  have I0 : Hid (NoI w f N0 0 g0 b0 N0 A1 c1 tv0 w2) := ⟨BT.out.fo, by rw [List.take_zero, List.append_nil], B1.out.trans (BT.out.bl.mono B1.out.size), by have h1 := BT.out.own; have h2 := B1.out.size; omega⟩
  have HFR := hid BT.out.fr
  have HNL : Hid (N0.length ≤ 1750) := by show _ ≤ _; have h1 := BT.out.nl; have h2 := HPL.out; omega
  have CS := hid (xSize_at BT.out.fo)
  clear BT B1 CB CA HPL hm hm1
  obtain ⟨n, hn⟩ : ∃ n, n = N0.length := ⟨_, rfl⟩
  have HN := hid hn
  rw [← hn] at CS
  clear hn
  have HNB : Hid (n ≤ 1750) := by show _ ≤ _; have h1 := HNL.out; have h2 := HN.out; omega
  clear HNL
  have hnb := HNB.out
  go_upto_region 5 with (go_at_call 21; refine CS.out.mono ?_; rintro e w3 ⟨rfl, rfl⟩)
  clear CS
  go_wp2
  go_loopw [6] (fun s6 wr => ∃ (k : Nat) (g b : Nat) (N : List Nd) (A : Option Addr) (c : Nat) (tv : Value), k ≤ n ∧ s6 = .int .i64 (k : Nat) ∧ Hid (NoI w f N0 k g b N A c tv wr)) (fun s6 _ => n - (intOf s6).toNat)
  case atStart => exact ⟨0, _, _, _, _, _, _, Nat.zero_le _, rfl, I0⟩
  case round =>
    obtain ⟨k, g, b, N, A, c, tv, hk, rfl, FI⟩ := hrel
    clear I0
    have HLN : Hid (N.length = n + k) := by show _ = _; rw [HN.out]; exact FI.out.len (by have := HN.out; omega)
    by_cases hlt : k < n
    · have hkl : k < N0.length := by have := HN.out; omega
      obtain ⟨q, hq⟩ : ∃ q, N0[k]? = some q := ⟨_, List.getElem?_eq_getElem hkl⟩
      have HQA := hid hq
      have hqo : NdOk q := FI.out.fo.ok q (List.mem_of_getElem? (FI.out.at hq))
      have HQ := hid hqo
      obtain ⟨q1, r1, hr1, hq1, he1, cn1⟩ := xNode_two FI.out.fo q.l
      obtain ⟨q2, r2, hr2, hq2, he2, cn2⟩ := xNode_two FI.out.fo q.r
      have CN0 := hid (fun w' (hb : Below wr.heap.size wr w') => xNode_at (FI.out.fo.below hb) k q (FI.out.at hq))
      unfold ndV at CN0
      have HQ1 := hid hq1; have HQ2 := hid hq2; have CN1 := hid cn1; have CN2 := hid cn2
      have HQI := hid (node_info hqo)
      have HI := hid (node_info2 hqo); have HI1 := hid (node_info2 hq1); have HI2 := hid (node_info2 hq2)
      have HHI := hid (u8s_info hqo.h); have HH1 := hid (u8s_info hq1.h); have HH2 := hid (u8s_info hq2.h)
      have hz0 : Hid (Z.size = (nc q).toArray.size) := by show _ = _; rw [HZ.out, List.size_toArray, List.size_toArray, ndZ_ok.nc, hqo.nc]
      have hz1 : Hid (Z.size = (nc q1).toArray.size) := by show _ = _; rw [HZ.out, List.size_toArray, List.size_toArray, ndZ_ok.nc, hq1.nc]
      have hz2 : Hid (Z.size = (nc q2).toArray.size) := by show _ = _; rw [HZ.out, List.size_toArray, List.size_toArray, ndZ_ok.nc, hq2.nc]
      obtain ⟨X, ctx, hsx, hbx, hxl, hlr⟩ := node_text HFR.out FI.out.eq FI.out.fo.ok hq (qa := q1) (qb := q2) hq1.h hq2.h (fun h => he1 (hr1.trans h)) (fun h => he2 (hr2.trans h))
      have CX := hid ctx
      have CU : Hid (∀ (w : World) (B : Option Addr) (d : Nat), Rp w none B X → Calls Tryd.prog 24 #[.slice B X.length d] w fun e w' => e = .returned (.agg (kc q.h)) ∧ Below w.heap.size w w') := fun w B d hr => by
        rw [← hsx]; exact RSum_any B d X w hr hbx hxl
      have HLR := hid hlr
      have HFEW : Hid (Few N.length) := by show N.length < 100000; have := HLN.out; omega
      clear hr1 hr2 hq1 hq2 he1 he2 cn1 cn2 hqo ctx hsx hbx hxl hlr hq hkl
      have hlt2 : (k : Int) < n := by omega
      go_upto_region 8 with (fail)
      go_upto_region 9 with (first
        | (go_at_call 22; refine (CN0.out _ (Below.refl _ _)).mono ?_; rintro e w3 ⟨rfl, hb⟩; have B3 := hid hb; clear hb)
        | (refine wpList_store_row rfl 57 (.tmp 7) (.tmp 45) rfl w3.heap.size (nc q).toArray rfl rfl 57 Z (Blk.new w3 57 Z) HI.out hz0.out (nc_one2 _) ?_))
      have A7 : Hid (wr.heap.size ≤ w3.heap.size) := B3.out.size
      have K70 : Hid (Blk ((w3.alloc (.cells Z 57)).setRow w3.heap.size (nc q).toArray) w3.heap.size 57 (nc q).toArray) := (Blk.new w3 57 Z).row _
      have B4 : Hid (Below wr.heap.size wr ((w3.alloc (.cells Z 57)).setRow w3.heap.size (nc q).toArray)) := below_setRow (B3.out.alloc A7.out _) A7.out _
      generalize w3.heap.size = p7 at A7 K70 B4 ⊢
      generalize (w3.alloc (.cells Z 57)).setRow p7 (nc q).toArray = w4 at K70 B4 ⊢
      clear B3 CN0
      have c98 : w4.cell? ⟨p7, 98, none⟩ = some (.int .i64 q.l) := by have := (K70.out.node HQ.out).left; rwa [Nat.zero_add] at this
      go_upto_region 10 with (first
        | (go_at_call 22; refine (CN1.out _ B4.out).mono ?_; rintro e w5 ⟨rfl, hb⟩; have B5 := hid (B4.out.trans (hb.mono B4.out.size)); have K71 := hid (K70.out.below hb); clear hb)
        | (refine wpList_store_row rfl 57 (.tmp 9) (.tmp 52) rfl w5.heap.size (nc q1).toArray rfl rfl 57 Z (Blk.new w5 57 Z) HI1.out hz1.out (nc_one2 _) ?_))
      have A9 : Hid (wr.heap.size ≤ w5.heap.size) := B5.out.size
      have K90 : Hid (Blk ((w5.alloc (.cells Z 57)).setRow w5.heap.size (nc q1).toArray) w5.heap.size 57 (nc q1).toArray) := (Blk.new w5 57 Z).row _
      have K72 : Hid (Blk ((w5.alloc (.cells Z 57)).setRow w5.heap.size (nc q1).toArray) p7 57 (nc q).toArray) := K71.out.below (below_setRow ((Below.refl w5.heap.size w5).alloc (Nat.le_refl _) _) (Nat.le_refl _) _)
      have B6 : Hid (Below wr.heap.size wr ((w5.alloc (.cells Z 57)).setRow w5.heap.size (nc q1).toArray)) := below_setRow (B5.out.alloc A9.out _) A9.out _
      generalize w5.heap.size = p9 at A9 K90 K72 B6 ⊢
      generalize (w5.alloc (.cells Z 57)).setRow p9 (nc q1).toArray = w6 at K90 K72 B6 ⊢
      clear c98 B4 B5 K70 K71 CN1
      have c99 : w6.cell? ⟨p7, 99, none⟩ = some (.int .i64 q.r) := by have := (K72.out.node HQ.out).right; rwa [Nat.zero_add] at this
      go_upto_region 11 with (first
        | (go_at_call 22; refine (CN2.out _ B6.out).mono ?_; rintro e w7 ⟨rfl, hb⟩; have B7 := hid (B6.out.trans (hb.mono B6.out.size)); have K73 := hid (K72.out.below hb); have K91 := hid (K90.out.below hb); clear hb)
        | (refine wpList_store_row rfl 57 (.tmp 11) (.tmp 59) rfl w7.heap.size (nc q2).toArray rfl rfl 57 Z (Blk.new w7 57 Z) HI2.out hz2.out (nc_one2 _) ?_))
      have A11 : Hid (wr.heap.size ≤ w7.heap.size) := B7.out.size
      have BN7 : Hid (Below w7.heap.size w7 ((w7.alloc (.cells Z 57)).setRow w7.heap.size (nc q2).toArray)) := below_setRow ((Below.refl w7.heap.size w7).alloc (Nat.le_refl _) _) (Nat.le_refl _) _
      have K110 : Hid (Blk ((w7.alloc (.cells Z 57)).setRow w7.heap.size (nc q2).toArray) w7.heap.size 57 (nc q2).toArray) := (Blk.new w7 57 Z).row _
      have K74 := hid (K73.out.below BN7.out); have K92 := hid (K91.out.below BN7.out)
      have B8 : Hid (Below wr.heap.size wr ((w7.alloc (.cells Z 57)).setRow w7.heap.size (nc q2).toArray)) := below_setRow (B7.out.alloc A11.out _) A11.out _
      clear BN7
      generalize w7.heap.size = p11 at A11 K110 K74 K92 B8 ⊢
      generalize (w7.alloc (.cells Z 57)).setRow p11 (nc q2).toArray = w8 at K110 K74 K92 B8 ⊢
      clear c99 B6 B7 K72 K73 K90 K91 CN2
      have CP := hid (node_add (FI.out.fo.below B8.out) HFR.out FI.out.eq HQA.out HFEW.out (HT.out.below (FI.out.bl.trans (B8.out.mono FI.out.bl.size))))
      have NX := hid (fun w9 (hgr : Grew w8 f g b (N ++ [q]) w9) => FI.out.grow HQA.out rfl B8.out hgr)
      obtain ⟨m, hm⟩ : ∃ m, m = N.length := ⟨_, rfl⟩
      have HM := hid hm
      rw [← hm] at CP
      clear hm
      have HMK : Hid (m = n + k) := by show _ = _; rw [HM.out]; exact HLN.out
      have KQ := hid (blk_nd (w := w8) (e := p7) (q := q) K74.out)
      go_upto_region 12 with (first
        | (refine load_at rfl 57 (.tmp 7) rfl p7 0 rfl (nc q) _ KQ.out Tryd.underlying57 rfl HQI.out (nc q).toArray rfl ?_)
        | (go_at_call 23; refine CP.out.mono ?_; rintro e w9 ⟨rfl, hgr⟩; have HGR := hid hgr; clear hgr))
      obtain ⟨g', b', A', c', tv', fi2⟩ := NX.out _ HGR.out
      have FI2 := hid fi2
      have K75 := hid (nd_keep FI.out.fo A7.out HGR.out K74.out)
      have K93 := hid (nd_keep FI.out.fo A9.out HGR.out K92.out)
      have K112 := hid (nd_keep FI.out.fo A11.out HGR.out K110.out)
      have CN3 := hid (xNode_at fi2.fo m q (by rw [HM.out, List.getElem?_append_right (Nat.le_refl _), Nat.sub_self]; rfl))
      unfold ndV at CN3
      clear fi2 NX HGR CP KQ K74 K92 K110 B8 FI HFEW HFR HQA A7 A9 A11
      go_upto_region 13 with (first
        | (go_at_call 22; refine CN3.out.mono ?_; rintro e w10 ⟨rfl, hb⟩; have B10 := hid hb; clear hb)
        | (refine wpList_store_row rfl 57 (.tmp 15) (.tmp 71) rfl w10.heap.size (nc q).toArray rfl rfl 57 Z (Blk.new w10 57 Z) HI.out hz0.out (nc_one2 _) ?_))
      have A15 : Hid (w9.heap.size ≤ w10.heap.size) := B10.out.size
      have K15 : Hid (Blk ((w10.alloc (.cells Z 57)).setRow w10.heap.size (nc q).toArray) w10.heap.size 57 (nc q).toArray) := (Blk.new w10 57 Z).row _
      have B15 : Hid (Below w9.heap.size w9 ((w10.alloc (.cells Z 57)).setRow w10.heap.size (nc q).toArray)) := below_setRow (B10.out.alloc A15.out _) A15.out _
      have K7 := hid (K75.out.below B15.out); have K9 := hid (K93.out.below B15.out); have K11 := hid (K112.out.below B15.out)
      generalize w10.heap.size = p15 at A15 K15 B15 K7 K9 K11 ⊢
      generalize (w10.alloc (.cells Z 57)).setRow p15 (nc q).toArray = w11 at K15 B15 K7 K9 K11 ⊢
      clear A15 B10 K75 K93 K112 CN3 HI HI1 HI2 hz0 hz1 hz2
      have HWR : Hid (IntKind.i64.wrap ((n : Int) + (k : Int)) = (m : Int)) := by
        show _ = _
        have hmk := HMK.out
        rw [IntWalk.i64_in ((n : Int) + (k : Int)) (by omega)]; omega
      cases hl : q.leaf with
      | true =>
        have HL := hid hl
        clear hl
        refine wp_region_held (S := fun w' => Hid (Below w11.heap.size w11 w')) (by kernel_rfl) ?_
        change wpAnyH _ _ _ _ _ _ _ _ w11.drew
        have Gx0 : Hid (Below w11.heap.size w11 w11.drew) := (Below.refl _ _).drew
        generalize w11.drew = x0 at Gx0  ⊢
        refine wpAnyH_take (i := 0) (oi := { dst := some 73, op := _, type := _, pos := _, after := _, guard := _ }) (v := ?_) rfl (by kernel_rfl) (by kernel_rfl) (by kernel_rfl) (fun _ _ _ h => h) (Or.inl ⟨by kernel_rfl, ?_⟩) Gx0 ?_
        rotate_left
        · (intro w hSw; go_simp; try with_reducible rfl)
        try simp only [Act.put, List.setIfInBounds_toArray, List.set_cons_zero, List.set_cons_succ]
        refine wpAnyH_take (i := 1) (oi := { dst := some 74, op := _, type := _, pos := _, after := _, guard := _ }) (v := ?_) rfl (by kernel_rfl) (by kernel_rfl) (by kernel_rfl) (fun _ _ _ h => h) (Or.inl ⟨by kernel_rfl, ?_⟩) Gx0 ?_
        rotate_left
        · (intro w hSw; go_simp; try with_reducible rfl)
        try simp only [Act.put, List.setIfInBounds_toArray, List.set_cons_zero, List.set_cons_succ]
        refine wpAnyH_take (i := 2) (oi := { dst := some 75, op := _, type := _, pos := _, after := _, guard := _ }) (v := ?_) rfl (by kernel_rfl) (by kernel_rfl) (by kernel_rfl) (fun _ _ _ h => h) (Or.inl ⟨by kernel_rfl, ?_⟩) Gx0 ?_
        rotate_left
        · (intro w hSw; go_simp; try with_reducible rfl)
        try simp only [Act.put, List.setIfInBounds_toArray, List.set_cons_zero, List.set_cons_succ]
        refine wpAnyH_take (i := 3) (oi := { dst := some 76, op := _, type := _, pos := _, after := _, guard := _ }) (v := ?_) rfl (by kernel_rfl) (by kernel_rfl) (by kernel_rfl) (fun _ _ _ h => h) (Or.inl ⟨by kernel_rfl, ?_⟩) Gx0 ?_
        rotate_left
        · (intro w hSw; go_simp; try with_reducible rfl)
        try simp only [Act.put, List.setIfInBounds_toArray, List.set_cons_zero, List.set_cons_succ]
        refine wpAnyH_take (i := 4) (oi := { dst := some 77, op := _, type := _, pos := _, after := _, guard := _ }) (v := .bool false) rfl (by kernel_rfl) (by kernel_rfl) (by kernel_rfl) (fun _ _ _ h => h) (Or.inl ⟨by kernel_rfl, ?_⟩) Gx0 ?_
        · (intro w hSw; go_simp; try with_reducible rfl)
        try simp only [Act.put, List.setIfInBounds_toArray, List.set_cons_zero, List.set_cons_succ]
        refine wpAnyH_take (i := 5) (oi := { dst := some 78, op := _, type := _, pos := _, after := _, guard := _ }) (v := ?_) rfl (by kernel_rfl) (by kernel_rfl) (by kernel_rfl) (fun _ _ _ h => h) (Or.inl ⟨by kernel_rfl, ?_⟩) Gx0 ?_
        rotate_left
        · (intro w hSw; go_simp; try with_reducible rfl)
        try simp only [Act.put, List.setIfInBounds_toArray, List.set_cons_zero, List.set_cons_succ]
        refine wpAnyH_take (i := 6) (oi := { dst := some 79, op := _, type := _, pos := _, after := _, guard := _ }) (v := ?_) rfl (by kernel_rfl) (by kernel_rfl) (by kernel_rfl) (fun _ _ _ h => h) (Or.inl ⟨by kernel_rfl, ?_⟩) Gx0 ?_
        rotate_left
        · (intro w hSw; go_simp; try with_reducible rfl)
        try simp only [Act.put, List.setIfInBounds_toArray, List.set_cons_zero, List.set_cons_succ]
        refine wpAnyH_take (i := 7) (oi := { dst := some 80, op := _, type := _, pos := _, after := _, guard := _ }) (v := ?_) rfl (by kernel_rfl) (by kernel_rfl) (by kernel_rfl) (fun _ _ _ h => h) (Or.inl ⟨by kernel_rfl, ?_⟩) Gx0 ?_
        rotate_left
        · (intro w hSw; go_simp; try with_reducible rfl)
        try simp only [Act.put, List.setIfInBounds_toArray, List.set_cons_zero, List.set_cons_succ]
        refine wpAnyH_take (i := 8) (oi := { dst := some 81, op := _, type := _, pos := _, after := _, guard := _ }) (v := ?_) rfl (by kernel_rfl) (by kernel_rfl) (by kernel_rfl) (fun _ _ _ h => h) (Or.inl ⟨by kernel_rfl, ?_⟩) Gx0 ?_
        rotate_left
        · (intro w hSw; go_simp; try with_reducible rfl)
        try simp only [Act.put, List.setIfInBounds_toArray, List.set_cons_zero, List.set_cons_succ]
        refine wpAnyH_take (i := 9) (oi := { dst := some 82, op := _, type := _, pos := _, after := _, guard := _ }) (v := ?_) rfl (by kernel_rfl) (by kernel_rfl) (by kernel_rfl) (fun _ _ _ h => h) (Or.inl ⟨by kernel_rfl, ?_⟩) Gx0 ?_
        rotate_left
        · (intro w hSw; go_simp; try with_reducible rfl)
        try simp only [Act.put, List.setIfInBounds_toArray, List.set_cons_zero, List.set_cons_succ]
        refine wpAnyH_take (i := 10) (oi := { dst := some 83, op := _, type := _, pos := _, after := _, guard := _ }) (v := ?_) rfl (by kernel_rfl) (by kernel_rfl) (by kernel_rfl) (fun _ _ _ h => h) (Or.inl ⟨by kernel_rfl, ?_⟩) Gx0 ?_
        rotate_left
        · (intro w hSw; go_simp; try with_reducible rfl)
        try simp only [Act.put, List.setIfInBounds_toArray, List.set_cons_zero, List.set_cons_succ]
        refine wpAnyH_take (i := 11) (oi := { dst := some 84, op := _, type := _, pos := _, after := _, guard := _ }) (v := ?_) rfl (by kernel_rfl) (by kernel_rfl) (by kernel_rfl) (fun _ _ _ h => h) (Or.inl ⟨by kernel_rfl, ?_⟩) Gx0 ?_
        rotate_left
        · (intro w hSw; go_simp; try with_reducible rfl)
        try simp only [Act.put, List.setIfInBounds_toArray, List.set_cons_zero, List.set_cons_succ]
        refine wpAnyH_take (i := 12) (oi := { dst := some 85, op := _, type := _, pos := _, after := _, guard := _ }) (v := ?_) rfl (by kernel_rfl) (by kernel_rfl) (by kernel_rfl) (fun _ _ _ h => h) (Or.inl ⟨by kernel_rfl, ?_⟩) Gx0 ?_
        rotate_left
        · (intro w hSw; go_simp; try with_reducible rfl)
        try simp only [Act.put, List.setIfInBounds_toArray, List.set_cons_zero, List.set_cons_succ]
        refine wpAnyH_take (i := 13) (oi := { dst := some 86, op := _, type := _, pos := _, after := _, guard := _ }) (v := ?_) rfl (by kernel_rfl) (by kernel_rfl) (by kernel_rfl) (fun _ _ _ h => h) (Or.inl ⟨by kernel_rfl, ?_⟩) Gx0 ?_
        rotate_left
        · (intro w hSw; go_simp; try with_reducible rfl)
        try simp only [Act.put, List.setIfInBounds_toArray, List.set_cons_zero, List.set_cons_succ]
        refine wpAnyH_take (i := 14) (oi := { dst := some 87, op := _, type := _, pos := _, after := _, guard := _ }) (v := .int .i64 (m : Int)) rfl (by kernel_rfl) (by kernel_rfl) (by kernel_rfl) (fun _ _ _ h => h) (Or.inl ⟨by kernel_rfl, ?_⟩) Gx0 ?_
        · (intro w hSw; go_simp; exact HWR.out)
        try simp only [Act.put, List.setIfInBounds_toArray, List.set_cons_zero, List.set_cons_succ]
        refine wpAnyH_take (i := 15) (oi := { dst := some 88, op := _, type := _, pos := _, after := _, guard := _ }) (v := .bool false) rfl (by kernel_rfl) (by kernel_rfl) (by kernel_rfl) (fun _ _ _ h => h) (Or.inl ⟨by kernel_rfl, ?_⟩) Gx0 ?_
        · (intro w hSw; go_simp; try with_reducible rfl)
        try simp only [Act.put, List.setIfInBounds_toArray, List.set_cons_zero, List.set_cons_succ]
        refine wpAnyH_take (i := 16) (oi := { dst := some 89, op := _, type := _, pos := _, after := _, guard := _ }) (v := ?_) rfl (by kernel_rfl) (by kernel_rfl) (by kernel_rfl) (fun _ _ _ h => h) (Or.inl ⟨by kernel_rfl, ?_⟩) Gx0 ?_
        rotate_left
        · (intro w hSw; go_simp; try with_reducible rfl)
        try simp only [Act.put, List.setIfInBounds_toArray, List.set_cons_zero, List.set_cons_succ]
        refine wpAnyH_take (i := 17) (oi := { dst := some 90, op := _, type := _, pos := _, after := _, guard := _ }) (v := ?_) rfl (by kernel_rfl) (by kernel_rfl) (by kernel_rfl) (fun _ _ _ h => h) (Or.inl ⟨by kernel_rfl, ?_⟩) Gx0 ?_
        rotate_left
        · (intro w hSw; go_simp; try with_reducible rfl)
        try simp only [Act.put, List.setIfInBounds_toArray, List.set_cons_zero, List.set_cons_succ]
        refine wpAnyH_take (i := 18) (oi := { dst := some 91, op := _, type := _, pos := _, after := _, guard := _ }) (v := .agg ((nc q).toArray)) rfl (by kernel_rfl) (by kernel_rfl) (by kernel_rfl) (fun _ _ _ h => h) (yieldsIf_load_mid (cs := nc q) (by rfl) _ _ rfl _ _ rfl _ (fun w' hSw => (K15.out.below hSw.out).node HQ.out |>.all) Tryd.underlying57 rfl HQI.out) Gx0 ?_
        try simp only [Act.put, List.setIfInBounds_toArray, List.set_cons_zero, List.set_cons_succ]
        refine wpAnyH_take (i := 19) (oi := { dst := some 92, op := _, type := _, pos := _, after := _, guard := _ }) (v := .agg ((nc q).toArray)) rfl (by kernel_rfl) (by kernel_rfl) (by kernel_rfl) (fun _ _ _ h => h) (yieldsIf_load_mid (cs := nc q) (by rfl) _ _ rfl _ _ rfl _ (fun w' hSw => (K7.out.below hSw.out).node HQ.out |>.all) Tryd.underlying57 rfl HQI.out) Gx0 ?_
        try simp only [Act.put, List.setIfInBounds_toArray, List.set_cons_zero, List.set_cons_succ]
        refine wpAnyH_take (i := 20) (oi := { dst := some 93, op := _, type := _, pos := _, after := _, guard := _ }) (v := .bool false) rfl (by kernel_rfl) (by kernel_rfl) (by kernel_rfl) (fun _ _ _ h => h) (Or.inl ⟨by kernel_rfl, ?_⟩) Gx0 ?_
        · (intro w hSw; have heq := fun w => neq_node HQ.out w; have heq2 := fun w => equal_node HQ.out w; go_simp; try with_reducible rfl)
        try simp only [Act.put, List.setIfInBounds_toArray, List.set_cons_zero, List.set_cons_succ]
        refine wpAnyH_take (i := 21) (oi := { dst := some 94, op := _, type := _, pos := _, after := _, guard := _ }) (v := ?_) rfl (by kernel_rfl) (by kernel_rfl) (by kernel_rfl) (fun _ _ _ h => h) (Or.inl ⟨by kernel_rfl, ?_⟩) Gx0 ?_
        rotate_left
        · (intro w hSw; go_simp; try with_reducible rfl)
        try simp only [Act.put, List.setIfInBounds_toArray, List.set_cons_zero, List.set_cons_succ]
        refine wpAnyH_take (i := 22) (oi := { dst := some 95, op := _, type := _, pos := _, after := _, guard := _ }) (v := ?_) rfl (by kernel_rfl) (by kernel_rfl) (by kernel_rfl) (fun _ _ _ h => h) (Or.inl ⟨by kernel_rfl, ?_⟩) Gx0 ?_
        rotate_left
        · (intro w hSw; go_simp; try with_reducible rfl)
        try simp only [Act.put, List.setIfInBounds_toArray, List.set_cons_zero, List.set_cons_succ]
        refine wpAnyH_take (i := 23) (oi := { dst := some 96, op := _, type := _, pos := _, after := _, guard := _ }) (v := ?_) rfl (by kernel_rfl) (by kernel_rfl) (by kernel_rfl) (fun _ _ _ h => h) (Or.inl ⟨by kernel_rfl, ?_⟩) Gx0 ?_
        rotate_left
        · (intro w hSw; go_simp; try with_reducible rfl)
        try simp only [Act.put, List.setIfInBounds_toArray, List.set_cons_zero, List.set_cons_succ]
        refine wpAnyH_take (i := 24) (oi := { dst := some 97, op := _, type := _, pos := _, after := _, guard := _ }) (v := .agg ((kc q.h))) rfl (by kernel_rfl) (by kernel_rfl) (by kernel_rfl) (fun _ _ _ h => h) (yieldsIf_load_mid (cs := u8s q.h) (by rfl) _ _ rfl _ _ rfl _ (fun w' hSw => ((K7.out.below hSw.out).node HQ.out).hash) Tryd.underlying24 rfl HHI.out) Gx0 ?_
        try simp only [Act.put, List.setIfInBounds_toArray, List.set_cons_zero, List.set_cons_succ]
        refine wpAnyH_take (i := 25) (oi := { dst := some 98, op := _, type := _, pos := _, after := _, guard := _ }) (v := .agg ((nc q).toArray)) rfl (by kernel_rfl) (by kernel_rfl) (by kernel_rfl) (fun _ _ _ h => h) (yieldsIf_load_mid (cs := nc q) (by rfl) _ _ rfl _ _ rfl _ (fun w' hSw => (K7.out.below hSw.out).node HQ.out |>.all) Tryd.underlying57 rfl HQI.out) Gx0 ?_
        try simp only [Act.put, List.setIfInBounds_toArray, List.set_cons_zero, List.set_cons_succ]
        refine wpAnyH_take (i := 26) (oi := { dst := some 99, op := _, type := _, pos := _, after := _, guard := _ }) (v := ?_) rfl (by kernel_rfl) (by kernel_rfl) (by kernel_rfl) (fun _ _ _ h => h) (Or.inl ⟨by kernel_rfl, ?_⟩) Gx0 ?_
        rotate_left
        · (intro w hSw; go_simp; try with_reducible rfl)
        try simp only [Act.put, List.setIfInBounds_toArray, List.set_cons_zero, List.set_cons_succ]
        refine wpAnyH_take (i := 27) (oi := { dst := some 100, op := _, type := _, pos := _, after := _, guard := _ }) (v := .agg ((kc q1.h))) rfl (by kernel_rfl) (by kernel_rfl) (by kernel_rfl) (fun _ _ _ h => h) (yieldsIf_load_mid (cs := u8s q1.h) (by rfl) _ _ rfl _ _ rfl _ (fun w' hSw => ((K9.out.below hSw.out).node HQ1.out).hash) Tryd.underlying24 rfl HH1.out) Gx0 ?_
        try simp only [Act.put, List.setIfInBounds_toArray, List.set_cons_zero, List.set_cons_succ]
        refine wpAnyH_take (i := 28) (oi := { dst := some 101, op := _, type := _, pos := _, after := _, guard := _ }) (v := ?_) rfl (by kernel_rfl) (by kernel_rfl) (by kernel_rfl) (fun _ _ _ h => h) (Or.inl ⟨by kernel_rfl, ?_⟩) Gx0 ?_
        rotate_left
        · (intro w hSw; go_simp; try with_reducible rfl)
        try simp only [Act.put, List.setIfInBounds_toArray, List.set_cons_zero, List.set_cons_succ]
        refine wpAnyH_take (i := 29) (oi := { dst := some 102, op := _, type := _, pos := _, after := _, guard := _ }) (v := .agg ((kc q2.h))) rfl (by kernel_rfl) (by kernel_rfl) (by kernel_rfl) (fun _ _ _ h => h) (yieldsIf_load_mid (cs := u8s q2.h) (by rfl) _ _ rfl _ _ rfl _ (fun w' hSw => ((K11.out.below hSw.out).node HQ2.out).hash) Tryd.underlying24 rfl HH2.out) Gx0 ?_
        try simp only [Act.put, List.setIfInBounds_toArray, List.set_cons_zero, List.set_cons_succ]
        refine wpAnyH_ready (rs := [30]) (by kernel_rfl) (by simp) ?_
        refine (AllReadyH.cons (o := { dst := some 103, op := _, type := _, pos := _, after := _, guard := _ }) rfl (fun Qc hQc => ?_) AllReadyH.nil)
        go_simp
        go_at_call 25
        refine (CX.out x0).mono ?_
        rintro e x1 ⟨A5, c5, rfl, h5, hf5, hb⟩
        have Gx1 := hid (Gx0.out.trans (hb.mono Gx0.out.size))
        have R5 := hid hf5.rp0
        clear hb h5 hf5
        go_wp2_with fail
        refine hQc.out _ _ Gx1 (fun hHeld => ?_)
        clear hQc Qc hHeld
        try simp only [Act.put, List.setIfInBounds_toArray, List.set_cons_zero, List.set_cons_succ]
        refine wpAnyH_ready (rs := [31]) (by kernel_rfl) (by simp) ?_
        refine (AllReadyH.cons (o := { dst := some 104, op := _, type := _, pos := _, after := _, guard := _ }) rfl (fun Qc hQc => ?_) AllReadyH.nil)
        go_simp
        go_at_call 24
        refine (CU.out x1 A5 c5 R5.out).mono ?_
        rintro e x2 ⟨rfl, hb⟩
        have Gx2 := hid (Gx1.out.trans (hb.mono Gx1.out.size))
        clear hb
        go_wp2_with fail
        refine hQc.out _ _ Gx2 (fun hHeld => ?_)
        clear hQc Qc hHeld
        try simp only [Act.put, List.setIfInBounds_toArray, List.set_cons_zero, List.set_cons_succ]
        refine wpAnyH_take (i := 32) (oi := { dst := some 105, op := _, type := _, pos := _, after := _, guard := _ }) (v := .bool false) rfl (by kernel_rfl) (by kernel_rfl) (by kernel_rfl) (fun _ _ _ h => h) (Or.inl ⟨by kernel_rfl, ?_⟩) Gx2 ?_
        · (intro w hSw; have heq := fun w => neq_key q.h q.h HQ.out.h HQ.out.h w; rw [decide_eq_true rfl] at heq; go_simp; try with_reducible rfl)
        try simp only [Act.put, List.setIfInBounds_toArray, List.set_cons_zero, List.set_cons_succ]
        refine wpAnyH_take (i := 33) (oi := { dst := some 106, op := _, type := _, pos := _, after := _, guard := _ }) (v := ?_) rfl (by kernel_rfl) (by kernel_rfl) (by kernel_rfl) (fun _ _ _ h => h) (Or.inl ⟨by kernel_rfl, ?_⟩) Gx2 ?_
        rotate_left
        · (intro w hSw; go_simp; try with_reducible rfl)
        try simp only [Act.put, List.setIfInBounds_toArray, List.set_cons_zero, List.set_cons_succ]
        refine wpAnyH_take (i := 34) (oi := { dst := some 107, op := _, type := _, pos := _, after := _, guard := _ }) (v := ?_) rfl (by kernel_rfl) (by kernel_rfl) (by kernel_rfl) (fun _ _ _ h => h) (Or.inl ⟨by kernel_rfl, ?_⟩) Gx2 ?_
        rotate_left
        · (intro w hSw; go_simp; try with_reducible rfl)
        try simp only [Act.put, List.setIfInBounds_toArray, List.set_cons_zero, List.set_cons_succ]
        refine wpAnyH_take (i := 35) (oi := { dst := some 108, op := _, type := _, pos := _, after := _, guard := _ }) (v := ?_) rfl (by kernel_rfl) (by kernel_rfl) (by kernel_rfl) (fun _ _ _ h => h) (Or.inl ⟨by kernel_rfl, ?_⟩) Gx2 ?_
        rotate_left
        · (intro w hSw; go_simp; try with_reducible rfl)
        try simp only [Act.put, List.setIfInBounds_toArray, List.set_cons_zero, List.set_cons_succ]
        refine wpAnyH_take (i := 36) (oi := { dst := some 109, op := _, type := _, pos := _, after := _, guard := _ }) (v := .bool true) rfl (by kernel_rfl) (by kernel_rfl) (by kernel_rfl) (fun _ _ _ h => h) (Or.inl ⟨by kernel_rfl, ?_⟩) Gx2 ?_
        · (intro w hSw; have c9 := ((K7.out.below hSw.out).node HQ.out).leaf; rw [HL.out] at c9; go_simp; try with_reducible rfl)
        try simp only [Act.put, List.setIfInBounds_toArray, List.set_cons_zero, List.set_cons_succ]
        refine wpAnyH_take (i := 37) (oi := { dst := some 110, op := _, type := _, pos := _, after := _, guard := _ }) (v := ?_) rfl (by kernel_rfl) (by kernel_rfl) (by kernel_rfl) (fun _ _ _ h => h) (Or.inl ⟨by kernel_rfl, ?_⟩) Gx2 ?_
        rotate_left
        · (intro w hSw; go_simp; try with_reducible rfl)
        try simp only [Act.put, List.setIfInBounds_toArray, List.set_cons_zero, List.set_cons_succ]
        refine wpAnyH_take (i := 38) (oi := { dst := some 111, op := _, type := _, pos := _, after := _, guard := _ }) (v := ?_) rfl (by kernel_rfl) (by kernel_rfl) (by kernel_rfl) (fun _ _ _ h => h) (Or.inl ⟨by kernel_rfl, ?_⟩) Gx2 ?_
        rotate_left
        · (intro w hSw; go_simp; try with_reducible rfl)
        try simp only [Act.put, List.setIfInBounds_toArray, List.set_cons_zero, List.set_cons_succ]
        refine wpAnyH_take (i := 39) (oi := { dst := some 112, op := _, type := _, pos := _, after := _, guard := _ }) (v := undef) rfl (by kernel_rfl) (by kernel_rfl) (by kernel_rfl) (fun _ _ _ h => h) (Or.inr ⟨by rfl, rfl⟩) Gx2 ?_
        try simp only [Act.put, List.setIfInBounds_toArray, List.set_cons_zero, List.set_cons_succ]
        refine wpAnyH_take (i := 40) (oi := { dst := some 113, op := _, type := _, pos := _, after := _, guard := _ }) (v := undef) rfl (by kernel_rfl) (by kernel_rfl) (by kernel_rfl) (fun _ _ _ h => h) (Or.inr ⟨by rfl, rfl⟩) Gx2 ?_
        try simp only [Act.put, List.setIfInBounds_toArray, List.set_cons_zero, List.set_cons_succ]
        refine wpAnyH_take (i := 41) (oi := { dst := some 114, op := _, type := _, pos := _, after := _, guard := _ }) (v := undef) rfl (by kernel_rfl) (by kernel_rfl) (by kernel_rfl) (fun _ _ _ h => h) (Or.inr ⟨by rfl, rfl⟩) Gx2 ?_
        try simp only [Act.put, List.setIfInBounds_toArray, List.set_cons_zero, List.set_cons_succ]
        refine wpAnyH_take (i := 42) (oi := { dst := some 115, op := _, type := _, pos := _, after := _, guard := _ }) (v := undef) rfl (by kernel_rfl) (by kernel_rfl) (by kernel_rfl) (fun _ _ _ h => h) (Or.inr ⟨by rfl, rfl⟩) Gx2 ?_
        try simp only [Act.put, List.setIfInBounds_toArray, List.set_cons_zero, List.set_cons_succ]
        refine wpAnyH_take (i := 43) (oi := { dst := some 116, op := _, type := _, pos := _, after := _, guard := _ }) (v := undef) rfl (by kernel_rfl) (by kernel_rfl) (by kernel_rfl) (fun _ _ _ h => h) (Or.inr ⟨by rfl, rfl⟩) Gx2 ?_
        try simp only [Act.put, List.setIfInBounds_toArray, List.set_cons_zero, List.set_cons_succ]
        refine wpAnyH_take (i := 44) (oi := { dst := some 117, op := _, type := _, pos := _, after := _, guard := _ }) (v := undef) rfl (by kernel_rfl) (by kernel_rfl) (by kernel_rfl) (fun _ _ _ h => h) (Or.inr ⟨by rfl, rfl⟩) Gx2 ?_
        try simp only [Act.put, List.setIfInBounds_toArray, List.set_cons_zero, List.set_cons_succ]
        refine wpAnyH_take (i := 45) (oi := { dst := some 118, op := _, type := _, pos := _, after := _, guard := _ }) (v := undef) rfl (by kernel_rfl) (by kernel_rfl) (by kernel_rfl) (fun _ _ _ h => h) (Or.inr ⟨by rfl, rfl⟩) Gx2 ?_
        try simp only [Act.put, List.setIfInBounds_toArray, List.set_cons_zero, List.set_cons_succ]
        refine wpAnyH_take (i := 46) (oi := { dst := some 119, op := _, type := _, pos := _, after := _, guard := _ }) (v := undef) rfl (by kernel_rfl) (by kernel_rfl) (by kernel_rfl) (fun _ _ _ h => h) (Or.inr ⟨by rfl, rfl⟩) Gx2 ?_
        try simp only [Act.put, List.setIfInBounds_toArray, List.set_cons_zero, List.set_cons_succ]
        refine wpAnyH_take (i := 47) (oi := { dst := some 120, op := _, type := _, pos := _, after := _, guard := _ }) (v := undef) rfl (by kernel_rfl) (by kernel_rfl) (by kernel_rfl) (fun _ _ _ h => h) (Or.inr ⟨by rfl, rfl⟩) Gx2 ?_
        try simp only [Act.put, List.setIfInBounds_toArray, List.set_cons_zero, List.set_cons_succ]
        refine wpAnyH_take (i := 48) (oi := { dst := some 121, op := _, type := _, pos := _, after := _, guard := _ }) (v := undef) rfl (by kernel_rfl) (by kernel_rfl) (by kernel_rfl) (fun _ _ _ h => h) (Or.inr ⟨by rfl, rfl⟩) Gx2 ?_
        try simp only [Act.put, List.setIfInBounds_toArray, List.set_cons_zero, List.set_cons_succ]
        refine wpAnyH_take (i := 49) (oi := { dst := some 122, op := _, type := _, pos := _, after := _, guard := _ }) (v := ?_) rfl (by kernel_rfl) (by kernel_rfl) (by kernel_rfl) (fun _ _ _ h => h) (Or.inl ⟨by kernel_rfl, ?_⟩) Gx2 ?_
        rotate_left
        · (intro w hSw; go_simp; try with_reducible rfl)
        try simp only [Act.put, List.setIfInBounds_toArray, List.set_cons_zero, List.set_cons_succ]
        refine wpAnyH_take (i := 50) (oi := { dst := some 123, op := _, type := _, pos := _, after := _, guard := _ }) (v := ?_) rfl (by kernel_rfl) (by kernel_rfl) (by kernel_rfl) (fun _ _ _ h => h) (Or.inl ⟨by kernel_rfl, ?_⟩) Gx2 ?_
        rotate_left
        · (intro w hSw; go_simp; try with_reducible rfl)
        try simp only [Act.put, List.setIfInBounds_toArray, List.set_cons_zero, List.set_cons_succ]
        refine wpAnyH_done (by kernel_rfl) ?_ _
        try simp only [Act.put, List.setIfInBounds_toArray, List.set_cons_zero, List.set_cons_succ]
        have FF : Hid (NoI w f N0 (k + 1) g' b' (N ++ [q]) A' c' tv' x2) := ⟨FI2.out.fo.below (B15.out.trans (Gx2.out.mono B15.out.size)), FI2.out.eq, FI2.out.bl.trans ((B15.out.trans (Gx2.out.mono B15.out.size)).mono FI2.out.bl.size), FI2.out.own⟩
        clear FI2 CX CU Gx2 B15
        go_wp2
        go_roundw
        case rel => exact ⟨k + 1, g', b', N ++ [q], A', c', tv', by omega, by go_num, FF⟩
        case measure => simp [intOf]; omega
      | false =>
        have HL := hid hl
        have HLK : Hid (q.l < (k : Int)) := by show _ < _; have := (HLR.out hl).1; omega
        have HRK : Hid (q.r < (k : Int)) := by show _ < _; have := (HLR.out hl).2; omega
        clear hl
        refine wp_region_held (S := fun w' => Hid (Below w11.heap.size w11 w')) (by kernel_rfl) ?_
        change wpAnyH _ _ _ _ _ _ _ _ w11.drew
        have Gx0 : Hid (Below w11.heap.size w11 w11.drew) := (Below.refl _ _).drew
        generalize w11.drew = x0 at Gx0  ⊢
        refine wpAnyH_take (i := 0) (oi := { dst := some 73, op := _, type := _, pos := _, after := _, guard := _ }) (v := ?_) rfl (by kernel_rfl) (by kernel_rfl) (by kernel_rfl) (fun _ _ _ h => h) (Or.inl ⟨by kernel_rfl, ?_⟩) Gx0 ?_
        rotate_left
        · (intro w hSw; go_simp; try with_reducible rfl)
        try simp only [Act.put, List.setIfInBounds_toArray, List.set_cons_zero, List.set_cons_succ]
        refine wpAnyH_take (i := 1) (oi := { dst := some 74, op := _, type := _, pos := _, after := _, guard := _ }) (v := ?_) rfl (by kernel_rfl) (by kernel_rfl) (by kernel_rfl) (fun _ _ _ h => h) (Or.inl ⟨by kernel_rfl, ?_⟩) Gx0 ?_
        rotate_left
        · (intro w hSw; go_simp; try with_reducible rfl)
        try simp only [Act.put, List.setIfInBounds_toArray, List.set_cons_zero, List.set_cons_succ]
        refine wpAnyH_take (i := 2) (oi := { dst := some 75, op := _, type := _, pos := _, after := _, guard := _ }) (v := ?_) rfl (by kernel_rfl) (by kernel_rfl) (by kernel_rfl) (fun _ _ _ h => h) (Or.inl ⟨by kernel_rfl, ?_⟩) Gx0 ?_
        rotate_left
        · (intro w hSw; go_simp; try with_reducible rfl)
        try simp only [Act.put, List.setIfInBounds_toArray, List.set_cons_zero, List.set_cons_succ]
        refine wpAnyH_take (i := 3) (oi := { dst := some 76, op := _, type := _, pos := _, after := _, guard := _ }) (v := ?_) rfl (by kernel_rfl) (by kernel_rfl) (by kernel_rfl) (fun _ _ _ h => h) (Or.inl ⟨by kernel_rfl, ?_⟩) Gx0 ?_
        rotate_left
        · (intro w hSw; go_simp; try with_reducible rfl)
        try simp only [Act.put, List.setIfInBounds_toArray, List.set_cons_zero, List.set_cons_succ]
        refine wpAnyH_take (i := 4) (oi := { dst := some 77, op := _, type := _, pos := _, after := _, guard := _ }) (v := .bool false) rfl (by kernel_rfl) (by kernel_rfl) (by kernel_rfl) (fun _ _ _ h => h) (Or.inl ⟨by kernel_rfl, ?_⟩) Gx0 ?_
        · (intro w hSw; go_simp; try with_reducible rfl)
        try simp only [Act.put, List.setIfInBounds_toArray, List.set_cons_zero, List.set_cons_succ]
        refine wpAnyH_take (i := 5) (oi := { dst := some 78, op := _, type := _, pos := _, after := _, guard := _ }) (v := ?_) rfl (by kernel_rfl) (by kernel_rfl) (by kernel_rfl) (fun _ _ _ h => h) (Or.inl ⟨by kernel_rfl, ?_⟩) Gx0 ?_
        rotate_left
        · (intro w hSw; go_simp; try with_reducible rfl)
        try simp only [Act.put, List.setIfInBounds_toArray, List.set_cons_zero, List.set_cons_succ]
        refine wpAnyH_take (i := 6) (oi := { dst := some 79, op := _, type := _, pos := _, after := _, guard := _ }) (v := ?_) rfl (by kernel_rfl) (by kernel_rfl) (by kernel_rfl) (fun _ _ _ h => h) (Or.inl ⟨by kernel_rfl, ?_⟩) Gx0 ?_
        rotate_left
        · (intro w hSw; go_simp; try with_reducible rfl)
        try simp only [Act.put, List.setIfInBounds_toArray, List.set_cons_zero, List.set_cons_succ]
        refine wpAnyH_take (i := 7) (oi := { dst := some 80, op := _, type := _, pos := _, after := _, guard := _ }) (v := ?_) rfl (by kernel_rfl) (by kernel_rfl) (by kernel_rfl) (fun _ _ _ h => h) (Or.inl ⟨by kernel_rfl, ?_⟩) Gx0 ?_
        rotate_left
        · (intro w hSw; go_simp; try with_reducible rfl)
        try simp only [Act.put, List.setIfInBounds_toArray, List.set_cons_zero, List.set_cons_succ]
        refine wpAnyH_take (i := 8) (oi := { dst := some 81, op := _, type := _, pos := _, after := _, guard := _ }) (v := ?_) rfl (by kernel_rfl) (by kernel_rfl) (by kernel_rfl) (fun _ _ _ h => h) (Or.inl ⟨by kernel_rfl, ?_⟩) Gx0 ?_
        rotate_left
        · (intro w hSw; go_simp; try with_reducible rfl)
        try simp only [Act.put, List.setIfInBounds_toArray, List.set_cons_zero, List.set_cons_succ]
        refine wpAnyH_take (i := 9) (oi := { dst := some 82, op := _, type := _, pos := _, after := _, guard := _ }) (v := ?_) rfl (by kernel_rfl) (by kernel_rfl) (by kernel_rfl) (fun _ _ _ h => h) (Or.inl ⟨by kernel_rfl, ?_⟩) Gx0 ?_
        rotate_left
        · (intro w hSw; go_simp; try with_reducible rfl)
        try simp only [Act.put, List.setIfInBounds_toArray, List.set_cons_zero, List.set_cons_succ]
        refine wpAnyH_take (i := 10) (oi := { dst := some 83, op := _, type := _, pos := _, after := _, guard := _ }) (v := ?_) rfl (by kernel_rfl) (by kernel_rfl) (by kernel_rfl) (fun _ _ _ h => h) (Or.inl ⟨by kernel_rfl, ?_⟩) Gx0 ?_
        rotate_left
        · (intro w hSw; go_simp; try with_reducible rfl)
        try simp only [Act.put, List.setIfInBounds_toArray, List.set_cons_zero, List.set_cons_succ]
        refine wpAnyH_take (i := 11) (oi := { dst := some 84, op := _, type := _, pos := _, after := _, guard := _ }) (v := ?_) rfl (by kernel_rfl) (by kernel_rfl) (by kernel_rfl) (fun _ _ _ h => h) (Or.inl ⟨by kernel_rfl, ?_⟩) Gx0 ?_
        rotate_left
        · (intro w hSw; go_simp; try with_reducible rfl)
        try simp only [Act.put, List.setIfInBounds_toArray, List.set_cons_zero, List.set_cons_succ]
        refine wpAnyH_take (i := 12) (oi := { dst := some 85, op := _, type := _, pos := _, after := _, guard := _ }) (v := ?_) rfl (by kernel_rfl) (by kernel_rfl) (by kernel_rfl) (fun _ _ _ h => h) (Or.inl ⟨by kernel_rfl, ?_⟩) Gx0 ?_
        rotate_left
        · (intro w hSw; go_simp; try with_reducible rfl)
        try simp only [Act.put, List.setIfInBounds_toArray, List.set_cons_zero, List.set_cons_succ]
        refine wpAnyH_take (i := 13) (oi := { dst := some 86, op := _, type := _, pos := _, after := _, guard := _ }) (v := ?_) rfl (by kernel_rfl) (by kernel_rfl) (by kernel_rfl) (fun _ _ _ h => h) (Or.inl ⟨by kernel_rfl, ?_⟩) Gx0 ?_
        rotate_left
        · (intro w hSw; go_simp; try with_reducible rfl)
        try simp only [Act.put, List.setIfInBounds_toArray, List.set_cons_zero, List.set_cons_succ]
        refine wpAnyH_take (i := 14) (oi := { dst := some 87, op := _, type := _, pos := _, after := _, guard := _ }) (v := .int .i64 (m : Int)) rfl (by kernel_rfl) (by kernel_rfl) (by kernel_rfl) (fun _ _ _ h => h) (Or.inl ⟨by kernel_rfl, ?_⟩) Gx0 ?_
        · (intro w hSw; go_simp; exact HWR.out)
        try simp only [Act.put, List.setIfInBounds_toArray, List.set_cons_zero, List.set_cons_succ]
        refine wpAnyH_take (i := 15) (oi := { dst := some 88, op := _, type := _, pos := _, after := _, guard := _ }) (v := .bool false) rfl (by kernel_rfl) (by kernel_rfl) (by kernel_rfl) (fun _ _ _ h => h) (Or.inl ⟨by kernel_rfl, ?_⟩) Gx0 ?_
        · (intro w hSw; go_simp; try with_reducible rfl)
        try simp only [Act.put, List.setIfInBounds_toArray, List.set_cons_zero, List.set_cons_succ]
        refine wpAnyH_take (i := 16) (oi := { dst := some 89, op := _, type := _, pos := _, after := _, guard := _ }) (v := ?_) rfl (by kernel_rfl) (by kernel_rfl) (by kernel_rfl) (fun _ _ _ h => h) (Or.inl ⟨by kernel_rfl, ?_⟩) Gx0 ?_
        rotate_left
        · (intro w hSw; go_simp; try with_reducible rfl)
        try simp only [Act.put, List.setIfInBounds_toArray, List.set_cons_zero, List.set_cons_succ]
        refine wpAnyH_take (i := 17) (oi := { dst := some 90, op := _, type := _, pos := _, after := _, guard := _ }) (v := ?_) rfl (by kernel_rfl) (by kernel_rfl) (by kernel_rfl) (fun _ _ _ h => h) (Or.inl ⟨by kernel_rfl, ?_⟩) Gx0 ?_
        rotate_left
        · (intro w hSw; go_simp; try with_reducible rfl)
        try simp only [Act.put, List.setIfInBounds_toArray, List.set_cons_zero, List.set_cons_succ]
        refine wpAnyH_take (i := 18) (oi := { dst := some 91, op := _, type := _, pos := _, after := _, guard := _ }) (v := .agg ((nc q).toArray)) rfl (by kernel_rfl) (by kernel_rfl) (by kernel_rfl) (fun _ _ _ h => h) (yieldsIf_load_mid (cs := nc q) (by rfl) _ _ rfl _ _ rfl _ (fun w' hSw => (K15.out.below hSw.out).node HQ.out |>.all) Tryd.underlying57 rfl HQI.out) Gx0 ?_
        try simp only [Act.put, List.setIfInBounds_toArray, List.set_cons_zero, List.set_cons_succ]
        refine wpAnyH_take (i := 19) (oi := { dst := some 92, op := _, type := _, pos := _, after := _, guard := _ }) (v := .agg ((nc q).toArray)) rfl (by kernel_rfl) (by kernel_rfl) (by kernel_rfl) (fun _ _ _ h => h) (yieldsIf_load_mid (cs := nc q) (by rfl) _ _ rfl _ _ rfl _ (fun w' hSw => (K7.out.below hSw.out).node HQ.out |>.all) Tryd.underlying57 rfl HQI.out) Gx0 ?_
        try simp only [Act.put, List.setIfInBounds_toArray, List.set_cons_zero, List.set_cons_succ]
        refine wpAnyH_take (i := 20) (oi := { dst := some 93, op := _, type := _, pos := _, after := _, guard := _ }) (v := .bool false) rfl (by kernel_rfl) (by kernel_rfl) (by kernel_rfl) (fun _ _ _ h => h) (Or.inl ⟨by kernel_rfl, ?_⟩) Gx0 ?_
        · (intro w hSw; have heq := fun w => neq_node HQ.out w; have heq2 := fun w => equal_node HQ.out w; go_simp; try with_reducible rfl)
        try simp only [Act.put, List.setIfInBounds_toArray, List.set_cons_zero, List.set_cons_succ]
        refine wpAnyH_take (i := 21) (oi := { dst := some 94, op := _, type := _, pos := _, after := _, guard := _ }) (v := ?_) rfl (by kernel_rfl) (by kernel_rfl) (by kernel_rfl) (fun _ _ _ h => h) (Or.inl ⟨by kernel_rfl, ?_⟩) Gx0 ?_
        rotate_left
        · (intro w hSw; go_simp; try with_reducible rfl)
        try simp only [Act.put, List.setIfInBounds_toArray, List.set_cons_zero, List.set_cons_succ]
        refine wpAnyH_take (i := 22) (oi := { dst := some 95, op := _, type := _, pos := _, after := _, guard := _ }) (v := ?_) rfl (by kernel_rfl) (by kernel_rfl) (by kernel_rfl) (fun _ _ _ h => h) (Or.inl ⟨by kernel_rfl, ?_⟩) Gx0 ?_
        rotate_left
        · (intro w hSw; go_simp; try with_reducible rfl)
        try simp only [Act.put, List.setIfInBounds_toArray, List.set_cons_zero, List.set_cons_succ]
        refine wpAnyH_take (i := 23) (oi := { dst := some 96, op := _, type := _, pos := _, after := _, guard := _ }) (v := ?_) rfl (by kernel_rfl) (by kernel_rfl) (by kernel_rfl) (fun _ _ _ h => h) (Or.inl ⟨by kernel_rfl, ?_⟩) Gx0 ?_
        rotate_left
        · (intro w hSw; go_simp; try with_reducible rfl)
        try simp only [Act.put, List.setIfInBounds_toArray, List.set_cons_zero, List.set_cons_succ]
        refine wpAnyH_take (i := 24) (oi := { dst := some 97, op := _, type := _, pos := _, after := _, guard := _ }) (v := .agg ((kc q.h))) rfl (by kernel_rfl) (by kernel_rfl) (by kernel_rfl) (fun _ _ _ h => h) (yieldsIf_load_mid (cs := u8s q.h) (by rfl) _ _ rfl _ _ rfl _ (fun w' hSw => ((K7.out.below hSw.out).node HQ.out).hash) Tryd.underlying24 rfl HHI.out) Gx0 ?_
        try simp only [Act.put, List.setIfInBounds_toArray, List.set_cons_zero, List.set_cons_succ]
        refine wpAnyH_take (i := 25) (oi := { dst := some 98, op := _, type := _, pos := _, after := _, guard := _ }) (v := .agg ((nc q).toArray)) rfl (by kernel_rfl) (by kernel_rfl) (by kernel_rfl) (fun _ _ _ h => h) (yieldsIf_load_mid (cs := nc q) (by rfl) _ _ rfl _ _ rfl _ (fun w' hSw => (K7.out.below hSw.out).node HQ.out |>.all) Tryd.underlying57 rfl HQI.out) Gx0 ?_
        try simp only [Act.put, List.setIfInBounds_toArray, List.set_cons_zero, List.set_cons_succ]
        refine wpAnyH_take (i := 26) (oi := { dst := some 99, op := _, type := _, pos := _, after := _, guard := _ }) (v := ?_) rfl (by kernel_rfl) (by kernel_rfl) (by kernel_rfl) (fun _ _ _ h => h) (Or.inl ⟨by kernel_rfl, ?_⟩) Gx0 ?_
        rotate_left
        · (intro w hSw; go_simp; try with_reducible rfl)
        try simp only [Act.put, List.setIfInBounds_toArray, List.set_cons_zero, List.set_cons_succ]
        refine wpAnyH_take (i := 27) (oi := { dst := some 100, op := _, type := _, pos := _, after := _, guard := _ }) (v := .agg ((kc q1.h))) rfl (by kernel_rfl) (by kernel_rfl) (by kernel_rfl) (fun _ _ _ h => h) (yieldsIf_load_mid (cs := u8s q1.h) (by rfl) _ _ rfl _ _ rfl _ (fun w' hSw => ((K9.out.below hSw.out).node HQ1.out).hash) Tryd.underlying24 rfl HH1.out) Gx0 ?_
        try simp only [Act.put, List.setIfInBounds_toArray, List.set_cons_zero, List.set_cons_succ]
        refine wpAnyH_take (i := 28) (oi := { dst := some 101, op := _, type := _, pos := _, after := _, guard := _ }) (v := ?_) rfl (by kernel_rfl) (by kernel_rfl) (by kernel_rfl) (fun _ _ _ h => h) (Or.inl ⟨by kernel_rfl, ?_⟩) Gx0 ?_
        rotate_left
        · (intro w hSw; go_simp; try with_reducible rfl)
        try simp only [Act.put, List.setIfInBounds_toArray, List.set_cons_zero, List.set_cons_succ]
        refine wpAnyH_take (i := 29) (oi := { dst := some 102, op := _, type := _, pos := _, after := _, guard := _ }) (v := .agg ((kc q2.h))) rfl (by kernel_rfl) (by kernel_rfl) (by kernel_rfl) (fun _ _ _ h => h) (yieldsIf_load_mid (cs := u8s q2.h) (by rfl) _ _ rfl _ _ rfl _ (fun w' hSw => ((K11.out.below hSw.out).node HQ2.out).hash) Tryd.underlying24 rfl HH2.out) Gx0 ?_
        try simp only [Act.put, List.setIfInBounds_toArray, List.set_cons_zero, List.set_cons_succ]
        refine wpAnyH_ready (rs := [30]) (by kernel_rfl) (by simp) ?_
        refine (AllReadyH.cons (o := { dst := some 103, op := _, type := _, pos := _, after := _, guard := _ }) rfl (fun Qc hQc => ?_) AllReadyH.nil)
        go_simp
        go_at_call 25
        refine (CX.out x0).mono ?_
        rintro e x1 ⟨A5, c5, rfl, h5, hf5, hb⟩
        have Gx1 := hid (Gx0.out.trans (hb.mono Gx0.out.size))
        have R5 := hid hf5.rp0
        clear hb h5 hf5
        go_wp2_with fail
        refine hQc.out _ _ Gx1 (fun hHeld => ?_)
        clear hQc Qc hHeld
        try simp only [Act.put, List.setIfInBounds_toArray, List.set_cons_zero, List.set_cons_succ]
        refine wpAnyH_ready (rs := [31]) (by kernel_rfl) (by simp) ?_
        refine (AllReadyH.cons (o := { dst := some 104, op := _, type := _, pos := _, after := _, guard := _ }) rfl (fun Qc hQc => ?_) AllReadyH.nil)
        go_simp
        go_at_call 24
        refine (CU.out x1 A5 c5 R5.out).mono ?_
        rintro e x2 ⟨rfl, hb⟩
        have Gx2 := hid (Gx1.out.trans (hb.mono Gx1.out.size))
        clear hb
        go_wp2_with fail
        refine hQc.out _ _ Gx2 (fun hHeld => ?_)
        clear hQc Qc hHeld
        try simp only [Act.put, List.setIfInBounds_toArray, List.set_cons_zero, List.set_cons_succ]
        refine wpAnyH_take (i := 32) (oi := { dst := some 105, op := _, type := _, pos := _, after := _, guard := _ }) (v := .bool false) rfl (by kernel_rfl) (by kernel_rfl) (by kernel_rfl) (fun _ _ _ h => h) (Or.inl ⟨by kernel_rfl, ?_⟩) Gx2 ?_
        · (intro w hSw; have heq := fun w => neq_key q.h q.h HQ.out.h HQ.out.h w; rw [decide_eq_true rfl] at heq; go_simp; try with_reducible rfl)
        try simp only [Act.put, List.setIfInBounds_toArray, List.set_cons_zero, List.set_cons_succ]
        refine wpAnyH_take (i := 33) (oi := { dst := some 106, op := _, type := _, pos := _, after := _, guard := _ }) (v := ?_) rfl (by kernel_rfl) (by kernel_rfl) (by kernel_rfl) (fun _ _ _ h => h) (Or.inl ⟨by kernel_rfl, ?_⟩) Gx2 ?_
        rotate_left
        · (intro w hSw; go_simp; try with_reducible rfl)
        try simp only [Act.put, List.setIfInBounds_toArray, List.set_cons_zero, List.set_cons_succ]
        refine wpAnyH_take (i := 34) (oi := { dst := some 107, op := _, type := _, pos := _, after := _, guard := _ }) (v := ?_) rfl (by kernel_rfl) (by kernel_rfl) (by kernel_rfl) (fun _ _ _ h => h) (Or.inl ⟨by kernel_rfl, ?_⟩) Gx2 ?_
        rotate_left
        · (intro w hSw; go_simp; try with_reducible rfl)
        try simp only [Act.put, List.setIfInBounds_toArray, List.set_cons_zero, List.set_cons_succ]
        refine wpAnyH_take (i := 35) (oi := { dst := some 108, op := _, type := _, pos := _, after := _, guard := _ }) (v := ?_) rfl (by kernel_rfl) (by kernel_rfl) (by kernel_rfl) (fun _ _ _ h => h) (Or.inl ⟨by kernel_rfl, ?_⟩) Gx2 ?_
        rotate_left
        · (intro w hSw; go_simp; try with_reducible rfl)
        try simp only [Act.put, List.setIfInBounds_toArray, List.set_cons_zero, List.set_cons_succ]
        refine wpAnyH_take (i := 36) (oi := { dst := some 109, op := _, type := _, pos := _, after := _, guard := _ }) (v := .bool false) rfl (by kernel_rfl) (by kernel_rfl) (by kernel_rfl) (fun _ _ _ h => h) (Or.inl ⟨by kernel_rfl, ?_⟩) Gx2 ?_
        · (intro w hSw; have c9 := ((K7.out.below hSw.out).node HQ.out).leaf; rw [HL.out] at c9; go_simp; try with_reducible rfl)
        try simp only [Act.put, List.setIfInBounds_toArray, List.set_cons_zero, List.set_cons_succ]
        refine wpAnyH_take (i := 37) (oi := { dst := some 110, op := _, type := _, pos := _, after := _, guard := _ }) (v := ?_) rfl (by kernel_rfl) (by kernel_rfl) (by kernel_rfl) (fun _ _ _ h => h) (Or.inl ⟨by kernel_rfl, ?_⟩) Gx2 ?_
        rotate_left
        · (intro w hSw; go_simp; try with_reducible rfl)
        try simp only [Act.put, List.setIfInBounds_toArray, List.set_cons_zero, List.set_cons_succ]
        refine wpAnyH_take (i := 38) (oi := { dst := some 111, op := _, type := _, pos := _, after := _, guard := _ }) (v := ?_) rfl (by kernel_rfl) (by kernel_rfl) (by kernel_rfl) (fun _ _ _ h => h) (Or.inl ⟨by kernel_rfl, ?_⟩) Gx2 ?_
        rotate_left
        · (intro w hSw; go_simp; try with_reducible rfl)
        try simp only [Act.put, List.setIfInBounds_toArray, List.set_cons_zero, List.set_cons_succ]
        refine wpAnyH_take (i := 39) (oi := { dst := some 112, op := _, type := _, pos := _, after := _, guard := _ }) (v := ?_) rfl (by kernel_rfl) (by kernel_rfl) (by kernel_rfl) (fun _ _ _ h => h) (Or.inl ⟨by kernel_rfl, ?_⟩) Gx2 ?_
        rotate_left
        · (intro w hSw; go_simp; try with_reducible rfl)
        try simp only [Act.put, List.setIfInBounds_toArray, List.set_cons_zero, List.set_cons_succ]
        refine wpAnyH_take (i := 40) (oi := { dst := some 113, op := _, type := _, pos := _, after := _, guard := _ }) (v := .int .i64 q.l) rfl (by kernel_rfl) (by kernel_rfl) (by kernel_rfl) (fun _ _ _ h => h) (Or.inl ⟨by kernel_rfl, ?_⟩) Gx2 ?_
        · (intro w hSw; have c9 := ((K7.out.below hSw.out).node HQ.out).left; go_simp; try with_reducible rfl)
        try simp only [Act.put, List.setIfInBounds_toArray, List.set_cons_zero, List.set_cons_succ]
        refine wpAnyH_take (i := 41) (oi := { dst := some 114, op := _, type := _, pos := _, after := _, guard := _ }) (v := ?_) rfl (by kernel_rfl) (by kernel_rfl) (by kernel_rfl) (fun _ _ _ h => h) (Or.inl ⟨by kernel_rfl, ?_⟩) Gx2 ?_
        rotate_left
        · (intro w hSw; go_simp; try with_reducible rfl)
        try simp only [Act.put, List.setIfInBounds_toArray, List.set_cons_zero, List.set_cons_succ]
        refine wpAnyH_take (i := 42) (oi := { dst := some 115, op := _, type := _, pos := _, after := _, guard := _ }) (v := .bool false) rfl (by kernel_rfl) (by kernel_rfl) (by kernel_rfl) (fun _ _ _ h => h) (Or.inl ⟨by kernel_rfl, ?_⟩) Gx2 ?_
        · (intro w hSw; have e7 := HLK.out; have e9 : ¬ (k : Int) ≤ q.l := (by omega); have e8 := decide_eq_false e9; clear e7; go_simp; try with_reducible rfl)
        try simp only [Act.put, List.setIfInBounds_toArray, List.set_cons_zero, List.set_cons_succ]
        refine wpAnyH_take (i := 43) (oi := { dst := some 116, op := _, type := _, pos := _, after := _, guard := _ }) (v := ?_) rfl (by kernel_rfl) (by kernel_rfl) (by kernel_rfl) (fun _ _ _ h => h) (Or.inl ⟨by kernel_rfl, ?_⟩) Gx2 ?_
        rotate_left
        · (intro w hSw; go_simp; try with_reducible rfl)
        try simp only [Act.put, List.setIfInBounds_toArray, List.set_cons_zero, List.set_cons_succ]
        refine wpAnyH_take (i := 44) (oi := { dst := some 117, op := _, type := _, pos := _, after := _, guard := _ }) (v := ?_) rfl (by kernel_rfl) (by kernel_rfl) (by kernel_rfl) (fun _ _ _ h => h) (Or.inl ⟨by kernel_rfl, ?_⟩) Gx2 ?_
        rotate_left
        · (intro w hSw; go_simp; try with_reducible rfl)
        try simp only [Act.put, List.setIfInBounds_toArray, List.set_cons_zero, List.set_cons_succ]
        refine wpAnyH_take (i := 45) (oi := { dst := some 118, op := _, type := _, pos := _, after := _, guard := _ }) (v := .int .i64 q.r) rfl (by kernel_rfl) (by kernel_rfl) (by kernel_rfl) (fun _ _ _ h => h) (Or.inl ⟨by kernel_rfl, ?_⟩) Gx2 ?_
        · (intro w hSw; have c9 := ((K7.out.below hSw.out).node HQ.out).right; go_simp; try with_reducible rfl)
        try simp only [Act.put, List.setIfInBounds_toArray, List.set_cons_zero, List.set_cons_succ]
        refine wpAnyH_take (i := 46) (oi := { dst := some 119, op := _, type := _, pos := _, after := _, guard := _ }) (v := ?_) rfl (by kernel_rfl) (by kernel_rfl) (by kernel_rfl) (fun _ _ _ h => h) (Or.inl ⟨by kernel_rfl, ?_⟩) Gx2 ?_
        rotate_left
        · (intro w hSw; go_simp; try with_reducible rfl)
        try simp only [Act.put, List.setIfInBounds_toArray, List.set_cons_zero, List.set_cons_succ]
        refine wpAnyH_take (i := 47) (oi := { dst := some 120, op := _, type := _, pos := _, after := _, guard := _ }) (v := .bool false) rfl (by kernel_rfl) (by kernel_rfl) (by kernel_rfl) (fun _ _ _ h => h) (Or.inl ⟨by kernel_rfl, ?_⟩) Gx2 ?_
        · (intro w hSw; have e7 := HRK.out; have e9 : ¬ (k : Int) ≤ q.r := (by omega); have e8 := decide_eq_false e9; clear e7; go_simp; try with_reducible rfl)
        try simp only [Act.put, List.setIfInBounds_toArray, List.set_cons_zero, List.set_cons_succ]
        refine wpAnyH_take (i := 48) (oi := { dst := some 121, op := _, type := _, pos := _, after := _, guard := _ }) (v := ?_) rfl (by kernel_rfl) (by kernel_rfl) (by kernel_rfl) (fun _ _ _ h => h) (Or.inl ⟨by kernel_rfl, ?_⟩) Gx2 ?_
        rotate_left
        · (intro w hSw; go_simp; try with_reducible rfl)
        try simp only [Act.put, List.setIfInBounds_toArray, List.set_cons_zero, List.set_cons_succ]
        refine wpAnyH_take (i := 49) (oi := { dst := some 122, op := _, type := _, pos := _, after := _, guard := _ }) (v := ?_) rfl (by kernel_rfl) (by kernel_rfl) (by kernel_rfl) (fun _ _ _ h => h) (Or.inl ⟨by kernel_rfl, ?_⟩) Gx2 ?_
        rotate_left
        · (intro w hSw; go_simp; try with_reducible rfl)
        try simp only [Act.put, List.setIfInBounds_toArray, List.set_cons_zero, List.set_cons_succ]
        refine wpAnyH_take (i := 50) (oi := { dst := some 123, op := _, type := _, pos := _, after := _, guard := _ }) (v := ?_) rfl (by kernel_rfl) (by kernel_rfl) (by kernel_rfl) (fun _ _ _ h => h) (Or.inl ⟨by kernel_rfl, ?_⟩) Gx2 ?_
        rotate_left
        · (intro w hSw; go_simp; try with_reducible rfl)
        try simp only [Act.put, List.setIfInBounds_toArray, List.set_cons_zero, List.set_cons_succ]
        refine wpAnyH_done (by kernel_rfl) ?_ _
        try simp only [Act.put, List.setIfInBounds_toArray, List.set_cons_zero, List.set_cons_succ]
        have FF : Hid (NoI w f N0 (k + 1) g' b' (N ++ [q]) A' c' tv' x2) := ⟨FI2.out.fo.below (B15.out.trans (Gx2.out.mono B15.out.size)), FI2.out.eq, FI2.out.bl.trans ((B15.out.trans (Gx2.out.mono B15.out.size)).mono FI2.out.bl.size), FI2.out.own⟩
        clear FI2 CX CU Gx2 B15
        go_wp2
        go_roundw
        case rel => exact ⟨k + 1, g', b', N ++ [q], A', c', tv', by omega, by go_num, FF⟩
        case measure => simp [intOf]; omega
    · obtain rfl : k = n := by omega
      have hnl : ¬ ((k : Int) < (k : Int)) := by omega
      have w2m : wrap64 (2 * (k : Int)) = 2 * (k : Int) := IntWalk.wrap64_in (2 * (k : Int)) (by omega)
      have FO := hid FI.out.fo; have BL := hid FI.out.bl
      clear FI
      have CN1 := hid (fun w' (hb : Below wr.heap.size wr w') => xNode_no (FO.out.below hb) (2 * (k : Int)) (by unfold isNd; rw [decide_eq_false_iff_not, HLN.out]; omega))
      have CN2 := hid (fun w' (hb : Below wr.heap.size wr w') => xNode_no (FO.out.below hb) (-1) (by unfold isNd; rw [decide_eq_false_iff_not]; omega))
      have CS := hid (fun w' (hb : Below wr.heap.size wr w') => xSize_at (FO.out.below hb))
      unfold ndV at CN1 CN2
      have e2 : (N.length : Int) = 2 * (k : Int) := by have := HLN.out; omega
      rw [e2] at CS
      clear e2
      have HI := hid (node_info2 ndZ_ok)
      have hz0 : Hid (Z.size = (nc ndZ).toArray.size) := by show _ = _; rw [HZ.out]
      go_upto_region 16 with (first
        | (go_at_call 22; refine (CN1.out _ (Below.refl _ _)).mono ?_; rintro e w3 ⟨rfl, hb⟩; have B3 := hid hb; clear hb)
        | (refine wpList_store_row rfl 57 (.tmp 17) (.tmp 129) rfl w3.heap.size (nc ndZ).toArray rfl rfl 57 Z (Blk.new w3 57 Z) HI.out hz0.out (nc_one2 _) ?_))
      have B4 : Hid (Below wr.heap.size wr ((w3.alloc (.cells Z 57)).setRow w3.heap.size (nc ndZ).toArray)) := below_setRow (B3.out.alloc B3.out.size _) B3.out.size _
      generalize (w3.alloc (.cells Z 57)).setRow w3.heap.size (nc ndZ).toArray = w4 at B4 ⊢
      go_upto_region 17 with (first
        | (go_at_call 22; refine (CN2.out _ B4.out).mono ?_; rintro e w5 ⟨rfl, hb⟩; have B5 := hid (B4.out.trans (hb.mono B4.out.size)); clear hb)
        | (refine wpList_store_row rfl 57 (.tmp 19) (.tmp 134) rfl w5.heap.size (nc ndZ).toArray rfl rfl 57 Z (Blk.new w5 57 Z) HI.out hz0.out (nc_one2 _) ?_))
      have B6 : Hid (Below wr.heap.size wr ((w5.alloc (.cells Z 57)).setRow w5.heap.size (nc ndZ).toArray)) := below_setRow (B5.out.alloc B5.out.size _) B5.out.size _
      generalize (w5.alloc (.cells Z 57)).setRow w5.heap.size (nc ndZ).toArray = w6 at B6 ⊢
      go_wp2_with (go_at_call 21; refine (CS.out _ B6.out).mono ?_; rintro e w7 ⟨rfl, rfl⟩)
      first | go_ret | go_ret2
      exact ⟨rfl, BL.out.trans (B6.out.mono BL.out.size)⟩
set_option maxHeartbeats 4000000 in
theorem nodes_walk {w : World} {A0 : Option Addr} {m c0 : Nat} {P : List KV} (h : InP w A0 m P) (ht : Tab w) : Calls Tryd.prog 5 #[.slice A0 m c0] w fun e w' => e = .returned (.bool true) ∧ Below w.heap.size w w' := by
  by_cases hm : 25 < m
  · have CA := hid (fun w1 (hb : Below w.heap.size w w1) => xawake_any w1 (ht.below hb))
    have hml : m ≤ 9223372036854775807 := h.2.1
    have hm1 : (25 : Int) < (m : Int) := by omega
    clear h ht
    go_enter Tryd.func5, Tryd.ntmps5
    go_wp2_with (first
      | (go_at_call 10; refine (CA.out _ (Below.refl _ _)).mono ?_; rintro e w1 ⟨rfl, hb⟩; have B1 := hid hb; clear hb)
      | (go_at_call 10; refine (CA.out _ B1.out).mono ?_; rintro e w2 ⟨rfl, hb⟩; have B2 := hid (B1.out.trans (hb.mono B1.out.size)); clear hb))
    go_ret
    exact ⟨rfl, B2.out⟩
  · exact nodes_main h hm ht
end Go.Proofs.YtbhgchbacadgaaaDoor
