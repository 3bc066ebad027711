/-
  What is proved here: a node of a forest may be added again, its text is its hash's, and a node is as itself.
-/
import Derived.Test.YtjhaamffgkialaaGreatDoorMX26
import Derived.Test.YtjhaamffgkialaaGreatDoorMX20
import Derived.Test.YtjhaamffgkialaaGreatDoorMA2
set_option linter.unusedSimpArgs false
set_option linter.unusedVariables false
namespace Go.Proofs.YtjhaamffgkialaaGreatDoor
open Go.ChangeShapes Go.WideShapes Go.ChangeAt Go.RowKit
set_option linter.unusedVariables false
set_option linter.unusedSimpArgs false
set_option maxRecDepth 20000

theorem frm_pre {t : Tr} (h : t.ok) : t.pre.1 ≤ 256 ∧ frm (t.pre.1 : Int) t.pre.2 = true := by
  cases t with
  | leaf k v =>
    refine ⟨Nat.le_refl _, ?_⟩
    unfold frm; rw [decide_eq_true_eq, Int.toNat_natCast]
    exact ⟨by show (0 : Int) ≤ 256; omega, by show (256 : Int) ≤ 256; omega, cut_all h.1 256 (Nat.le_refl _)⟩
  | inner n b l r =>
    obtain ⟨x, hx⟩ := l.one
    have h1 := (h.2.2.2.1 x hx).1
    have hn : n < 256 := h.2.2.1
    refine ⟨Nat.le_of_lt hn, ?_⟩
    unfold frm; rw [decide_eq_true_eq, Int.toNat_natCast]
    exact ⟨by show (0 : Int) ≤ (n : Int); omega, by show (n : Int) ≤ 256; omega, by show cut b n = b; rw [← h1, cut_cut, Nat.min_self]⟩
theorem rep_pref {N : List Nd} {i : Nat} {t : Tr} (h : Rep hLf hIn N i t) : ((N[i]?.getD ndZ).pn = (t.pre.1 : Int) ∧ (N[i]?.getD ndZ).pb = t.pre.2) := by
  cases t with
  | leaf k v =>
    have h' : N[i]? = some (ndL k v (hLf k v)) := h
    rw [h']; exact ⟨rfl, rfl⟩
  | inner n b l r =>
    obtain ⟨a, c, h', _⟩ := h
    rw [h']; exact ⟨rfl, rfl⟩
theorem wth_pre {t : Tr} (h : t.ok) {m : Nat} {c : List Int} (hm : m ≤ 256) (hk : ∀ q ∈ t.list, cut q.1 m = c) : wth (m : Int) c (t.pre.1 : Int) t.pre.2 = true := by
  obtain ⟨h4, h5⟩ := (held_iff h hm).1 hk
  obtain ⟨h6, h7⟩ := frm_pre h
  unfold wth hld
  rw [h7, decide_eq_true (show (m : Int) ≤ (t.pre.1 : Int) by omega), decide_eq_true (show 0 ≤ (m : Int) ∧ (m : Int) ≤ 256 ∧ cut t.pre.2 (m : Int).toNat = c by rw [Int.toNat_natCast]; exact ⟨by omega, by omega, h5⟩)]
  rfl
theorem rep_may {N : List Nd} {a d n : Nat} {b : List Int} {l r : Tr} (hl : Rep hLf hIn N a l) (hr : Rep hLf hIn N d r) (h : (Tr.inner n b l r).ok) : mayB N (n : Int) b (a : Int) (d : Int) = true := by
  obtain ⟨x, hx⟩ := l.one
  have h1 := (h.2.2.2.1 x hx).1
  have hb : Ky b := by rw [← h1]; exact cut_ky _ _
  have hcb : cut b n = b := by rw [← h1, cut_cut, Nat.min_self]
  have hn : n < 256 := h.2.2.1
  have i1 : isNd N.length (a : Int) = true := by unfold isNd; rw [decide_eq_true_eq]; have := hl.lt; omega
  have i2 : isNd N.length (d : Int) = true := by unfold isNd; rw [decide_eq_true_eq]; have := hr.lt; omega
  rw [may_yes i1 i2 (show frm (n : Int) b = true from (frm_pre h).2) (by omega)]
  rw [Int.toNat_natCast, Int.toNat_natCast, Int.toNat_natCast, (rep_pref hl).1, (rep_pref hl).2, (rep_pref hr).1, (rep_pref hr).2]
  have w1 := wth_pre h.1 (m := n + 1) (c := b) (by omega) (fun q hq => by
    have := (cut_succ hn hcb hb 0 (.inl rfl)).1 (h.2.2.2.1 q hq)
    rwa [if_neg (by decide)] at this)
  have w2 := wth_pre h.2.1 (m := n + 1) (c := setb b n) (by omega) (fun q hq => by
    have := (cut_succ hn hcb hb 1 (.inr rfl)).1 (h.2.2.2.2 q hq)
    rwa [if_pos rfl] at this)
  have e : (((n + 1 : Nat)) : Int) = (n : Int) + 1 := by omega
  rw [e] at w1 w2
  rw [w1, w2]
  rfl
section
variable {w : World} {f g b : Nat} {N : List Nd} {A : Option Addr} {c : Nat} {tv : Value}
theorem node_add (h : Fo w f g b N A c tv) {N0 M : List Nd} (hf : FrOk hLf hIn N0) (hN : N = N0 ++ M) {k : Nat} {q : Nd} (hq : N0[k]? = some q) (hlen : Few N.length) (ht : Tab w) :
    Calls Tryz.prog 32 #[.pointer (some ⟨f, 0, none⟩), .agg (nc q).toArray] w fun e w' => e = .returned (.tuple #[.int .i64 N.length, .int .i64 0]) ∧ Grew w f g b (N ++ [q]) w' := by
  have hk : k < N0.length := by
    rcases Nat.lt_or_ge k N0.length with h9 | h9
    · exact h9
    · rw [List.getElem?_eq_none h9] at hq; cases hq
  obtain ⟨t, hok, hr⟩ := hf k hk
  have hqN : N[k]? = some q := by rw [hN, List.getElem?_append_left hk]; exact hq
  have hqo : NdOk q := h.ok q (List.mem_of_getElem? hqN)
  cases t with
  | leaf K V =>
    have h' : N0[k]? = some (ndL K V (hLf K V)) := hr
    obtain rfl : ndL K V (hLf K V) = q := Option.some.inj (h'.symm.trans hq)
    exact xAdd_leaf h _ hqo rfl hlen ht
  | inner n bb l r =>
    obtain ⟨a, d, h', ha, hd, hl, hr'⟩ := hr
    have hl' := hl.more hLf hIn M
    have hr2 := hr'.more hLf hIn M
    rw [← hN] at hl' hr2
    obtain rfl : _ = q := Option.some.inj (h'.symm.trans hq)
    have hh : (Tr.inner n bb l r).hash hLf hIn = hIn n bb (hashN N (a : Int)) (hashN N (d : Int)) := by rw [rep_hash hl', rep_hash hr2]; rfl
    have := xAdd_yes h _ hqo rfl (rep_may hl' hr2 hok) hlen ht
    rw [show ndI (ndI n bb a d ((Tr.inner n bb l r).hash hLf hIn)).n.toNat (ndI n bb a d ((Tr.inner n bb l r).hash hLf hIn)).b (ndI n bb a d ((Tr.inner n bb l r).hash hLf hIn)).l.toNat (ndI n bb a d ((Tr.inner n bb l r).hash hLf hIn)).r.toNat (hIn (ndI n bb a d ((Tr.inner n bb l r).hash hLf hIn)).n.toNat (ndI n bb a d ((Tr.inner n bb l r).hash hLf hIn)).b (hashN N (ndI n bb a d ((Tr.inner n bb l r).hash hLf hIn)).l) (hashN N (ndI n bb a d ((Tr.inner n bb l r).hash hLf hIn)).r)) = ndI n bb a d (hIn n bb (hashN N (a : Int)) (hashN N (d : Int))) from rfl, ← hh] at this
    exact this
theorem node_text {N0 M : List Nd} (hf : FrOk hLf hIn N0) (hN : N = N0 ++ M) (hall : ∀ q ∈ N, NdOk q) {k : Nat} {q : Nd} (hq : N0[k]? = some q) {qa qb : Nd} (hka : Ky qa.h) (hkb : Ky qb.h)
    (ha : isNd N.length q.l = true → qa = N[q.l.toNat]?.getD ndZ) (hb : isNd N.length q.r = true → qb = N[q.r.toNat]?.getD ndZ) :
    ∃ X, (∀ w, Calls Tryz.prog 73 #[.agg (nc q).toArray, .agg (kc qa.h), .agg (kc qb.h)] w (TxA w X)) ∧ sum X = q.h ∧ Bs X ∧ X.length < 1000000000 ∧ (q.leaf = false → q.l < k ∧ q.r < k) := by
  have hk : k < N0.length := by
    rcases Nat.lt_or_ge k N0.length with h9 | h9
    · exact h9
    · rw [List.getElem?_eq_none h9] at hq; cases hq
  obtain ⟨t, hok, hr⟩ := hf k hk
  have hqN : N[k]? = some q := by rw [hN, List.getElem?_append_left hk]; exact hq
  have hqo : NdOk q := hall q (List.mem_of_getElem? hqN)
  cases t with
  | leaf K V =>
    have h' : N0[k]? = some (ndL K V (hLf K V)) := hr
    obtain rfl : ndL K V (hLf K V) = q := Option.some.inj (h'.symm.trans hq)
    exact ⟨leafT K V, fun w => xText_leaf _ _ _ w hqo rfl hka hkb, rfl, leaf_tbs hqo.k hqo.v, Nat.lt_of_le_of_lt (textL_all 108 [K, V] 2 rfl (by decide) (len_2k hqo.k hqo.v)) (by decide), fun h => by cases h⟩
  | inner n bb l r =>
    obtain ⟨a, d, h', hak, hdk, hl, hr'⟩ := hr
    have hl' := hl.more hLf hIn M
    have hr2 := hr'.more hLf hIn M
    rw [← hN] at hl' hr2
    obtain rfl : _ = q := Option.some.inj (h'.symm.trans hq)
    have i1 : isNd N.length (a : Int) = true := by unfold isNd; rw [decide_eq_true_eq]; have := hl'.lt; omega
    have i2 : isNd N.length (d : Int) = true := by unfold isNd; rw [decide_eq_true_eq]; have := hr2.lt; omega
    have ea : qa.h = l.hash hLf hIn := by rw [ha i1]; exact rep_hash hl'
    have eb : qb.h = r.hash hLf hIn := by rw [hb i2]; exact rep_hash hr2
    have hn : n < 256 := hok.2.2.1
    refine ⟨innerT n bb qa.h qb.h, fun w => xText_inner _ _ _ w hqo rfl ⟨by show (0 : Int) ≤ n; omega, by show (n : Int) ≤ 65535; omega⟩ hka hkb, ?_, inner_tbs hqo.b hka hkb, Nat.lt_of_le_of_lt (textL_all 110 [be n 2, bb, qa.h, qb.h] 4 rfl (by decide) (len_4k (be_length n 2) hqo.b hka hkb)) (by decide), fun _ => ⟨by show (a : Int) < k; omega, by show (d : Int) < k; omega⟩⟩
    rw [ea, eb]
    rfl
end
theorem neq_key (a b : List Int) (ha : Ky a) (hb : Ky b) (w : World) : (binOp .neq 25 (.agg (kc a)) (.agg (kc b))).run Tryz.prog w = .ok (.bool (!decide (a = b))) w := by
  rw [run_neq_struct, equal_key 9998 a b ha hb w]
  rfl
section
variable {q : Nd}
theorem nd_ex1 (h : NdOk q) : (List.take 32 (List.drop 1 (nc q))).toArray = kc q.k := by
  show (List.take 32 (u8s q.k ++ _)).toArray = (u8s q.k).toArray
  rw [List.take_left' (by rw [u8s_length, h.k.len])]
theorem nd_ex33 (h : NdOk q) : (List.take 32 (List.drop 33 (nc q))).toArray = kc q.v := by
  show (List.take 32 (List.drop 32 (u8s q.k ++ (u8s q.v ++ _)))).toArray = (u8s q.v).toArray
  rw [List.drop_left' (by rw [u8s_length, h.k.len]), List.take_left' (by rw [u8s_length, h.v.len])]
theorem nd_ex65 (h : NdOk q) : (List.take 33 (List.drop 65 (nc q))).toArray = pc q.n q.b := by
  show (List.take 33 (List.drop 64 (u8s q.k ++ (u8s q.v ++ ((.int .i64 q.n :: u8s q.b) ++ _))))).toArray = (Value.int .i64 q.n :: u8s q.b).toArray
  rw [← List.append_assoc (u8s q.k), List.drop_left' (by rw [List.length_append, u8s_length, u8s_length, h.k.len, h.v.len]), List.take_left' (by rw [List.length_cons, u8s_length, h.b.len])]
theorem nd_tail (h : NdOk q) : List.drop 98 (nc q) = [.int .i64 q.l, .int .i64 q.r] ++ u8s q.h := by
  show List.drop 97 (u8s q.k ++ (u8s q.v ++ ((.int .i64 q.n :: u8s q.b) ++ ([.int .i64 q.l, .int .i64 q.r] ++ u8s q.h)))) = _
  rw [← List.append_assoc (u8s q.k), ← List.append_assoc (u8s q.k ++ u8s q.v), List.drop_left' (by rw [List.length_append, List.length_append, List.length_cons, u8s_length, u8s_length, u8s_length, h.k.len, h.v.len, h.b.len])]
theorem nd_98 (h : NdOk q) : (nc q)[98]? = some (.int .i64 q.l) := by
  have := congrArg (fun l : List Value => l[0]?) (nd_tail h)
  simpa [List.getElem?_drop] using this
theorem nd_99 (h : NdOk q) : (nc q)[99]? = some (.int .i64 q.r) := by
  have := congrArg (fun l : List Value => l[1]?) (nd_tail h)
  simpa [List.getElem?_drop] using this
theorem nd_ex100 (h : NdOk q) : (List.take 32 (List.drop 100 (nc q))).toArray = kc q.h := by
  have e : List.drop 100 (nc q) = u8s q.h := by
    rw [show 100 = 98 + 2 from rfl, ← List.drop_drop, nd_tail h]; rfl
  show _ = (u8s q.h).toArray
  rw [e, List.take_of_length_le (by rw [u8s_length, h.h.len]; decide)]
theorem part_n0 (w : World) : (Go.part 4 (nc q).toArray 0).run Tryz.prog w = .ok (.bool q.leaf) w := by
  have h : (isAgg 4).run Tryz.prog w = .ok false w := by kernel_rfl
  have e : (nc q)[0]? = some (.bool q.leaf) := rfl
  unfold Go.part
  simp [Sem.run_bind, h, Result.andThen_ok, e]
theorem part_n98 (hq : NdOk q) (w : World) : (Go.part 3 (nc q).toArray 98).run Tryz.prog w = .ok (.int .i64 q.l) w := by
  have h : (isAgg 3).run Tryz.prog w = .ok false w := by kernel_rfl
  unfold Go.part
  simp [Sem.run_bind, h, Result.andThen_ok, nd_98 hq]
theorem part_n99 (hq : NdOk q) (w : World) : (Go.part 3 (nc q).toArray 99).run Tryz.prog w = .ok (.int .i64 q.r) w := by
  have h : (isAgg 3).run Tryz.prog w = .ok false w := by kernel_rfl
  unfold Go.part
  simp [Sem.run_bind, h, Result.andThen_ok, nd_99 hq]
theorem part_n1 (hq : NdOk q) (w : World) : (Go.part 25 (nc q).toArray 1).run Tryz.prog w = .ok (.agg (kc q.k)) w := by
  have h : (isAgg 25).run Tryz.prog w = .ok true w := by kernel_rfl
  have e := nd_ex1 hq
  unfold Go.part
  simp [Sem.run_bind, h, Result.andThen_ok, e, -List.drop_one]
theorem part_n33 (hq : NdOk q) (w : World) : (Go.part 25 (nc q).toArray 33).run Tryz.prog w = .ok (.agg (kc q.v)) w := by
  have h : (isAgg 25).run Tryz.prog w = .ok true w := by kernel_rfl
  unfold Go.part
  simp [Sem.run_bind, h, Result.andThen_ok, nd_ex33 hq]
theorem part_n65 (hq : NdOk q) (w : World) : (Go.part 47 (nc q).toArray 65).run Tryz.prog w = .ok (.agg (pc q.n q.b)) w := by
  have h : (isAgg 47).run Tryz.prog w = .ok true w := by kernel_rfl
  unfold Go.part
  simp [Sem.run_bind, h, Result.andThen_ok, nd_ex65 hq]
theorem part_n100 (hq : NdOk q) (w : World) : (Go.part 25 (nc q).toArray 100).run Tryz.prog w = .ok (.agg (kc q.h)) w := by
  have h : (isAgg 25).run Tryz.prog w = .ok true w := by kernel_rfl
  unfold Go.part
  simp [Sem.run_bind, h, Result.andThen_ok, nd_ex100 hq]
theorem equal_pre_same (l : Int) (B : List Int) (hB : Ky B) (w : World) : (Op.equalIn (9998 + 1) 47 (.agg (pc l B)) (.agg (pc l B))).run Tryz.prog w = .ok true w := by
  have hf : ∃ f0 f1 : Field, (Tryz.prog.fieldsOf 47).toList = [f0, f1] ∧ f0.name ≠ "_" ∧ f1.name ≠ "_" ∧ f0.type = 3 ∧ f1.type = 25 ∧ f0.offset = 0 ∧ f1.offset = 1 := by
    refine ⟨_, _, by (have := Tryz.underlying47; unfold Program.fieldsOf; rw [this]), by decide, by decide, rfl, rfl, rfl, rfl⟩
  obtain ⟨f0, f1, e1, n0, n1, t0, t1, o0, o1⟩ := hf
  rw [run_equalIn_struct w 9998 47 _ _ (by kernel_rfl) (by kernel_rfl), e1]
  simp only [Op.eqFields, t0, t1, o0, o1]
  rw [if_pos n0, if_pos n1]
  simp only [Sem.run_bind, part_len, part_bits l B hB, Result.andThen_ok, run_equalIn_int w 9997 3 .i64 .i64 l l Tryz.underlying3, equal_key 9996 B B hB hB, Sem.run_ite, Sem.run_pure]
  simp
theorem equal_node (hq : NdOk q) (w : World) : (Op.equalIn (9999 + 1) 63 (.agg (nc q).toArray) (.agg (nc q).toArray)).run Tryz.prog w = .ok true w := by
  have hf : ∃ f0 f1 f2 f3 f4 f5 f6 : Field, (Tryz.prog.fieldsOf 63).toList = [f0, f1, f2, f3, f4, f5, f6] ∧ (f0.name ≠ "_" ∧ f1.name ≠ "_" ∧ f2.name ≠ "_" ∧ f3.name ≠ "_" ∧ f4.name ≠ "_" ∧ f5.name ≠ "_" ∧ f6.name ≠ "_") ∧ (f0.type = 4 ∧ f1.type = 25 ∧ f2.type = 25 ∧ f3.type = 47 ∧ f4.type = 3 ∧ f5.type = 3 ∧ f6.type = 25) ∧ f0.offset = 0 ∧ f1.offset = 1 ∧ f2.offset = 33 ∧ f3.offset = 65 ∧ f4.offset = 98 ∧ f5.offset = 99 ∧ f6.offset = 100 := by
    refine ⟨_, _, _, _, _, _, _, by (have := Tryz.underlying63; unfold Program.fieldsOf; rw [this]), ⟨by decide, by decide, by decide, by decide, by decide, by decide, by decide⟩, ⟨rfl, rfl, rfl, rfl, rfl, rfl, rfl⟩, rfl, rfl, rfl, rfl, rfl, rfl, rfl⟩
  obtain ⟨f0, f1, f2, f3, f4, f5, f6, e1, ⟨n0, n1, n2, n3, n4, n5, n6⟩, ⟨t0, t1, t2, t3, t4, t5, t6⟩, o0, o1, o2, o3, o4, o5, o6⟩ := hf
  rw [run_equalIn_struct w 9999 63 _ _ (by kernel_rfl) (by kernel_rfl), e1]
  simp only [Op.eqFields, t0, t1, t2, t3, t4, t5, t6, o0, o1, o2, o3, o4, o5, o6]
  rw [if_pos n0, if_pos n1, if_pos n2, if_pos n3, if_pos n4, if_pos n5, if_pos n6]
  have hb0 := run_equalIn_bool w 9998 4 q.leaf q.leaf Tryz.underlying4
  have hi4 := run_equalIn_int w 9998 3 .i64 .i64 q.l q.l Tryz.underlying3
  have hi5 := run_equalIn_int w 9998 3 .i64 .i64 q.r q.r Tryz.underlying3
  simp only [Sem.run_bind, part_n0, part_n1 hq, part_n33 hq, part_n65 hq, part_n98 hq, part_n99 hq, part_n100 hq, Result.andThen_ok, hb0, hi4, hi5, equal_pre_same q.n q.b hq.b, equal_key 9997 q.k q.k hq.k hq.k, equal_key 9997 q.v q.v hq.v hq.v, equal_key 9997 q.h q.h hq.h hq.h, Sem.run_ite, Sem.run_pure]
  simp
theorem neq_node (hq : NdOk q) (w : World) : (binOp .neq 63 (.agg (nc q).toArray) (.agg (nc q).toArray)).run Tryz.prog w = .ok (.bool false) w := by
  rw [run_neq_struct, equal_node hq w]
  rfl
end
end Go.Proofs.YtjhaamffgkialaaGreatDoor
