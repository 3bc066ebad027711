/-
  What is proved here: two devices of the code beside one another; what a call of the one leaves as it was. Nothing of the program is walked here.
-/
import Derived.Test.YthfkooancgkjaaaMDvL
set_option linter.unusedSimpArgs false
set_option linter.unusedVariables false
namespace Go.Proofs.Ythfkooancgkjaaa
open Go.ChangeShapes Go.WideShapes Go.ChangeAt Go.RowKit
set_option linter.unusedVariables false
set_option maxRecDepth 20000

/-- a type of none of a device's blocks -/
def NT (t : TypeId) : Prop := t ≠ 54 ∧ t ≠ 68 ∧ t ≠ 70
instance (t : TypeId) : Decidable (NT t) := by unfold NT; infer_instance
/-- a block of a device -/
def Ty (w : World) (k : Nat) : Prop := ∃ t cs, Blk w k t cs ∧ (t = 54 ∨ t = 68 ∨ t = 70)
theorem Ty.no {w : World} {k : Nat} {t : TypeId} {cs : Array Value} (h : Ty w k) (hb : Blk w k t cs) (ht : NT t) : False := by
  obtain ⟨t', cs', h1, h2⟩ := h
  obtain ⟨rfl, _⟩ := h1.inj hb
  rcases h2 with h2 | h2 | h2
  · exact ht.1 h2
  · exact ht.2.1 h2
  · exact ht.2.2 h2
/-- no block but a device's has turned -/
structure Kt (w w' : World) : Prop where
  sz : w.heap.size ≤ w'.heap.size
  bl : ∀ k t cs, Blk w k t cs → NT t → w'.heap[k]? = w.heap[k]?
theorem Kt.trans {a b c : World} (h : Kt a b) (k : Kt b c) : Kt a c := ⟨Nat.le_trans h.sz k.sz, fun j t cs hb ht => (k.bl j t cs (hb.same (h.bl j t cs hb ht)) ht).trans (h.bl j t cs hb ht)⟩
theorem Kt.below {w w' : World} (h : Below w.heap.size w w') : Kt w w' := ⟨h.size, fun k t cs hb _ => h.block k hb.lt⟩
theorem Kt.blk {w w' : World} (h : Kt w w') {k : Nat} {t : TypeId} {cs : Array Value} (hb : Blk w k t cs) (ht : NT t) : Blk w' k t cs := hb.same (h.bl k t cs hb ht)
theorem Kt.own {w w' : World} (h : Kt w w') {base e size n : Nat} {v : Value} {xs : List Value} (ho : w.ownsRow base e size v n xs) (ht : NT e) : w'.ownsRow base e size v n xs := by
  refine ⟨ho.1, ?_⟩
  rcases ho.2 with h1 | ⟨g, cap, cur, hv, hg, hh, r⟩
  · exact .inl h1
  · exact .inr ⟨g, cap, cur, hv, hg, h.blk (show Blk w g e cur from hh) ht, r⟩
theorem Kt.of_only {w w' : World} {R : Nat → Prop} (h : OnlyS R w w') (hR : ∀ k, R k → Ty w k) : Kt w w' := ⟨h.size, fun k t cs hb ht => h.block k hb.lt (fun hk => (hR k hk).no hb ht)⟩
section
variable {w w' : World} {R : Nat → Prop} {b : Nat} {L : List (List Int)} {Q : List Wr} {F : Int} {D : Bool}
/-- a device's own blocks alone -/
theorem DAt.own (h : DAt w R b L Q F D) : ∃ R', DAt w R' b L Q F D ∧ ∀ k, R' k → R k ∧ Ty w k := by
  obtain ⟨g, vW, fz, fu, h1, h2, h3, r1, r2, r3, rest⟩ := h
  refine ⟨fun k => k = b ∨ k = g ∨ vW.ownBlock = some k, ⟨g, vW, fz, fu, h1, h2, h3, .inl rfl, .inr (.inl rfl), fun k hk => .inr (.inr hk), rest⟩, ?_⟩
  rintro k (rfl | rfl | hk)
  · exact ⟨r1, _, _, h1, .inl rfl⟩
  · exact ⟨r2, _, _, h2, .inr (.inl rfl)⟩
  · refine ⟨r3 k hk, ?_⟩
    rcases h3.2 with ⟨rfl, _⟩ | ⟨g', cap, cur, rfl, _, hh, _⟩
    · cases hk
    · injection hk with hk
      have hk' : g' = k := hk
      subst hk'
      exact ⟨_, cur, hh, .inr (.inr rfl)⟩
/-- nothing but blocks of other types has turned -/
theorem DAt.typed (h : DAt w R b L Q F D) (hk : ∀ k t cs, Blk w k t cs → ¬ NT t → w'.heap[k]? = w.heap[k]?) : DAt w' R b L Q F D := by
  obtain ⟨g, vW, fz, fu, h1, h2, h3, rest⟩ := h
  refine ⟨g, vW, fz, fu, h1.same (hk b _ _ h1 (fun n => n.1 rfl)), h2.same (hk g _ _ h2 (fun n => n.2.1 rfl)), ?_, rest⟩
  refine ⟨h3.1, ?_⟩
  rcases h3.2 with h4 | ⟨g', cap, cur, hv, hb, hh, r⟩
  · exact .inl h4
  · exact .inr ⟨g', cap, cur, hv, hb, (show Blk w g' 70 cur from hh).same (hk g' _ _ hh (fun n => n.2.2 rfl)), r⟩
end
/-- two devices, apart from one another, both up and without a fuse -/
def D2 (n0 : Nat) (w : World) (b1 : Nat) (L1 : List (List Int)) (Q1 : List Wr) (b2 : Nat) (L2 : List (List Int)) (Q2 : List Wr) : Prop :=
  ∃ R1 R2, DAt w R1 b1 L1 Q1 (-1) false ∧ DAt w R2 b2 L2 Q2 (-1) false ∧ (∀ k, R1 k → n0 ≤ k ∧ k < w.heap.size ∧ Ty w k) ∧ (∀ k, R2 k → n0 ≤ k ∧ k < w.heap.size ∧ Ty w k) ∧ ∀ k, R1 k → ¬ R2 k
section
variable {n0 : Nat} {w w' : World} {b1 b2 : Nat} {L1 L2 : List (List Int)} {Q1 Q2 : List Wr}
theorem D2.swap (h : D2 n0 w b1 L1 Q1 b2 L2 Q2) : D2 n0 w b2 L2 Q2 b1 L1 Q1 := by
  obtain ⟨R1, R2, h1, h2, h3, h4, h5⟩ := h
  exact ⟨R2, R1, h2, h1, h4, h3, fun k hk hk' => h5 k hk' hk⟩
theorem Ty.same {k : Nat} (h : Ty w k) (hk : w'.heap[k]? = w.heap[k]?) : Ty w' k := by
  obtain ⟨t, cs, h1, h2⟩ := h
  exact ⟨t, cs, h1.same hk, h2⟩
theorem D2.typed (h : D2 n0 w b1 L1 Q1 b2 L2 Q2) (hs : w.heap.size ≤ w'.heap.size) (hk : ∀ k t cs, Blk w k t cs → ¬ NT t → w'.heap[k]? = w.heap[k]?) : D2 n0 w' b1 L1 Q1 b2 L2 Q2 := by
  obtain ⟨R1, R2, h1, h2, h3, h4, h5⟩ := h
  have ht : ∀ k, Ty w k → Ty w' k := fun k ⟨t, cs, h6, h7⟩ => ⟨t, cs, h6.same (hk k t cs h6 (fun n => by
    rcases h7 with h7 | h7 | h7
    · exact n.1 h7
    · exact n.2.1 h7
    · exact n.2.2 h7)), h7⟩
  exact ⟨R1, R2, h1.typed hk, h2.typed hk, fun k hr => ⟨(h3 k hr).1, Nat.lt_of_lt_of_le (h3 k hr).2.1 hs, ht k (h3 k hr).2.2⟩, fun k hr => ⟨(h4 k hr).1, Nat.lt_of_lt_of_le (h4 k hr).2.1 hs, ht k (h4 k hr).2.2⟩, h5⟩
theorem D2.below (h : D2 n0 w b1 L1 Q1 b2 L2 Q2) (hb : Below w.heap.size w w') : D2 n0 w' b1 L1 Q1 b2 L2 Q2 := h.typed hb.size fun k t cs hk _ => hb.block k hk.lt
/-- what a call of the first one leaves -/
theorem D2.after {R1 R2 : Nat → Prop} {L' : List (List Int)} {Q' : List Wr} (hn : n0 ≤ w.heap.size) (h2 : DAt w R2 b2 L2 Q2 (-1) false) (h3 : ∀ k, R1 k → n0 ≤ k ∧ k < w.heap.size ∧ Ty w k) (h4 : ∀ k, R2 k → n0 ≤ k ∧ k < w.heap.size ∧ Ty w k) (h5 : ∀ k, R1 k → ¬ R2 k)
    {R' : Nat → Prop} (hd : DAt w' R' b1 L' Q' (-1) false) (hR' : ∀ k, R' k → R1 k ∨ (w.heap.size ≤ k ∧ k < w'.heap.size)) (ho : OnlyS R1 w w') : D2 n0 w' b1 L' Q' b2 L2 Q2 ∧ Kt w w' ∧ Below n0 w w' := by
  obtain ⟨R3, k1, k2⟩ := hd.own
  have hb : ∀ k, R2 k → w'.heap[k]? = w.heap[k]? := fun k hk => ho.block k (h4 k hk).2.1 (fun h => h5 k h hk)
  refine ⟨⟨R3, R2, k1, h2.same (fun k _ hk => hb k hk), fun k hk => ?_, fun k hk => ⟨(h4 k hk).1, Nat.lt_of_lt_of_le (h4 k hk).2.1 ho.size, (h4 k hk).2.2.same (hb k hk)⟩, fun k hk hk2 => ?_⟩, Kt.of_only ho (fun k hk => (h3 k hk).2.2), ho.below hn (fun k hk => (h3 k hk).1)⟩
  · obtain ⟨h6, h7⟩ := k2 k hk
    rcases hR' k h6 with h8 | h8
    · exact ⟨(h3 k h8).1, Nat.lt_of_lt_of_le (h3 k h8).2.1 ho.size, h7⟩
    · exact ⟨Nat.le_trans hn h8.1, h8.2, h7⟩
  · rcases hR' k (k2 k hk).1 with h8 | h8
    · exact h5 k h8 hk2
    · have := (h4 k hk2).2.1; omega
theorem D2.write (h : D2 n0 w b1 L1 Q1 b2 L2 Q2) (hn : n0 ≤ w.heap.size) (i : Nat) (hi : i < L1.length) (gb c : Nat) (X : List Int) (hX : X.length = 128) (hg : Blk w gb 5 (u8s X).toArray) (hQ : Q1.length < 1000000) :
    Calls Try.prog 45 #[.pointer (some ⟨b1, 0, none⟩), .int .i64 i, .slice (some ⟨gb, 0, none⟩) 128 c] w fun e w' => e = .returned (.int .i64 0) ∧ D2 n0 w' b1 L1 (Q1 ++ [(i, X)]) b2 L2 Q2 ∧ Kt w w' ∧ Below n0 w w' := by
  obtain ⟨R1, R2, h1, h2, h3, h4, h5⟩ := h
  refine (dWrite_ok h1 rfl (by decide) i hi _ c X hX hg.rp (fun a ha hR => ?_) hQ).mono fun e w' ⟨he, k1, k2⟩ => ⟨he, D2.after hn h2 h3 h4 h5 k1 (fun k hk => hk) k2⟩
  injection ha with ha
  subst ha
  exact (h3 _ hR).2.2.no hg (by decide)
theorem D2.restart (h : D2 n0 w b1 L1 Q1 b2 L2 Q2) (hn : n0 ≤ w.heap.size) (A : Option Addr) (c : Nat) (l : List Int) (hl : Ip w A l) (hA : ∀ a, A = some a → ∃ cs, Blk w a.block 3 cs) (hll : l.length < 1000000000000) (hQ : Q1.length < 1000000) :
    Calls Try.prog 15 #[.pointer (some ⟨b1, 0, none⟩), .slice A l.length c] w fun e w' => e = .returned (.tuple #[]) ∧ D2 n0 w' b1 (mixs (keep l) L1 Q1 Q1.length) [] b2 L2 Q2 ∧ Kt w w' ∧ Below n0 w w' := by
  obtain ⟨R1, R2, h1, h2, h3, h4, h5⟩ := h
  refine (dRestart_at h1 A c l hl (fun _ a ha hR => ?_) hll hQ).mono fun e w' ⟨he, k1, k2⟩ => ⟨he, D2.after hn h2 h3 h4 h5 k1 (fun k hk => .inl hk) k2⟩
  obtain ⟨cs, hb⟩ := hA a ha
  exact (h3 _ hR).2.2.no hb (by decide)
theorem D2.read (h : D2 n0 w b1 L1 Q1 b2 L2 Q2) (i : Nat) (hi : i < L1.length) : Calls Try.prog 51 #[.pointer (some ⟨b1, 0, none⟩), .int .i64 i] w (ReadAns w ((pg L1 Q1)[i]?.getD [])) := by
  obtain ⟨R1, R2, h1, h2, h3, h4, h5⟩ := h
  exact dRead_ok h1 rfl i hi
theorem D2.new {R1 R2 : Nat → Prop} (h1 : DAt w R1 b1 L1 Q1 (-1) false) (h3 : ∀ k, R1 k → n0 ≤ k ∧ k < w.heap.size) (h2 : DAt w' R2 b2 L2 Q2 (-1) false) (h4 : ∀ k, R2 k → w.heap.size ≤ k ∧ k < w'.heap.size) (hb : Below w.heap.size w w') (hn : n0 ≤ w.heap.size) : D2 n0 w' b1 L1 Q1 b2 L2 Q2 := by
  obtain ⟨R3, k1, k2⟩ := (h1.below hb).own
  obtain ⟨R4, k3, k4⟩ := h2.own
  refine ⟨R3, R4, k1, k3, fun k hk => ⟨(h3 k (k2 k hk).1).1, Nat.lt_of_lt_of_le (h3 k (k2 k hk).1).2 hb.size, (k2 k hk).2⟩, fun k hk => ⟨Nat.le_trans hn (h4 k (k4 k hk).1).1, (h4 k (k4 k hk).1).2, (k4 k hk).2⟩, fun k hk hk2 => ?_⟩
  have := (h3 k (k2 k hk).1).2
  have := (h4 k (k4 k hk2).1).1
  omega
end

/-! What the statement says, as lists. -/
/-- a page of noughts, but for its last byte -/
def pgv (v : Int) : List Int := zpg.set 127 v
theorem pgv_len (v : Int) : (pgv v).length = 128 := by unfold pgv; rw [List.length_set]; rfl
/-- the writes of the first k places -/
def qs (xs : List Int) (c : Int) : Nat → List Wr
  | 0 => []
  | k + 1 => qs xs c k ++ [(((xs[k]?.getD 0) % 12).toNat, pgv ((c + (k : Nat)) % 256))]
theorem qs_len (xs : List Int) (c : Int) : ∀ k, (qs xs c k).length = k
  | 0 => rfl
  | k + 1 => by unfold qs; rw [List.length_append, qs_len xs c k]; rfl
def last (q : List Int) : Int := q[127]?.getD 0
/-- the last byte that was written, of each page -/
def lst (Q : List Wr) : List Int := Q.foldl (fun l q => l.set q.1 (last q.2)) (List.replicate 12 0)
theorem lst_snoc (Q : List Wr) (q : Wr) : lst (Q ++ [q]) = (lst Q).set q.1 (last q.2) := by unfold lst; rw [List.foldl_append]; rfl
theorem lst_len (Q : List Wr) : (lst Q).length = 12 := by
  unfold lst
  suffices ∀ (Q : List Wr) (l : List Int), (Q.foldl (fun l q => l.set q.1 (last q.2)) l).length = l.length by rw [this]; rfl
  intro Q
  induction Q with
  | nil => intro l; rfl
  | cons q Q ih => intro l; rw [List.foldl_cons, ih, List.length_set]
theorem pg_last : ∀ (Q : List Wr) (L : List (List Int)), (pg L Q).map last = Q.foldl (fun l q => l.set q.1 (last q.2)) (L.map last)
  | [], L => rfl
  | q :: Q, L => by
    show (pg (L.set q.1 q.2) Q).map last = _
    rw [pg_last Q, List.map_set]; rfl
theorem last_at (Q : List Wr) (i : Nat) (hi : i < 12) : last ((pg (List.replicate 12 zpg) Q)[i]?.getD []) = (lst Q)[i]?.getD 0 := by
  have h := pg_last Q (List.replicate 12 zpg)
  have e : (List.replicate 12 zpg).map last = List.replicate 12 0 := by rw [List.map_replicate]; rfl
  rw [e] at h
  have hl : i < (pg (List.replicate 12 zpg) Q).length := by rw [pg_length, List.length_replicate]; exact hi
  have : (lst Q)[i]? = some (last ((pg (List.replicate 12 zpg) Q)[i]?.getD [])) := by
    unfold lst
    rw [← h, List.getElem?_map, List.getElem?_eq_getElem hl]; rfl
  rw [this]; rfl
theorem mixs_whole {T : Nat → Nat} {L : List (List Int)} {Q : List Wr} (h : PgOk L) (hq : QOk L.length Q) : ∀ k, k ≤ Q.length → (∀ j, j < k → T j = 128) → mixs T L Q k = pg L (Q.take k)
  | 0, _, _ => rfl
  | k + 1, hk, hT => by
    have hk' : Q[k]? = some Q[k] := List.getElem?_eq_getElem (by omega)
    have hqk := hq _ (List.getElem_mem (l := Q) (n := k) (by omega))
    rw [mixs_succ hk', mixs_whole h hq k (by omega) (fun j hj => hT j (by omega)), hT k (by omega), List.take_add_one, hk']
    show _ = pg L (Q.take k ++ [Q[k]])
    rw [pg_snoc]
    have hp : ((pg L (Q.take k))[(Q[k]).1]?.getD []).length = 128 := (pg_ok _ _ h (hq.take k)).at (by rw [pg_length]; exact hqk.1)
    have hb : (Q[k]).2.take 128 = (Q[k]).2 := List.take_of_length_le (by rw [hqk.2]; omega)
    have hd : ((pg L (Q.take k))[(Q[k]).1]?.getD []).drop 128 = [] := List.drop_of_length_le (by rw [hp]; omega)
    unfold mx
    rw [hb, hd, List.append_nil]
theorem mixs_none {T : Nat → Nat} {L : List (List Int)} {Q : List Wr} (hq : QOk L.length Q) (hT : ∀ j, T j = 0) : ∀ k, mixs T L Q k = L
  | 0 => rfl
  | k + 1 => by
    cases hk : Q[k]? with
    | none => unfold mixs; rw [hk]; exact mixs_none hq hT k
    | some q =>
      rw [mixs_succ hk, mixs_none hq hT k, hT k]
      have hlt := (hq _ (List.mem_of_getElem? hk)).1
      unfold mx
      rw [List.take_zero, List.drop_zero, List.nil_append, List.getElem?_eq_getElem hlt, Option.getD_some, List.set_getElem_self]
end Go.Proofs.Ythfkooancgkjaaa
