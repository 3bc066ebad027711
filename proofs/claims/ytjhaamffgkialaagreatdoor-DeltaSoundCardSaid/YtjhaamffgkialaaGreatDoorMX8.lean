/-
  What is proved here: the code's add: a node more, with the hash that goes with it.
-/
import Derived.Test.YtjhaamffgkialaaGreatDoorMX1
import Derived.Deep.DeepCutAuto
import Derived.Deep.RegionLaw
set_option linter.unusedSimpArgs false
set_option linter.unusedVariables false
namespace Go.Proofs.YtjhaamffgkialaaGreatDoor
open Go.ChangeShapes Go.WideShapes Go.ChangeAt Go.RowKit
set_option linter.unusedVariables false
set_option linter.unusedSimpArgs false
set_option maxRecDepth 20000

/-- what adding leaves: the forest with these nodes; its row, its count where they were or in new memory; nothing else turned -/
def Grew (w : World) (f g b : Nat) (N' : List Nd) (w' : World) : Prop := ∃ g' b' A' c' tv', Fo w' f g' b' N' A' c' tv' ∧ (g' = g ∨ w.heap.size ≤ g') ∧ (b' = b ∨ w.heap.size ≤ b') ∧ OnlyS (Ow f g b) w w'
def TkA (w : World) (f g b : Nat) (N : List Nd) (A : Option Addr) (c : Nat) (e : Ending) (w' : World) : Prop := e = .returned (.tuple #[]) ∧ ∃ b', FoT w' f g b' N A c ∧ (b' = b ∨ w.heap.size ≤ b') ∧ OnlyS (Ow f g b) w w'
theorem xtake_any {w : World} {f g b : Nat} {N : List Nd} {A : Option Addr} {c : Nat} {tv : Value} (h : Fo w f g b N A c tv) : Calls Tryz.prog 74 #[.pointer (some ⟨f, 0, none⟩), .int .i64 N.length] w (TkA w f g b N A c) := by
  rcases h.how with ⟨rfl, rfl, rfl, rfl, rfl, rfl⟩ | ⟨hN, _⟩
  · exact (xtake_first h.kf).mono fun e w' ⟨he, b, h1, h2, h3⟩ => ⟨he, b, h1, .inr h2, h3⟩
  · exact (xtake_more h hN).mono fun e w' ⟨he, h1, h2⟩ => ⟨he, b, h1, .inl rfl, h2⟩
/-- between taking a place and putting a node there -/
structure PT (w : World) (f g b0 b e n : Nat) (N : List Nd) (A : Option Addr) (c : Nat) (q : Nd) (x : World) : Prop where
  kf : Blk x f 53 #[.slice A n c, .pointer (some ⟨b, 0, none⟩)]
  row : x.ownsRow 0 63 132 (.slice A n c) n (ncs N)
  kb : Blk x b 158 #[.int .i64 ((n : Int) + 1)]
  how : (A = none ∧ g = f) ∨ (A = some ⟨g, 0, none⟩ ∧ ∃ C, Blk x g 63 C)
  box : Blk x e 63 (nc q).toArray
  on : OnlyS (Ow f g b0) w x
  he : w.heap.size ≤ e
  hb : b = b0 ∨ w.heap.size ≤ b
  lts : f < w.heap.size ∧ g < w.heap.size
  hn : n = N.length
section
variable {w x y : World} {f g b0 b e n : Nat} {N : List Nd} {A : Option Addr} {c : Nat} {q : Nd}
theorem PT.lt (h : PT w f g b0 b e n N A c q x) : ∀ k, (Value.slice A n c).ownBlock = some k → A = some ⟨g, 0, none⟩ ∧ k = g := fun k hk => by
  rcases h.how with ⟨rfl, _⟩ | ⟨rfl, _⟩
  · cases hk
  · injection hk with hk
    exact ⟨rfl, hk.symm⟩
theorem PT.below (h : PT w f g b0 b e n N A c q x) (hb : Below x.heap.size x y) : PT w f g b0 b e n N A c q y := by
  have hg : g < x.heap.size := Nat.lt_of_lt_of_le h.lts.2 h.on.size
  refine ⟨h.kf.below hb, own_keep h.row (fun k hk => hb.block k (by rw [(h.lt k hk).2]; exact hg)), h.kb.below hb, h.how.imp id (fun ⟨h1, C, h2⟩ => ⟨h1, C, h2.below hb⟩), h.box.below hb, h.on.trans (OnlyS.of_below hb (Nat.le_refl _)), h.he, h.hb, h.lts, h.hn⟩
theorem pt_of {w w4 w5 : World} {tv : Value} {b0 b : Nat} (h : Fo w f g b0 N A c tv) (hb : Below w.heap.size w w4) (he : w.heap.size ≤ e) (hbox : Blk w4 e 63 (nc q).toArray) (ht : FoT w5 f g b N A c) (hbb : b = b0 ∨ w4.heap.size ≤ b) (ho : OnlyS (Ow f g b0) w4 w5) : PT w f g b0 b e N.length N A c q w5 := by
  obtain ⟨l1, l2, l3⟩ := h.lts
  refine ⟨ht.kf, ht.row, ht.kb, ?_, hbox.same (ho.block e hbox.lt (fun hk => by rcases hk with h | h | h <;> omega)), (OnlyS.of_below hb (Nat.le_refl _)).trans ho, he, hbb.imp id (fun h => Nat.le_trans hb.size h), ⟨l1, l2⟩, rfl⟩
  rcases ht.how with ⟨_, h1, _, h2⟩ | ⟨_, h1, h2⟩
  · exact .inl ⟨h1, h2⟩
  · exact .inr ⟨h1, h2⟩
/-- between putting a node there and telling the forest -/
structure PB (w : World) (f g b0 b e n : Nat) (N : List Nd) (A A' : Option Addr) (c c' : Nat) (q : Nd) (x : World) : Prop where
  kf : Blk x f 53 #[.slice A n c, .pointer (some ⟨b, 0, none⟩)]
  row : x.ownsRow 0 63 132 (.slice A' (n + 1) c') (n + 1) (ncs (N ++ [q]))
  kb : Blk x b 158 #[.int .i64 ((n : Int) + 1)]
  how : ∃ g', A' = some ⟨g', 0, none⟩ ∧ (g' = g ∨ w.heap.size ≤ g') ∧ ∃ C, Blk x g' 63 C
  box : Blk x e 63 (nc q).toArray
  on : OnlyS (Ow f g b0) w x
  hb : b = b0 ∨ w.heap.size ≤ b
  hn : n = N.length
  cap : n + 1 ≤ c' ∧ c' ≤ maxLen
theorem pb_of {v' : Value} (h : PT w f g b0 b e n N A c q x) (h1 : y.ownsRow 0 63 132 v' (n + 1) (ncs (N ++ [q]))) (h2 : x.grownBy y (Value.slice A n c).ownBlock) (h3 : Where (.slice A n c) v' x y) : ∃ A' c', v' = .slice A' (n + 1) c' ∧ PB w f g b0 b e n N A A' c c' q y := by
  rcases h1.2 with ⟨_, h0⟩ | ⟨g', cap, cur, rfl, _, hh, hnc, hcm, hcs, htk⟩
  · omega
  have ne : ∀ k {t : TypeId} {cs : Array Value}, Blk x k t cs → (t ≠ 63 ∨ w.heap.size ≤ k) → some k ≠ (Value.slice A n c).ownBlock := fun k t cs hk ht e => by
    obtain ⟨h4, h5⟩ := h.lt k e.symm
    rcases ht with ht | ht
    · rcases h.how with ⟨h6, _⟩ | ⟨_, C, h6⟩
      · rw [h4] at h6; cases h6
      · rw [h5] at hk; exact hk.ne h6 ht rfl
    · have := h.lts.2; omega
  refine ⟨some ⟨g', 0, none⟩, cap, rfl, ?_, h1, ?_, ⟨g', rfl, ?_, cur, hh⟩, ?_, ?_, h.hb, h.hn, hnc, hcm⟩
  · exact h.kf.same (h2.block f h.kf.lt (ne f h.kf (.inl (by decide))))
  · exact h.kb.same (h2.block b h.kb.lt (ne b h.kb (.inl (by decide))))
  · rcases h3 g' rfl with h4 | ⟨h4, _⟩
    · exact .inl (h.lt g' h4).2
    · exact .inr (Nat.le_trans h.on.size h4)
  · exact h.box.same (h2.block e h.box.lt (ne e h.box (.inr h.he)))
  · exact h.on.grown h2 (fun k hk => .inl (.inr (.inl (h.lt k hk).2)))
theorem PB.done {A' : Option Addr} {c' : Nat} (h : PB w f g b0 b e n N A A' c c' q x) (hok : ∀ p ∈ N ++ [q], NdOk p) (hfew : n + 1 ≤ 1048576) : Grew w f g b0 (N ++ [q]) (x.setCell ⟨f, 0, none⟩ (.slice A' (n + 1) c')) ∧ Blk (x.setCell ⟨f, 0, none⟩ (.slice A' (n + 1) c')) e 63 (nc q).toArray := by
  obtain ⟨g', rfl, hg, C, hC⟩ := h.how
  have hl : (N ++ [q]).length = n + 1 := by rw [List.length_append, h.hn]; rfl
  have n1 : g' ≠ f := hC.ne h.kf (by decide)
  have n2 : b ≠ f := h.kb.ne h.kf (by decide)
  have n3 : e ≠ f := h.box.ne h.kf (by decide)
  refine ⟨⟨g', b, some ⟨g', 0, none⟩, c', .pointer (some ⟨b, 0, none⟩), ⟨?_, ?_, .inr ⟨by rw [hl]; omega, rfl, rfl, ?_, C, hC.far n1 _⟩, hok, by rw [hl]; exact hfew, by rw [hl]; exact h.cap⟩, hg, h.hb, h.on.setCell (.inl (.inl rfl)) _⟩, h.box.far n3 _⟩
  · rw [hl]; exact h.kf.setd 0 _
  · rw [hl]
    exact own_keep h.row (fun k hk => by
      injection hk with hk
      exact Below.heap_setCell x _ _ k (by rw [← hk]; exact n1))
  · rw [hl]
    have := h.kb.far (p := ⟨f, 0, none⟩) n2 (.slice (some ⟨g', 0, none⟩) (n + 1) c')
    exact this
end
/-- the hash of what stands at a number -/
def hashN (N : List Nd) (i : Int) : List Int := (N[i.toNat]?.getD ndZ).h
/-- the text of a node above these -/
def Nd.txt (N : List Nd) (q : Nd) : List Int := if q.leaf then leafT q.k q.v else innerT q.n q.b (hashN N q.l) (hashN N q.r)
/-- a node with the hash that goes with it -/
def Nd.full (N : List Nd) (q : Nd) : Nd := { q with h := sum (q.txt N) }
theorem Nd.full_ok {N : List Nd} {q : Nd} (h : NdOk q) : NdOk (q.full N) := ⟨h.k, h.v, h.b, ⟨sum_length _, sum_bs _⟩⟩
theorem hashN_ky {N : List Nd} (h : ∀ q ∈ N, NdOk q) (i : Int) : Ky (hashN N i) := by
  unfold hashN
  cases hi : N[i.toNat]? with
  | none => exact ky_zero
  | some q => exact (h q (List.mem_of_getElem? hi)).h
theorem leaf_tbs {k v : List Int} (hk : Ky k) (hv : Ky v) : Bs (leafT k v) := textL_bs 108 _ (by decide) (fun f hf => by
  simp only [List.mem_cons, List.not_mem_nil, or_false] at hf
  rcases hf with rfl | rfl
  · exact hk.bs
  · exact hv.bs)
theorem leaf_tlen {k v : List Int} (hk : Ky k) (hv : Ky v) : (leafT k v).length < 1000000000000 := Nat.lt_of_le_of_lt (textL_all 108 [k, v] 2 rfl (by decide) (len_2k hk hv)) (by decide)
theorem inner_tbs {n : Int} {b l r : List Int} (hb : Ky b) (hl : Ky l) (hr : Ky r) : Bs (innerT n b l r) := textL_bs 110 _ (by decide) (fun f hf => by
  simp only [List.mem_cons, List.not_mem_nil, or_false] at hf
  rcases hf with rfl | rfl | rfl | rfl
  · exact be_bs n 2
  · exact hb.bs
  · exact hl.bs
  · exact hr.bs)
theorem inner_tlen {n : Int} {b l r : List Int} (hb : Ky b) (hl : Ky l) (hr : Ky r) : (innerT n b l r).length < 1000000000000 := Nat.lt_of_le_of_lt (textL_all 110 [be n 2, b, l, r] 4 rfl (by decide) (len_4k (be_length n 2) hb hl hr)) (by decide)
/-- the local node stands -/
def BoxAt (e : Nat) (q : Nd) (w' : World) : Prop := Blk w' e 63 (nc q).toArray
theorem blk_nd {w : World} {e : Nat} {q : Nd} (h : BoxAt e q w) : w.rangeAt e 0 (nc q) := fun j v hv => by
  have h' : Blk w e 63 (nc q).toArray := h
  rw [h'.cell, Nat.zero_add, List.getElem?_toArray]; exact hv
/-- what add answers -/
def AddA (w : World) (f g b n : Nat) (N' : List Nd) (e : Ending) (w' : World) : Prop := e = .returned (.int .i64 n) ∧ Grew w f g b N' w'
theorem tk_bel {w : World} {f g b0 : Nat} {N : List Nd} {A : Option Addr} {c : Nat} {tv : Value} {n : Nat} (h : Fo w f g b0 N A c tv) (hn : n = N.length) (w3 : World) (hb : Below w.heap.size w w3) :
    Calls Tryz.prog 74 #[.pointer (some ⟨f, 0, none⟩), .int .i64 n] w3 (TkA w3 f g b0 N A c) := by subst hn; exact xtake_any (h.below hb)
theorem cn_bel {w : World} {f g b0 : Nat} {N : List Nd} {A : Option Addr} {c : Nat} {tv : Value} {n : Nat} (h : Fo w f g b0 N A c tv) (hn : n = N.length) (w3 : World) (hb : Below w.heap.size w w3) : w3.cell? ⟨f, 0, none⟩ = some (.slice A n c) := by subst hn; exact (h.below hb).kf.cell 0
set_option maxHeartbeats 8000000 in
theorem xadd_leaf {w : World} {f g b0 : Nat} {N : List Nd} {A : Option Addr} {c : Nat} {tv : Value} (h : Fo w f g b0 N A c tv) (q0 : Nd) (hq : NdOk q0) (hl : q0.leaf = true) (hlen : N.length < 1048576) (ht : Tab w) :
    Calls Tryz.prog 51 #[.pointer (some ⟨f, 0, none⟩), .agg (nc q0).toArray] w (AddA w f g b0 N.length (N ++ [q0.full N])) := by
  obtain ⟨Z, HZ, hZ0, hZs⟩ := zero_key
  obtain ⟨hk1, hk2, hk3, hb0⟩ := three_blks w (nc q0).toArray Z Z 63 25 25
  obtain ⟨HL, hHL⟩ : ∃ HL, HL = zk := ⟨_, rfl⟩
  obtain ⟨HR, hHR⟩ : ∃ HR, HR = zk := ⟨_, rfl⟩
  have K1 := hid hk1
  have K2 : Hid (Blk (((w.alloc (.cells (nc q0).toArray 63)).alloc (.cells Z 25)).alloc (.cells Z 25)) (w.heap.size + 1) 25 (kc HL)) := by show Blk _ _ _ _; rw [hHL, ← HZ.out]; exact hk2
  have K3 : Hid (Blk (((w.alloc (.cells (nc q0).toArray 63)).alloc (.cells Z 25)).alloc (.cells Z 25)) (w.heap.size + 1 + 1) 25 (kc HR)) := by show Blk _ _ _ _; rw [hHR, ← HZ.out]; exact hk3
  have kl : Ky HL := by rw [hHL]; exact zk_ky
  have kr : Ky HR := by rw [hHR]; exact zk_ky
  have B0 := hid hb0
  have NA := hid (hk1.node hq)
  have HQ0 := hid hq
  have HQ0I := hid (node_info hq)
  have HLI := hid (u8s_info kl)
  have HRI := hid (u8s_info kr)
  obtain ⟨X, hX⟩ : ∃ X, X = q0.txt N := ⟨_, rfl⟩
  have hX2 : X = leafT q0.k q0.v := by rw [hX]; unfold Nd.txt; rw [if_pos hl]
  have CT := hid (fun (w1 : World) (hb : Below w.heap.size w w1) => xText_leaf q0 HL HR w1 hq hl kl kr)
  rw [← hX2] at CT
  have HXB : Hid (Bs X) := by show Bs _; rw [hX2]; exact leaf_tbs hq.k hq.v
  have HXL : Hid (X.length < 1000000000000) := by show _ < _; rw [hX2]; exact leaf_tlen hq.k hq.v
  have HSK : Hid (Ky (sum X)) := ⟨sum_length _, sum_bs _⟩
  obtain ⟨q, hqq⟩ : ∃ q, q = q0.full N := ⟨_, rfl⟩
  have HQQ : Hid ({ q0 with h := sum X } = q) := by show _ = _; rw [hqq, hX]; rfl
  have HQ : Hid (NdOk q) := by show NdOk q; rw [hqq]; exact Nd.full_ok hq
  have HQI := hid (node_info HQ.out)
  rw [← hqq]
  have HOK : Hid (∀ p ∈ N ++ [q], NdOk p) := fun p hp => by
    rcases List.mem_append.1 hp with hp | hp
    · exact h.ok p hp
    · rw [List.mem_singleton.1 hp]; exact HQ.out
  have FO := hid h
  have HT := hid ht
  obtain ⟨n, hn⟩ : ∃ n, n = N.length := ⟨_, rfl⟩
  have HN := hid hn
  have HFEW : Hid (n < 1048576) := by show n < 1048576; rw [hn]; exact hlen
  have CK := hid (tk_bel h hn)
  have CN := hid (cn_bel h hn)
  have cl := NA.out.leaf
  rw [hl] at cl
  rw [← hn]
  clear hk1 hk2 hk3 hb0 hHL hHR kl kr hX hX2 hqq h hq hl hlen ht hn
  unfold AddA
  go_enter Tryz.func51, Tryz.ntmps51
  go_upto_region 7 with (first
    | (refine load_at rfl 63 (.tmp 3) rfl w.heap.size 0 rfl (nc q0) _ NA.out.all Tryz.underlying63 rfl HQ0I.out (nc q0).toArray rfl ?_)
    | (refine load_at rfl 25 (.tmp 5) rfl (w.heap.size + 1) 0 rfl (u8s HL) _ (blk_key K2.out) Tryz.underlying25 rfl HLI.out (kc HL) rfl ?_)
    | (refine load_at rfl 25 (.tmp 6) rfl (w.heap.size + 1 + 1) 0 rfl (u8s HR) _ (blk_key K3.out) Tryz.underlying25 rfl HRI.out (kc HR) rfl ?_)
    | (go_at_call 73; refine (CT.out _ B0.out).mono ?_; rintro e w1 ⟨A5, c5, rfl, h5, hf5, hb⟩; have L1 := hid (K1.out.below hb); have B1 := hid (B0.out.trans (hb.mono B0.out.size)); have CS := hid (Sum_any A5 c5 X w1 (Fresh.rp0 hf5) HXB.out HXL.out h5 (HT.out.below B1.out)); clear h5 hf5 hb)
    | (go_at_call 59; refine CS.out.mono ?_; rintro e w2 ⟨rfl, hb⟩; have L2 := hid (L1.out.below hb); have B2 := hid (B1.out.trans (hb.mono B1.out.size)); clear hb)
    | (refine store_hash rfl (.tmp 34) (.tmp 33) rfl w.heap.size rfl q0 (sum X) rfl HQ0.out HSK.out L2.out ?_; intro w3 o3 _ ob sz3; have L3 := hid o3; have B3 := hid (ob _ _ (Nat.le_refl _) B2.out); have cn : w3.cell? ⟨f, 0, none⟩ = some (.slice A n c) := CN.out w3 B3.out; clear o3 ob)
    | (go_at_call 74; refine (CK.out w3 B3.out).mono ?_; rintro e w5 ⟨rfl, b, ht, hbb, ho⟩; have PX := hid (pt_of FO.out B3.out (Nat.le_refl _) L3.out ht hbb ho); clear ht hbb ho))
  have hn2 : N.length = n := HN.out.symm
  rw [hn2] at PX
  clear cn hn2 L3 B3 L2 B2 L1 B1 CS CT CK CN NA
  have HE : Hid ({ q0 with h := sum X } = q) := HQQ.out
  rw [HE.out] at PX
  clear HE
  generalize w.heap.size = e at PX
  refine wp_region_held (S := fun w' => Hid (BoxAt e q w')) (by kernel_rfl) ?_
  change wpAnyH _ _ _ _ _ _ _ _ w5.drew
  have Gx0 : Hid (BoxAt e q w5.drew) := PX.out.box
  have PX' : Hid (PT w f g b0 b e n N A c q w5.drew) := PX.out.below ((Below.refl _ _).drew)
  clear PX
  have PX := PX'
  clear PX'
  generalize w5.drew = x0 at Gx0 PX ⊢
  refine wpAnyH_take (i := 0) (oi := { dst := some 43, op := _, type := _, pos := _, after := _, guard := _ }) (v := ?_) rfl (by kernel_rfl) (by kernel_rfl) (by kernel_rfl) (fun _ _ _ h => h) (Or.inl ⟨by kernel_rfl, ?_⟩) Gx0 ?_
  rotate_left
  · (intro w hSw; go_simp; try with_reducible rfl)
  try simp only [Act.put, List.setIfInBounds_toArray, List.set_cons_zero, List.set_cons_succ]
  refine wpAnyH_take (i := 1) (oi := { dst := some 44, op := _, type := _, pos := _, after := _, guard := _ }) (v := ?_) rfl (by kernel_rfl) (by kernel_rfl) (by kernel_rfl) (fun _ _ _ h => h) (Or.inl ⟨by kernel_rfl, ?_⟩) Gx0 ?_
  rotate_left
  · (intro w hSw; go_simp; try with_reducible rfl)
  try simp only [Act.put, List.setIfInBounds_toArray, List.set_cons_zero, List.set_cons_succ]
  refine wpAnyH_take (i := 2) (oi := { dst := some 45, op := _, type := _, pos := _, after := _, guard := _ }) (v := ?_) rfl (by kernel_rfl) (by kernel_rfl) (by kernel_rfl) (fun _ _ _ h => h) (Or.inl ⟨by kernel_rfl, ?_⟩) Gx0 ?_
  rotate_left
  · (intro w hSw; go_simp; try with_reducible rfl)
  try simp only [Act.put, List.setIfInBounds_toArray, List.set_cons_zero, List.set_cons_succ]
  refine wpAnyH_take (i := 3) (oi := { dst := some 46, op := _, type := _, pos := _, after := _, guard := _ }) (v := ?_) rfl (by kernel_rfl) (by kernel_rfl) (by kernel_rfl) (fun _ _ _ h => h) (Or.inl ⟨by kernel_rfl, ?_⟩) Gx0 ?_
  rotate_left
  · (intro w hSw; go_simp; try with_reducible rfl)
  try simp only [Act.put, List.setIfInBounds_toArray, List.set_cons_zero, List.set_cons_succ]
  refine wpAnyH_take (i := 5) (oi := { dst := some 48, op := _, type := _, pos := _, after := _, guard := _ }) (v := .agg ((nc q).toArray)) rfl (by kernel_rfl) (by kernel_rfl) (by kernel_rfl) (fun _ _ _ h => h) (yieldsIf_load_mid (cs := nc q) (by rfl) _ _ rfl _ _ rfl _ (fun w' hSw => blk_nd hSw.out) Tryz.underlying63 rfl HQI.out) Gx0 ?_
  try simp only [Act.put, List.setIfInBounds_toArray, List.set_cons_zero, List.set_cons_succ]
  refine wpAnyH_ready (rs := [4, 6]) (by kernel_rfl) (by simp) ?_
  refine (AllReadyH.cons (o := { dst := some 47, op := _, type := _, pos := _, after := _, guard := _ }) rfl (fun Qc hQc => ?_) (AllReadyH.cons (o := { dst := some 49, op := _, type := _, pos := _, after := _, guard := _ }) rfl (fun Qc hQc => ?_) AllReadyH.nil))
  ·
    have c0 : x0.cell? ⟨f, 0, none⟩ = some (.slice A n c) := PX.out.kf.cell 0
    go_simp
    refine hQc.out _ _ Gx0 (fun hHeld => ?_)
    clear hQc Qc c0
    try simp only [Act.put, List.setIfInBounds_toArray, List.set_cons_zero, List.set_cons_succ]
    refine wpAnyH_ready (rs := [6]) (by kernel_rfl) (by simp) ?_
    refine (AllReadyH.cons (o := { dst := some 49, op := _, type := _, pos := _, after := _, guard := _ }) rfl (fun Qc hQc => ?_) AllReadyH.nil)
    rw [if_pos (by rfl)]
    refine wp_node_one (.tmp 48) rfl q HQ.out rfl ?_
    have NB := hid (Blk.new x0 63 (nc q).toArray)
    have PX2 := hid (PX.out.below ((Below.refl x0.heap.size x0).alloc (Nat.le_refl _) (.cells (nc q).toArray 63)))
    have Gx1 : Hid (Blk (x0.alloc (.cells (nc q).toArray 63)) e 63 (nc q).toArray) := PX2.out.box
    refine hQc.out _ _ Gx1 (fun hHeld => ?_)
    clear hQc Qc hHeld Gx0 PX
    generalize x0.heap.size = gq at NB ⊢
    generalize x0.alloc (.cells (nc q).toArray 63) = x1 at Gx1 NB PX2 ⊢
    have PX := PX2
    clear PX2
    try simp only [Act.put, List.setIfInBounds_toArray, List.set_cons_zero, List.set_cons_succ]
    refine wpAnyH_ready (rs := [7]) (by kernel_rfl) (by simp) ?_
    refine (AllReadyH.cons (o := { dst := some 50, op := _, type := _, pos := _, after := _, guard := _ }) rfl (fun Qc hQc => ?_) AllReadyH.nil)
    rw [if_pos (by rfl)]
    refine wp_append_nd (.tmp 47) (.tmp 49) rfl (.slice A n c) N n PX.out.hn rfl PX.out.row gq 1 q rfl NB.out HQ.out HFEW.out ?_
    intro vN' x2 ow2 gr2 wh2
    obtain ⟨A', c', rfl, px2⟩ := pb_of PX.out ow2 gr2 wh2
    have PY := hid px2
    have Gx2 : Hid (Blk x2 e 63 (nc q).toArray) := px2.box
    refine hQc.out _ _ Gx2 (fun hHeld => ?_)
    clear hQc Qc hHeld Gx1 PX NB ow2 gr2 wh2 px2
    try simp only [Act.put, List.setIfInBounds_toArray, List.set_cons_zero, List.set_cons_succ]
    refine wpAnyH_take (i := 8) (oi := { dst := some 51, op := _, type := _, pos := _, after := _, guard := _ }) (v := ?_) rfl (by kernel_rfl) (by kernel_rfl) (by kernel_rfl) (fun _ _ _ h => h) (Or.inl ⟨by kernel_rfl, ?_⟩) Gx2 ?_
    rotate_left
    · (intro w hSw; go_simp; try with_reducible rfl)
    try simp only [Act.put, List.setIfInBounds_toArray, List.set_cons_zero, List.set_cons_succ]
    refine wpAnyH_take (i := 9) (oi := { dst := some 52, op := _, type := _, pos := _, after := _, guard := _ }) (v := ?_) rfl (by kernel_rfl) (by kernel_rfl) (by kernel_rfl) (fun _ _ _ h => h) (Or.inl ⟨by kernel_rfl, ?_⟩) Gx2 ?_
    rotate_left
    · (intro w hSw; go_simp; try with_reducible rfl)
    try simp only [Act.put, List.setIfInBounds_toArray, List.set_cons_zero, List.set_cons_succ]
    refine wpAnyH_ready (rs := [10]) (by kernel_rfl) (by simp) ?_
    refine (AllReadyH.cons (o := { dst := none, op := _, type := _, pos := _, after := _, guard := _ }) rfl (fun Qc hQc => ?_) AllReadyH.nil)
    have c1 : x2.cell? ⟨f, 0, none⟩ = some (.slice A n c) := PY.out.kf.cell 0
    have f1 : x2.frozen? ⟨f, 0, none⟩ = false := PY.out.kf.frozen 0
    go_simp
    clear c1 f1
    have DN := hid (PY.out.done HOK.out HFEW.out)
    have Gx3 : Hid (Blk (x2.setCell ⟨f, 0, none⟩ (Value.slice A' (n + 1) c')) e 63 (nc q).toArray) := DN.out.2
    refine hQc.out _ _ Gx3 (fun hHeld => ?_)
    clear hQc Qc hHeld Gx2 PY
    generalize x2.setCell ⟨f, 0, none⟩ (Value.slice A' (n + 1) c') = x3 at Gx3 DN ⊢
    try simp only [Act.put, List.setIfInBounds_toArray, List.set_cons_zero, List.set_cons_succ]
    refine wpAnyH_done (by kernel_rfl) ?_ _
    try simp only [Act.put, List.setIfInBounds_toArray, List.set_cons_zero, List.set_cons_succ]
    go_wp2
    go_ret
    exact ⟨rfl, DN.out.1⟩
  ·
    rw [if_pos (by rfl)]
    refine wp_node_one (.tmp 48) rfl q HQ.out rfl ?_
    have NB := hid (Blk.new x0 63 (nc q).toArray)
    have PX2 := hid (PX.out.below ((Below.refl x0.heap.size x0).alloc (Nat.le_refl _) (.cells (nc q).toArray 63)))
    have Gx4 : Hid (Blk (x0.alloc (.cells (nc q).toArray 63)) e 63 (nc q).toArray) := PX2.out.box
    refine hQc.out _ _ Gx4 (fun hHeld => ?_)
    clear hQc Qc hHeld Gx0 PX
    generalize x0.heap.size = gq at NB ⊢
    generalize x0.alloc (.cells (nc q).toArray 63) = x4 at Gx4 NB PX2 ⊢
    have PX := PX2
    clear PX2
    try simp only [Act.put, List.setIfInBounds_toArray, List.set_cons_zero, List.set_cons_succ]
    refine wpAnyH_ready (rs := [4]) (by kernel_rfl) (by simp) ?_
    refine (AllReadyH.cons (o := { dst := some 47, op := _, type := _, pos := _, after := _, guard := _ }) rfl (fun Qc hQc => ?_) AllReadyH.nil)
    have c0 : x4.cell? ⟨f, 0, none⟩ = some (.slice A n c) := PX.out.kf.cell 0
    go_simp
    refine hQc.out _ _ Gx4 (fun hHeld => ?_)
    clear hQc Qc c0
    try simp only [Act.put, List.setIfInBounds_toArray, List.set_cons_zero, List.set_cons_succ]
    refine wpAnyH_ready (rs := [7]) (by kernel_rfl) (by simp) ?_
    refine (AllReadyH.cons (o := { dst := some 50, op := _, type := _, pos := _, after := _, guard := _ }) rfl (fun Qc hQc => ?_) AllReadyH.nil)
    rw [if_pos (by rfl)]
    refine wp_append_nd (.tmp 47) (.tmp 49) rfl (.slice A n c) N n PX.out.hn rfl PX.out.row gq 1 q rfl NB.out HQ.out HFEW.out ?_
    intro vN' x5 ow2 gr2 wh2
    obtain ⟨A', c', rfl, px2⟩ := pb_of PX.out ow2 gr2 wh2
    have PY := hid px2
    have Gx5 : Hid (Blk x5 e 63 (nc q).toArray) := px2.box
    refine hQc.out _ _ Gx5 (fun hHeld => ?_)
    clear hQc Qc hHeld Gx4 PX NB ow2 gr2 wh2 px2
    try simp only [Act.put, List.setIfInBounds_toArray, List.set_cons_zero, List.set_cons_succ]
    refine wpAnyH_take (i := 8) (oi := { dst := some 51, op := _, type := _, pos := _, after := _, guard := _ }) (v := ?_) rfl (by kernel_rfl) (by kernel_rfl) (by kernel_rfl) (fun _ _ _ h => h) (Or.inl ⟨by kernel_rfl, ?_⟩) Gx5 ?_
    rotate_left
    · (intro w hSw; go_simp; try with_reducible rfl)
    try simp only [Act.put, List.setIfInBounds_toArray, List.set_cons_zero, List.set_cons_succ]
    refine wpAnyH_take (i := 9) (oi := { dst := some 52, op := _, type := _, pos := _, after := _, guard := _ }) (v := ?_) rfl (by kernel_rfl) (by kernel_rfl) (by kernel_rfl) (fun _ _ _ h => h) (Or.inl ⟨by kernel_rfl, ?_⟩) Gx5 ?_
    rotate_left
    · (intro w hSw; go_simp; try with_reducible rfl)
    try simp only [Act.put, List.setIfInBounds_toArray, List.set_cons_zero, List.set_cons_succ]
    refine wpAnyH_ready (rs := [10]) (by kernel_rfl) (by simp) ?_
    refine (AllReadyH.cons (o := { dst := none, op := _, type := _, pos := _, after := _, guard := _ }) rfl (fun Qc hQc => ?_) AllReadyH.nil)
    have c1 : x5.cell? ⟨f, 0, none⟩ = some (.slice A n c) := PY.out.kf.cell 0
    have f1 : x5.frozen? ⟨f, 0, none⟩ = false := PY.out.kf.frozen 0
    go_simp
    clear c1 f1
    have DN := hid (PY.out.done HOK.out HFEW.out)
    have Gx6 : Hid (Blk (x5.setCell ⟨f, 0, none⟩ (Value.slice A' (n + 1) c')) e 63 (nc q).toArray) := DN.out.2
    refine hQc.out _ _ Gx6 (fun hHeld => ?_)
    clear hQc Qc hHeld Gx5 PY
    generalize x5.setCell ⟨f, 0, none⟩ (Value.slice A' (n + 1) c') = x6 at Gx6 DN ⊢
    try simp only [Act.put, List.setIfInBounds_toArray, List.set_cons_zero, List.set_cons_succ]
    refine wpAnyH_done (by kernel_rfl) ?_ _
    try simp only [Act.put, List.setIfInBounds_toArray, List.set_cons_zero, List.set_cons_succ]
    go_wp2
    go_ret
    exact ⟨rfl, DN.out.1⟩
/-- the local node stands, and all that stood -/
structure IP (w : World) (q0 : Nd) (x : World) : Prop where
  bl : Below w.heap.size w x
  box : Blk x w.heap.size 63 (nc q0).toArray
theorem nd_left {w : World} {e : Nat} {q0 : Nd} {a : Nat} (h : Blk w e 63 (nc q0).toArray) (hq : NdOk q0) (ha : q0.l = (a : Int)) : w.cell? ⟨e, 98, none⟩ = some (.int .i64 (a : Int)) := by rw [← ha]; have := (h.node hq).left; rw [Nat.zero_add] at this; exact this
theorem nd_right {w : World} {e : Nat} {q0 : Nd} {a : Nat} (h : Blk w e 63 (nc q0).toArray) (hq : NdOk q0) (ha : q0.r = (a : Int)) : w.cell? ⟨e, 99, none⟩ = some (.int .i64 (a : Int)) := by rw [← ha]; have := (h.node hq).right; rw [Nat.zero_add] at this; exact this
theorem hn_at {N : List Nd} {a : Nat} (ha : a < N.length) : ∃ p, N[a]? = some p ∧ hashN N (a : Int) = p.h := by
  refine ⟨N[a], List.getElem?_eq_getElem ha, ?_⟩
  unfold hashN
  rw [Int.toNat_natCast, List.getElem?_eq_getElem ha]
  rfl
theorem fn_bel {w : World} {f g b0 : Nat} {N : List Nd} {A : Option Addr} {c : Nat} {tv : Value} (h : Fo w f g b0 N A c tv) {a : Nat} (ha : a < N.length) (w3 : World) (hb : Below w.heap.size w w3) : w3.rangeAt g (a * 132 + 100) (u8s (hashN N (a : Int))) := by
  obtain ⟨p, h1, h2⟩ := hn_at ha
  rw [h2]
  exact ((h.below hb).node h1).2.hash
set_option maxHeartbeats 8000000 in
theorem xadd_inner {w : World} {f g b0 : Nat} {N : List Nd} {A : Option Addr} {c : Nat} {tv : Value} (h : Fo w f g b0 N A c tv) (q0 : Nd) (hq : NdOk q0) (hl : q0.leaf = false) (a d : Nat) (hla : q0.l = (a : Int)) (hrd : q0.r = (d : Int)) (ha : a < N.length) (hd : d < N.length) (hnn : 0 ≤ q0.n ∧ q0.n ≤ 65535) (hlen : N.length < 1048576) (ht : Tab w) :
    Calls Tryz.prog 51 #[.pointer (some ⟨f, 0, none⟩), .agg (nc q0).toArray] w (AddA w f g b0 N.length (N ++ [q0.full N])) := by
  obtain ⟨Z, HZ, hZ0, hZs⟩ := zero_key
  obtain ⟨hk1, hk2, hk3, hb0⟩ := three_blks w (nc q0).toArray Z Z 63 25 25
  obtain ⟨HL, hHL⟩ : ∃ HL, HL = hashN N (a : Int) := ⟨_, rfl⟩
  obtain ⟨HR, hHR⟩ : ∃ HR, HR = hashN N (d : Int) := ⟨_, rfl⟩
  have K2 := hid hk2
  have K3 := hid hk3
  have kl : Ky HL := by rw [hHL]; exact hashN_ky h.ok _
  have kr : Ky HR := by rw [hHR]; exact hashN_ky h.ok _
  have G0 : Hid (IP w q0 (((w.alloc (.cells (nc q0).toArray 63)).alloc (.cells Z 25)).alloc (.cells Z 25))) := ⟨hb0, hk1⟩
  have HQ0 := hid hq
  have HQ0I := hid (node_info hq)
  have HLI := hid (u8s_info kl)
  have HRI := hid (u8s_info kr)
  have HKI5 := hid (kc_info kl); have HKI6 := hid (kc_info kr)
  have HKZ5 : Hid (Z.size = (kc HL).size) := by show _ = _; rw [HZ.out, kc_size zk_ky, kc_size kl]
  have HKZ6 : Hid (Z.size = (kc HR).size) := by show _ = _; rw [HZ.out, kc_size zk_ky, kc_size kr]
  obtain ⟨X, hX⟩ : ∃ X, X = q0.txt N := ⟨_, rfl⟩
  have hX2 : X = innerT q0.n q0.b HL HR := by rw [hX]; unfold Nd.txt; rw [if_neg (by rw [hl]; decide), hla, hrd, hHL, hHR]
  have CT := hid (fun (w1 : World) (hb : Below w.heap.size w w1) => xText_inner q0 HL HR w1 hq hl hnn kl kr)
  rw [← hX2] at CT
  have HXB : Hid (Bs X) := by show Bs _; rw [hX2]; exact inner_tbs hq.b kl kr
  have HXL : Hid (X.length < 1000000000000) := by show _ < _; rw [hX2]; exact inner_tlen hq.b kl kr
  have HSK : Hid (Ky (sum X)) := ⟨sum_length _, sum_bs _⟩
  obtain ⟨q, hqq⟩ : ∃ q, q = q0.full N := ⟨_, rfl⟩
  have HQQ : Hid ({ q0 with h := sum X } = q) := by show _ = _; rw [hqq, hX]; rfl
  have HQ : Hid (NdOk q) := by show NdOk q; rw [hqq]; exact Nd.full_ok hq
  have HQI := hid (node_info HQ.out)
  rw [← hqq]
  have HOK : Hid (∀ p ∈ N ++ [q], NdOk p) := fun p hp => by
    rcases List.mem_append.1 hp with hp | hp
    · exact h.ok p hp
    · rw [List.mem_singleton.1 hp]; exact HQ.out
  have FO := hid h
  have HT := hid ht
  have hA : A = some ⟨g, 0, none⟩ := by obtain ⟨p, h1, _⟩ := hn_at ha; exact (h.node h1).1
  have FNL := hid (fn_bel h ha)
  have FNR := hid (fn_bel h hd)
  rw [← hHL] at FNL
  rw [← hHR] at FNR
  obtain ⟨n, hn⟩ : ∃ n, n = N.length := ⟨_, rfl⟩
  have HN := hid hn
  have HFEW : Hid (n < 1048576) := by show n < 1048576; rw [hn]; exact hlen
  have CK := hid (tk_bel h hn)
  have CN := hid (cn_bel h hn)
  have FC := hid (cn_bel h hn)
  rw [hA] at FC
  rw [← hn] at ha hd
  have cl := (hk1.node hq).leaf
  have HLA := hid hla; have HRD := hid hrd
  rw [hl] at cl
  rw [← hn]
  clear hk1 hk2 hk3 hb0 hHL hHR kl kr hX hX2 hqq h hq hl hlen ht hn hA hla hrd hnn
  unfold AddA
  go_enter Tryz.func51, Tryz.ntmps51
  go_wp2
  generalize ((w.alloc (.cells (nc q0).toArray 63)).alloc (.cells Z 25)).alloc (.cells Z 25) = w0 at G0 K2 K3 cl ⊢
  clear cl
  refine wp_region_held (S := fun w' => Hid (IP w q0 w')) (by kernel_rfl) ?_
  change wpAnyH _ _ _ _ _ _ _ _ w0.drew
  have Gx0 : Hid (IP w q0 w0.drew) := ⟨G0.out.bl.drew, G0.out.box⟩
  have K2' : Hid (Blk w0.drew (w.heap.size + 1) 25 Z) := K2.out
  have K3' : Hid (Blk w0.drew (w.heap.size + 1 + 1) 25 Z) := K3.out
  clear K2 K3
  have K2 := K2'
  have K3 := K3'
  clear K2' K3'
  generalize w0.drew = x0 at Gx0 K2 K3 ⊢
  refine wpAnyH_take (i := 0) (oi := { dst := some 11, op := _, type := _, pos := _, after := _, guard := _ }) (v := ?_) rfl (by kernel_rfl) (by kernel_rfl) (by kernel_rfl) (fun _ _ _ h => h) (Or.inl ⟨by kernel_rfl, ?_⟩) Gx0 ?_
  rotate_left
  · (intro w hSw; go_simp; try with_reducible rfl)
  try simp only [Act.put, List.setIfInBounds_toArray, List.set_cons_zero, List.set_cons_succ]
  refine wpAnyH_take (i := 1) (oi := { dst := some 12, op := _, type := _, pos := _, after := _, guard := _ }) (v := ?_) rfl (by kernel_rfl) (by kernel_rfl) (by kernel_rfl) (fun _ _ _ h => h) (Or.inl ⟨by kernel_rfl, ?_⟩) Gx0 ?_
  rotate_left
  · (intro w hSw; go_simp; try with_reducible rfl)
  try simp only [Act.put, List.setIfInBounds_toArray, List.set_cons_zero, List.set_cons_succ]
  refine wpAnyH_take (i := 2) (oi := { dst := some 13, op := _, type := _, pos := _, after := _, guard := _ }) (v := ?_) rfl (by kernel_rfl) (by kernel_rfl) (by kernel_rfl) (fun _ _ _ h => h) (Or.inl ⟨by kernel_rfl, ?_⟩) Gx0 ?_
  rotate_left
  · (intro w hSw; go_simp; try with_reducible rfl)
  try simp only [Act.put, List.setIfInBounds_toArray, List.set_cons_zero, List.set_cons_succ]
  refine wpAnyH_take (i := 3) (oi := { dst := some 14, op := _, type := _, pos := _, after := _, guard := _ }) (v := ?_) rfl (by kernel_rfl) (by kernel_rfl) (by kernel_rfl) (fun _ _ _ h => h) (Or.inl ⟨by kernel_rfl, ?_⟩) Gx0 ?_
  rotate_left
  · (intro w hSw; have c0 := FC.out w hSw.out.bl; go_simp; try with_reducible rfl)
  try simp only [Act.put, List.setIfInBounds_toArray, List.set_cons_zero, List.set_cons_succ]
  refine wpAnyH_take (i := 4) (oi := { dst := some 15, op := _, type := _, pos := _, after := _, guard := _ }) (v := ?_) rfl (by kernel_rfl) (by kernel_rfl) (by kernel_rfl) (fun _ _ _ h => h) (Or.inl ⟨by kernel_rfl, ?_⟩) Gx0 ?_
  rotate_left
  · (intro w hSw; go_simp; try with_reducible rfl)
  try simp only [Act.put, List.setIfInBounds_toArray, List.set_cons_zero, List.set_cons_succ]
  refine wpAnyH_take (i := 5) (oi := { dst := some 16, op := _, type := _, pos := _, after := _, guard := _ }) (v := ?_) rfl (by kernel_rfl) (by kernel_rfl) (by kernel_rfl) (fun _ _ _ h => h) (Or.inl ⟨by kernel_rfl, ?_⟩) Gx0 ?_
  rotate_left
  · (intro w hSw; have c0 := nd_left hSw.out.box HQ0.out HLA.out; go_simp; try with_reducible rfl)
  try simp only [Act.put, List.setIfInBounds_toArray, List.set_cons_zero, List.set_cons_succ]
  refine wpAnyH_take (i := 6) (oi := { dst := some 17, op := _, type := _, pos := _, after := _, guard := _ }) (v := ?_) rfl (by kernel_rfl) (by kernel_rfl) (by kernel_rfl) (fun _ _ _ h => h) (Or.inl ⟨by kernel_rfl, ?_⟩) Gx0 ?_
  rotate_left
  · (intro w hSw; go_simp; try with_reducible rfl)
  try simp only [Act.put, List.setIfInBounds_toArray, List.set_cons_zero, List.set_cons_succ]
  refine wpAnyH_take (i := 7) (oi := { dst := some 18, op := _, type := _, pos := _, after := _, guard := _ }) (v := ?_) rfl (by kernel_rfl) (by kernel_rfl) (by kernel_rfl) (fun _ _ _ h => h) (Or.inl ⟨by kernel_rfl, ?_⟩) Gx0 ?_
  rotate_left
  · (intro w hSw; go_simp; try with_reducible rfl)
  try simp only [Act.put, List.setIfInBounds_toArray, List.set_cons_zero, List.set_cons_succ]
  refine wpAnyH_take (i := 8) (oi := { dst := some 19, op := _, type := _, pos := _, after := _, guard := _ }) (v := .agg ((kc HL))) rfl (by kernel_rfl) (by kernel_rfl) (by kernel_rfl) (fun _ _ _ h => h) (yieldsIf_load_mid (cs := u8s HL) (by rfl) _ _ rfl _ _ rfl _ (fun w' hSw => (FNL.out w' hSw.out.bl)) Tryz.underlying25 rfl HLI.out) Gx0 ?_
  try simp only [Act.put, List.setIfInBounds_toArray, List.set_cons_zero, List.set_cons_succ]
  refine wpAnyH_take (i := 9) (oi := { dst := some 20, op := _, type := _, pos := _, after := _, guard := _ }) (v := ?_) rfl (by kernel_rfl) (by kernel_rfl) (by kernel_rfl) (fun _ _ _ h => h) (Or.inl ⟨by kernel_rfl, ?_⟩) Gx0 ?_
  rotate_left
  · (intro w hSw; go_simp; try with_reducible rfl)
  try simp only [Act.put, List.setIfInBounds_toArray, List.set_cons_zero, List.set_cons_succ]
  refine wpAnyH_take (i := 10) (oi := { dst := some 21, op := _, type := _, pos := _, after := _, guard := _ }) (v := ?_) rfl (by kernel_rfl) (by kernel_rfl) (by kernel_rfl) (fun _ _ _ h => h) (Or.inl ⟨by kernel_rfl, ?_⟩) Gx0 ?_
  rotate_left
  · (intro w hSw; go_simp; try with_reducible rfl)
  try simp only [Act.put, List.setIfInBounds_toArray, List.set_cons_zero, List.set_cons_succ]
  refine wpAnyH_take (i := 11) (oi := { dst := some 22, op := _, type := _, pos := _, after := _, guard := _ }) (v := ?_) rfl (by kernel_rfl) (by kernel_rfl) (by kernel_rfl) (fun _ _ _ h => h) (Or.inl ⟨by kernel_rfl, ?_⟩) Gx0 ?_
  rotate_left
  · (intro w hSw; go_simp; try with_reducible rfl)
  try simp only [Act.put, List.setIfInBounds_toArray, List.set_cons_zero, List.set_cons_succ]
  refine wpAnyH_take (i := 12) (oi := { dst := some 23, op := _, type := _, pos := _, after := _, guard := _ }) (v := ?_) rfl (by kernel_rfl) (by kernel_rfl) (by kernel_rfl) (fun _ _ _ h => h) (Or.inl ⟨by kernel_rfl, ?_⟩) Gx0 ?_
  rotate_left
  · (intro w hSw; have c0 := FC.out w hSw.out.bl; go_simp; try with_reducible rfl)
  try simp only [Act.put, List.setIfInBounds_toArray, List.set_cons_zero, List.set_cons_succ]
  refine wpAnyH_take (i := 13) (oi := { dst := some 24, op := _, type := _, pos := _, after := _, guard := _ }) (v := ?_) rfl (by kernel_rfl) (by kernel_rfl) (by kernel_rfl) (fun _ _ _ h => h) (Or.inl ⟨by kernel_rfl, ?_⟩) Gx0 ?_
  rotate_left
  · (intro w hSw; go_simp; try with_reducible rfl)
  try simp only [Act.put, List.setIfInBounds_toArray, List.set_cons_zero, List.set_cons_succ]
  refine wpAnyH_take (i := 14) (oi := { dst := some 25, op := _, type := _, pos := _, after := _, guard := _ }) (v := ?_) rfl (by kernel_rfl) (by kernel_rfl) (by kernel_rfl) (fun _ _ _ h => h) (Or.inl ⟨by kernel_rfl, ?_⟩) Gx0 ?_
  rotate_left
  · (intro w hSw; have c0 := nd_right hSw.out.box HQ0.out HRD.out; go_simp; try with_reducible rfl)
  try simp only [Act.put, List.setIfInBounds_toArray, List.set_cons_zero, List.set_cons_succ]
  refine wpAnyH_take (i := 15) (oi := { dst := some 26, op := _, type := _, pos := _, after := _, guard := _ }) (v := ?_) rfl (by kernel_rfl) (by kernel_rfl) (by kernel_rfl) (fun _ _ _ h => h) (Or.inl ⟨by kernel_rfl, ?_⟩) Gx0 ?_
  rotate_left
  · (intro w hSw; go_simp; try with_reducible rfl)
  try simp only [Act.put, List.setIfInBounds_toArray, List.set_cons_zero, List.set_cons_succ]
  refine wpAnyH_take (i := 16) (oi := { dst := some 27, op := _, type := _, pos := _, after := _, guard := _ }) (v := ?_) rfl (by kernel_rfl) (by kernel_rfl) (by kernel_rfl) (fun _ _ _ h => h) (Or.inl ⟨by kernel_rfl, ?_⟩) Gx0 ?_
  rotate_left
  · (intro w hSw; go_simp; try with_reducible rfl)
  try simp only [Act.put, List.setIfInBounds_toArray, List.set_cons_zero, List.set_cons_succ]
  refine wpAnyH_take (i := 17) (oi := { dst := some 28, op := _, type := _, pos := _, after := _, guard := _ }) (v := .agg ((kc HR))) rfl (by kernel_rfl) (by kernel_rfl) (by kernel_rfl) (fun _ _ _ h => h) (yieldsIf_load_mid (cs := u8s HR) (by rfl) _ _ rfl _ _ rfl _ (fun w' hSw => (FNR.out w' hSw.out.bl)) Tryz.underlying25 rfl HRI.out) Gx0 ?_
  try simp only [Act.put, List.setIfInBounds_toArray, List.set_cons_zero, List.set_cons_succ]
  refine wpAnyH_ready (rs := [18]) (by kernel_rfl) (by simp) ?_
  refine (AllReadyH.cons (o := { dst := none, op := _, type := _, pos := _, after := _, guard := _ }) rfl (fun Qc hQc => ?_) AllReadyH.nil)
  rw [if_pos (by rfl)]
  refine wp_store_row 25 (.tmp 5) (.tmp 19) rfl (w.heap.size + 1) (kc HL) rfl rfl 25 Z K2.out HKI5.out HKZ5.out (kc_one _) ?_
  have Gx1 : Hid (IP w q0 (x0.setRow (w.heap.size + 1) (kc HL))) := ⟨below_setRow Gx0.out.bl (by omega) _, Gx0.out.box.rowFar (by omega) _⟩
  have K2' := hid (K2.out.row (kc HL))
  have K3' := hid (K3.out.rowFar (g := w.heap.size + 1) (by omega) (kc HL))
  refine hQc.out _ _ Gx1 (fun hHeld => ?_)
  clear hQc Qc hHeld Gx0 K2 K3 HKI5 HKZ5
  generalize x0.setRow (w.heap.size + 1) (kc HL) = x1 at Gx1 K2' K3' ⊢
  have K2 := K2'; have K3 := K3'
  clear K2' K3'
  try simp only [Act.put, List.setIfInBounds_toArray, List.set_cons_zero, List.set_cons_succ]
  refine wpAnyH_ready (rs := [19]) (by kernel_rfl) (by simp) ?_
  refine (AllReadyH.cons (o := { dst := none, op := _, type := _, pos := _, after := _, guard := _ }) rfl (fun Qc hQc => ?_) AllReadyH.nil)
  rw [if_pos (by rfl)]
  refine wp_store_row 25 (.tmp 6) (.tmp 28) rfl (w.heap.size + 1 + 1) (kc HR) rfl rfl 25 Z K3.out HKI6.out HKZ6.out (kc_one _) ?_
  have Gx2 : Hid (IP w q0 (x1.setRow (w.heap.size + 1 + 1) (kc HR))) := ⟨below_setRow Gx1.out.bl (by omega) _, Gx1.out.box.rowFar (by omega) _⟩
  have K3' := hid (K3.out.row (kc HR))
  have K2' := hid (K2.out.rowFar (g := w.heap.size + 1 + 1) (by omega) (kc HR))
  refine hQc.out _ _ Gx2 (fun hHeld => ?_)
  clear hQc Qc hHeld Gx1 K3 K2 HKI6 HKZ6
  generalize x1.setRow (w.heap.size + 1 + 1) (kc HR) = x2 at Gx2 K3' K2' ⊢
  have K3 := K3'; have K2 := K2'
  clear K3' K2'
  try simp only [Act.put, List.setIfInBounds_toArray, List.set_cons_zero, List.set_cons_succ]
  refine wpAnyH_done (by kernel_rfl) ?_ _
  try simp only [Act.put, List.setIfInBounds_toArray, List.set_cons_zero, List.set_cons_succ]
  have K1 := hid Gx2.out.box
  have B0 := hid Gx2.out.bl
  have NA := hid (K1.out.node HQ0.out)
  clear Gx2 FC FNL FNR
  go_upto_region 7 with (first
    | (refine load_at rfl 63 (.tmp 3) rfl w.heap.size 0 rfl (nc q0) _ NA.out.all Tryz.underlying63 rfl HQ0I.out (nc q0).toArray rfl ?_)
    | (refine load_at rfl 25 (.tmp 5) rfl (w.heap.size + 1) 0 rfl (u8s HL) _ (blk_key K2.out) Tryz.underlying25 rfl HLI.out (kc HL) rfl ?_)
    | (refine load_at rfl 25 (.tmp 6) rfl (w.heap.size + 1 + 1) 0 rfl (u8s HR) _ (blk_key K3.out) Tryz.underlying25 rfl HRI.out (kc HR) rfl ?_)
    | (go_at_call 73; refine (CT.out _ B0.out).mono ?_; rintro e w1 ⟨A5, c5, rfl, h5, hf5, hb⟩; have L1 := hid (K1.out.below hb); have B1 := hid (B0.out.trans (hb.mono B0.out.size)); have CS := hid (Sum_any A5 c5 X w1 (Fresh.rp0 hf5) HXB.out HXL.out h5 (HT.out.below B1.out)); clear h5 hf5 hb)
    | (go_at_call 59; refine CS.out.mono ?_; rintro e w2 ⟨rfl, hb⟩; have L2 := hid (L1.out.below hb); have B2 := hid (B1.out.trans (hb.mono B1.out.size)); clear hb)
    | (refine store_hash rfl (.tmp 34) (.tmp 33) rfl w.heap.size rfl q0 (sum X) rfl HQ0.out HSK.out L2.out ?_; intro w3 o3 _ ob sz3; have L3 := hid o3; have B3 := hid (ob _ _ (Nat.le_refl _) B2.out); have cn : w3.cell? ⟨f, 0, none⟩ = some (.slice A n c) := CN.out w3 B3.out; clear o3 ob)
    | (go_at_call 74; refine (CK.out w3 B3.out).mono ?_; rintro e w5 ⟨rfl, b, ht, hbb, ho⟩; have PX := hid (pt_of FO.out B3.out (Nat.le_refl _) L3.out ht hbb ho); clear ht hbb ho))
  have hn2 : N.length = n := HN.out.symm
  rw [hn2] at PX
  clear cn hn2 L3 B3 L2 B2 L1 B1 CS CT CK CN NA
  have HE : Hid ({ q0 with h := sum X } = q) := HQQ.out
  rw [HE.out] at PX
  clear HE
  generalize w.heap.size = e at PX
  refine wp_region_held (S := fun w' => Hid (BoxAt e q w')) (by kernel_rfl) ?_
  change wpAnyH _ _ _ _ _ _ _ _ w5.drew
  have Gx0 : Hid (BoxAt e q w5.drew) := PX.out.box
  have PX' : Hid (PT w f g b0 b e n N A c q w5.drew) := PX.out.below ((Below.refl _ _).drew)
  clear PX
  have PX := PX'
  clear PX'
  generalize w5.drew = x0 at Gx0 PX ⊢
  refine wpAnyH_take (i := 0) (oi := { dst := some 43, op := _, type := _, pos := _, after := _, guard := _ }) (v := ?_) rfl (by kernel_rfl) (by kernel_rfl) (by kernel_rfl) (fun _ _ _ h => h) (Or.inl ⟨by kernel_rfl, ?_⟩) Gx0 ?_
  rotate_left
  · (intro w hSw; go_simp; try with_reducible rfl)
  try simp only [Act.put, List.setIfInBounds_toArray, List.set_cons_zero, List.set_cons_succ]
  refine wpAnyH_take (i := 1) (oi := { dst := some 44, op := _, type := _, pos := _, after := _, guard := _ }) (v := ?_) rfl (by kernel_rfl) (by kernel_rfl) (by kernel_rfl) (fun _ _ _ h => h) (Or.inl ⟨by kernel_rfl, ?_⟩) Gx0 ?_
  rotate_left
  · (intro w hSw; go_simp; try with_reducible rfl)
  try simp only [Act.put, List.setIfInBounds_toArray, List.set_cons_zero, List.set_cons_succ]
  refine wpAnyH_take (i := 2) (oi := { dst := some 45, op := _, type := _, pos := _, after := _, guard := _ }) (v := ?_) rfl (by kernel_rfl) (by kernel_rfl) (by kernel_rfl) (fun _ _ _ h => h) (Or.inl ⟨by kernel_rfl, ?_⟩) Gx0 ?_
  rotate_left
  · (intro w hSw; go_simp; try with_reducible rfl)
  try simp only [Act.put, List.setIfInBounds_toArray, List.set_cons_zero, List.set_cons_succ]
  refine wpAnyH_take (i := 3) (oi := { dst := some 46, op := _, type := _, pos := _, after := _, guard := _ }) (v := ?_) rfl (by kernel_rfl) (by kernel_rfl) (by kernel_rfl) (fun _ _ _ h => h) (Or.inl ⟨by kernel_rfl, ?_⟩) Gx0 ?_
  rotate_left
  · (intro w hSw; go_simp; try with_reducible rfl)
  try simp only [Act.put, List.setIfInBounds_toArray, List.set_cons_zero, List.set_cons_succ]
  refine wpAnyH_take (i := 5) (oi := { dst := some 48, op := _, type := _, pos := _, after := _, guard := _ }) (v := .agg ((nc q).toArray)) rfl (by kernel_rfl) (by kernel_rfl) (by kernel_rfl) (fun _ _ _ h => h) (yieldsIf_load_mid (cs := nc q) (by rfl) _ _ rfl _ _ rfl _ (fun w' hSw => blk_nd hSw.out) Tryz.underlying63 rfl HQI.out) Gx0 ?_
  try simp only [Act.put, List.setIfInBounds_toArray, List.set_cons_zero, List.set_cons_succ]
  refine wpAnyH_ready (rs := [4, 6]) (by kernel_rfl) (by simp) ?_
  refine (AllReadyH.cons (o := { dst := some 47, op := _, type := _, pos := _, after := _, guard := _ }) rfl (fun Qc hQc => ?_) (AllReadyH.cons (o := { dst := some 49, op := _, type := _, pos := _, after := _, guard := _ }) rfl (fun Qc hQc => ?_) AllReadyH.nil))
  ·
    have c0 : x0.cell? ⟨f, 0, none⟩ = some (.slice A n c) := PX.out.kf.cell 0
    go_simp
    refine hQc.out _ _ Gx0 (fun hHeld => ?_)
    clear hQc Qc c0
    try simp only [Act.put, List.setIfInBounds_toArray, List.set_cons_zero, List.set_cons_succ]
    refine wpAnyH_ready (rs := [6]) (by kernel_rfl) (by simp) ?_
    refine (AllReadyH.cons (o := { dst := some 49, op := _, type := _, pos := _, after := _, guard := _ }) rfl (fun Qc hQc => ?_) AllReadyH.nil)
    rw [if_pos (by rfl)]
    refine wp_node_one (.tmp 48) rfl q HQ.out rfl ?_
    have NB := hid (Blk.new x0 63 (nc q).toArray)
    have PX2 := hid (PX.out.below ((Below.refl x0.heap.size x0).alloc (Nat.le_refl _) (.cells (nc q).toArray 63)))
    have Gx1 : Hid (Blk (x0.alloc (.cells (nc q).toArray 63)) e 63 (nc q).toArray) := PX2.out.box
    refine hQc.out _ _ Gx1 (fun hHeld => ?_)
    clear hQc Qc hHeld Gx0 PX
    generalize x0.heap.size = gq at NB ⊢
    generalize x0.alloc (.cells (nc q).toArray 63) = x1 at Gx1 NB PX2 ⊢
    have PX := PX2
    clear PX2
    try simp only [Act.put, List.setIfInBounds_toArray, List.set_cons_zero, List.set_cons_succ]
    refine wpAnyH_ready (rs := [7]) (by kernel_rfl) (by simp) ?_
    refine (AllReadyH.cons (o := { dst := some 50, op := _, type := _, pos := _, after := _, guard := _ }) rfl (fun Qc hQc => ?_) AllReadyH.nil)
    rw [if_pos (by rfl)]
    refine wp_append_nd (.tmp 47) (.tmp 49) rfl (.slice A n c) N n PX.out.hn rfl PX.out.row gq 1 q rfl NB.out HQ.out HFEW.out ?_
    intro vN' x2 ow2 gr2 wh2
    obtain ⟨A', c', rfl, px2⟩ := pb_of PX.out ow2 gr2 wh2
    have PY := hid px2
    have Gx2 : Hid (Blk x2 e 63 (nc q).toArray) := px2.box
    refine hQc.out _ _ Gx2 (fun hHeld => ?_)
    clear hQc Qc hHeld Gx1 PX NB ow2 gr2 wh2 px2
    try simp only [Act.put, List.setIfInBounds_toArray, List.set_cons_zero, List.set_cons_succ]
    refine wpAnyH_take (i := 8) (oi := { dst := some 51, op := _, type := _, pos := _, after := _, guard := _ }) (v := ?_) rfl (by kernel_rfl) (by kernel_rfl) (by kernel_rfl) (fun _ _ _ h => h) (Or.inl ⟨by kernel_rfl, ?_⟩) Gx2 ?_
    rotate_left
    · (intro w hSw; go_simp; try with_reducible rfl)
    try simp only [Act.put, List.setIfInBounds_toArray, List.set_cons_zero, List.set_cons_succ]
    refine wpAnyH_take (i := 9) (oi := { dst := some 52, op := _, type := _, pos := _, after := _, guard := _ }) (v := ?_) rfl (by kernel_rfl) (by kernel_rfl) (by kernel_rfl) (fun _ _ _ h => h) (Or.inl ⟨by kernel_rfl, ?_⟩) Gx2 ?_
    rotate_left
    · (intro w hSw; go_simp; try with_reducible rfl)
    try simp only [Act.put, List.setIfInBounds_toArray, List.set_cons_zero, List.set_cons_succ]
    refine wpAnyH_ready (rs := [10]) (by kernel_rfl) (by simp) ?_
    refine (AllReadyH.cons (o := { dst := none, op := _, type := _, pos := _, after := _, guard := _ }) rfl (fun Qc hQc => ?_) AllReadyH.nil)
    have c1 : x2.cell? ⟨f, 0, none⟩ = some (.slice A n c) := PY.out.kf.cell 0
    have f1 : x2.frozen? ⟨f, 0, none⟩ = false := PY.out.kf.frozen 0
    go_simp
    clear c1 f1
    have DN := hid (PY.out.done HOK.out HFEW.out)
    have Gx3 : Hid (Blk (x2.setCell ⟨f, 0, none⟩ (Value.slice A' (n + 1) c')) e 63 (nc q).toArray) := DN.out.2
    refine hQc.out _ _ Gx3 (fun hHeld => ?_)
    clear hQc Qc hHeld Gx2 PY
    generalize x2.setCell ⟨f, 0, none⟩ (Value.slice A' (n + 1) c') = x3 at Gx3 DN ⊢
    try simp only [Act.put, List.setIfInBounds_toArray, List.set_cons_zero, List.set_cons_succ]
    refine wpAnyH_done (by kernel_rfl) ?_ _
    try simp only [Act.put, List.setIfInBounds_toArray, List.set_cons_zero, List.set_cons_succ]
    go_wp2
    go_ret
    exact ⟨rfl, DN.out.1⟩
  ·
    rw [if_pos (by rfl)]
    refine wp_node_one (.tmp 48) rfl q HQ.out rfl ?_
    have NB := hid (Blk.new x0 63 (nc q).toArray)
    have PX2 := hid (PX.out.below ((Below.refl x0.heap.size x0).alloc (Nat.le_refl _) (.cells (nc q).toArray 63)))
    have Gx4 : Hid (Blk (x0.alloc (.cells (nc q).toArray 63)) e 63 (nc q).toArray) := PX2.out.box
    refine hQc.out _ _ Gx4 (fun hHeld => ?_)
    clear hQc Qc hHeld Gx0 PX
    generalize x0.heap.size = gq at NB ⊢
    generalize x0.alloc (.cells (nc q).toArray 63) = x4 at Gx4 NB PX2 ⊢
    have PX := PX2
    clear PX2
    try simp only [Act.put, List.setIfInBounds_toArray, List.set_cons_zero, List.set_cons_succ]
    refine wpAnyH_ready (rs := [4]) (by kernel_rfl) (by simp) ?_
    refine (AllReadyH.cons (o := { dst := some 47, op := _, type := _, pos := _, after := _, guard := _ }) rfl (fun Qc hQc => ?_) AllReadyH.nil)
    have c0 : x4.cell? ⟨f, 0, none⟩ = some (.slice A n c) := PX.out.kf.cell 0
    go_simp
    refine hQc.out _ _ Gx4 (fun hHeld => ?_)
    clear hQc Qc c0
    try simp only [Act.put, List.setIfInBounds_toArray, List.set_cons_zero, List.set_cons_succ]
    refine wpAnyH_ready (rs := [7]) (by kernel_rfl) (by simp) ?_
    refine (AllReadyH.cons (o := { dst := some 50, op := _, type := _, pos := _, after := _, guard := _ }) rfl (fun Qc hQc => ?_) AllReadyH.nil)
    rw [if_pos (by rfl)]
    refine wp_append_nd (.tmp 47) (.tmp 49) rfl (.slice A n c) N n PX.out.hn rfl PX.out.row gq 1 q rfl NB.out HQ.out HFEW.out ?_
    intro vN' x5 ow2 gr2 wh2
    obtain ⟨A', c', rfl, px2⟩ := pb_of PX.out ow2 gr2 wh2
    have PY := hid px2
    have Gx5 : Hid (Blk x5 e 63 (nc q).toArray) := px2.box
    refine hQc.out _ _ Gx5 (fun hHeld => ?_)
    clear hQc Qc hHeld Gx4 PX NB ow2 gr2 wh2 px2
    try simp only [Act.put, List.setIfInBounds_toArray, List.set_cons_zero, List.set_cons_succ]
    refine wpAnyH_take (i := 8) (oi := { dst := some 51, op := _, type := _, pos := _, after := _, guard := _ }) (v := ?_) rfl (by kernel_rfl) (by kernel_rfl) (by kernel_rfl) (fun _ _ _ h => h) (Or.inl ⟨by kernel_rfl, ?_⟩) Gx5 ?_
    rotate_left
    · (intro w hSw; go_simp; try with_reducible rfl)
    try simp only [Act.put, List.setIfInBounds_toArray, List.set_cons_zero, List.set_cons_succ]
    refine wpAnyH_take (i := 9) (oi := { dst := some 52, op := _, type := _, pos := _, after := _, guard := _ }) (v := ?_) rfl (by kernel_rfl) (by kernel_rfl) (by kernel_rfl) (fun _ _ _ h => h) (Or.inl ⟨by kernel_rfl, ?_⟩) Gx5 ?_
    rotate_left
    · (intro w hSw; go_simp; try with_reducible rfl)
    try simp only [Act.put, List.setIfInBounds_toArray, List.set_cons_zero, List.set_cons_succ]
    refine wpAnyH_ready (rs := [10]) (by kernel_rfl) (by simp) ?_
    refine (AllReadyH.cons (o := { dst := none, op := _, type := _, pos := _, after := _, guard := _ }) rfl (fun Qc hQc => ?_) AllReadyH.nil)
    have c1 : x5.cell? ⟨f, 0, none⟩ = some (.slice A n c) := PY.out.kf.cell 0
    have f1 : x5.frozen? ⟨f, 0, none⟩ = false := PY.out.kf.frozen 0
    go_simp
    clear c1 f1
    have DN := hid (PY.out.done HOK.out HFEW.out)
    have Gx6 : Hid (Blk (x5.setCell ⟨f, 0, none⟩ (Value.slice A' (n + 1) c')) e 63 (nc q).toArray) := DN.out.2
    refine hQc.out _ _ Gx6 (fun hHeld => ?_)
    clear hQc Qc hHeld Gx5 PY
    generalize x5.setCell ⟨f, 0, none⟩ (Value.slice A' (n + 1) c') = x6 at Gx6 DN ⊢
    try simp only [Act.put, List.setIfInBounds_toArray, List.set_cons_zero, List.set_cons_succ]
    refine wpAnyH_done (by kernel_rfl) ?_ _
    try simp only [Act.put, List.setIfInBounds_toArray, List.set_cons_zero, List.set_cons_succ]
    go_wp2
    go_ret
    exact ⟨rfl, DN.out.1⟩
end Go.Proofs.YtjhaamffgkialaaGreatDoor
/-
  What is proved here: a leaf, an inner node more; two nodes parted; a node turned on the way up.
-/
namespace Go.Proofs.YtjhaamffgkialaaGreatDoor
open Go.ChangeShapes Go.WideShapes Go.ChangeAt Go.RowKit
set_option linter.unusedVariables false
set_option linter.unusedSimpArgs false
set_option maxRecDepth 20000

def hLf (k v : List Int) : List Int := sum (leafT k v)
def hIn (n : Nat) (b l r : List Int) : List Int := sum (innerT n b l r)
section
variable {w : World} {f g b0 : Nat} {N : List Nd} {A : Option Addr} {c : Nat} {tv : Value}
theorem AddA.base {w1 w' : World} {n : Nat} {N' : List Nd} {e : Ending} (h : AddA w1 f g b0 n N' e w') (hb : Below w.heap.size w w1) : AddA w f g b0 n N' e w' := by
  obtain ⟨he, g', b', A', c', tv', h1, h2, h3, h4⟩ := h
  exact ⟨he, g', b', A', c', tv', h1, h2.imp id (fun h => Nat.le_trans hb.size h), h3.imp id (fun h => Nat.le_trans hb.size h), (OnlyS.of_below hb (Nat.le_refl _)).trans h4⟩
theorem AddA.to {w1 w' : World} {n : Nat} {N' : List Nd} {e : Ending} (h : AddA w1 f g b0 n N' e w') (hb : Below w.heap.size w w1) : e = .returned (.int .i64 n) ∧ Grew w f g b0 N' w' := h.base hb
set_option maxHeartbeats 2000000 in
theorem xleaf_at (h : Fo w f g b0 N A c tv) (K V : List Int) (hK : Ky K) (hV : Ky V) (hlen : N.length < 1048576) (ht : Tab w) :
    Calls Tryz.prog 28 #[.pointer (some ⟨f, 0, none⟩), .agg (kc K), .agg (kc V)] w (AddA w f g b0 N.length (N ++ [ndL K V (hLf K V)])) := by
  obtain ⟨hk1, hk2, hb0⟩ := one_blks w (kc K) (kc V) 25 25
  have K1 := hid hk1; have K2 := hid hk2; have B0 := hid hb0
  have hbt := leaf_built hK hV
  have HI1 := hid (u8s_info hK); have HI2 := hid (u8s_info hV)
  have CA := hid (xadd_leaf (h.below hb0) (ndL K V z32) ⟨hK, hV, ky_zero, ky_zero⟩ rfl hlen (ht.below hb0))
  have e : (ndL K V z32).full N = ndL K V (hLf K V) := rfl
  rw [e] at CA
  generalize (nc (ndL K V z32)).toArray = CL at CA hbt
  clear hk1 hk2 hb0 h hK hV ht hlen e
  generalize N ++ [ndL K V (hLf K V)] = N' at CA ⊢
  generalize N.length = n at CA ⊢
  go_enter Tryz.func28, Tryz.ntmps28
  go_wp2_with (first
    | (refine load_at rfl 25 (.tmp 4) rfl w.heap.size 0 rfl (u8s K) _ (blk_key K1.out) Tryz.underlying25 rfl HI1.out (kc K) rfl ?_)
    | (refine load_at rfl 25 (.tmp 5) rfl (w.heap.size + 1) 0 rfl (u8s V) _ (blk_key K2.out) Tryz.underlying25 rfl HI2.out (kc V) rfl ?_)
    | (refine wpList_buildC rfl 63 _ rfl CL ?hc ?_; case hc => (simp only [List.map_toArray, List.map_cons, List.map_nil, Act.eval]; exact hbt))
    | (go_at_call 51; refine CA.out.mono ?_; rintro e w1 hw; obtain ⟨rfl, hg⟩ := hw.to B0.out; have HG := hid hg; clear hg))
  go_ret
  exact ⟨rfl, HG.out⟩
set_option maxHeartbeats 2000000 in
theorem xinner_at (h : Fo w f g b0 N A c tv) (n : Nat) (B : List Int) (a d : Nat) (hB : Ky B) (hn : n ≤ 65535) (ha : a < N.length) (hd : d < N.length) (hlen : N.length < 1048576) (ht : Tab w) :
    Calls Tryz.prog 55 #[.pointer (some ⟨f, 0, none⟩), .agg (pc n B), .int .i64 a, .int .i64 d] w (AddA w f g b0 N.length (N ++ [ndI n B a d (hIn n B (hashN N a) (hashN N d))])) := by
  have K1 : Hid (Blk (w.alloc (.cells (pc n B) 47)) w.heap.size 47 (pc n B)) := Blk.new w 47 _
  have B0 : Hid (Below w.heap.size w (w.alloc (.cells (pc n B) 47))) := (Below.refl _ _).alloc (Nat.le_refl _) _
  have hbt := inner_built (n := n) (l := a) (r := d) hB
  have HI1 := hid (pcl_info n hB)
  have CA := hid (xadd_inner (h.below B0.out) (ndI0 n B a d) ⟨ky_zero, ky_zero, hB, ky_zero⟩ rfl a d rfl rfl ha hd ⟨by show (0 : Int) ≤ (n : Int); omega, by show (n : Int) ≤ 65535; omega⟩ hlen (ht.below B0.out))
  have e : (ndI0 n B a d).full N = ndI n B a d (hIn n B (hashN N a) (hashN N d)) := rfl
  rw [e] at CA
  generalize (nc (ndI0 n B a d)).toArray = CL at CA hbt
  clear h hB ht hlen e ha hd
  generalize N ++ [ndI n B a d (hIn n B (hashN N a) (hashN N d))] = N' at CA ⊢
  generalize N.length = m at CA ⊢
  go_enter Tryz.func55, Tryz.ntmps55
  go_wp2_with (first
    | (refine load_at rfl 47 (.tmp 5) rfl w.heap.size 0 rfl (.int .i64 n :: u8s B) _ (blk_pre K1.out) Tryz.underlying47 rfl HI1.out (pc n B) rfl ?_)
    | (refine wpList_buildC rfl 63 _ rfl CL ?hc ?_; case hc => (simp only [List.map_toArray, List.map_cons, List.map_nil, Act.eval]; exact hbt))
    | (go_at_call 51; refine CA.out.mono ?_; rintro e w1 hw; obtain ⟨rfl, hg⟩ := hw.to B0.out; have HG := hid hg; clear hg))
  go_ret
  exact ⟨rfl, HG.out⟩
set_option maxHeartbeats 4000000 in
theorem xturned_at (h : Fo w f g b0 N A c tv) (i j a d n : Nat) (q : Nd) (hi : N[i]? = some q) (hj : j < N.length) (hqn : q.n = n) (hqa : q.l = a) (hqd : q.r = d) (ha : a < N.length) (hd : d < N.length) (hn : n ≤ 255) (K : List Int) (hK : Ky K) (hlen : N.length < 1048576) (ht : Tab w) :
    Calls Tryz.prog 31 #[.pointer (some ⟨f, 0, none⟩), .int .i64 i, .int .i64 j, .agg (kc K)] w
      (AddA w f g b0 N.length (N ++ [if bit K n = 1 then ndI n q.b a j (hIn n q.b (hashN N a) (hashN N j)) else ndI n q.b j d (hIn n q.b (hashN N j) (hashN N d))])) := by
  obtain ⟨Z, HZ, hZ0, hZs⟩ := zero_node
  have hq := h.ok q (List.mem_of_getElem? hi)
  have K1 : Hid (Blk (w.alloc (.cells (kc K) 25)) w.heap.size 25 (kc K)) := Blk.new w 25 _
  have B0 : Hid (Below w.heap.size w (w.alloc (.cells (kc K) 25))) := (Below.refl _ _).alloc (Nat.le_refl _) _
  have F1 := h.below B0.out
  have S0 : (w.alloc (.cells (kc K) 25)).heap.size = w.heap.size + 1 := by simp
  obtain ⟨rfl, na⟩ := F1.node hi
  have NA := hid na.all
  have HKI := hid (u8s_info hK)
  have HQI := hid (node_info hq); have HQI2 := hid (node_info2 hq)
  have HQ := hid hq
  have hzs : Hid (Z.size = (nc q).toArray.size) := by show _ = _; rw [HZ.out, List.size_toArray, List.size_toArray, ndZ_ok.nc, hq.nc]
  have HPI := hid (pcl_info n hq.b)
  have CB := hid (fun w => pBit_any K hK n w)
  rw [bitI_in K n (by omega)] at CB
  have CI1 := hid (fun w1 (hb : Below w.heap.size w w1) => xinner_at (h.below hb) n q.b a j hq.b (by omega) ha hj hlen (ht.below hb))
  have CI2 := hid (fun w1 (hb : Below w.heap.size w w1) => xinner_at (h.below hb) n q.b j d hq.b (by omega) hj hd hlen (ht.below hb))
  have hlt : i < N.length := (List.getElem?_eq_some_iff.1 hi).1
  have cn : (w.alloc (.cells (kc K) 25)).cell? ⟨f, 0, none⟩ = some (.slice (some ⟨g, 0, none⟩) N.length c) := F1.kf.cell 0
  have HN1 := hid hqn; have HA1 := hid hqa; have HD1 := hid hqd
  generalize ndI n q.b a j (hIn n q.b (hashN N a) (hashN N j)) = N1 at CI1 ⊢
  generalize ndI n q.b j d (hIn n q.b (hashN N j) (hashN N d)) = N2 at CI2 ⊢
  obtain ⟨m, hm⟩ : ∃ m, m = N.length := ⟨_, rfl⟩
  rw [← hm] at cn hlt CI1 CI2 ⊢
  have h01 := bit01 K n
  obtain ⟨x, hx⟩ : ∃ x, x = bit K n := ⟨_, rfl⟩
  rw [← hx] at CB h01 ⊢
  clear h hi F1 na hq hK ht hlen ha hd hj hm hqn hqa hqd hx hn
  have big : ∀ (y : World), Hid (Blk y (w.heap.size + 1) 63 (nc q).toArray) → Hid (y.cell? ⟨w.heap.size + 1, 65, none⟩ = some (.int .i64 n)) ∧ Hid (y.cell? ⟨w.heap.size + 1, 98, none⟩ = some (.int .i64 a)) ∧ Hid (y.cell? ⟨w.heap.size + 1, 99, none⟩ = some (.int .i64 d)) ∧ Hid (y.rangeAt (w.heap.size + 1) 65 (.int .i64 n :: u8s q.b)) := fun y hy => by
    have nd := hy.out.node HQ.out
    have c1 := nd.len; have c2 := nd.left; have c3 := nd.right; have c4 := nd.pre
    rw [Nat.zero_add] at c1 c2 c3 c4
    rw [HN1.out] at c1 c4
    rw [HA1.out] at c2
    rw [HD1.out] at c3
    exact ⟨c1, c2, c3, c4⟩
  have BIG := hid big
  clear big HN1 HA1 HD1
  go_enter Tryz.func31, Tryz.ntmps31
  go_upto_region 2 with (first
    | (refine load_at rfl 63 (.tmp 15) rfl g (i * 132) rfl (nc q) _ NA.out Tryz.underlying63 rfl HQI.out (nc q).toArray rfl ?_)
    | (refine wpList_store_row rfl 63 (.tmp 9) (.tmp 16) rfl (w.heap.size + 1) (nc q).toArray rfl rfl 63 Z (by have := Blk.new (w.alloc (.cells (kc K) 25)) 63 Z; rw [World.size_alloc] at this; exact this) HQI2.out hzs.out (nc_one2 _) ?_))
  have KN : Hid (Blk (((w.alloc (.cells (kc K) 25)).alloc (.cells Z 63)).setRow (w.heap.size + 1) (nc q).toArray) (w.heap.size + 1) 63 (nc q).toArray) := by
    have := (Blk.new (w.alloc (.cells (kc K) 25)) 63 Z).row (nc q).toArray
    rw [World.size_alloc] at this
    exact this
  have KK := hid ((K1.out.alloc (.cells Z 63)).rowFar (g := w.heap.size + 1) (by omega) (nc q).toArray)
  have B2 : Hid (Below w.heap.size w (((w.alloc (.cells (kc K) 25)).alloc (.cells Z 63)).setRow (w.heap.size + 1) (nc q).toArray)) := below_setRow (B0.out.alloc (by simp) _) (by omega) _
  clear cn NA K1 B0 hzs
  generalize ((w.alloc (.cells (kc K) 25)).alloc (.cells Z 63)).setRow (w.heap.size + 1) (nc q).toArray = w2 at KN KK B2 ⊢
  have cl : w2.cell? ⟨w.heap.size + 1, 65, none⟩ = some (.int .i64 n) := (BIG.out w2 KN).1.out
  rcases h01 with rfl | rfl
  · go_wp2_with (first
      | (refine load_at rfl 25 (.tmp 7) rfl w.heap.size 0 rfl (u8s K) _ (blk_key KK.out) Tryz.underlying25 rfl HKI.out (kc K) rfl ?_)
      | (go_at_call 50; refine (CB.out _).mono ?_; rintro e w3 ⟨rfl, hb⟩; have KN3 := hid (KN.out.below hb); have B3 := hid (B2.out.trans (hb.mono B2.out.size)); have PRE := (BIG.out w3 KN3).2.2.2; have c99 : w3.cell? ⟨w.heap.size + 1, 99, none⟩ = some (.int .i64 d) := (BIG.out w3 KN3).2.2.1.out; clear hb)
      | (refine load_at rfl 47 (.tmp 31) rfl (w.heap.size + 1) 65 rfl (.int .i64 n :: u8s q.b) _ PRE.out Tryz.underlying47 rfl HPI.out (pc n q.b) rfl ?_)
      | (go_at_call 55; refine (CI2.out _ B3.out).mono ?_; rintro e w4 hw; obtain ⟨rfl, hg⟩ := hw.to B3.out; have HG := hid hg; clear hg))
    go_ret
    exact ⟨rfl, HG.out⟩
  · go_wp2_with (first
      | (refine load_at rfl 25 (.tmp 7) rfl w.heap.size 0 rfl (u8s K) _ (blk_key KK.out) Tryz.underlying25 rfl HKI.out (kc K) rfl ?_)
      | (go_at_call 50; refine (CB.out _).mono ?_; rintro e w3 ⟨rfl, hb⟩; have KN3 := hid (KN.out.below hb); have B3 := hid (B2.out.trans (hb.mono B2.out.size)); have PRE := (BIG.out w3 KN3).2.2.2; have c98 : w3.cell? ⟨w.heap.size + 1, 98, none⟩ = some (.int .i64 a) := (BIG.out w3 KN3).2.1.out; clear hb)
      | (refine load_at rfl 47 (.tmp 24) rfl (w.heap.size + 1) 65 rfl (.int .i64 n :: u8s q.b) _ PRE.out Tryz.underlying47 rfl HPI.out (pc n q.b) rfl ?_)
      | (go_at_call 55; refine (CI1.out _ B3.out).mono ?_; rintro e w4 hw; obtain ⟨rfl, hg⟩ := hw.to B3.out; have HG := hid hg; clear hg))
    go_ret
    exact ⟨rfl, HG.out⟩
end
end Go.Proofs.YtjhaamffgkialaaGreatDoor
/-
  What is proved here: an inner node put above a key's leaf and a node that doesn't hold the key.
-/
namespace Go.Proofs.YtjhaamffgkialaaGreatDoor
open Go.ChangeShapes Go.WideShapes Go.ChangeAt Go.RowKit
set_option linter.unusedVariables false
set_option linter.unusedSimpArgs false
set_option maxRecDepth 20000

section
variable {w : World} {f g b0 : Nat} {N : List Nd} {A : Option Addr} {c : Nat} {tv : Value}
set_option maxHeartbeats 8000000 in
theorem xfork_at (h : Fo w f g b0 N A c tv) (i j m : Nat) (q : Nd) (hi : N[i]? = some q) (hj : j < N.length) (K B : List Int) (hK : Ky K) (hB : Ky B) (hm : m < 256) (hMe : meetV q.pn q.pb 256 K = pc m B) (hlen : N.length < 1048576) (ht : Tab w) :
    Calls Tryz.prog 29 #[.pointer (some ⟨f, 0, none⟩), .int .i64 i, .int .i64 j, .agg (kc K)] w
      (AddA w f g b0 N.length (N ++ [if bit K m = 1 then ndI m B i j (hIn m B (hashN N i) (hashN N j)) else ndI m B j i (hIn m B (hashN N j) (hashN N i))])) := by
  obtain ⟨Z, HZ, hZ0, hZs⟩ := zero_pre
  have hq := h.ok q (List.mem_of_getElem? hi)
  have hlt : i < N.length := (List.getElem?_eq_some_iff.1 hi).1
  have K1 : Hid (Blk (w.alloc (.cells (kc K) 25)) w.heap.size 25 (kc K)) := Blk.new w 25 _
  have B0 : Hid (Below w.heap.size w (w.alloc (.cells (kc K) 25))) := (Below.refl _ _).alloc (Nat.le_refl _) _
  have HKI := hid (u8s_info hK)
  have HPI := hid (pc_info m hB)
  have HPL := hid (pcl_info m hB)
  have HPZ : Hid (Z.size = (pc m B).size) := by show _ = _; rw [HZ.out, pc_size _ zk_ky, pc_size _ hB]
  have CH0 := fun w1 (hb : Below w.heap.size w w1) => xholder_at (h.below hb) i q hi
  have CC := hid (fun w => pcut_all hK w)
  have CM := hid (fun w => pMeet_any q.pn 256 q.pb K (Nd.pb_ky hq) hK w)
  rw [hMe] at CM
  have CB := hid (fun w => pBit_any K hK m w)
  rw [bitI_in K m hm] at CB
  have CI1 := hid (fun w1 (hb : Below w.heap.size w w1) => xinner_at (h.below hb) m B i j hB (by omega) hlt hj hlen (ht.below hb))
  have CI2 := hid (fun w1 (hb : Below w.heap.size w w1) => xinner_at (h.below hb) m B j i hB (by omega) hj hlt hlen (ht.below hb))
  generalize ndI m B i j (hIn m B (hashN N i) (hashN N j)) = N1 at CI1 ⊢
  generalize ndI m B j i (hIn m B (hashN N j) (hashN N i)) = N2 at CI2 ⊢
  obtain ⟨n, hn⟩ : ∃ n, n = N.length := ⟨_, rfl⟩
  rw [← hn] at CI1 CI2 ⊢
  have h01 := bit01 K m
  obtain ⟨x, hx⟩ : ∃ x, x = bit K m := ⟨_, rfl⟩
  rw [← hx] at CB h01 ⊢
  have FO := hid h
  generalize q.pn = qn at CH0 CM
  generalize q.pb = qb at CH0 CM
  clear h hi hq hK hB hm hMe hlen ht hlt hj hn hx
  go_enter Tryz.func29, Tryz.ntmps29
  go_upto_region 1 with (fail)
  have CH := hid (fun w1 (hb : Below (w.alloc (.cells (kc K) 25)).heap.size (w.alloc (.cells (kc K) 25)) w1) => CH0 w1 (B0.out.trans (hb.mono B0.out.size)))
  clear CH0
  generalize w.alloc (.cells (kc K) 25) = w0 at K1 B0 CH ⊢
  go_cut [9] (fun s9 wx => ∃ g5, s9 = .pointer (some ⟨g5, 0, none⟩) ∧ Hid (Blk wx g5 47 (pc m B)) ∧ Hid (Below w0.heap.size w0 wx) ∧ Hid (w0.heap.size ≤ g5))
  case first =>
    refine wp_region_held (S := fun w' => Hid (Below w0.heap.size w0 w')) (by kernel_rfl) ?_
    change wpAnyH _ _ _ _ _ _ _ _ w0.drew
    have Gx0 : Hid (Below w0.heap.size w0 w0.drew) := (Below.refl _ _).drew
    generalize w0.drew = x0 at Gx0  ⊢
    refine wpAnyH_take (i := 0) (oi := { dst := some 10, op := _, type := _, pos := _, after := _, guard := _ }) (v := ?_) rfl (by kernel_rfl) (by kernel_rfl) (by kernel_rfl) (fun _ _ _ h => h) (Or.inl ⟨by kernel_rfl, ?_⟩) Gx0 ?_
    rotate_left
    · (intro w hSw; go_simp; try with_reducible rfl)
    try simp only [Act.put, List.setIfInBounds_toArray, List.set_cons_zero, List.set_cons_succ]
    refine wpAnyH_take (i := 1) (oi := { dst := some 11, op := _, type := _, pos := _, after := _, guard := _ }) (v := ?_) rfl (by kernel_rfl) (by kernel_rfl) (by kernel_rfl) (fun _ _ _ h => h) (Or.inl ⟨by kernel_rfl, ?_⟩) Gx0 ?_
    rotate_left
    · (intro w hSw; go_simp; try with_reducible rfl)
    try simp only [Act.put, List.setIfInBounds_toArray, List.set_cons_zero, List.set_cons_succ]
    refine wpAnyH_take (i := 3) (oi := { dst := some 13, op := _, type := _, pos := _, after := _, guard := _ }) (v := .agg ((kc K))) rfl (by kernel_rfl) (by kernel_rfl) (by kernel_rfl) (fun _ _ _ h => h) (yieldsIf_load_mid (cs := u8s K) (by rfl) _ _ rfl _ _ rfl _ (fun w' hSw => blk_key (K1.out.below hSw.out)) Tryz.underlying25 rfl HKI.out) Gx0 ?_
    try simp only [Act.put, List.setIfInBounds_toArray, List.set_cons_zero, List.set_cons_succ]
    refine wpAnyH_ready (rs := [2, 6]) (by kernel_rfl) (by simp) ?_
    refine (AllReadyH.cons (o := { dst := some 12, op := _, type := _, pos := _, after := _, guard := _ }) rfl (fun Qc hQc => ?_) (AllReadyH.cons (o := { dst := some 9, op := _, type := _, pos := _, after := _, guard := _ }) rfl (fun Qc hQc => ?_) AllReadyH.nil))
    ·
      go_simp
      go_at_call 53
      refine (CH.out x0 Gx0.out).mono ?_
      rintro e x1 ⟨rfl, hb⟩
      have Gx1 := hid (Gx0.out.trans (hb.mono Gx0.out.size))
      clear hb
      go_wp2_with fail
      refine hQc.out _ _ Gx1 (fun hHeld => ?_)
      clear hQc Qc hHeld
      try simp only [Act.put, List.setIfInBounds_toArray, List.set_cons_zero, List.set_cons_succ]
      refine wpAnyH_ready (rs := [4, 6]) (by kernel_rfl) (by simp) ?_
      refine (AllReadyH.cons (o := { dst := some 14, op := _, type := _, pos := _, after := _, guard := _ }) rfl (fun Qc hQc => ?_) (AllReadyH.cons (o := { dst := some 9, op := _, type := _, pos := _, after := _, guard := _ }) rfl (fun Qc hQc => ?_) AllReadyH.nil))
      ·
        go_simp
        go_at_call 54
        refine (CC.out x1).mono ?_
        rintro e x2 ⟨rfl, hb⟩
        have Gx2 := hid (Gx1.out.trans (hb.mono Gx1.out.size))
        clear hb
        go_wp2_with fail
        refine hQc.out _ _ Gx2 (fun hHeld => ?_)
        clear hQc Qc hHeld
        try simp only [Act.put, List.setIfInBounds_toArray, List.set_cons_zero, List.set_cons_succ]
        refine wpAnyH_ready (rs := [5, 6]) (by kernel_rfl) (by simp) ?_
        refine (AllReadyH.cons (o := { dst := some 15, op := _, type := _, pos := _, after := _, guard := _ }) rfl (fun Qc hQc => ?_) (AllReadyH.cons (o := { dst := some 9, op := _, type := _, pos := _, after := _, guard := _ }) rfl (fun Qc hQc => ?_) AllReadyH.nil))
        ·
          go_simp
          go_at_call 52
          refine (CM.out x2).mono ?_
          rintro e x3 ⟨rfl, hb⟩
          have Gx3 := hid (Gx2.out.trans (hb.mono Gx2.out.size))
          clear hb
          go_wp2_with fail
          refine hQc.out _ _ Gx3 (fun hHeld => ?_)
          clear hQc Qc hHeld
          try simp only [Act.put, List.setIfInBounds_toArray, List.set_cons_zero, List.set_cons_succ]
          refine wpAnyH_ready (rs := [6]) (by kernel_rfl) (by simp) ?_
          refine (AllReadyH.cons (o := { dst := some 9, op := _, type := _, pos := _, after := _, guard := _ }) rfl (fun Qc hQc => ?_) AllReadyH.nil)
          go_simp
          have NBx4 : Hid (Blk (x3.alloc (.cells Z 47)) x3.heap.size 47 Z) := Blk.new x3 47 Z
          have Gx4 := hid (Gx3.out.alloc Gx3.out.size (.cells Z 47))
          have GE5 : Hid (w0.heap.size ≤ x3.heap.size) := Gx3.out.size
          refine hQc.out _ _ Gx4 (fun hHeld => ?_)
          clear hQc Qc hHeld
          generalize x3.heap.size = g5 at NBx4 GE5 ⊢
          generalize x3.alloc (.cells Z 47) = x4 at NBx4 Gx4 ⊢
          try simp only [Act.put, List.setIfInBounds_toArray, List.set_cons_zero, List.set_cons_succ]
          refine wpAnyH_ready (rs := [7]) (by kernel_rfl) (by simp) ?_
          refine (AllReadyH.cons (o := { dst := none, op := _, type := _, pos := _, after := _, guard := _ }) rfl (fun Qc hQc => ?_) AllReadyH.nil)
          rw [if_pos (by rfl)]
          refine wp_store_row 47 (.tmp 9) (.tmp 15) rfl g5 (pc m B) rfl rfl 47 Z NBx4.out HPI.out HPZ.out (pc_one _ _) ?_
          have Gx5 : Hid (Below w0.heap.size w0 (x4.setRow g5 (pc m B))) := below_setRow Gx4.out GE5.out _
          have KP := hid (NBx4.out.row (pc m B))
          refine hQc.out _ _ Gx5 (fun hHeld => ?_)
          clear hQc Qc hHeld
          generalize x4.setRow g5 (pc m B) = x5 at Gx5 KP ⊢
          try simp only [Act.put, List.setIfInBounds_toArray, List.set_cons_zero, List.set_cons_succ]
          refine wpAnyH_done (by kernel_rfl) ?_ _
          try simp only [Act.put, List.setIfInBounds_toArray, List.set_cons_zero, List.set_cons_succ]
          go_wp2
          go_meet
          exact ⟨g5, rfl, KP, Gx5, GE5⟩
        ·
          go_simp
          have NBx6 : Hid (Blk (x2.alloc (.cells Z 47)) x2.heap.size 47 Z) := Blk.new x2 47 Z
          have Gx6 := hid (Gx2.out.alloc Gx2.out.size (.cells Z 47))
          have GE5 : Hid (w0.heap.size ≤ x2.heap.size) := Gx2.out.size
          refine hQc.out _ _ Gx6 (fun hHeld => ?_)
          clear hQc Qc hHeld
          generalize x2.heap.size = g5 at NBx6 GE5 ⊢
          generalize x2.alloc (.cells Z 47) = x6 at NBx6 Gx6 ⊢
          try simp only [Act.put, List.setIfInBounds_toArray, List.set_cons_zero, List.set_cons_succ]
          refine wpAnyH_ready (rs := [5]) (by kernel_rfl) (by simp) ?_
          refine (AllReadyH.cons (o := { dst := some 15, op := _, type := _, pos := _, after := _, guard := _ }) rfl (fun Qc hQc => ?_) AllReadyH.nil)
          go_simp
          go_at_call 52
          refine (CM.out x6).mono ?_
          rintro e x7 ⟨rfl, hb⟩
          have Gx7 := hid (Gx6.out.trans (hb.mono Gx6.out.size))
          have NBx7 := hid (NBx6.out.below hb)
          clear hb
          go_wp2_with fail
          refine hQc.out _ _ Gx7 (fun hHeld => ?_)
          clear hQc Qc hHeld
          try simp only [Act.put, List.setIfInBounds_toArray, List.set_cons_zero, List.set_cons_succ]
          refine wpAnyH_ready (rs := [7]) (by kernel_rfl) (by simp) ?_
          refine (AllReadyH.cons (o := { dst := none, op := _, type := _, pos := _, after := _, guard := _ }) rfl (fun Qc hQc => ?_) AllReadyH.nil)
          rw [if_pos (by rfl)]
          refine wp_store_row 47 (.tmp 9) (.tmp 15) rfl g5 (pc m B) rfl rfl 47 Z NBx7.out HPI.out HPZ.out (pc_one _ _) ?_
          have Gx8 : Hid (Below w0.heap.size w0 (x7.setRow g5 (pc m B))) := below_setRow Gx7.out GE5.out _
          have KP := hid (NBx7.out.row (pc m B))
          refine hQc.out _ _ Gx8 (fun hHeld => ?_)
          clear hQc Qc hHeld
          generalize x7.setRow g5 (pc m B) = x8 at Gx8 KP ⊢
          try simp only [Act.put, List.setIfInBounds_toArray, List.set_cons_zero, List.set_cons_succ]
          refine wpAnyH_done (by kernel_rfl) ?_ _
          try simp only [Act.put, List.setIfInBounds_toArray, List.set_cons_zero, List.set_cons_succ]
          go_wp2
          go_meet
          exact ⟨g5, rfl, KP, Gx8, GE5⟩
      ·
        go_simp
        have NBx9 : Hid (Blk (x1.alloc (.cells Z 47)) x1.heap.size 47 Z) := Blk.new x1 47 Z
        have Gx9 := hid (Gx1.out.alloc Gx1.out.size (.cells Z 47))
        have GE5 : Hid (w0.heap.size ≤ x1.heap.size) := Gx1.out.size
        refine hQc.out _ _ Gx9 (fun hHeld => ?_)
        clear hQc Qc hHeld
        generalize x1.heap.size = g5 at NBx9 GE5 ⊢
        generalize x1.alloc (.cells Z 47) = x9 at NBx9 Gx9 ⊢
        try simp only [Act.put, List.setIfInBounds_toArray, List.set_cons_zero, List.set_cons_succ]
        refine wpAnyH_ready (rs := [4]) (by kernel_rfl) (by simp) ?_
        refine (AllReadyH.cons (o := { dst := some 14, op := _, type := _, pos := _, after := _, guard := _ }) rfl (fun Qc hQc => ?_) AllReadyH.nil)
        go_simp
        go_at_call 54
        refine (CC.out x9).mono ?_
        rintro e x10 ⟨rfl, hb⟩
        have Gx10 := hid (Gx9.out.trans (hb.mono Gx9.out.size))
        have NBx10 := hid (NBx9.out.below hb)
        clear hb
        go_wp2_with fail
        refine hQc.out _ _ Gx10 (fun hHeld => ?_)
        clear hQc Qc hHeld
        try simp only [Act.put, List.setIfInBounds_toArray, List.set_cons_zero, List.set_cons_succ]
        refine wpAnyH_ready (rs := [5]) (by kernel_rfl) (by simp) ?_
        refine (AllReadyH.cons (o := { dst := some 15, op := _, type := _, pos := _, after := _, guard := _ }) rfl (fun Qc hQc => ?_) AllReadyH.nil)
        go_simp
        go_at_call 52
        refine (CM.out x10).mono ?_
        rintro e x11 ⟨rfl, hb⟩
        have Gx11 := hid (Gx10.out.trans (hb.mono Gx10.out.size))
        have NBx11 := hid (NBx10.out.below hb)
        clear hb
        go_wp2_with fail
        refine hQc.out _ _ Gx11 (fun hHeld => ?_)
        clear hQc Qc hHeld
        try simp only [Act.put, List.setIfInBounds_toArray, List.set_cons_zero, List.set_cons_succ]
        refine wpAnyH_ready (rs := [7]) (by kernel_rfl) (by simp) ?_
        refine (AllReadyH.cons (o := { dst := none, op := _, type := _, pos := _, after := _, guard := _ }) rfl (fun Qc hQc => ?_) AllReadyH.nil)
        rw [if_pos (by rfl)]
        refine wp_store_row 47 (.tmp 9) (.tmp 15) rfl g5 (pc m B) rfl rfl 47 Z NBx11.out HPI.out HPZ.out (pc_one _ _) ?_
        have Gx12 : Hid (Below w0.heap.size w0 (x11.setRow g5 (pc m B))) := below_setRow Gx11.out GE5.out _
        have KP := hid (NBx11.out.row (pc m B))
        refine hQc.out _ _ Gx12 (fun hHeld => ?_)
        clear hQc Qc hHeld
        generalize x11.setRow g5 (pc m B) = x12 at Gx12 KP ⊢
        try simp only [Act.put, List.setIfInBounds_toArray, List.set_cons_zero, List.set_cons_succ]
        refine wpAnyH_done (by kernel_rfl) ?_ _
        try simp only [Act.put, List.setIfInBounds_toArray, List.set_cons_zero, List.set_cons_succ]
        go_wp2
        go_meet
        exact ⟨g5, rfl, KP, Gx12, GE5⟩
    ·
      go_simp
      have NBx13 : Hid (Blk (x0.alloc (.cells Z 47)) x0.heap.size 47 Z) := Blk.new x0 47 Z
      have Gx13 := hid (Gx0.out.alloc Gx0.out.size (.cells Z 47))
      have GE5 : Hid (w0.heap.size ≤ x0.heap.size) := Gx0.out.size
      refine hQc.out _ _ Gx13 (fun hHeld => ?_)
      clear hQc Qc hHeld
      generalize x0.heap.size = g5 at NBx13 GE5 ⊢
      generalize x0.alloc (.cells Z 47) = x13 at NBx13 Gx13 ⊢
      try simp only [Act.put, List.setIfInBounds_toArray, List.set_cons_zero, List.set_cons_succ]
      refine wpAnyH_ready (rs := [2]) (by kernel_rfl) (by simp) ?_
      refine (AllReadyH.cons (o := { dst := some 12, op := _, type := _, pos := _, after := _, guard := _ }) rfl (fun Qc hQc => ?_) AllReadyH.nil)
      go_simp
      go_at_call 53
      refine (CH.out x13 Gx13.out).mono ?_
      rintro e x14 ⟨rfl, hb⟩
      have Gx14 := hid (Gx13.out.trans (hb.mono Gx13.out.size))
      have NBx14 := hid (NBx13.out.below hb)
      clear hb
      go_wp2_with fail
      refine hQc.out _ _ Gx14 (fun hHeld => ?_)
      clear hQc Qc hHeld
      try simp only [Act.put, List.setIfInBounds_toArray, List.set_cons_zero, List.set_cons_succ]
      refine wpAnyH_ready (rs := [4]) (by kernel_rfl) (by simp) ?_
      refine (AllReadyH.cons (o := { dst := some 14, op := _, type := _, pos := _, after := _, guard := _ }) rfl (fun Qc hQc => ?_) AllReadyH.nil)
      go_simp
      go_at_call 54
      refine (CC.out x14).mono ?_
      rintro e x15 ⟨rfl, hb⟩
      have Gx15 := hid (Gx14.out.trans (hb.mono Gx14.out.size))
      have NBx15 := hid (NBx14.out.below hb)
      clear hb
      go_wp2_with fail
      refine hQc.out _ _ Gx15 (fun hHeld => ?_)
      clear hQc Qc hHeld
      try simp only [Act.put, List.setIfInBounds_toArray, List.set_cons_zero, List.set_cons_succ]
      refine wpAnyH_ready (rs := [5]) (by kernel_rfl) (by simp) ?_
      refine (AllReadyH.cons (o := { dst := some 15, op := _, type := _, pos := _, after := _, guard := _ }) rfl (fun Qc hQc => ?_) AllReadyH.nil)
      go_simp
      go_at_call 52
      refine (CM.out x15).mono ?_
      rintro e x16 ⟨rfl, hb⟩
      have Gx16 := hid (Gx15.out.trans (hb.mono Gx15.out.size))
      have NBx16 := hid (NBx15.out.below hb)
      clear hb
      go_wp2_with fail
      refine hQc.out _ _ Gx16 (fun hHeld => ?_)
      clear hQc Qc hHeld
      try simp only [Act.put, List.setIfInBounds_toArray, List.set_cons_zero, List.set_cons_succ]
      refine wpAnyH_ready (rs := [7]) (by kernel_rfl) (by simp) ?_
      refine (AllReadyH.cons (o := { dst := none, op := _, type := _, pos := _, after := _, guard := _ }) rfl (fun Qc hQc => ?_) AllReadyH.nil)
      rw [if_pos (by rfl)]
      refine wp_store_row 47 (.tmp 9) (.tmp 15) rfl g5 (pc m B) rfl rfl 47 Z NBx16.out HPI.out HPZ.out (pc_one _ _) ?_
      have Gx17 : Hid (Below w0.heap.size w0 (x16.setRow g5 (pc m B))) := below_setRow Gx16.out GE5.out _
      have KP := hid (NBx16.out.row (pc m B))
      refine hQc.out _ _ Gx17 (fun hHeld => ?_)
      clear hQc Qc hHeld
      generalize x16.setRow g5 (pc m B) = x17 at Gx17 KP ⊢
      try simp only [Act.put, List.setIfInBounds_toArray, List.set_cons_zero, List.set_cons_succ]
      refine wpAnyH_done (by kernel_rfl) ?_ _
      try simp only [Act.put, List.setIfInBounds_toArray, List.set_cons_zero, List.set_cons_succ]
      go_wp2
      go_meet
      exact ⟨g5, rfl, KP, Gx17, GE5⟩
  case rest =>
  obtain ⟨g5, rfl, KP, GX, GE5⟩ := hcut
  generalize wc = w1 at KP GX ⊢
  have KK := hid (K1.out.below GX.out)
  have BB := hid (B0.out.trans (GX.out.mono B0.out.size))
  clear K1 CH CC CM FO
  have cl : w1.cell? ⟨g5, 0, none⟩ = some (.int .i64 m) := KP.out.cell 0
  rcases h01 with rfl | rfl
  · go_wp2_with (first
      | (refine load_at rfl 25 (.tmp 7) rfl w.heap.size 0 rfl (u8s K) _ (blk_key KK.out) Tryz.underlying25 rfl HKI.out (kc K) rfl ?_)
      | (go_at_call 50; refine (CB.out _).mono ?_; rintro e w3 ⟨rfl, hb⟩; have KP3 := hid (KP.out.below hb); have B3 := hid (BB.out.trans (hb.mono BB.out.size)); clear hb)
      | (refine load_at rfl 47 (.tmp 9) rfl g5 0 rfl (.int .i64 m :: u8s B) _ (blk_pre KP3.out) Tryz.underlying47 rfl HPL.out (pc m B) rfl ?_)
      | (go_at_call 55; refine (CI2.out _ B3.out).mono ?_; rintro e w4 hw; obtain ⟨rfl, hg⟩ := hw.to B3.out; have HG := hid hg; clear hg))
    go_ret
    exact ⟨rfl, HG.out⟩
  · go_wp2_with (first
      | (refine load_at rfl 25 (.tmp 7) rfl w.heap.size 0 rfl (u8s K) _ (blk_key KK.out) Tryz.underlying25 rfl HKI.out (kc K) rfl ?_)
      | (go_at_call 50; refine (CB.out _).mono ?_; rintro e w3 ⟨rfl, hb⟩; have KP3 := hid (KP.out.below hb); have B3 := hid (BB.out.trans (hb.mono BB.out.size)); clear hb)
      | (refine load_at rfl 47 (.tmp 9) rfl g5 0 rfl (.int .i64 m :: u8s B) _ (blk_pre KP3.out) Tryz.underlying47 rfl HPL.out (pc m B) rfl ?_)
      | (go_at_call 55; refine (CI1.out _ B3.out).mono ?_; rintro e w4 hw; obtain ⟨rfl, hg⟩ := hw.to B3.out; have HG := hid hg; clear hg))
    go_ret
    exact ⟨rfl, HG.out⟩
end
end Go.Proofs.YtjhaamffgkialaaGreatDoor
