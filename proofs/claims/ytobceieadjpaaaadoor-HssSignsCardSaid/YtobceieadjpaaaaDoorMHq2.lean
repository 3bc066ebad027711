/-
  A list of byte slices that the call itself has made: how it grows, and that it reads as what it is.
-/
import Derived.Test.YtobceieadjpaaaaDoorMHsT
import Derived.Maps.AppendAt
import Derived.Test.YtobceieadjpaaaaDoorMHq1
import Derived.Great.BuildSlice
import Derived.Test.YtobceieadjpaaaaDoorMLsr
set_option linter.unusedSimpArgs false
set_option linter.unusedVariables false
namespace Go.Proofs.YtobceieadjpaaaaDoor
open Go.ChangeShapes Go.WideShapes Go.ChangeAt Go.RowKit
set_option linter.unusedVariables false

theorem info_rows : (Tryd.prog.info? 29).map (fun i => (i.zero, i.size, i.bytes)) = some (some (.slice none 0 0), 1, 24) := by kernel_rfl

/-- v holds the k first of L, each in a block apart from v's own -/
def OwnR (base : Nat) (w : World) (v : Value) (k : Nat) (L : List (List Int)) : Prop :=
  ∃ vs, w.ownsRow base 29 1 v k vs ∧ ∀ j, j < k → ∃ B c xs, L[j]? = some xs ∧ vs[j]? = some (.slice B xs.length c) ∧ xs.length ≤ c ∧ Rp w none B xs ∧ (0 < xs.length → ∀ a, B = some a → v.ownBlock ≠ some a.block)

theorem rp_grown {w w' : World} {row : Option Nat} {B : Option Addr} {xs : List Int} (h : Rp w none B xs) (hg : w.grownBy w' row) (hne : 0 < xs.length → ∀ a, B = some a → row ≠ some a.block) : Rp w' none B xs := fun hx => by
  obtain ⟨ad, rfl, hn, hc⟩ := h hx
  have hlt := block_lt_of_cell (hc 0 hx)
  rw [add_block] at hlt
  exact ⟨ad, rfl, hn, fun j hj => (World.cell?_of_block (w := w) (by rw [add_block]; exact hg.block _ hlt (fun e => hne hx ad rfl e.symm))).trans (hc j hj)⟩
theorem rp_lt {w : World} {a : Addr} {xs : List Int} (h : Rp w none (some a) xs) (hx : 0 < xs.length) : a.block < w.heap.size := by
  obtain ⟨ad, e, hn, hc⟩ := h hx
  injection e with e
  subst e
  have hlt := block_lt_of_cell (hc 0 hx)
  rwa [add_block] at hlt

theorem OwnR.start (base : Nat) (w : World) (L : List (List Int)) : OwnR base w (.slice none 0 0) 0 L :=
  ⟨[], ⟨rfl, .inl ⟨rfl, rfl⟩⟩, fun j hj => absurd hj (Nat.not_lt_zero _)⟩
theorem OwnR.below {base : Nat} {w w' : World} {v : Value} {k : Nat} {L : List (List Int)} (h : OwnR base w v k L) (hb : Below w.heap.size w w') : OwnR base w' v k L := by
  obtain ⟨vs, h1, h2⟩ := h
  refine ⟨vs, own_below h1 hb, fun j hj => ?_⟩
  obtain ⟨B, c, xs, e1, e2, e3, e4, e5⟩ := h2 j hj
  exact ⟨B, c, xs, e1, e2, e3, e4.belowN hb, e5⟩
/-- one slice more, that has just been made -/
theorem OwnR.push {base : Nat} {w0 wa w' : World} {v v' : Value} {k : Nat} {L : List (List Int)} {B : Option Addr} {c : Nat} {xs : List Int} {vs : List Value}
    (hv : wa.ownsRow base 29 1 v k vs)
    (hall : ∀ j, j < k → ∃ B c xs, L[j]? = some xs ∧ vs[j]? = some (.slice B xs.length c) ∧ xs.length ≤ c ∧ Rp wa none B xs ∧ (0 < xs.length → ∀ a, B = some a → v.ownBlock ≠ some a.block))
    (hB : Rp wa none B xs) (hBv : 0 < xs.length → ∀ a, B = some a → v.ownBlock ≠ some a.block) (hxc : xs.length ≤ c) (hL : L[k]? = some xs)
    (hown : w'.ownsRow base 29 1 v' (k + 1) (vs ++ [.slice B xs.length c])) (hg : wa.grownBy w' v.ownBlock) (hat : v'.ownBlock = v.ownBlock ∨ v'.ownBlock = some wa.heap.size) : OwnR base w' v' (k + 1) L := by
  have hvl : vs.length = k := by have := hv.1; omega
  have key : ∀ (B : Option Addr) (xs : List Int), Rp wa none B xs → (0 < xs.length → ∀ a, B = some a → v.ownBlock ≠ some a.block) → Rp w' none B xs ∧ (0 < xs.length → ∀ a, B = some a → v'.ownBlock ≠ some a.block) := by
    intro B xs hr hn
    refine ⟨rp_grown hr hg hn, fun hx a ha e => ?_⟩
    subst ha
    have hlt := rp_lt hr hx
    rcases hat with h | h
    · exact hn hx a rfl (h.symm.trans e)
    · rw [h] at e
      injection e with e
      omega
  refine ⟨_, hown, fun j hj => ?_⟩
  rcases Nat.lt_or_ge j k with hlt | hge
  · obtain ⟨B', c', xs', e1, e2, e3, e4, e5⟩ := hall j hlt
    obtain ⟨r1, r2⟩ := key B' xs' e4 e5
    exact ⟨B', c', xs', e1, by rw [List.getElem?_append_left (by omega)]; exact e2, e3, r1, r2⟩
  · obtain rfl : j = k := by omega
    obtain ⟨r1, r2⟩ := key B xs hB hBv
    exact ⟨B, c, xs, hL, by rw [List.getElem?_append_right (by omega), hvl, Nat.sub_self]; rfl, hxc, r1, r2⟩
theorem OwnR.inR {base : Nat} {w : World} {v : Value} {n : Nat} {L : List (List Int)} (h : OwnR base w v n L) (hn : L.length = n) (h20 : n ≤ 20) (hb : ∀ f ∈ L, Bs f) (h3 : ∀ f ∈ L, f.length ≤ 300) :
    ∃ A c, v = .slice A n c ∧ InR w A n L := by
  obtain ⟨vs, hown, hall⟩ := h
  rcases hown.2 with ⟨hv, h0⟩ | ⟨g, cap, cur, hv, hg, hh, hnc, hcm, hcs, htk⟩
  · exact ⟨none, 0, by rw [hv, h0], hn, by omega, fun h => by omega⟩
  · have hk : Blk w g 29 cur := hh
    refine ⟨some ⟨g, 0, none⟩, cap, hv, hn, by omega, fun _ => ⟨g, 0, rfl, hk.lt, fun i hi => ?_⟩⟩
    obtain ⟨B, c, xs, e1, e2, e3, e4, e5⟩ := hall i hi
    have hm := List.mem_of_getElem? e1
    refine ⟨B, c, xs, e1, ?_, hb xs hm, e4, e3, by have := h3 xs hm; omega⟩
    rw [Nat.zero_add, hk.cell, ← e2, ← htk, List.getElem?_take, if_pos (by omega), Array.getElem?_toList]

/-- the step: a slice that has just been made is added to a list of the call's own -/
theorem append_row {w : World} {ops : Array Oper} {rest : List Oper} {o : Oper} {a : Act} {Q : Exit → Act → World → Prop} (hgd : o.guard = none) (s x : Operand)
    (ho : o.op = .call { callee := .builtin .append, args := #[s, x], argTypes := #[112, 112] })
    (base top : Nat) (v : Value) (k : Nat) (L : List (List Int)) (B : Option Addr) (c m : Nat) (xs : List Int) (wb : World) (hm : m = xs.length) (hw : w = wb.alloc (.cells #[.slice B m c] 29))
    (hs : a.eval s = v) (hx : a.eval x = .slice (some ⟨wb.heap.size, 0, none⟩) 1 1)
    (hO : OwnR base wb v k L) (hB : Rp wb none B xs) (hBv : 0 < xs.length → ∀ a, B = some a → v.ownBlock ≠ some a.block) (hxc : xs.length ≤ c) (hL : L[k]? = some xs) (hk : k ≤ 20) (hbase : base ≤ wb.heap.size) (htop : top ≤ base)
    (h : ∀ v' w', Hid (OwnR base w' v' (k + 1) L) → Hid (Below top w w') → wpList Tryd.prog ops Q rest (a.put o.dst v') w') : wpList Tryd.prog ops Q (o :: rest) a w := by
  subst hm
  have hb1 : Below wb.heap.size wb w := by rw [hw]; exact (Below.refl _ _).alloc (Nat.le_refl _) _
  obtain ⟨vs, h1, h2⟩ := hO.below hb1
  obtain ⟨i0, hi, hz0, hz1, hz2⟩ := info_parts info_rows
  have hsz : w.heap.size = wb.heap.size + 1 := by rw [hw]; simp
  refine wpList_append_own_at _ hgd s x 112 ho base 29 i0 (.slice none 0 0) 1 24 Tryd.underlying112 hi hz0 hz1 hz2 rfl (by decide) v k vs hs h1 ⟨wb.heap.size, 0, none⟩ 1 1 [.slice B xs.length c] hx rfl (fun j u hu => ?_) (fun u hu => ?_) (by unfold maxLen; omega) (by omega) (by omega) ?_
  · match j, hu with
    | 0, hu => rw [hw, Addr.add_lit, (Blk.new wb 29 #[.slice B xs.length c]).cell]; exact hu
    | j + 1, hu => simp at hu
  · simp at hu; subst hu; rfl
  · intro v' w' ho' hg _ hat
    refine h v' w' (show OwnR _ _ _ _ _ from OwnR.push (w0 := w) h1 h2 (hB.belowN hb1) hBv hxc hL ho' hg hat) ((Below.refl _ _).grown hg (by omega) (fun b hb => Nat.le_trans htop (h1.lt b hb).1))
end Go.Proofs.YtobceieadjpaaaaDoor
/-
  What is proved here: the document's own ids and seeds of trees.
-/
namespace Go.Proofs.YtobceieadjpaaaaDoor
open Go.ChangeShapes Go.WideShapes Go.ChangeAt Go.RowKit
set_option linter.unusedVariables false
set_option maxRecDepth 20000

theorem results_rows {P : Program} {fn : Func} {p q : Tmp} {ty ty2 : TypeId} (h : fn.results = #[.cell p ty, .cell q ty2]) (tmps : Array Value) (w : World) (g : Nat) (t : TypeId) (cs : Array Value) (fr : Nat × Nat) (d : TypeDesc)
    (hp : tmps.getD p undef = .pointer (some ⟨g, 0, none⟩)) (hg : w.heap[g]? = some (.cells cs t fr))
    (hu : P.underlying ty = some d) (hd : (match d with | .struct _ | .array _ _ => true | _ => false) = true) (hi : (P.info? ty).map (·.size) = some cs.size)
    (g2 : Nat) (t2 : TypeId) (cs2 : Array Value) (fr2 : Nat × Nat) (d2 : TypeDesc)
    (hp2 : tmps.getD q undef = .pointer (some ⟨g2, 0, none⟩)) (hg2 : w.heap[g2]? = some (.cells cs2 t2 fr2))
    (hu2 : P.underlying ty2 = some d2) (hd2 : (match d2 with | .struct _ | .array _ _ => true | _ => false) = true) (hi2 : (P.info? ty2).map (·.size) = some cs2.size) :
    (results fn tmps).run P w = .ok (.tuple #[.agg cs, .agg cs2]) w := by
  have hp' : tmps[p]?.getD undef = .pointer (some ⟨g, 0, none⟩) := by simpa using hp
  have hp2' : tmps[q]?.getD undef = .pointer (some ⟨g2, 0, none⟩) := by simpa using hp2
  simp [results, h, hp', hp2', asAddr, run_loadVar_row w g t ty cs fr d hg hu hd hi, run_loadVar_row w g2 t2 ty2 cs2 fr2 d2 hg2 hu2 hd2 hi2]
theorem ownR_1 {base : Nat} {w : World} {g b : Nat} {sd : List Int} {L : List (List Int)} (hk : Blk w g 29 #[.slice (some ⟨b, 0, none⟩) 32 32]) (hg : base ≤ g) (hl : sd.length = 32) (hr : Rp w none (some ⟨b, 0, none⟩) sd) (hne : g ≠ b) (hL : L[0]? = some sd) :
    OwnR base w (.slice (some ⟨g, 0, none⟩) 1 1) 1 L := by
  refine ⟨[.slice (some ⟨b, 0, none⟩) 32 32], ⟨by simp, .inr ⟨g, 1, #[.slice (some ⟨b, 0, none⟩) 32 32], rfl, hg, hk, by simp, by unfold maxLen; omega, by simp, by simp⟩⟩, fun j hj => ?_⟩
  obtain rfl : j = 0 := by omega
  refine ⟨some ⟨b, 0, none⟩, 32, sd, hL, by rw [hl]; rfl, by omega, hr, fun _ a ha => ?_⟩
  injection ha with ha
  subst ha
  intro e
  simp only [Value.ownBlock, Option.some.injEq] at e
  exact hne e
/-- a seed and a hash lie where they lay -/
structure Ck (sd : List Int) (gs : Nat) (HH : List Int) (gh : Nat) (w w' : World) : Prop where
  b0 : Blk w' (gs) 26 (u8s sd).toArray
  b1 : Blk w' (gh) 26 (u8s HH).toArray
  bl : Below w.heap.size w w'
section
variable {sd : List Int} {gs : Nat} {HH : List Int} {gh : Nat} {w w' w2 : World}
theorem Ck.below (h : Ck sd gs HH gh w w') (hb : Below w'.heap.size w' w2) : Ck sd gs HH gh w w2 := ⟨h.b0.below hb, h.b1.below hb, h.bl.trans (hb.mono h.bl.size)⟩
theorem Ck.drew (h : Ck sd gs HH gh w w') : Ck sd gs HH gh w w'.drew := h.below ((Below.refl _ _).drew)
theorem Ck.alloc (h : Ck sd gs HH gh w w') (o : Obj) : Ck sd gs HH gh w (w'.alloc o) := h.below ((Below.refl _ _).alloc (Nat.le_refl _) _)
theorem Ck.row (h : Ck sd gs HH gh w w') {g : Nat} (n0 : gs ≠ g) (n1 : gh ≠ g) (hg : w.heap.size ≤ g) (cs : Array Value) : Ck sd gs HH gh w (w'.setRow g cs) := ⟨h.b0.rowFar n0 cs, h.b1.rowFar n1 cs, below_setRow h.bl hg cs⟩
end
attribute [local go_sem] Oper.semAt_some
set_option maxHeartbeats 8000000 in
theorem uChild_any (sd : List Int) (o : Option Nat) (q : Int) (w : World) (hs : Ky sd) (ho : ∀ i, o = .some i → i < 100000) (hq : q = match o with | .none => -1 | .some i => (i : Int)) :
    Calls Tryd.prog 66 #[.agg (u8s sd).toArray, .int .i64 q] w fun e w' => e = .returned (.tuple #[.agg (u8s (cid sd o)).toArray, .agg (u8s (csd sd o)).toArray]) ∧ Below w.heap.size w w' := by
  obtain ⟨Z, HZ, hZ0, hZs⟩ := zero_Hash
  obtain ⟨ZI, HZI, hZI0, hZIs⟩ := zero_I
  have hz32 : Z.size = 32 := by rw [HZ.out, List.size_toArray, u8s_length]; simp
  have hzi16 : ZI.size = 16 := by rw [HZI.out, List.size_toArray, u8s_length]; simp
  obtain ⟨hk1, hk2, hk3, hb0⟩ := blks3 w (u8s sd).toArray ZI Z 26 23 26
  have S0 : Hid ((((w.alloc (.cells (u8s sd).toArray 26)).alloc (.cells ZI 23)).alloc (.cells Z 26)).heap.size = w.heap.size + 1 + 1 + 1) := by show _ = _; simp
  have K0 := hid hk1; have K1 := hid hk2; have K2 := hid hk3; have B0 := hid hb0
  have CT1 : Hid (∀ A c w1, InR w1 A (hprt sd o).length (hprt sd o) → Calls Tryd.prog 93 #[.int .u8 105, .slice A (hprt sd o).length c] w1 fun e w' => e = .returned (.agg (u8s (sum (textL 105 (hprt sd o)))).toArray) ∧ Below w1.heap.size w1 w') := fun A c w1 hr =>
    RTagged_any 105 A _ c _ w1 hr (by cases o <;> simp [hprt]) (fun f hf => by
      cases o <;> simp [hprt] at hf
      · rw [hf, hs.len]; decide
      · rcases hf with rfl | rfl
        · rw [hs.len]; decide
        · rw [be_length]; decide) (by decide)
  have CT2 : Hid (∀ A c w1, InR w1 A (hprt sd o).length (hprt sd o) → Calls Tryd.prog 93 #[.int .u8 115, .slice A (hprt sd o).length c] w1 fun e w' => e = .returned (.agg (u8s (csd sd o)).toArray) ∧ Below w1.heap.size w1 w') := fun A c w1 hr =>
    RTagged_any 115 A _ c _ w1 hr (by cases o <;> simp [hprt]) (fun f hf => by
      cases o <;> simp [hprt] at hf
      · rw [hf, hs.len]; decide
      · rcases hf with rfl | rfl
        · rw [hs.len]; decide
        · rw [be_length]; decide) (by decide)
  have hh : Ky (sum (textL 105 (hprt sd o))) := ⟨sum_length _, sum_bs _⟩
  obtain ⟨HH, hHH⟩ : ∃ HH, HH = sum (textL 105 (hprt sd o)) := ⟨_, rfl⟩
  have HIDE : Hid (cid sd o = HH.take 16) := by show _ = _; unfold cid; rw [hHH]
  rw [← hHH] at CT1 hh
  have hi := cid_idn sd o
  have hss := csd_ky sd o
  obtain ⟨ID, hID⟩ : ∃ ID, ID = cid sd o := ⟨_, rfl⟩
  obtain ⟨SD, hSD⟩ : ∃ SD, SD = csd sd o := ⟨_, rfl⟩
  rw [← hID] at hi HIDE ⊢
  rw [← hSD] at CT2 hss ⊢
  have HR16 : Hid (∀ w' gh, Blk w' gh 26 (u8s HH).toArray → w'.rangeAt gh 0 (u8s ID)) := fun w' gh h => by
    have := rng_part (blk_row h) 0 16
    rw [List.drop_zero, ← HIDE.out] at this
    exact this
  have IDI := hid (id_info hi)
  have IDC : Hid ((Tryd.prog.info? 23).map (·.size) = some (u8s ID).toArray.size) := by show _ = _; rw [List.size_toArray]; exact IDI.out
  have IDZ : Hid (ZI.size = (u8s ID).toArray.size) := by show _ = _; rw [hzi16, List.size_toArray, u8s_length, hi.len]
  have SDC := hid (info_hash SD hss.len); have SDZ : Hid (Z.size = (u8s SD).toArray.size) := hz32.trans (hash_size hss.len).symm
  have HHI := hid (info_hash HH hh.len); have HHZ : Hid (Z.size = (u8s HH).toArray.size) := hz32.trans (hash_size hh.len).symm
  have haid := arrayAt_id
  have SDI := hid (hash_info hs.len)
  have HKS := hid hs
  have KS1 : Hid (∀ (wa : World), Blk wa w.heap.size 26 (u8s sd).toArray → Rp wa none (some ⟨w.heap.size, 0, none⟩) sd) := fun wa h => blk_rp h
  clear hk1 hk2 hk3 hb0 hz32 hzi16 hh hHH hi hss hID hSD
  cases o with
  | none =>
    have hqv : q = -1 := hq
    subst hqv
    have hlen : (hprt sd Option.none).length = 1 := rfl
    rw [hlen] at CT1 CT2
    clear hq ho hs
    go_enter Tryd.func66, Tryd.ntmps66
    go_upto_region 4 with (fail)
    have PX : Hid (Blk ((((w.alloc (.cells (u8s sd).toArray 26)).alloc (.cells ZI 23)).alloc (.cells Z 26)).alloc (.cells #[.slice (some ⟨w.heap.size, 0, none⟩) 32 32] 29)) (w.heap.size + 1 + 1 + 1) 29 #[.slice (some ⟨w.heap.size, 0, none⟩) 32 32]) := by have := Blk.new (((w.alloc (.cells (u8s sd).toArray 26)).alloc (.cells ZI 23)).alloc (.cells Z 26)) 29 #[.slice (some ⟨w.heap.size, 0, none⟩) 32 32]; rw [S0.out] at this; exact this
    have K0x := hid (K0.out.alloc (.cells #[.slice (some ⟨w.heap.size, 0, none⟩) 32 32] 29))
    have K1x := hid (K1.out.alloc (.cells #[.slice (some ⟨w.heap.size, 0, none⟩) 32 32] 29))
    have K2x := hid (K2.out.alloc (.cells #[.slice (some ⟨w.heap.size, 0, none⟩) 32 32] 29))
    have Bx := hid (B0.out.alloc B0.out.size (.cells #[.slice (some ⟨w.heap.size, 0, none⟩) 32 32] 29))
    clear K0 K1 K2 B0
    generalize (((w.alloc (.cells (u8s sd).toArray 26)).alloc (.cells ZI 23)).alloc (.cells Z 26)).alloc (.cells #[.slice (some ⟨w.heap.size, 0, none⟩) 32 32] 29) = wx at PX K0x K1x K2x Bx ⊢
    have IRx : Hid (InR wx (some ⟨w.heap.size + 1 + 1 + 1, 0, none⟩) 1 (hprt sd Option.none)) := inR_1 PX.out HKS.out.len.symm (KS1.out _ K0x.out) HKS.out.bs (by decide) (by decide)
    clear PX KS1 S0
    have SB := hid Bx.out.size
    go_wp2_with (first
      | (go_at_call 93; refine (CT1.out _ _ _ IRx.out).mono ?_; rintro e w5 ⟨rfl, hb5⟩; have IR5 := hid (IRx.out.below hb5); have K05 := hid (K0x.out.below hb5); have K15 := hid (K1x.out.below hb5); have K25 := hid (K2x.out.below hb5); have B5 := hid (Bx.out.trans (hb5.mono Bx.out.size)); clear hb5)
      | (refine wpList_store_row rfl 26 (.tmp 7) (.tmp 19) rfl w5.heap.size (u8s HH).toArray rfl rfl 26 Z (Blk.new w5 26 Z) HHI.out HHZ.out (u8s_all HH) ?_; have hbb : Below w5.heap.size w5 ((w5.alloc (.cells Z 26)).setRow w5.heap.size (u8s HH).toArray) := below_setRow ((Below.refl _ _).alloc (Nat.le_refl _) _) (Nat.le_refl _) _; have P6 : Hid (Blk ((w5.alloc (.cells Z 26)).setRow w5.heap.size (u8s HH).toArray) w5.heap.size 26 (u8s HH).toArray) := (Blk.new w5 26 Z).row _; have IR := hid (IR5.out.below hbb); have K06 := hid (K05.out.below hbb); have KT1 := hid (K15.out.below hbb); have KT2 := hid (K25.out.below hbb); have B6 := hid (B5.out.trans (hbb.mono B5.out.size)); have LGH : Hid (w.heap.size + 1 + 1 < w5.heap.size) := K25.out.lt; clear hbb; generalize (w5.alloc (.cells Z 26)).setRow w5.heap.size (u8s HH).toArray = w6 at P6 IR K06 KT1 KT2 B6 ⊢; generalize w5.heap.size = gh at P6 LGH ⊢))
    have GT : Hid (Ck sd w.heap.size HH gh w w6) := ⟨K06.out, P6.out, B6.out⟩
    clear IRx K0x K1x K2x Bx IR5 K05 K15 K25 B5 K06 P6 B6 CT1
    refine wp_region_held (S := fun w' => Hid (Ck sd w.heap.size HH gh w w')) (by kernel_rfl) ?_
    change wpAnyH _ _ _ _ _ _ _ _ w6.drew
    have Gx0 : Hid (Ck sd w.heap.size HH gh w w6.drew) := GT.out.drew
    have HBx0 : Below w6.heap.size w6 w6.drew := (Below.refl _ _).drew
    have KT1 := hid (KT1.out.below HBx0)
    have KT2 := hid (KT2.out.below HBx0)
    have IR := hid (IR.out.below HBx0)
    clear HBx0
    generalize w6.drew = x0 at Gx0 KT1 KT2 IR ⊢
    refine wpAnyH_take (i := 0) (oi := { dst := some 20, op := _, type := _, pos := _, after := _, guard := _ }) (v := ?_) rfl (by kernel_rfl) (by kernel_rfl) (by kernel_rfl) (fun _ _ _ h => h) (Or.inl ⟨by kernel_rfl, ?_⟩) (by assumption) ?_
    rotate_left
    · (intro w hSw; go_simp; try with_reducible rfl)
    try simp only [Act.put, List.setIfInBounds_toArray, List.set_cons_zero, List.set_cons_succ]
    refine wpAnyH_take (i := 1) (oi := { dst := some 21, op := _, type := _, pos := _, after := _, guard := _ }) (v := ?_) rfl (by kernel_rfl) (by kernel_rfl) (by kernel_rfl) (fun _ _ _ h => h) (Or.inl ⟨by kernel_rfl, ?_⟩) (by assumption) ?_
    rotate_left
    · (intro w hSw; go_simp; try with_reducible rfl)
    try simp only [Act.put, List.setIfInBounds_toArray, List.set_cons_zero, List.set_cons_succ]
    refine wpAnyH_take (i := 2) (oi := { dst := some 22, op := _, type := _, pos := _, after := _, guard := _ }) (v := .agg ((u8s ID).toArray)) rfl (by kernel_rfl) (by kernel_rfl) (by kernel_rfl) (fun _ _ _ h => h) (yieldsIf_load_mid (cs := u8s ID) (by rfl) _ _ rfl _ _ rfl _ (fun w' hSw => (HR16.out _ _ (Hid.out hSw).b1)) Tryd.underlying23 rfl IDI.out) (by assumption) ?_
    try simp only [Act.put, List.setIfInBounds_toArray, List.set_cons_zero, List.set_cons_succ]
    refine wpAnyH_take (i := 3) (oi := { dst := some 23, op := _, type := _, pos := _, after := _, guard := _ }) (v := ?_) rfl (by kernel_rfl) (by kernel_rfl) (by kernel_rfl) (fun _ _ _ h => h) (Or.inl ⟨by kernel_rfl, ?_⟩) (by assumption) ?_
    rotate_left
    · (intro w hSw; go_simp; try with_reducible rfl)
    try simp only [Act.put, List.setIfInBounds_toArray, List.set_cons_zero, List.set_cons_succ]
    refine wpAnyH_ready (rs := [4]) (by kernel_rfl) (by simp) ?_
    refine (AllReadyH.cons (o := { dst := some 24, op := _, type := _, pos := _, after := _, guard := _ }) rfl (fun Qc hQc => ?_) AllReadyH.nil)
    go_simp
    go_at_call 93; refine (CT2.out _ _ _ IR.out).mono ?_; rintro e x1 ⟨rfl, hbx1⟩
    have Gx1 := hid (Gx0.out.below hbx1)
    have KT1 := hid (KT1.out.below hbx1)
    have KT2 := hid (KT2.out.below hbx1)
    have IR := hid (IR.out.below hbx1)
    clear hbx1
    go_wp2_with fail
    refine hQc.out _ _ Gx1 (fun hHeld => ?_)
    clear hQc Qc Gx0
    try simp only [Act.put, List.setIfInBounds_toArray, List.set_cons_zero, List.set_cons_succ]
    refine wpAnyH_ready (rs := [5]) (by kernel_rfl) (by simp) ?_
    refine (AllReadyH.cons (o := { dst := none, op := _, type := _, pos := _, after := _, guard := _ }) rfl (fun Qc hQc => ?_) AllReadyH.nil)
    rw [if_pos (by rfl)]
    refine wp_store_row 23 (.tmp 4) (.tmp 22) rfl (w.heap.size + 1) (u8s ID).toArray rfl rfl 23 ZI KT1.out IDC.out IDZ.out (u8s_all ID) ?_
    have Gx2 := hid (Gx1.out.row (g := w.heap.size + 1) (by omega) (by have := LGH.out; omega) (by omega) (u8s ID).toArray)
    have KT1 := hid (KT1.out.row (u8s ID).toArray)
    have KT2 := hid (KT2.out.rowFar (g := w.heap.size + 1) (by omega) (u8s ID).toArray)
    refine hQc.out _ _ Gx2 (fun hHeld => ?_)
    clear hQc Qc Gx1 hHeld
    generalize x1.setRow (w.heap.size + 1) (u8s ID).toArray = x2 at Gx2 KT1 KT2 ⊢
    try simp only [Act.put, List.setIfInBounds_toArray, List.set_cons_zero, List.set_cons_succ]
    refine wpAnyH_ready (rs := [6]) (by kernel_rfl) (by simp) ?_
    refine (AllReadyH.cons (o := { dst := none, op := _, type := _, pos := _, after := _, guard := _ }) rfl (fun Qc hQc => ?_) AllReadyH.nil)
    rw [if_pos (by rfl)]
    refine wp_store_row 26 (.tmp 5) (.tmp 24) rfl (w.heap.size + 1 + 1) (u8s SD).toArray rfl rfl 26 Z KT2.out SDC.out SDZ.out (u8s_all SD) ?_
    have Gx3 := hid (Gx2.out.row (g := w.heap.size + 1 + 1) (by omega) (by have := LGH.out; omega) (by omega) (u8s SD).toArray)
    have KT1 := hid (KT1.out.rowFar (g := w.heap.size + 1 + 1) (by omega) (u8s SD).toArray)
    have KT2 := hid (KT2.out.row (u8s SD).toArray)
    refine hQc.out _ _ Gx3 (fun hHeld => ?_)
    clear hQc Qc Gx2 hHeld
    generalize x2.setRow (w.heap.size + 1 + 1) (u8s SD).toArray = x3 at Gx3 KT1 KT2 ⊢
    try simp only [Act.put, List.setIfInBounds_toArray, List.set_cons_zero, List.set_cons_succ]
    refine wpAnyH_done (by kernel_rfl) ?_ _
    try simp only [Act.put, List.setIfInBounds_toArray, List.set_cons_zero, List.set_cons_succ]
    have GE := hid Gx3.out.bl
    go_wp2_with fail
    try go_frame
    refine bodyPost_ret (results_rows Tryd.results66 _ _ (w.heap.size + 1) 23 (u8s ID).toArray (0, 0) _ rfl KT1.out Tryd.underlying23 rfl IDC.out (w.heap.size + 1 + 1) 26 (u8s SD).toArray (0, 0) _ rfl KT2.out Tryd.underlying26 rfl SDC.out) rfl ?_
    exact ⟨rfl, GE.out⟩
  | some i =>
    have hqv : q = (i : Int) := hq
    subst hqv
    have hi9 : i < 100000 := ho i rfl
    have hwu : IntKind.u64.wrap (i : Int) = (i : Int) := by simp [IntKind.wrap, IntKind.bits, IntKind.signed]; omega
    have hge : decide ((0 : Int) ≤ (i : Int)) = true := by simp
    have hge2 : (0 : Int) ≤ (i : Int) := by omega
    have hlen : (hprt sd (Option.some i)).length = 2 := rfl
    rw [hlen] at CT1 CT2
    have HPR : Hid (hprt sd (Option.some i) = [sd, be (i : Int) 4]) := rfl
    have NQ : Hid (∀ w, Calls Tryd.prog 89 #[.int .u64 (i : Int), .int .i64 4] w fun e w' => ∃ A c, e = .returned (.slice A 4 c) ∧ 4 ≤ c ∧ Fresh w w' A (be (i : Int) 4) ∧ Below w.heap.size w w') := fun w => Number_any (i : Int) 4 w ⟨by omega, by omega⟩ (by decide)
    generalize hprt sd (Option.some i) = L at HPR CT1 CT2
    have HBL : Hid ((be (i : Int) 4).length = 4) := be_length ..
    have HBB : Hid (Bs (be (i : Int) 4)) := be_bs _ _
    generalize be (i : Int) 4 = BE at HPR NQ HBL HBB
    clear hq ho hs
    go_enter Tryd.func66, Tryd.ntmps66
    go_upto_region 3 with (fail)
    have PX : Hid (Blk ((((w.alloc (.cells (u8s sd).toArray 26)).alloc (.cells ZI 23)).alloc (.cells Z 26)).alloc (.cells #[.slice (some ⟨w.heap.size, 0, none⟩) 32 32] 29)) (w.heap.size + 1 + 1 + 1) 29 #[.slice (some ⟨w.heap.size, 0, none⟩) 32 32]) := by have := Blk.new (((w.alloc (.cells (u8s sd).toArray 26)).alloc (.cells ZI 23)).alloc (.cells Z 26)) 29 #[.slice (some ⟨w.heap.size, 0, none⟩) 32 32]; rw [S0.out] at this; exact this
    have K0x := hid (K0.out.alloc (.cells #[.slice (some ⟨w.heap.size, 0, none⟩) 32 32] 29))
    have K1x := hid (K1.out.alloc (.cells #[.slice (some ⟨w.heap.size, 0, none⟩) 32 32] 29))
    have K2x := hid (K2.out.alloc (.cells #[.slice (some ⟨w.heap.size, 0, none⟩) 32 32] 29))
    have Bx := hid (B0.out.alloc B0.out.size (.cells #[.slice (some ⟨w.heap.size, 0, none⟩) 32 32] 29))
    clear K0 K1 K2 B0
    generalize (((w.alloc (.cells (u8s sd).toArray 26)).alloc (.cells ZI 23)).alloc (.cells Z 26)).alloc (.cells #[.slice (some ⟨w.heap.size, 0, none⟩) 32 32] 29) = wx at PX K0x K1x K2x Bx ⊢
    have OX : Hid (OwnR (w.heap.size + 3) wx (.slice (some ⟨w.heap.size + 1 + 1 + 1, 0, none⟩) 1 1) 1 L) := ownR_1 PX.out (by omega) HKS.out.len (KS1.out _ K0x.out) (by omega) (by rw [HPR.out]; rfl)
    have LX : Hid (w.heap.size + 1 + 1 + 1 < wx.heap.size) := PX.out.lt
    have HBV : Hid (∀ (wy : World) (A : Option Addr), Fresh wx wy A BE → 0 < BE.length → ∀ a, A = some a → (Value.slice (some (⟨w.heap.size + 1 + 1 + 1, 0, none⟩ : Addr)) 1 1).ownBlock ≠ some a.block) := fun wy A hf hx a ha => by
      obtain ⟨g9, cur9, e9, hg9, _⟩ := hf hx
      rw [ha] at e9; injection e9 with e9; subst e9
      intro e
      simp only [Value.ownBlock, Option.some.injEq] at e
      have := LX.out
      omega
    clear PX
    go_upto_region 4 with (first
      | (go_at_call 89; refine (NQ.out _).mono ?_; rintro e w2 ⟨A2, c2, rfl, hc2, hf2, hb2⟩; have K02 := hid (K0x.out.below hb2); have K12 := hid (K1x.out.below hb2); have K22 := hid (K2x.out.below hb2); have B2 := hid (Bx.out.trans (hb2.mono Bx.out.size)); have O2 := hid (OX.out.below hb2); have F2 := hid hf2.rp0; have FF2 := hid hf2; have LW2 := hid hb2.size; have HC2 := hid hc2; clear hf2 hb2 hc2)
      | (at_builtin; refine append_row rfl (.tmp 12) (.tmp 16) rfl (w.heap.size + 3) (w.heap.size + 3) _ 1 L A2 c2 4 BE w2 HBL.out.symm rfl rfl rfl O2.out F2.out (HBV.out _ _ FF2.out) (by rw [HBL.out]; exact HC2.out) (by rw [HPR.out]; rfl) (by decide) (by have := K22.out.lt; have := LX.out; have := LW2.out; omega) (Nat.le_refl _) ?_; intro v3 w3 HO3 HB3))
    obtain ⟨A3, c3, hv3, hir3⟩ := HO3.out.inR (by rw [HPR.out]; rfl) (by decide) (fun f hf => by
      rw [HPR.out] at hf; simp at hf
      rcases hf with rfl | rfl
      · exact HKS.out.bs
      · exact HBB.out) (fun f hf => by
      rw [HPR.out] at hf; simp at hf
      rcases hf with rfl | rfl
      · rw [HKS.out.len]; decide
      · rw [HBL.out]; decide)
    subst hv3
    have IRx := hid hir3
    have K0x := hid ((K02.out.alloc (.cells #[.slice A2 4 c2] 29)).same (HB3.out.block _ (by omega)))
    have K1x := hid ((K12.out.alloc (.cells #[.slice A2 4 c2] 29)).same (HB3.out.block _ (by omega)))
    have K2x := hid ((K22.out.alloc (.cells #[.slice A2 4 c2] 29)).same (HB3.out.block _ (by omega)))
    have Bx := hid ((B2.out.alloc B2.out.size (.cells #[.slice A2 4 c2] 29)).trans (HB3.out.mono (by omega)))
    clear HO3 HB3 hir3 K02 K12 K22 B2 O2 F2 FF2 LW2 HC2 OX LX KS1 S0 NQ
    have SB := hid Bx.out.size
    go_wp2_with (first
      | (go_at_call 93; refine (CT1.out _ _ _ IRx.out).mono ?_; rintro e w5 ⟨rfl, hb5⟩; have IR5 := hid (IRx.out.below hb5); have K05 := hid (K0x.out.below hb5); have K15 := hid (K1x.out.below hb5); have K25 := hid (K2x.out.below hb5); have B5 := hid (Bx.out.trans (hb5.mono Bx.out.size)); clear hb5)
      | (refine wpList_store_row rfl 26 (.tmp 7) (.tmp 19) rfl w5.heap.size (u8s HH).toArray rfl rfl 26 Z (Blk.new w5 26 Z) HHI.out HHZ.out (u8s_all HH) ?_; have hbb : Below w5.heap.size w5 ((w5.alloc (.cells Z 26)).setRow w5.heap.size (u8s HH).toArray) := below_setRow ((Below.refl _ _).alloc (Nat.le_refl _) _) (Nat.le_refl _) _; have P6 : Hid (Blk ((w5.alloc (.cells Z 26)).setRow w5.heap.size (u8s HH).toArray) w5.heap.size 26 (u8s HH).toArray) := (Blk.new w5 26 Z).row _; have IR := hid (IR5.out.below hbb); have K06 := hid (K05.out.below hbb); have KT1 := hid (K15.out.below hbb); have KT2 := hid (K25.out.below hbb); have B6 := hid (B5.out.trans (hbb.mono B5.out.size)); have LGH : Hid (w.heap.size + 1 + 1 < w5.heap.size) := K25.out.lt; clear hbb; generalize (w5.alloc (.cells Z 26)).setRow w5.heap.size (u8s HH).toArray = w6 at P6 IR K06 KT1 KT2 B6 ⊢; generalize w5.heap.size = gh at P6 LGH ⊢))
    have GT : Hid (Ck sd w.heap.size HH gh w w6) := ⟨K06.out, P6.out, B6.out⟩
    clear IRx K0x K1x K2x Bx IR5 K05 K15 K25 B5 K06 P6 B6 CT1
    refine wp_region_held (S := fun w' => Hid (Ck sd w.heap.size HH gh w w')) (by kernel_rfl) ?_
    change wpAnyH _ _ _ _ _ _ _ _ w6.drew
    have Gx0 : Hid (Ck sd w.heap.size HH gh w w6.drew) := GT.out.drew
    have HBx0 : Below w6.heap.size w6 w6.drew := (Below.refl _ _).drew
    have KT1 := hid (KT1.out.below HBx0)
    have KT2 := hid (KT2.out.below HBx0)
    have IR := hid (IR.out.below HBx0)
    clear HBx0
    generalize w6.drew = x0 at Gx0 KT1 KT2 IR ⊢
    refine wpAnyH_take (i := 0) (oi := { dst := some 20, op := _, type := _, pos := _, after := _, guard := _ }) (v := ?_) rfl (by kernel_rfl) (by kernel_rfl) (by kernel_rfl) (fun _ _ _ h => h) (Or.inl ⟨by kernel_rfl, ?_⟩) (by assumption) ?_
    rotate_left
    · (intro w hSw; go_simp; try with_reducible rfl)
    try simp only [Act.put, List.setIfInBounds_toArray, List.set_cons_zero, List.set_cons_succ]
    refine wpAnyH_take (i := 1) (oi := { dst := some 21, op := _, type := _, pos := _, after := _, guard := _ }) (v := ?_) rfl (by kernel_rfl) (by kernel_rfl) (by kernel_rfl) (fun _ _ _ h => h) (Or.inl ⟨by kernel_rfl, ?_⟩) (by assumption) ?_
    rotate_left
    · (intro w hSw; go_simp; try with_reducible rfl)
    try simp only [Act.put, List.setIfInBounds_toArray, List.set_cons_zero, List.set_cons_succ]
    refine wpAnyH_take (i := 2) (oi := { dst := some 22, op := _, type := _, pos := _, after := _, guard := _ }) (v := .agg ((u8s ID).toArray)) rfl (by kernel_rfl) (by kernel_rfl) (by kernel_rfl) (fun _ _ _ h => h) (yieldsIf_load_mid (cs := u8s ID) (by rfl) _ _ rfl _ _ rfl _ (fun w' hSw => (HR16.out _ _ (Hid.out hSw).b1)) Tryd.underlying23 rfl IDI.out) (by assumption) ?_
    try simp only [Act.put, List.setIfInBounds_toArray, List.set_cons_zero, List.set_cons_succ]
    refine wpAnyH_take (i := 3) (oi := { dst := some 23, op := _, type := _, pos := _, after := _, guard := _ }) (v := ?_) rfl (by kernel_rfl) (by kernel_rfl) (by kernel_rfl) (fun _ _ _ h => h) (Or.inl ⟨by kernel_rfl, ?_⟩) (by assumption) ?_
    rotate_left
    · (intro w hSw; go_simp; try with_reducible rfl)
    try simp only [Act.put, List.setIfInBounds_toArray, List.set_cons_zero, List.set_cons_succ]
    refine wpAnyH_ready (rs := [4]) (by kernel_rfl) (by simp) ?_
    refine (AllReadyH.cons (o := { dst := some 24, op := _, type := _, pos := _, after := _, guard := _ }) rfl (fun Qc hQc => ?_) AllReadyH.nil)
    go_simp
    go_at_call 93; refine (CT2.out _ _ _ IR.out).mono ?_; rintro e x1 ⟨rfl, hbx1⟩
    have Gx1 := hid (Gx0.out.below hbx1)
    have KT1 := hid (KT1.out.below hbx1)
    have KT2 := hid (KT2.out.below hbx1)
    have IR := hid (IR.out.below hbx1)
    clear hbx1
    go_wp2_with fail
    refine hQc.out _ _ Gx1 (fun hHeld => ?_)
    clear hQc Qc Gx0
    try simp only [Act.put, List.setIfInBounds_toArray, List.set_cons_zero, List.set_cons_succ]
    refine wpAnyH_ready (rs := [5]) (by kernel_rfl) (by simp) ?_
    refine (AllReadyH.cons (o := { dst := none, op := _, type := _, pos := _, after := _, guard := _ }) rfl (fun Qc hQc => ?_) AllReadyH.nil)
    rw [if_pos (by rfl)]
    refine wp_store_row 23 (.tmp 4) (.tmp 22) rfl (w.heap.size + 1) (u8s ID).toArray rfl rfl 23 ZI KT1.out IDC.out IDZ.out (u8s_all ID) ?_
    have Gx2 := hid (Gx1.out.row (g := w.heap.size + 1) (by omega) (by have := LGH.out; omega) (by omega) (u8s ID).toArray)
    have KT1 := hid (KT1.out.row (u8s ID).toArray)
    have KT2 := hid (KT2.out.rowFar (g := w.heap.size + 1) (by omega) (u8s ID).toArray)
    refine hQc.out _ _ Gx2 (fun hHeld => ?_)
    clear hQc Qc Gx1 hHeld
    generalize x1.setRow (w.heap.size + 1) (u8s ID).toArray = x2 at Gx2 KT1 KT2 ⊢
    try simp only [Act.put, List.setIfInBounds_toArray, List.set_cons_zero, List.set_cons_succ]
    refine wpAnyH_ready (rs := [6]) (by kernel_rfl) (by simp) ?_
    refine (AllReadyH.cons (o := { dst := none, op := _, type := _, pos := _, after := _, guard := _ }) rfl (fun Qc hQc => ?_) AllReadyH.nil)
    rw [if_pos (by rfl)]
    refine wp_store_row 26 (.tmp 5) (.tmp 24) rfl (w.heap.size + 1 + 1) (u8s SD).toArray rfl rfl 26 Z KT2.out SDC.out SDZ.out (u8s_all SD) ?_
    have Gx3 := hid (Gx2.out.row (g := w.heap.size + 1 + 1) (by omega) (by have := LGH.out; omega) (by omega) (u8s SD).toArray)
    have KT1 := hid (KT1.out.rowFar (g := w.heap.size + 1 + 1) (by omega) (u8s SD).toArray)
    have KT2 := hid (KT2.out.row (u8s SD).toArray)
    refine hQc.out _ _ Gx3 (fun hHeld => ?_)
    clear hQc Qc Gx2 hHeld
    generalize x2.setRow (w.heap.size + 1 + 1) (u8s SD).toArray = x3 at Gx3 KT1 KT2 ⊢
    try simp only [Act.put, List.setIfInBounds_toArray, List.set_cons_zero, List.set_cons_succ]
    refine wpAnyH_done (by kernel_rfl) ?_ _
    try simp only [Act.put, List.setIfInBounds_toArray, List.set_cons_zero, List.set_cons_succ]
    have GE := hid Gx3.out.bl
    go_wp2_with fail
    try go_frame
    refine bodyPost_ret (results_rows Tryd.results66 _ _ (w.heap.size + 1) 23 (u8s ID).toArray (0, 0) _ rfl KT1.out Tryd.underlying23 rfl IDC.out (w.heap.size + 1 + 1) 26 (u8s SD).toArray (0, 0) _ rfl KT2.out Tryd.underlying26 rfl SDC.out) rfl ?_
    exact ⟨rfl, GE.out⟩
end Go.Proofs.YtobceieadjpaaaaDoor
/-
  What is proved here: the document's own public key, and n-th signature, of two storeys of trees.
-/
namespace Go.Proofs.YtobceieadjpaaaaDoor
open Go.ChangeShapes Go.WideShapes Go.ChangeAt Go.RowKit
set_option linter.unusedVariables false
set_option maxRecDepth 20000

theorem own_lit4 (w : World) (x : Int) : (w.alloc (.cells #[.int .u8 0, .int .u8 0, .int .u8 0, .int .u8 x] 5)).ownsRow w.heap.size 5 1 (.slice (some ⟨w.heap.size, 0, none⟩) 4 4) [0, 0, 0, x].length (u8s [0, 0, 0, x]) :=
  ⟨by simp [u8s], .inr ⟨w.heap.size, 4, #[.int .u8 0, .int .u8 0, .int .u8 0, .int .u8 x], rfl, Nat.le_refl _, heap_alloc_new w _, by simp, by unfold maxLen; omega, by simp, by simp [u8s]⟩⟩
/-- two variables, made and filled -/
theorem boxes2 (w : World) (A B A' B' : Array Value) (t s : TypeId) : Blk (((w.alloc (.cells A t)).alloc (.cells B s)).setRow w.heap.size A') (w.heap.size + 1) s B ∧
    Blk ((((w.alloc (.cells A t)).alloc (.cells B s)).setRow w.heap.size A').setRow (w.heap.size + 1) B') w.heap.size t A' ∧ Blk ((((w.alloc (.cells A t)).alloc (.cells B s)).setRow w.heap.size A').setRow (w.heap.size + 1) B') (w.heap.size + 1) s B' ∧
    Below w.heap.size w ((((w.alloc (.cells A t)).alloc (.cells B s)).setRow w.heap.size A').setRow (w.heap.size + 1) B') := by
  obtain ⟨h1, h2, h3⟩ := blks2 w A B t s
  have k2 := h2.rowFar (g := w.heap.size) (by omega) A'
  exact ⟨k2, (h1.row A').rowFar (by omega) B', k2.row B', below_setRow (below_setRow h3 (Nat.le_refl _) _) (by omega) _⟩
set_option maxHeartbeats 8000000 in
theorem uPublic_any (t k : Int) (sd : List Int) (w : World) (h1 : 1 ≤ t ∧ t ≤ 4) (hk : Kd k) (hs : Ky sd) :
    Calls Tryd.prog 30 #[.int .i64 t, .int .i64 k, .agg (u8s sd).toArray] w fun e w' => ∃ A c, e = .returned (.slice A 60 c) ∧ Rp w' none A (hpb t k sd) ∧ Below w.heap.size w w' := by
  obtain ⟨Z, HZ, hZ0, hZs⟩ := zero_Hash
  obtain ⟨ZI, HZI, hZI0, hZIs⟩ := zero_I
  have hz32 : Z.size = 32 := by rw [HZ.out, List.size_toArray, u8s_length]; simp
  have hzi16 : ZI.size = 16 := by rw [HZI.out, List.size_toArray, u8s_length]; simp
  have K0 : Hid (Blk (w.alloc (.cells (u8s sd).toArray 26)) w.heap.size 26 (u8s sd).toArray) := Blk.new _ _ _
  have B0 : Hid (Below w.heap.size w (w.alloc (.cells (u8s sd).toArray 26))) := (Below.refl _ _).alloc (Nat.le_refl _) _
  have CC0 := hid (fun w1 => uChild_any sd .none (-1) w1 hs (fun i h => by cases h) rfl)
  have HP : Hid (hpb t k sd = [0, 0, 0, 2] ++ tpb t k sd) := rfl
  have HTL := hid (tpb_length t k sd); have HPL := hid (hpb_length t k sd)
  have CTP : Hid (∀ w1, Calls Tryd.prog 67 #[.int .i64 t, .int .i64 k, .agg (u8s (cid sd .none)).toArray, .agg (u8s (csd sd .none)).toArray] w1 fun e w' => ∃ A c, e = .returned (.slice A 56 c) ∧ Rp w' none A (tpb t k sd) ∧ Below w1.heap.size w1 w') := fun w1 => tPublic_any t k _ _ w1 h1 hk (cid_idn _ _) (csd_ky _ _)
  have hi := cid_idn sd .none; have hss := csd_ky sd .none
  have SDI := hid (hash_info hs.len)
  generalize hpb t k sd = PB at HP HPL ⊢
  generalize tpb t k sd = TB at HP HTL CTP
  generalize cid sd .none = ID at hi CC0 CTP
  generalize csd sd .none = SD at hss CC0 CTP
  have IDI := hid (id_info hi)
  have IDC : Hid ((Tryd.prog.info? 23).map (·.size) = some (u8s ID).toArray.size) := by show _ = _; rw [List.size_toArray]; exact IDI.out
  have IDZ : Hid (ZI.size = (u8s ID).toArray.size) := by show _ = _; rw [hzi16, List.size_toArray, u8s_length, hi.len]
  have SSI := hid (hash_info hss.len); have SDC := hid (info_hash SD hss.len); have SDZ : Hid (Z.size = (u8s SD).toArray.size) := hz32.trans (hash_size hss.len).symm
  clear hz32 hzi16 hi hss h1 hk hs
  go_enter Tryd.func30, Tryd.ntmps30
  go_wp2_with (first
    | (refine load_at rfl 26 (.tmp 5) rfl w.heap.size 0 rfl (u8s sd) _ (blk_row K0.out) Tryd.underlying26 rfl SDI.out (u8s sd).toArray rfl ?_)
    | (go_at_call 66; refine (CC0.out _).mono ?_; rintro e w2 ⟨rfl, hb2⟩; have B2 := hid (B0.out.trans (hb2.mono B0.out.size)); clear hb2)
    | (refine wpList_store_row rfl 23 (.tmp 7) (.tmp 13) rfl w2.heap.size (u8s ID).toArray rfl rfl 23 ZI ((Blk.new w2 23 ZI).alloc _) IDC.out IDZ.out (u8s_all ID) ?_)
    | (refine wpList_store_row rfl 26 (.tmp 8) (.tmp 14) rfl (w2.heap.size + 1) (u8s SD).toArray rfl rfl 26 Z (boxes2 w2 ZI Z (u8s ID).toArray (u8s SD).toArray 23 26).1 SDC.out SDZ.out (u8s_all SD) ?_; obtain ⟨_, hk1, hk2, hb3⟩ := boxes2 w2 ZI Z (u8s ID).toArray (u8s SD).toArray 23 26; have KA := hid hk1; have KB := hid hk2; have B3 := hid (B2.out.trans (hb3.mono B2.out.size)); generalize (((w2.alloc (.cells ZI 23)).alloc (.cells Z 26)).setRow w2.heap.size (u8s ID).toArray).setRow (w2.heap.size + 1) (u8s SD).toArray = w3 at KA KB B3 ⊢; clear hk1 hk2 hb3)
    | (refine load_at rfl 23 (.tmp 7) rfl w2.heap.size 0 rfl (u8s ID) _ (blk_row (KA.out.alloc _)) Tryd.underlying23 rfl IDI.out (u8s ID).toArray rfl ?_)
    | (refine load_at rfl 26 (.tmp 8) rfl (w2.heap.size + 1) 0 rfl (u8s SD) _ (blk_row (KB.out.alloc _)) Tryd.underlying26 rfl SSI.out (u8s SD).toArray rfl ?_)
    | (go_at_call 67; refine (CTP.out _).mono ?_; rintro e w4 ⟨A4, c4, rfl, hr4, hb4⟩; have R4 := hid hr4; have O4 := hid (own_below (own_lit4 w3 2) hb4); have BB4 := hid (((Below.refl w3.heap.size w3).alloc (Nat.le_refl _) (.cells #[.int .u8 0, .int .u8 0, .int .u8 0, .int .u8 2] 5)).trans (hb4.mono (by simp))); clear hr4 hb4)
    | (at_builtin; refine append_rpm rfl (.tmp 16) (.tmp 21) rfl w3.heap.size w3.heap.size _ [0, 0, 0, 2] rfl O4.out A4 56 c4 TB HTL.out.symm rfl R4.out (by rw [HTL.out]; decide) BB4.out.size (Nat.le_refl _) ?_; intro v5 w5 HO5 HB5))
  have HB6 := hid (B3.out.trans ((BB4.out.trans HB5.out).mono B3.out.size))
  obtain ⟨A5, c5, rfl, _, hc5, hf5⟩ := fresh_of_own HO5.out (Nat.le_refl _)
  have HF5 := hid hf5.rp0
  have HL : Hid (([0, 0, 0, 2] ++ TB).length = 60) := by show _ = _; rw [← HP.out]; exact HPL.out
  clear hf5 HO5 HB5
  go_ret
  rw [HL.out]
  exact ⟨A5, c5, rfl, by rw [HP.out]; exact HF5.out, HB6.out⟩
theorem uSign_spent (t b k : Int) (sd : List Int) (q : Int) (A : Option Addr) (n c : Nat) (w : World) (hq : q < 0 ∨ (hkeys t b k : Int) ≤ q) :
    Calls Tryd.prog 32 #[.int .i64 t, .int .i64 b, .int .i64 k, .agg (u8s sd).toArray, .int .i64 q, .slice A n c] w fun e w' => e = .returned (.tuple #[.slice none 0 0, .int .i64 7]) ∧ Below w.heap.size w w' := by
  have B0 : Hid (Below w.heap.size w (w.alloc (.cells (u8s sd).toArray 26))) := (Below.refl _ _).alloc (Nat.le_refl _) _
  have CK := hid (uKeys_any t b k)
  generalize hkeys t b k = K at CK hq
  by_cases hq0 : q < 0
  · have hd : decide (q < 0) = true := decide_eq_true hq0
    clear hq
    go_enter Tryd.func32, Tryd.ntmps32
    go_wp2_with fail
    go_ret2
    exact ⟨rfl, B0.out⟩
  · have hd : decide (q < 0) = false := decide_eq_false hq0
    have hqK : (K : Int) ≤ q := by omega
    have hd2 : decide ((K : Int) ≤ q) = true := decide_eq_true hqK
    clear hq
    go_enter Tryd.func32, Tryd.ntmps32
    go_wp2_with (go_at_call 24; refine (CK.out _).mono ?_; rintro e w1 ⟨rfl, rfl⟩)
    go_ret2
    exact ⟨rfl, B0.out⟩
/-- a seed lies where it lay -/
structure Us (sd : List Int) (gs : Nat) (w w' : World) : Prop where
  b0 : Blk w' (gs) 26 (u8s sd).toArray
  bl : Below w.heap.size w w'
section
variable {sd : List Int} {gs : Nat} {w w' w2 : World}
theorem Us.below (h : Us sd gs w w') (hb : Below w'.heap.size w' w2) : Us sd gs w w2 := ⟨h.b0.below hb, h.bl.trans (hb.mono h.bl.size)⟩
theorem Us.drew (h : Us sd gs w w') : Us sd gs w w'.drew := h.below ((Below.refl _ _).drew)
theorem Us.alloc (h : Us sd gs w w') (o : Obj) : Us sd gs w (w'.alloc o) := h.below ((Below.refl _ _).alloc (Nat.le_refl _) _)
theorem Us.row (h : Us sd gs w w') {g : Nat} (n0 : gs ≠ g) (hg : w.heap.size ≤ g) (cs : Array Value) : Us sd gs w (w'.setRow g cs) := ⟨h.b0.rowFar n0 cs, below_setRow h.bl hg cs⟩
end
attribute [local go_sem] Oper.semAt_some
set_option maxHeartbeats 16000000 in
theorem uSign_any (t b k : Int) (sd : List Int) (n : Nat) (A : Option Addr) (m c : Nat) (M : List Int) (w : World) (h1 : 1 ≤ t ∧ t ≤ 4) (h2 : 1 ≤ b ∧ b ≤ 4) (hk : Kd k) (hs : Ky sd) (hn : n < hkeys t b k)
    (hm : m = M.length) (hr : Rp w none A M) (hb : Bs M) (hl : M.length < 100000) :
    Calls Tryd.prog 32 #[.int .i64 t, .int .i64 b, .int .i64 k, .agg (u8s sd).toArray, .int .i64 (n : Nat), .slice A m c] w fun e w' => ∃ A' c', e = .returned (.tuple #[.slice A' (hsize t b k) c', .int .i64 0]) ∧ Rp w' none A' (hsg t b k sd n M) ∧ Below w.heap.size w w' := by
  obtain ⟨Z, HZ, hZ0, hZs⟩ := zero_Hash
  obtain ⟨ZI, HZI, hZI0, hZIs⟩ := zero_I
  have hz32 : Z.size = 32 := by rw [HZ.out, List.size_toArray, u8s_length]; simp
  have hzi16 : ZI.size = 16 := by rw [HZI.out, List.size_toArray, u8s_length]; simp
  have GT : Hid (Us sd w.heap.size w (w.alloc (.cells (u8s sd).toArray 26))) := ⟨Blk.new _ _ _, (Below.refl _ _).alloc (Nat.le_refl _) _⟩
  have CK := hid (uKeys_any t b k); have CKB := hid (tKeys_any b k)
  have hKb := tkeys_pos h2 hk
  have hi : n / tkeys b k < tkeys t k := by rw [Nat.div_lt_iff_lt_mul (by omega)]; exact hn
  have hq : n % tkeys b k < tkeys b k := Nat.mod_lt _ (by omega)
  have CC0 := hid (fun w1 => uChild_any sd .none (-1) w1 hs (fun i h => by cases h) rfl)
  have CCI := hid (fun w1 => uChild_any sd (.some (n / tkeys b k)) ((n / tkeys b k : Nat) : Int) w1 hs (fun i h => by injection h with h; subst h; have := tkeys_le t k; omega) rfl)
  have HLEN := hid (hsg_length h1 h2 hk sd n M)
  have HSGE : Hid (hsg t b k sd n M = [0, 0, 0, 1] ++ tsg t k sd (n / tkeys b k) (bpb b k sd (n / tkeys b k)) ++ bpb b k sd (n / tkeys b k) ++ bsg b k sd (n / tkeys b k) (n % tkeys b k) M) := rfl
  have HTL : Hid ((tsg t k sd (n / tkeys b k) (bpb b k sd (n / tkeys b k))).length = tsize t k) := by show _ = _; unfold tsg; exact sgt_length h1 hk _ _
  have HBL : Hid ((bsg b k sd (n / tkeys b k) (n % tkeys b k) M).length = tsize b k) := by show _ = _; unfold bsg; exact sgt_length h2 hk _ _
  have HPL : Hid ((bpb b k sd (n / tkeys b k)).length = 56) := bpb_length ..
  have CTP : Hid (∀ w1, Calls Tryd.prog 67 #[.int .i64 b, .int .i64 k, .agg (u8s (cid sd (.some (n / tkeys b k)))).toArray, .agg (u8s (csd sd (.some (n / tkeys b k)))).toArray] w1 fun e w' => ∃ A c, e = .returned (.slice A 56 c) ∧ Rp w' none A (bpb b k sd (n / tkeys b k)) ∧ Below w1.heap.size w1 w') := fun w1 => tPublic_any b k _ _ w1 h2 hk (cid_idn _ _) (csd_ky _ _)
  have CST : Hid (∀ A' c' w1, Rp w1 none A' (bpb b k sd (n / tkeys b k)) → Calls Tryd.prog 69 #[.int .i64 t, .int .i64 k, .agg (u8s (cid sd .none)).toArray, .agg (u8s (csd sd .none)).toArray, .int .i64 (n / tkeys b k : Nat), .slice A' 56 c'] w1 fun e w' => ∃ A2 c2, e = .returned (.tuple #[.slice A2 (tsize t k) c2, .int .i64 0]) ∧ Rp w' none A2 (tsg t k sd (n / tkeys b k) (bpb b k sd (n / tkeys b k))) ∧ Below w1.heap.size w1 w') := fun A' c' w1 hr' =>
    tSign_any t k _ _ _ A' 56 c' _ w1 h1 hk (cid_idn _ _) (csd_ky _ _) hi (bpb_length ..).symm hr' (bpb_bs _ _ _ _) (by rw [bpb_length]; decide)
  have CSB : Hid (∀ w1, Below w.heap.size w w1 → Calls Tryd.prog 69 #[.int .i64 b, .int .i64 k, .agg (u8s (cid sd (.some (n / tkeys b k)))).toArray, .agg (u8s (csd sd (.some (n / tkeys b k)))).toArray, .int .i64 (n % tkeys b k : Nat), .slice A m c] w1 fun e w' => ∃ A2 c2, e = .returned (.tuple #[.slice A2 (tsize b k) c2, .int .i64 0]) ∧ Rp w' none A2 (bsg b k sd (n / tkeys b k) (n % tkeys b k) M) ∧ Below w1.heap.size w1 w') := fun w1 hbl =>
    tSign_any b k _ _ _ A m c M w1 h2 hk (cid_idn _ _) (csd_ky _ _) hq hm (hr.belowN hbl) hb hl
  have HDV : Hid ((n : Int) / (tkeys b k : Int) = ((n / tkeys b k : Nat) : Int)) := (Int.natCast_ediv ..).symm
  have HMD : Hid ((n : Int) % (tkeys b k : Int) = ((n % tkeys b k : Nat) : Int)) := (Int.natCast_emod ..).symm
  have HTDV : Hid ((n : Int).tdiv (tkeys b k : Int) = ((n / tkeys b k : Nat) : Int)) := by show _ = _; rw [Int.tdiv_eq_ediv_of_nonneg (by omega)]; exact HDV.out
  have HTMD : Hid ((n : Int).tmod (tkeys b k : Int) = ((n % tkeys b k : Nat) : Int)) := by show _ = _; rw [Int.tmod_eq_emod_of_nonneg (by omega)]; exact HMD.out
  have hnK : ¬ (hkeys t b k : Int) ≤ (n : Int) := by omega
  have hnd : decide ((hkeys t b k : Int) ≤ (n : Int)) = false := decide_eq_false hnK
  have HI16 : Hid (n / tkeys b k < 16) := by have := tkeys_le t k; show _ < _; omega
  have HQ16 : Hid (n % tkeys b k < 16) := by have := tkeys_le b k; show _ < _; omega
  have LTS := hid (tsize_lim (h := t) (k := k)); have LBS := hid (tsize_lim (h := b) (k := k))
  have SDI := hid (hash_info hs.len)
  have hi0 := cid_idn sd .none; have hs0 := csd_ky sd .none
  have hi1 := cid_idn sd (.some (n / tkeys b k)); have hs1 := csd_ky sd (.some (n / tkeys b k))
  generalize hsg t b k sd n M = SG at HLEN HSGE ⊢
  generalize hsize t b k = HZ9 at HLEN ⊢
  generalize tsg t k sd (n / tkeys b k) (bpb b k sd (n / tkeys b k)) = TG at HSGE HTL CST
  generalize bsg b k sd (n / tkeys b k) (n % tkeys b k) M = BG at HSGE HBL CSB
  generalize bpb b k sd (n / tkeys b k) = PB at HSGE HPL CTP CST
  generalize tsize t k = TS at HTL CST LTS
  generalize tsize b k = BS at HBL CSB LBS
  generalize hkeys t b k = K at CK hnK hnd hn
  obtain ⟨KB, hKB⟩ : ∃ KB, KB = tkeys b k := ⟨_, rfl⟩
  rw [← hKB] at hKb hi hq CKB CCI CTP CST CSB HDV HMD HTDV HTMD HI16 HQ16 hi1 hs1
  obtain ⟨i, hii⟩ : ∃ i, i = n / KB := ⟨_, rfl⟩
  obtain ⟨q, hqq⟩ : ∃ q, q = n % KB := ⟨_, rfl⟩
  rw [← hii] at hi CCI CTP CST CSB HDV HTDV HI16 hi1 hs1
  rw [← hqq] at hq CSB HMD HTMD HQ16
  generalize cid sd .none = ID at hi0 CC0 CST
  generalize csd sd .none = SD at hs0 CC0 CST
  generalize cid sd (.some i) = IE at hi1 CCI CTP CSB
  generalize csd sd (.some i) = SE at hs1 CCI CTP CSB
  have IDI := hid (id_info hi0); have IEI := hid (id_info hi1)
  have IDC : Hid ((Tryd.prog.info? 23).map (·.size) = some (u8s ID).toArray.size) := by show _ = _; rw [List.size_toArray]; exact IDI.out
  have IDZ : Hid (ZI.size = (u8s ID).toArray.size) := by show _ = _; rw [hzi16, List.size_toArray, u8s_length, hi0.len]
  have IEC : Hid ((Tryd.prog.info? 23).map (·.size) = some (u8s IE).toArray.size) := by show _ = _; rw [List.size_toArray]; exact IEI.out
  have IEZ : Hid (ZI.size = (u8s IE).toArray.size) := by show _ = _; rw [hzi16, List.size_toArray, u8s_length, hi1.len]
  have SSI := hid (hash_info hs0.len); have SDC := hid (info_hash SD hs0.len); have SDZ : Hid (Z.size = (u8s SD).toArray.size) := hz32.trans (hash_size hs0.len).symm
  have SEI := hid (hash_info hs1.len); have SEC := hid (info_hash SE hs1.len); have SEZ : Hid (Z.size = (u8s SE).toArray.size) := hz32.trans (hash_size hs1.len).symm
  have hwi : IntKind.i64.wrap (i : Int) = (i : Int) := IntWalk.i64_in _ (by have := HI16.out; omega)
  have hwq : IntKind.i64.wrap (q : Int) = (q : Int) := IntWalk.i64_in _ (by have := HQ16.out; omega)
  have hKz : ¬ (KB : Int) = 0 := by omega
  have hKzb : ((KB : Int) == 0) = false := by simp; omega
  clear hr hb hl hn hi hq h1 h2 hk hs hKB hii hqq hKb hi0 hs0 hi1 hs1 hz32 hzi16 hm
  go_enter Tryd.func32, Tryd.ntmps32
  go_wp2_with (go_at_call 24; refine (CK.out _).mono ?_; rintro e w1 ⟨rfl, rfl⟩)
  refine wp_region_held (S := fun w' => Hid (Us sd w.heap.size w w')) (by kernel_rfl) ?_
  change wpAnyH _ _ _ _ _ _ _ _ (w.alloc (.cells (u8s sd).toArray 26)).drew
  have Gx0 : Hid (Us sd w.heap.size w (w.alloc (.cells (u8s sd).toArray 26)).drew) := GT.out.drew
  have HBx0 : Below (w.alloc (.cells (u8s sd).toArray 26)).heap.size (w.alloc (.cells (u8s sd).toArray 26)) (w.alloc (.cells (u8s sd).toArray 26)).drew := (Below.refl _ _).drew
  clear HBx0
  generalize (w.alloc (.cells (u8s sd).toArray 26)).drew = x0 at Gx0  ⊢
  refine wpAnyH_take (i := 0) (oi := { dst := some 36, op := _, type := _, pos := _, after := _, guard := _ }) (v := ?_) rfl (by kernel_rfl) (by kernel_rfl) (by kernel_rfl) (fun _ _ _ h => h) (Or.inl ⟨by kernel_rfl, ?_⟩) (by assumption) ?_
  rotate_left
  · (intro w hSw; go_simp; try with_reducible rfl)
  try simp only [Act.put, List.setIfInBounds_toArray, List.set_cons_zero, List.set_cons_succ]
  refine wpAnyH_take (i := 1) (oi := { dst := some 37, op := _, type := _, pos := _, after := _, guard := _ }) (v := ?_) rfl (by kernel_rfl) (by kernel_rfl) (by kernel_rfl) (fun _ _ _ h => h) (Or.inl ⟨by kernel_rfl, ?_⟩) (by assumption) ?_
  rotate_left
  · (intro w hSw; go_simp; try with_reducible rfl)
  try simp only [Act.put, List.setIfInBounds_toArray, List.set_cons_zero, List.set_cons_succ]
  refine wpAnyH_take (i := 2) (oi := { dst := some 38, op := _, type := _, pos := _, after := _, guard := _ }) (v := ?_) rfl (by kernel_rfl) (by kernel_rfl) (by kernel_rfl) (fun _ _ _ h => h) (Or.inl ⟨by kernel_rfl, ?_⟩) (by assumption) ?_
  rotate_left
  · (intro w hSw; go_simp; try with_reducible rfl)
  try simp only [Act.put, List.setIfInBounds_toArray, List.set_cons_zero, List.set_cons_succ]
  refine wpAnyH_take (i := 5) (oi := { dst := some 41, op := _, type := _, pos := _, after := _, guard := _ }) (v := ?_) rfl (by kernel_rfl) (by kernel_rfl) (by kernel_rfl) (fun _ _ _ h => h) (Or.inl ⟨by kernel_rfl, ?_⟩) (by assumption) ?_
  rotate_left
  · (intro w hSw; go_simp; try with_reducible rfl)
  try simp only [Act.put, List.setIfInBounds_toArray, List.set_cons_zero, List.set_cons_succ]
  refine wpAnyH_take (i := 6) (oi := { dst := some 42, op := _, type := _, pos := _, after := _, guard := _ }) (v := ?_) rfl (by kernel_rfl) (by kernel_rfl) (by kernel_rfl) (fun _ _ _ h => h) (Or.inl ⟨by kernel_rfl, ?_⟩) (by assumption) ?_
  rotate_left
  · (intro w hSw; go_simp; try with_reducible rfl)
  try simp only [Act.put, List.setIfInBounds_toArray, List.set_cons_zero, List.set_cons_succ]
  refine wpAnyH_take (i := 7) (oi := { dst := some 43, op := _, type := _, pos := _, after := _, guard := _ }) (v := ?_) rfl (by kernel_rfl) (by kernel_rfl) (by kernel_rfl) (fun _ _ _ h => h) (Or.inl ⟨by kernel_rfl, ?_⟩) (by assumption) ?_
  rotate_left
  · (intro w hSw; go_simp; try with_reducible rfl)
  try simp only [Act.put, List.setIfInBounds_toArray, List.set_cons_zero, List.set_cons_succ]
  refine wpAnyH_ready (rs := [3]) (by kernel_rfl) (by simp) ?_
  refine (AllReadyH.cons (o := { dst := some 39, op := _, type := _, pos := _, after := _, guard := _ }) rfl (fun Qc hQc => ?_) AllReadyH.nil)
  go_simp
  go_at_call 55; refine (CKB.out _).mono ?_; rintro e wq ⟨rfl, rfl⟩
  go_wp2_with fail
  refine hQc.out _ _ Gx0 (fun hHeld => ?_)
  clear hQc Qc
  try simp only [Act.put, List.setIfInBounds_toArray, List.set_cons_zero, List.set_cons_succ]
  refine wpAnyH_take (i := 4) (oi := { dst := some 40, op := _, type := _, pos := _, after := _, guard := _ }) (v := .int .i64 (i : Nat)) rfl (by kernel_rfl) (by kernel_rfl) (by kernel_rfl) (fun _ _ _ h => h) (Or.inl ⟨by kernel_rfl, ?_⟩) (by assumption) ?_
  · (intro w hSw; have hdv := HTDV.out; have hdv2 := HDV.out; go_simp; (try with_reducible rfl); (try simp_all))
  try simp only [Act.put, List.setIfInBounds_toArray, List.set_cons_zero, List.set_cons_succ]
  refine wpAnyH_ready (rs := [8]) (by kernel_rfl) (by simp) ?_
  refine (AllReadyH.cons (o := { dst := some 44, op := _, type := _, pos := _, after := _, guard := _ }) rfl (fun Qc hQc => ?_) AllReadyH.nil)
  go_simp
  go_at_call 55; refine (CKB.out _).mono ?_; rintro e wq ⟨rfl, rfl⟩
  go_wp2_with fail
  refine hQc.out _ _ Gx0 (fun hHeld => ?_)
  clear hQc Qc
  try simp only [Act.put, List.setIfInBounds_toArray, List.set_cons_zero, List.set_cons_succ]
  refine wpAnyH_take (i := 9) (oi := { dst := some 45, op := _, type := _, pos := _, after := _, guard := _ }) (v := .int .i64 (q : Nat)) rfl (by kernel_rfl) (by kernel_rfl) (by kernel_rfl) (fun _ _ _ h => h) (Or.inl ⟨by kernel_rfl, ?_⟩) (by assumption) ?_
  · (intro w hSw; have hdv := HTMD.out; have hdv2 := HMD.out; go_simp; (try with_reducible rfl); (try simp_all))
  try simp only [Act.put, List.setIfInBounds_toArray, List.set_cons_zero, List.set_cons_succ]
  refine wpAnyH_take (i := 10) (oi := { dst := some 14, op := _, type := _, pos := _, after := _, guard := _ }) (v := ?_) rfl (by kernel_rfl) (by kernel_rfl) (by kernel_rfl) (fun _ _ _ h => h) (Or.inl ⟨by kernel_rfl, ?_⟩) (by assumption) ?_
  rotate_left
  · (intro w hSw; go_simp; try with_reducible rfl)
  try simp only [Act.put, List.setIfInBounds_toArray, List.set_cons_zero, List.set_cons_succ]
  refine wpAnyH_take (i := 11) (oi := { dst := some 15, op := _, type := _, pos := _, after := _, guard := _ }) (v := ?_) rfl (by kernel_rfl) (by kernel_rfl) (by kernel_rfl) (fun _ _ _ h => h) (Or.inl ⟨by kernel_rfl, ?_⟩) (by assumption) ?_
  rotate_left
  · (intro w hSw; go_simp; try with_reducible rfl)
  try simp only [Act.put, List.setIfInBounds_toArray, List.set_cons_zero, List.set_cons_succ]
  refine wpAnyH_done (by kernel_rfl) ?_ _
  try simp only [Act.put, List.setIfInBounds_toArray, List.set_cons_zero, List.set_cons_succ]
  have G1 := hid Gx0.out
  generalize x0 = w1 at G1 ⊢
  clear Gx0 GT CK CKB
  go_wp2_with (first
    | (refine load_at rfl 26 (.tmp 9) rfl (w.heap.size) 0 rfl (u8s sd) _ (blk_row G1.out.b0) Tryd.underlying26 rfl SDI.out (u8s sd).toArray rfl ?_)
    | (go_at_call 66; (with_reducible refine (CC0.out _).mono ?_); rintro e w2 ⟨rfl, hb2⟩; have G2 := hid (G1.out.below hb2); clear hb2)
    | (refine wpList_store_row rfl 23 (.tmp 16) (.tmp 49) rfl (w2.heap.size) (u8s ID).toArray rfl rfl 23 ZI ((Blk.new w2 23 ZI).alloc _) IDC.out IDZ.out (u8s_all ID) ?_)
    | (refine wpList_store_row rfl 26 (.tmp 17) (.tmp 50) rfl (w2.heap.size + 1) (u8s SD).toArray rfl rfl 26 Z (boxes2 w2 ZI Z (u8s ID).toArray (u8s SD).toArray 23 26).1 SDC.out SDZ.out (u8s_all SD) ?_; obtain ⟨_, hk1, hk2, hb⟩ := boxes2 w2 ZI Z (u8s ID).toArray (u8s SD).toArray 23 26; have KA3 := hid hk1; have KB3 := hid hk2; have G3 := hid (G2.out.below hb); clear hk1 hk2 hb; generalize (((w2.alloc (.cells ZI 23)).alloc (.cells Z 26)).setRow w2.heap.size (u8s ID).toArray).setRow (w2.heap.size + 1) (u8s SD).toArray = w3 at KA3 KB3 G3 ⊢)
    | (refine load_at rfl 26 (.tmp 9) rfl (w.heap.size) 0 rfl (u8s sd) _ (blk_row G3.out.b0) Tryd.underlying26 rfl SDI.out (u8s sd).toArray rfl ?_)
    | (go_at_call 66; refine (CCI.out _).mono ?_; rintro e w4 ⟨rfl, hb4⟩; have G4 := hid (G3.out.below hb4); have KA4 := hid (KA3.out.below hb4); have KB4 := hid (KB3.out.below hb4); clear hb4)
    | (refine wpList_store_row rfl 23 (.tmp 18) (.tmp 55) rfl (w4.heap.size) (u8s IE).toArray rfl rfl 23 ZI ((Blk.new w4 23 ZI).alloc _) IEC.out IEZ.out (u8s_all IE) ?_)
    | (refine wpList_store_row rfl 26 (.tmp 19) (.tmp 56) rfl (w4.heap.size + 1) (u8s SE).toArray rfl rfl 26 Z (boxes2 w4 ZI Z (u8s IE).toArray (u8s SE).toArray 23 26).1 SEC.out SEZ.out (u8s_all SE) ?_; obtain ⟨_, hk1, hk2, hb⟩ := boxes2 w4 ZI Z (u8s IE).toArray (u8s SE).toArray 23 26; have KC5 := hid hk1; have KD5 := hid hk2; have G5 := hid (G4.out.below hb); have KA5 := hid (KA4.out.below hb); have KB5 := hid (KB4.out.below hb); clear hk1 hk2 hb; generalize (((w4.alloc (.cells ZI 23)).alloc (.cells Z 26)).setRow w4.heap.size (u8s IE).toArray).setRow (w4.heap.size + 1) (u8s SE).toArray = w5 at KC5 KD5 G5 KA5 KB5 ⊢)
    | (refine load_at rfl 23 (.tmp 18) rfl (w4.heap.size) 0 rfl (u8s IE) _ (blk_row KC5.out) Tryd.underlying23 rfl IEI.out (u8s IE).toArray rfl ?_)
    | (refine load_at rfl 26 (.tmp 19) rfl (w4.heap.size + 1) 0 rfl (u8s SE) _ (blk_row KD5.out) Tryd.underlying26 rfl SEI.out (u8s SE).toArray rfl ?_)
    | (go_at_call 67; refine (CTP.out _).mono ?_; rintro e w6 ⟨A20, c20, rfl, hr6, hb6⟩; have R20_6 := hid hr6; have G6 := hid (G5.out.below hb6); have KA6 := hid (KA5.out.below hb6); have KB6 := hid (KB5.out.below hb6); have KC6 := hid (KC5.out.below hb6); have KD6 := hid (KD5.out.below hb6); clear hr6 hb6)
    | (refine load_at rfl 23 (.tmp 16) rfl (w2.heap.size) 0 rfl (u8s ID) _ (blk_row KA6.out) Tryd.underlying23 rfl IDI.out (u8s ID).toArray rfl ?_)
    | (refine load_at rfl 26 (.tmp 17) rfl (w2.heap.size + 1) 0 rfl (u8s SD) _ (blk_row KB6.out) Tryd.underlying26 rfl SSI.out (u8s SD).toArray rfl ?_)
    | (go_at_call 69; (with_reducible refine (CST.out _ _ _ R20_6.out).mono ?_); rintro e w7 ⟨A21, c21, rfl, hr7, hb7⟩; have R21_7 := hid hr7; have G7 := hid (G6.out.below hb7); have KC7 := hid (KC6.out.below hb7); have KD7 := hid (KD6.out.below hb7); have R20_7 := hid (R20_6.out.belowN hb7); clear hr7 hb7)
    | (refine load_at rfl 23 (.tmp 18) rfl (w4.heap.size) 0 rfl (u8s IE) _ (blk_row KC7.out) Tryd.underlying23 rfl IEI.out (u8s IE).toArray rfl ?_)
    | (refine load_at rfl 26 (.tmp 19) rfl (w4.heap.size + 1) 0 rfl (u8s SE) _ (blk_row KD7.out) Tryd.underlying26 rfl SEI.out (u8s SE).toArray rfl ?_)
    | (go_at_call 69; refine (CSB.out _ G7.out.bl).mono ?_; rintro e w8 ⟨A23, c23, rfl, hr8, hb8⟩; have R23_8 := hid hr8; have G8 := hid (G7.out.below hb8); have R20_8 := hid (R20_7.out.belowN hb8); have R21_8 := hid (R21_7.out.belowN hb8); have O8 := hid (own_lit4 w8 1); have BB8 := hid ((Below.refl w8.heap.size w8).alloc (Nat.le_refl _) (.cells #[.int .u8 0, .int .u8 0, .int .u8 0, .int .u8 1] 5)); clear hr8 hb8)
    | (at_builtin; refine append_rpm rfl (.tmp 83) (.tmp 84) rfl w8.heap.size w8.heap.size _ [0, 0, 0, 1] rfl O8.out A21 TS c21 TG HTL.out.symm rfl (R21_8.out.belowN BB8.out) (by rw [HTL.out]; have := LTS.out; simp; omega) BB8.out.size (Nat.le_refl _) ?_; intro v10 w10 HO10 HB10; have BB10 := hid (BB8.out.trans HB10.out))
    | (at_builtin; refine append_rpm rfl (.tmp 86) (.tmp 87) rfl w8.heap.size w8.heap.size _ ([0, 0, 0, 1] ++ TG) rfl HO10.out A20 56 c20 PB HPL.out.symm rfl (R20_8.out.belowN BB10.out) (by rw [List.length_append, HTL.out, HPL.out]; have := LTS.out; simp; omega) BB10.out.size (Nat.le_refl _) ?_; intro v11 w11 HO11 HB11; have BB11 := hid (BB10.out.trans HB11.out))
    | (at_builtin; refine append_rpm rfl (.tmp 89) (.tmp 90) rfl w8.heap.size w8.heap.size _ ([0, 0, 0, 1] ++ TG ++ PB) rfl HO11.out A23 BS c23 BG HBL.out.symm rfl (R23_8.out.belowN BB11.out) (by rw [List.length_append, List.length_append, HTL.out, HPL.out, HBL.out]; have := LTS.out; have := LBS.out; simp; omega) BB11.out.size (Nat.le_refl _) ?_; intro v12 w12 HO12 HB12; have BB12 := hid (BB11.out.trans HB12.out)))
  obtain ⟨A5, c5, rfl, _, hc5, hf5⟩ := fresh_of_own HO12.out (Nat.le_refl _)
  have HF5 := hid hf5.rp0
  have HB6 := hid (G8.out.bl.trans (BB12.out.mono G8.out.bl.size))
  have HL : Hid (([0, 0, 0, 1] ++ TG ++ PB ++ BG).length = HZ9) := by show _ = _; rw [← HSGE.out]; exact HLEN.out
  clear hf5 HO12 HB12
  go_ret2
  rw [HL.out]
  exact ⟨A5, c5, rfl, by rw [HSGE.out]; exact HF5.out, HB6.out⟩
end Go.Proofs.YtobceieadjpaaaaDoor
