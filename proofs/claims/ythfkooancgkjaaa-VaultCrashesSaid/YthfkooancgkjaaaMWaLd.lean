/-
  What is proved here: the records that are found when a log is opened.
-/
import Derived.Test.YthfkooancgkjaaaMWaL
import Derived.Test.YthfkooancgkjaaaMSsB
import Derived.Deep.LoopGhost
import Derived.Deep.DeepCutAuto
import Derived.Deep.RegionLaw
import Derived.OrdersHeld
set_option linter.unusedSimpArgs false
set_option linter.unusedVariables false
namespace Go.Proofs.Ythfkooancgkjaaa
open Go.ChangeShapes Go.WideShapes Go.ChangeAt Go.RowKit
set_option linter.unusedVariables false
set_option maxRecDepth 20000

theorem lp_rd {s : SS} (hd : s.D = false) {a j : Nat} (h : a + j < s.L.length) : s.rd ((a : Int) + (j : Int)) = (0, s.lp a j) := by
  unfold SS.rd SS.lp
  rw [if_neg (by rw [hd]; decide), if_neg (by omega), show ((a : Int) + (j : Int)).toNat = a + j by omega]
theorem lp_len {s : SS} (h1 : PgOk s.L) (h2 : QOk s.L.length s.Q) {a j : Nat} (h : a + j < s.L.length) : (s.lp a j).length = 128 := (pg_ok _ _ h1 h2).at (by rw [pg_length]; exact h)
theorem lp_bs {s : SS} (h : s.bs) (a j : Nat) : Bs (s.lp a j) := bs_at (pg_bs _ _ h.1 h.2) _
/-- at the head of a record -/
structure LdO (n1 lb b a c : Nat) (G l0 : Int) (P : Nat → List Int) (w0 : World) (i : Nat) (l : Int) (R : List (List Int)) (v : Value) (wr : World) : Prop where
  lg : Blk wr lb 90 (lgC b a c ⟨G, i, false⟩)
  al : AllM n1 0 wr R v
  be : Below n1 w0 wr
  sc : scn P c c 0 l0 = (R ++ (scn P c c i l).1, (scn P c c i l).2)
  lo : 0 ≤ l ∧ l < 4294967296
  ln : R.length ≤ i
theorem LdO.below {n1 lb b a c : Nat} {G l0 : Int} {P : Nat → List Int} {w0 : World} {i : Nat} {l : Int} {R : List (List Int)} {v : Value} {wr w' : World} (h : LdO n1 lb b a c G l0 P w0 i l R v wr) (hb : Below wr.heap.size wr w') (hn : n1 ≤ wr.heap.size) : LdO n1 lb b a c G l0 P w0 i l R v w' :=
  ⟨h.lg.below hb, h.al.below hb (Nat.zero_le _), h.be.trans (hb.mono hn), h.sc, h.lo, h.ln⟩
/-- within a record: it begins at page i, j is the next page -/
def InM (P : Nat → List Int) (c i : Nat) (l : Int) (j : Nat) (lc : Int) (bg ed : Bool) (acc : List Int) : Prop :=
  (ed = false → nx P (c - i) i l true [] = nx P (c - j) j lc (!bg) acc) ∧ (ed = true → nx P (c - i) i l true [] = some (acc, j, lc)) ∧ (0 ≤ lc ∧ lc < 4294967296) ∧ acc.length ≤ 6000
theorem scn_end {P : Nat → List Int} {c i : Nat} {l : Int} (h : nx P (c - i) i l true [] = none) : scn P c c i l = ([], i, l) := by
  rw [scn_fuel c (c + 1) i l (by omega) (by omega)]
  exact scn_none h
theorem scn_step {P : Nat → List Int} {c i : Nat} {l : Int} {r : List Int} {j : Nat} {g : Int} (h : nx P (c - i) i l true [] = some (r, j, g)) : scn P c c i l = (r :: (scn P c c j g).1, (scn P c c j g).2) := by
  rw [scn_fuel c (c + 1) i l (by omega) (by omega)]
  exact scn_some h
theorem LdO.done {n1 lb b a c : Nat} {G l0 : Int} {P : Nat → List Int} {w0 : World} {i : Nat} {l : Int} {R : List (List Int)} {v : Value} {wr : World} (h : LdO n1 lb b a c G l0 P w0 i l R v wr) (hn : nx P (c - i) i l true [] = none) :
    AllM n1 0 wr (scn P c c 0 l0).1 v ∧ Blk wr lb 90 (lgC b a c ⟨G, (scn P c c 0 l0).2.1, false⟩) ∧ Below n1 w0 wr := by
  rw [h.sc, scn_end hn, List.append_nil]
  exact ⟨h.al, h.lg, h.be⟩
theorem LdO.next {n1 lb b a c : Nat} {G l0 : Int} {P : Nat → List Int} {w0 : World} {i : Nat} {l : Int} {R : List (List Int)} {v : Value} {wo w9 : World} (h : LdO n1 lb b a c G l0 P w0 i l R v wo) {r : List Int} {v9 : Value} {j : Nat} {l' : Int} (hal : AllM n1 0 w9 (R ++ [r]) v9)
    (hlg : Blk w9 lb 90 (lgC b a c ⟨G, i, false⟩)) (hbe : Below n1 w0 w9) (hlb : n1 ≤ lb) (hs : n1 ≤ w9.heap.size) (hn : nx P (c - i) i l true [] = some (r, j, l')) (hl' : 0 ≤ l' ∧ l' < 4294967296) : LdO n1 lb b a c G l0 P w0 j l' (R ++ [r]) v9 (w9.setCell ⟨lb, 3, none⟩ (.int .i64 j)) := by
  have ho : OnlyS (fun k => k = lb) w9 (w9.setCell ⟨lb, 3, none⟩ (.int .i64 j)) := only_set (R := fun k => k = lb) rfl _ _
  have hb : Below n1 w9 (w9.setCell ⟨lb, 3, none⟩ (.int .i64 j)) := ho.below hs (fun k hk => by omega)
  have hm := nx_more _ _ _ _ _ _ _ _ hn
  refine ⟨hlg.setd 3 _, hal.keep (Kx.log ho hlg) (hb.mono (Nat.zero_le _)), hbe.trans hb, ?_, hl', ?_⟩
  · rw [h.sc, scn_step hn]
    simp
  · rw [List.length_append]
    have := h.ln
    simp only [List.length_singleton]
    omega
theorem cell_bl {w w' : World} {p : Addr} {v : Value} (hb : Below w.heap.size w w') (h : w.cell? p = some v) : w'.cell? p = some v := (hb.cell (block_lt_of_cell h)).trans h
theorem fit_no {P : Nat → List Int} {c j : Nat} {lc q g kd : Int} {bb : List Int} {bg : Bool} {acc : List Int} (hj : j < c) (hX : (P j).length = 128) (hb : Bs (P j)) (hj4 : (j : Int) < 100000) (ht : tkw (P j) = some (q, g, kd, bb)) (h : q ≠ (j : Int) + 1 ∨ fitB bg lc g kd = false) : nx P (c - j) j lc (!bg) acc = none := by
  have hr := rt_tkw hX hb (p := (j : Int) + 1) (l := lc) (by omega)
  rw [ht] at hr
  simp only at hr
  by_cases hc : q = (j : Int) + 1 ∧ lc ≤ g
  · rw [if_pos hc] at hr
    refine nx_bad hj hr ?_
    rcases h with h | h
    · exact (h hc.1).elim
    · unfold fitB at h
      cases bg with
      | true =>
        rw [if_pos rfl] at h
        have h := of_decide_eq_false h
        by_cases k1 : kd % 2 = 1
        · left; rw [decide_eq_true k1]; decide
        · right; left; exact ⟨rfl, fun e => h ⟨by omega, e⟩⟩
      | false =>
        rw [if_neg (by decide)] at h
        have h := of_decide_eq_false h
        left
        rw [decide_eq_false (fun e => h ⟨e, hc.2⟩)]
        decide
  · rw [if_neg hc] at hr
    exact nx_no hj hr
theorem fit_yes {P : Nat → List Int} {c j : Nat} {lc g kd : Int} {bb : List Int} {bg : Bool} (hj : j < c) (hX : (P j).length = 128) (hb : Bs (P j)) (hj4 : (j : Int) < 100000) (ht : tkw (P j) = some ((j : Int) + 1, g, kd, bb)) (h : fitB bg lc g kd = true) :
    rt (P j) ((j : Int) + 1) lc = some (g, kd, bb) ∧ decide (kd % 2 = 1) = (!bg) ∧ ((!bg) = false → g = lc) := by
  have hr := rt_tkw hX hb (p := (j : Int) + 1) (l := lc) (by omega)
  rw [ht] at hr
  simp only at hr
  unfold fitB at h
  cases bg with
  | true =>
    rw [if_pos rfl] at h
    have h := of_decide_eq_true h
    rw [if_pos ⟨trivial, by omega⟩] at hr
    exact ⟨hr, decide_eq_false (by omega), fun _ => h.2⟩
  | false =>
    rw [if_neg (by decide)] at h
    have h := of_decide_eq_true h
    rw [if_pos ⟨trivial, h.2⟩] at hr
    exact ⟨hr, decide_eq_true h.1, fun e => by cases e⟩
/-- one page more -/
theorem InM.next {P : Nat → List Int} {c i j : Nat} {l lc g kd : Int} {bb acc : List Int} {bg : Bool} (h : InM P c i l j lc bg false acc) (hj : j < c) (hX : (P j).length = 128) (hb : Bs (P j)) (hj4 : (j : Int) < 100000) (ht : tkw (P j) = some ((j : Int) + 1, g, kd, bb)) (hf : fitB bg lc g kd = true) (hl : (acc ++ bb).length ≤ 6000) (ed : Bool) (he : ed = decide (2 ≤ kd)) :
    InM P c i l (j + 1) g true ed (acc ++ bb) := by
  obtain ⟨h1, h2, h3⟩ := fit_yes hj hX hb hj4 ht hf
  have hn := h.1 rfl
  have hc : ¬ (decide (kd % 2 = 1) ≠ (!bg) ∨ ((!bg) = false ∧ g ≠ lc) ∨ 6000 < (acc ++ bb).length) := by
    rintro (k | ⟨k1, k2⟩ | k)
    · exact k h2
    · exact k2 (h3 k1)
    · omega
  subst he
  refine ⟨fun e => ?_, fun e => ?_, (tkw_some hX hb ht).2.1, hl⟩
  · rw [hn, nx_go hj h1 hc (of_decide_eq_false e)]; rfl
  · rw [hn, nx_last hj h1 hc (of_decide_eq_true e)]
theorem long_no {P : Nat → List Int} {c j : Nat} {lc g kd : Int} {bb acc : List Int} {bg : Bool} (hj : j < c) (hX : (P j).length = 128) (hb : Bs (P j)) (hj4 : (j : Int) < 100000) (ht : tkw (P j) = some ((j : Int) + 1, g, kd, bb)) (hf : fitB bg lc g kd = true) (hl : 6000 < (acc ++ bb).length) : nx P (c - j) j lc (!bg) acc = none :=
  nx_bad hj (fit_yes hj hX hb hj4 ht hf).1 (.inr (.inr hl))
theorem kp_cell {w0 : World} {a : Addr} {v : Value} (h : w0.cell? a = some v) (p : PW (Kp w0)) : p.w.cell? a = some v := (Below.cell p.h (block_lt_of_cell h)).trans h
theorem kp_rng {w0 : World} {g : Nat} {t : TypeId} {cs : Array Value} (h : Blk w0 g t cs) (p : PW (Kp w0)) : p.w.rangeAt g 0 cs.toList := fun j v hv => by
  rw [(kp_blk h p).cell, Nat.zero_add]; simpa using hv
theorem below_drew1 (w : World) : Below w.heap.size w w.drew := ⟨rfl, rfl, rfl, Nat.le_refl _, fun _ _ => rfl⟩
set_option maxHeartbeats 8000000 in
theorem wload_any {n0 : Nat} {w0 w : World} {b : Nat} {s : SS} (hD : Dy n0 w0 b s) (hbs : s.bs) (hdn : s.D = false) (a c lb : Nat) (G l0 : Int) (hf : a + c ≤ s.L.length) (hc : c ≤ 1000) (hb0 : Below w0.heap.size w0 w) (hlb : w0.heap.size ≤ lb)
    (hl : Blk w lb 90 (lgC b a c ⟨G, 0, false⟩)) (hl0 : 0 ≤ l0 ∧ l0 < 4294967296) :
    Calls Try.prog 60 #[.pointer (some ⟨lb, 0, none⟩), .int .u32 l0] w fun e w' => ∃ V, e = .returned (.tuple #[V, .int .i64 0]) ∧ AllM w0.heap.size 0 w' (scn (s.lp a) c c 0 l0).1 V ∧ Blk w' lb 90 (lgC b a c ⟨G, (scn (s.lp a) c c 0 l0).2.1, false⟩) ∧ Below w0.heap.size w0 w' := by
  have ha : a ≤ 4096 := by have := hD.ok.2.2; omega
  have CR : Hid (∀ (j : Nat), j < c → ∀ u, Below w0.heap.size w0 u → Calls Try.prog 51 #[.pointer (some ⟨b, 0, none⟩), .int .i64 ((a : Int) + (j : Int))] u (RdAns (s.lp a j) 0 u)) := hid fun j hj u hu => by
    have := dr_any (hD.below hu) ((a : Int) + j)
    rw [lp_rd hdn (by omega)] at this
    exact this
  have LP : Hid (∀ j, j < c → (s.lp a j).length = 128 ∧ Bs (s.lp a j)) := hid fun j hj => ⟨lp_len hD.ok.1 hD.ok.2.1 (by omega), lp_bs hbs a j⟩
  obtain ⟨P, hP⟩ : ∃ P, P = s.lp a := ⟨_, rfl⟩
  rw [← hP] at CR LP ⊢
  clear hP hD hbs hdn hf
  have HO0 : Hid (LdO w0.heap.size lb b a c G l0 P w0 0 l0 [] (.slice none 0 0) w) := ⟨hl, AllM.nil _ _ _, hb0, by simp, hl0, Nat.le_refl _⟩
  obtain ⟨n1, hn1⟩ : ∃ n1, n1 = w0.heap.size := ⟨_, rfl⟩
  rw [← hn1] at CR HO0 hlb ⊢
  have HN1 := hid hn1
  clear hl hb0 hn1
  go_enter Try.func60, Try.ntmps60
  go_wp2
  go_step3
  go_wp2
  go_step3
  go_wp2
  go_loopg [1, 6] c (fun g s1 s6 wr => ∃ (i : Nat) (l : Int) (R : List (List Int)), i + g = c ∧ s1 = .int .u32 l ∧ Hid (LdO n1 lb b a c G l0 P w0 i l R s6 wr))
  case atStart => exact ⟨0, l0, [], by omega, rfl, HO0⟩
  case round =>
    obtain ⟨i, l, R, hig, rfl, HO⟩ := hrel
    have c2 : wr.cell? ⟨lb, 2, none⟩ = some (.int .i64 c) := HO.out.lg.cell 2
    have c3 : wr.cell? ⟨lb, 3, none⟩ = some (.int .i64 i) := HO.out.lg.cell 3
    cases gk with
    | zero =>
      obtain rfl : i = c := by omega
      go_wp2
      go_region
      go_wp2
      rw [Exit.noGoto_ret]
      go_ret2
      exact ⟨_, rfl, LdO.done (HO.out.below (below_drew1 _) (Nat.le_trans (Nat.le_of_eq HN1.out) HO.out.be.size)) (nx_end (Nat.le_refl _) _ _ _)⟩
    | succ g =>
      have hlt : (i : Int) < (c : Int) := by omega
      have HWO : Hid (LdO n1 lb b a c G l0 P w0 i l R u6 wr.drew) := hid (HO.out.below (below_drew1 _) (Nat.le_trans (Nat.le_of_eq HN1.out) HO.out.be.size))
      have HIG := hid hig
      clear hig
      go_wp2
      go_region
      clear HO c2 c3 hlt
      generalize wr.drew = wo at HWO ⊢
      have S0 : Hid (n1 ≤ wo.heap.size) := hid (Nat.le_trans (Nat.le_of_eq HN1.out) HWO.out.be.size)
      have c3 : wo.cell? ⟨lb, 3, none⟩ = some (.int .i64 i) := HWO.out.lg.cell 3
      go_wp2
      go_loopg [1, 7, 8, 9, 10] (c - i) (fun g2 s1 s7 s8 s9 s10 wx => ∃ (j : Nat) (lc : Int) (bg ed : Bool) (acc : List Int), j + g2 = c ∧ s1 = .int .u32 lc ∧ s8 = .int .i64 j ∧ s9 = .bool bg ∧ s10 = .bool ed ∧ Hid (InM P c i l j lc bg ed acc) ∧ Hid (wx.ownsRow wo.heap.size 5 1 s7 acc.length (u8s acc)) ∧ Hid (Below wo.heap.size wo wx))
      case atStart => exact ⟨i, l, false, false, [], by have := HIG.out; omega, rfl, rfl, rfl, rfl, ⟨fun _ => rfl, fun h => (by cases h), HWO.out.lo, by simp⟩, ⟨rfl, .inl ⟨rfl, rfl⟩⟩, Below.refl _ _⟩
      case round =>
        obtain ⟨j, lc, bg, ed, acc, hjg, rfl, rfl, rfl, rfl, HM, HOW, HBX⟩ := hrel
        obtain ⟨A7, c7, rfl⟩ := slice_of HOW.out
        have c2 : wr.cell? ⟨lb, 2, none⟩ = some (.int .i64 c) := (HWO.out.lg.below HBX.out).cell 2
        cases ed with
        | true =>
          have hnx := HM.out.2.1 rfl
          have AM := hid (HWO.out.al.below HBX.out (Nat.zero_le _))
          have HLB : Hid (Blk wr lb 90 (lgC b a c ⟨G, i, false⟩)) := hid (HWO.out.lg.below HBX.out)
          have BW := hid (HWO.out.be.trans (HBX.out.mono S0.out))
          have SW : Hid (n1 ≤ wr.heap.size) := hid (Nat.le_trans S0.out HBX.out.size)
          have hij : i < j := (nx_more _ _ _ _ _ _ _ _ hnx).1
          have hjc2 : j ≤ c := by omega
          have HNX := hid hnx
          have hRL : R.length ≤ 1000 := by have := HWO.out.ln; omega
          obtain ⟨lm, hlm⟩ : ∃ m, m = acc.length := ⟨_, rfl⟩
          have HLM := hid hlm
          rw [← hlm]
          rw [← hlm] at HOW
          clear hnx hlm c2
          go_wp2_with (at_builtin; refine append_m rfl (.tmp 91) (.tmp 93) rfl 0 n1 R _ rfl AM.out A7 lm c7 acc rfl hRL (own_rq HOW.out) HLM.out SW.out (Nat.zero_le _) ?_; intro v9 w9 hm9 kb9 b9; have K3 := kb9.blk HLB.out (by decide); have c3 : w9.cell? ⟨lb, 3, none⟩ = some (.int .i64 i) := K3.cell 3; have f3 : w9.frozen? ⟨lb, 3, none⟩ = false := K3.frozen 3; have HM9 := hid hm9; have K3 := hid K3; have B9 := hid (BW.out.trans b9); have S9 := hid (Nat.le_trans SW.out kb9.1); clear hm9 kb9 b9)
          go_roundg (c - j)
          case measure => have := HIG.out; omega
          case rel => exact ⟨j, lc, R ++ [acc], by omega, rfl, hid (HWO.out.next HM9.out K3.out B9.out hlb S9.out HNX.out HM.out.2.2.1)⟩
        | false =>
          cases gk with
          | zero =>
            obtain rfl : j = c := by omega
            go_wp2
            rw [Exit.noGoto_ret]
            go_ret2
            exact ⟨_, rfl, LdO.done (HWO.out.below (HBX.out) S0.out) (by rw [HM.out.1 rfl]; exact nx_end (Nat.le_refl _) _ _ _)⟩
          | succ g2 =>
            have hjc : ((j : Int) == (c : Int)) = false := by simp; omega
            have c0 : wr.cell? ⟨lb, 0, none⟩ = some (.pointer (some ⟨b, 0, none⟩)) := (HWO.out.lg.below HBX.out).cell 0
            have c1 : wr.cell? ⟨lb, 1, none⟩ = some (.int .i64 a) := (HWO.out.lg.below HBX.out).cell 1
            have hjlt : j < c := by omega
            have CR1 : Hid (∀ u, Below wr.heap.size wr u → Calls Try.prog 51 #[.pointer (some ⟨b, 0, none⟩), .int .i64 ((a : Int) + (j : Int))] u (RdAns (P j) 0 u)) := hid fun u hu => CR.out j hjlt u (HWO.out.be.trans ((HBX.out.trans (hu.mono HBX.out.size)).mono S0.out))
            have LPJ := hid (LP.out j hjlt)
            go_wp2
            have e9 : IntKind.i64.wrap ((a : Int) + (j : Int)) = (a : Int) + (j : Int) := IntWalk.i64_in _ (by omega)
            have C0 := hid c0
            have C1 := hid c1
            clear c0 c1 c2
            refine wp_region_held (S := fun w' => Hid (Below wr.heap.size wr w')) (by kernel_rfl) ?_
            change wpAnyH _ _ _ _ _ _ _ _ wr.drew
            have Gx0 : Hid (Below wr.heap.size wr wr.drew) := (Below.refl _ _).drew
            generalize wr.drew = x0 at Gx0  ⊢
            refine wpAnyH_take (i := 0) (oi := { dst := some 37, op := _, type := _, pos := _, after := _, guard := _ }) (v := ?_) rfl (by kernel_rfl) (by kernel_rfl) (by kernel_rfl) (fun _ _ _ h => h) (Or.inl ⟨by kernel_rfl, ?_⟩) Gx0 ?_
            rotate_left
            · (intro w hSw; go_simp; try with_reducible rfl)
            try simp only [Act.put, List.setIfInBounds_toArray, List.set_cons_zero, List.set_cons_succ]
            refine wpAnyH_take (i := 1) (oi := { dst := some 38, op := _, type := _, pos := _, after := _, guard := _ }) (v := ?_) rfl (by kernel_rfl) (by kernel_rfl) (by kernel_rfl) (fun _ _ _ h => h) (Or.inl ⟨by kernel_rfl, ?_⟩) Gx0 ?_
            rotate_left
            · (intro w hSw; go_simp; try with_reducible rfl)
            try simp only [Act.put, List.setIfInBounds_toArray, List.set_cons_zero, List.set_cons_succ]
            refine wpAnyH_take (i := 2) (oi := { dst := some 39, op := _, type := _, pos := _, after := _, guard := _ }) (v := ?_) rfl (by kernel_rfl) (by kernel_rfl) (by kernel_rfl) (fun _ _ _ h => h) (Or.inl ⟨by kernel_rfl, ?_⟩) Gx0 ?_
            rotate_left
            · (intro w hSw; go_simp; try with_reducible rfl)
            try simp only [Act.put, List.setIfInBounds_toArray, List.set_cons_zero, List.set_cons_succ]
            refine wpAnyH_take (i := 3) (oi := { dst := some 40, op := _, type := _, pos := _, after := _, guard := _ }) (v := ?_) rfl (by kernel_rfl) (by kernel_rfl) (by kernel_rfl) (fun _ _ _ h => h) (Or.inl ⟨by kernel_rfl, ?_⟩) Gx0 ?_
            rotate_left
            · (intro w hSw; have hc := cell_bl hSw.out C0.out; go_simp; try with_reducible rfl)
            try simp only [Act.put, List.setIfInBounds_toArray, List.set_cons_zero, List.set_cons_succ]
            refine wpAnyH_take (i := 4) (oi := { dst := some 41, op := _, type := _, pos := _, after := _, guard := _ }) (v := ?_) rfl (by kernel_rfl) (by kernel_rfl) (by kernel_rfl) (fun _ _ _ h => h) (Or.inl ⟨by kernel_rfl, ?_⟩) Gx0 ?_
            rotate_left
            · (intro w hSw; go_simp; try with_reducible rfl)
            try simp only [Act.put, List.setIfInBounds_toArray, List.set_cons_zero, List.set_cons_succ]
            refine wpAnyH_take (i := 5) (oi := { dst := some 42, op := _, type := _, pos := _, after := _, guard := _ }) (v := ?_) rfl (by kernel_rfl) (by kernel_rfl) (by kernel_rfl) (fun _ _ _ h => h) (Or.inl ⟨by kernel_rfl, ?_⟩) Gx0 ?_
            rotate_left
            · (intro w hSw; go_simp; try with_reducible rfl)
            try simp only [Act.put, List.setIfInBounds_toArray, List.set_cons_zero, List.set_cons_succ]
            refine wpAnyH_take (i := 6) (oi := { dst := some 43, op := _, type := _, pos := _, after := _, guard := _ }) (v := ?_) rfl (by kernel_rfl) (by kernel_rfl) (by kernel_rfl) (fun _ _ _ h => h) (Or.inl ⟨by kernel_rfl, ?_⟩) Gx0 ?_
            rotate_left
            · (intro w hSw; go_simp; try with_reducible rfl)
            try simp only [Act.put, List.setIfInBounds_toArray, List.set_cons_zero, List.set_cons_succ]
            refine wpAnyH_take (i := 7) (oi := { dst := some 44, op := _, type := _, pos := _, after := _, guard := _ }) (v := ?_) rfl (by kernel_rfl) (by kernel_rfl) (by kernel_rfl) (fun _ _ _ h => h) (Or.inl ⟨by kernel_rfl, ?_⟩) Gx0 ?_
            rotate_left
            · (intro w hSw; have hc := cell_bl hSw.out C1.out; go_simp; try with_reducible rfl)
            try simp only [Act.put, List.setIfInBounds_toArray, List.set_cons_zero, List.set_cons_succ]
            refine wpAnyH_take (i := 8) (oi := { dst := some 45, op := _, type := _, pos := _, after := _, guard := _ }) (v := ?_) rfl (by kernel_rfl) (by kernel_rfl) (by kernel_rfl) (fun _ _ _ h => h) (Or.inl ⟨by kernel_rfl, ?_⟩) Gx0 ?_
            rotate_left
            · (intro w hSw; go_simp; try with_reducible rfl)
            try simp only [Act.put, List.setIfInBounds_toArray, List.set_cons_zero, List.set_cons_succ]
            refine wpAnyH_take (i := 9) (oi := { dst := some 46, op := _, type := _, pos := _, after := _, guard := _ }) (v := ?_) rfl (by kernel_rfl) (by kernel_rfl) (by kernel_rfl) (fun _ _ _ h => h) (Or.inl ⟨by kernel_rfl, ?_⟩) Gx0 ?_
            rotate_left
            · (intro w hSw; go_simp; try with_reducible rfl)
            try simp only [Act.put, List.setIfInBounds_toArray, List.set_cons_zero, List.set_cons_succ]
            refine wpAnyH_ready (rs := [10]) (by kernel_rfl) (by simp) ?_
            refine (AllReadyH.cons (o := { dst := some 47, op := _, type := _, pos := _, after := _, guard := _ }) rfl (fun Qc hQc => ?_) AllReadyH.nil)
            go_simp
            go_at_call 51
            try rw [e9]
            refine (CR1.out _ Gx0.out).mono ?_
            rintro e x1 ⟨X, q, cx, rfl, hq, hf, hb⟩
            obtain rfl : q = 128 := hq.trans LPJ.out.1
            have RX := hid hf.rp0
            have Gx1 := hid (Gx0.out.trans (hb.mono Gx0.out.size))
            clear hb hf hq
            go_wp2_with fail
            refine hQc.out _ _ Gx1 (fun hHeld => ?_)
            clear hQc Qc hHeld Gx0
            try simp only [Act.put, List.setIfInBounds_toArray, List.set_cons_zero, List.set_cons_succ]
            refine wpAnyH_take (i := 11) (oi := { dst := some 36, op := _, type := _, pos := _, after := _, guard := _ }) (v := ?_) rfl (by kernel_rfl) (by kernel_rfl) (by kernel_rfl) (fun _ _ _ h => h) (Or.inl ⟨by kernel_rfl, ?_⟩) Gx1 ?_
            rotate_left
            · (intro w hSw; go_simp; try with_reducible rfl)
            try simp only [Act.put, List.setIfInBounds_toArray, List.set_cons_zero, List.set_cons_succ]
            refine wpAnyH_take (i := 12) (oi := { dst := some 48, op := _, type := _, pos := _, after := _, guard := _ }) (v := ?_) rfl (by kernel_rfl) (by kernel_rfl) (by kernel_rfl) (fun _ _ _ h => h) (Or.inl ⟨by kernel_rfl, ?_⟩) Gx1 ?_
            rotate_left
            · (intro w hSw; go_simp; try with_reducible rfl)
            try simp only [Act.put, List.setIfInBounds_toArray, List.set_cons_zero, List.set_cons_succ]
            refine wpAnyH_take (i := 13) (oi := { dst := some 49, op := _, type := _, pos := _, after := _, guard := _ }) (v := ?_) rfl (by kernel_rfl) (by kernel_rfl) (by kernel_rfl) (fun _ _ _ h => h) (Or.inl ⟨by kernel_rfl, ?_⟩) Gx1 ?_
            rotate_left
            · (intro w hSw; go_simp; try with_reducible rfl)
            try simp only [Act.put, List.setIfInBounds_toArray, List.set_cons_zero, List.set_cons_succ]
            refine wpAnyH_take (i := 14) (oi := { dst := some 11, op := _, type := _, pos := _, after := _, guard := _ }) (v := ?_) rfl (by kernel_rfl) (by kernel_rfl) (by kernel_rfl) (fun _ _ _ h => h) (Or.inl ⟨by kernel_rfl, ?_⟩) Gx1 ?_
            rotate_left
            · (intro w hSw; go_simp; try with_reducible rfl)
            try simp only [Act.put, List.setIfInBounds_toArray, List.set_cons_zero, List.set_cons_succ]
            refine wpAnyH_take (i := 15) (oi := { dst := some 12, op := _, type := _, pos := _, after := _, guard := _ }) (v := ?_) rfl (by kernel_rfl) (by kernel_rfl) (by kernel_rfl) (fun _ _ _ h => h) (Or.inl ⟨by kernel_rfl, ?_⟩) Gx1 ?_
            rotate_left
            · (intro w hSw; go_simp; try with_reducible rfl)
            try simp only [Act.put, List.setIfInBounds_toArray, List.set_cons_zero, List.set_cons_succ]
            refine wpAnyH_done (by kernel_rfl) ?_ _
            try simp only [Act.put, List.setIfInBounds_toArray, List.set_cons_zero, List.set_cons_succ]
            have B1 := hid (HBX.out.trans (Gx1.out.mono HBX.out.size))
            have B1R := hid Gx1.out
            have hj4 : (j : Int) < 100000 := by omega
            cases htk : tkw (P j) with
            | none =>
              have CT := hid (wtake_any X cx (P j) x1 RX.out LPJ.out.1 LPJ.out.2)
              rw [htk] at CT
              have HN : Hid (nx P (c - j) j lc (!bg) acc = none) := hid (nx_no hjlt (by rw [rt_tkw LPJ.out.1 LPJ.out.2 (by omega), htk]))
              clear htk
              go_wp2_with (go_at_call 74; refine CT.out.mono ?_; rintro e w2 ⟨rfl, hb2⟩; have B2 := hid (B1.out.trans (hb2.mono B1.out.size)); clear hb2)
              have B3 := hid (B2.out.alloc B2.out.size (.cells #[.int .u32 0, .int .u32 0, .int .i64 0, .slice none 0 0] 123))
              generalize w2.alloc (.cells #[.int .u32 0, .int .u32 0, .int .i64 0, .slice none 0 0] 123) = w3 at B3 ⊢
              refine region_kept (Kp w3) (by kernel_rfl) (by kernel_rfl) (kp_begin w3) ?_
              repeat (first
                | go_big_quiet_skip
                | (go_big_quiet_want; go_big_quiet_op; go_big_quiet_on))
              refine wpQuiet_nil ?_
              intro _ hw'
              obtain ⟨p, hw''⟩ := hw'
              subst hw''
              have B4 := hid (B3.out.trans (Below.mono p.h B3.out.size))
              go_wp2
              rw [Exit.noGoto_ret]
              go_ret2
              exact ⟨_, rfl, LdO.done (HWO.out.below (B4.out) S0.out) (by rw [HM.out.1 rfl]; exact HN.out)⟩
            | some y =>
              obtain ⟨q, g, kd, bb⟩ := y
              have CT := hid (wtake_any X cx (P j) x1 RX.out LPJ.out.1 LPJ.out.2)
              rw [htk] at CT
              obtain ⟨hq1, hg1, hk1, hbl, hbs⟩ := tkw_some LPJ.out.1 LPJ.out.2 htk
              have HTK := hid htk
              have HBL := hid hbl
              clear htk hbs hbl
              go_wp2_with (go_at_call 74; refine CT.out.mono ?_; rintro e w2 ⟨V, m, cv, rfl, hm, hf, hb2⟩; have HMM := hid hm; have RV2 := hid hf.rp0; have B2 := hid (B1.out.trans (hb2.mono B1.out.size)); have B2R := hid (B1R.out.trans (hb2.mono B1R.out.size)); clear hb2 hf hm)
              have B3 := hid (B2.out.alloc B2.out.size (.cells #[.int .u32 q, .int .u32 g, .int .i64 kd, .slice V m cv] 123))
              have B3R := hid (B2R.out.alloc B2R.out.size (.cells #[.int .u32 q, .int .u32 g, .int .i64 kd, .slice V m cv] 123))
              have RV3 : Hid (Rp (w2.alloc (.cells #[.int .u32 q, .int .u32 g, .int .i64 kd, .slice V m cv] 123)) none V bb) := hid (RV2.out.belowN ((Below.refl w2.heap.size w2).alloc (Nat.le_refl _) _))
              have PB := hid (Blk.new w2 123 #[.int .u32 q, .int .u32 g, .int .i64 kd, .slice V m cv])
              have PI : Hid ((Try.prog.info? 123).map (·.size) = some ([.int .u32 q, .int .u32 g, .int .i64 kd, .slice V m cv] : List Value).length) := by show _ = _; kernel_rfl
              generalize w2.alloc (.cells #[.int .u32 q, .int .u32 g, .int .i64 kd, .slice V m cv] 123) = w3 at B3 B3R RV3 PB ⊢
              generalize w2.heap.size = pb at PB ⊢
              have hl0 : ∀ p : PW (Kp w3), p.w.cell? ⟨pb, 0, none⟩ = some (.int .u32 q) := fun p => kp_cell (PB.out.cell 0) p
              have CP : Hid (∀ u, Calls Try.prog 64 #[.int .i64 j] u fun e w' => e = .returned (.int .u32 ((j : Int) + 1)) ∧ Below u.heap.size u w') := hid fun u => (wplace_any j u (by omega)).mono fun e w' ⟨h1, h2⟩ => ⟨h1, by subst h2; exact Below.refl _ _⟩
              have CF : Hid (∀ u, Calls Try.prog 75 #[.agg #[.int .u32 q, .int .u32 g, .int .i64 kd, .slice V m cv], .bool bg, .int .u32 lc] u fun e w' => e = .returned (.bool (fitB bg lc g kd)) ∧ Below u.heap.size u w') := hid fun u => wfits_any q g kd lc V m cv bg u hk1
              by_cases hq : q = (j : Int) + 1
              · have gq : (q != (j : Int) + 1) = false := by simpa using hq
                by_cases hfit : fitB bg lc g kd = true
                · rw [hfit] at CF
                  have HFIT := hid hfit
                  have HQ := hid hq
                  clear hq hfit
                  refine region_kept (Kp w3) (by kernel_rfl) (by kernel_rfl) (kp_begin w3) ?_
                  repeat (first
                    | go_big_quiet_skip
                    | (go_big_quiet_want; refine quiet_load 123 (.tmp 13) rfl pb 0 rfl [.int .u32 q, .int .u32 g, .int .i64 kd, .slice V m cv] _ (fun p => kp_rng PB.out p) Try.underlying123 rfl PI.out #[.int .u32 q, .int .u32 g, .int .i64 kd, .slice V m cv] rfl ?_; go_big_quiet_on; simp only [Act.put, List.setIfInBounds_toArray, List.set_cons_zero, List.set_cons_succ])
                    | (go_big_quiet_want; go_big_quiet_op; first | go_big_quiet_on | go_big_quiet_call (with_reducible first | exact kp_call (CP.out _) | exact kp_call (CF.out _))))
                  refine wpQuiet_nil ?_
                  intro _ hw'
                  obtain ⟨p, hw''⟩ := hw'
                  subst hw''
                  have B4 := hid (B3.out.trans (Below.mono p.h B3.out.size))
                  have HTJ : Hid (tkw (P j) = some ((j : Int) + 1, g, kd, bb)) := by show _ = _; rw [← HQ.out]; exact HTK.out
                  have pb3 : p.w.cell? ⟨pb, 3, none⟩ = some (.slice V m cv) := kp_cell (PB.out.cell 3) p
                  have HOW4 := own_below HOW.out (B3R.out.trans (Below.mono p.h B3R.out.size))
                  obtain ⟨lm, hlm⟩ : ∃ k, k = acc.length := ⟨_, rfl⟩
                  rw [← hlm] at HOW4
                  have HOW4 := hid HOW4
                  have HLM := hid hlm
                  rw [← hlm]
                  have RV4 := hid (RV3.out.belowN p.h)
                  have hm110 : m ≤ 110 := by have := HMM.out; have := HBL.out; omega
                  have hlm6 : lm ≤ 6000 := by have := HM.out.2.2.2; omega
                  have hw2 := and_two kd hk1
                  clear hlm
                  have pb1 : Hid (Blk p.w pb 123 #[.int .u32 q, .int .u32 g, .int .i64 kd, .slice V m cv]) := hid (kp_blk PB.out p)
                  have hab : (acc ++ bb).length = lm + m := by rw [List.length_append, HLM.out, HMM.out]
                  by_cases h6 : 6000 < lm + m
                  · have b6 : (6000 : Int) < (lm : Int) + (m : Int) := by omega
                    have HN : Hid (nx P (c - j) j lc (!bg) acc = none) := hid (long_no hjlt LPJ.out.1 LPJ.out.2 hj4 HTJ.out HFIT.out (by omega))
                    clear h6 hab
                    go_wp2_with (at_builtin; refine append_rk rfl (.tmp 74) (.tmp 76) rfl wo.heap.size _ lm acc rfl HOW4.out HLM.out V m cv bb HMM.out rfl RV4.out (by omega) B4.out.size ?_; intro A9 c9 w9 ow9 b9 k9; have OW9 := hid ow9.out; have PB9 := hid (pb1.out.same (k9.out _ _ _ pb1.out (by decide))); have B9 := hid (B4.out.trans b9.out); clear ow9)
                    rw [Exit.noGoto_ret]
                    go_ret2
                    exact ⟨_, rfl, LdO.done (HWO.out.below (B9.out) S0.out) (by rw [HM.out.1 rfl]; exact HN.out)⟩
                  · have b6 : ¬ (6000 : Int) < (lm : Int) + (m : Int) := by omega
                    have h6000 : (acc ++ bb).length ≤ 6000 := by omega
                    have HNX := hid (fun ed he => HM.out.next hjlt LPJ.out.1 LPJ.out.2 hj4 HTJ.out HFIT.out h6000 ed he)
                    have HAB := hid hab
                    clear h6 hab h6000
                    go_wp2_with (at_builtin; refine append_rk rfl (.tmp 74) (.tmp 76) rfl wo.heap.size _ lm acc rfl HOW4.out HLM.out V m cv bb HMM.out rfl RV4.out (by omega) B4.out.size ?_; intro A9 c9 w9 ow9 b9 k9; have OW9 := hid ow9.out; have PB9 := hid (pb1.out.same (k9.out _ _ _ pb1.out (by decide))); have B9 := hid (B4.out.trans b9.out); clear ow9)
                    have q1 : w9.cell? ⟨pb, 1, none⟩ = some (.int .u32 g) := PB9.out.cell 1
                    have q2 : w9.cell? ⟨pb, 2, none⟩ = some (.int .i64 kd) := PB9.out.cell 2
                    by_cases k2 : 2 ≤ kd
                    · rw [if_pos k2] at hw2
                      have HK2 : Hid (true = decide (2 ≤ kd)) := by show _ = _; simpa using k2
                      clear k2
                      go_region
                      all_goals (
                        go_wp2
                        go_roundg g2)
                      case measure => omega
                      case rel => exact ⟨j + 1, g, true, true, acc ++ bb, by omega, rfl, by go_num, rfl, rfl, HNX.out true HK2.out, by show World.ownsRow _ _ _ _ _ _ _; rw [HAB.out]; exact own_below OW9.out (below_drew1 _), B9.out.drew⟩
                    · rw [if_neg k2] at hw2
                      have HK2 : Hid (false = decide (2 ≤ kd)) := by show _ = _; simpa using k2
                      clear k2
                      go_region
                      all_goals (
                        go_wp2
                        go_roundg g2)
                      case measure => omega
                      case rel => exact ⟨j + 1, g, true, false, acc ++ bb, by omega, rfl, by go_num, rfl, rfl, HNX.out false HK2.out, by show World.ownsRow _ _ _ _ _ _ _; rw [HAB.out]; exact own_below OW9.out (below_drew1 _), B9.out.drew⟩
                · have hfit' : fitB bg lc g kd = false := by simpa using hfit
                  rw [hfit'] at CF
                  have HN : Hid (nx P (c - j) j lc (!bg) acc = none) := hid (fit_no hjlt LPJ.out.1 LPJ.out.2 hj4 HTK.out (.inr hfit'))
                  clear hq hfit hfit'
                  refine region_kept (Kp w3) (by kernel_rfl) (by kernel_rfl) (kp_begin w3) ?_
                  repeat (first
                    | go_big_quiet_skip
                    | (go_big_quiet_want; refine quiet_load 123 (.tmp 13) rfl pb 0 rfl [.int .u32 q, .int .u32 g, .int .i64 kd, .slice V m cv] _ (fun p => kp_rng PB.out p) Try.underlying123 rfl PI.out #[.int .u32 q, .int .u32 g, .int .i64 kd, .slice V m cv] rfl ?_; go_big_quiet_on; simp only [Act.put, List.setIfInBounds_toArray, List.set_cons_zero, List.set_cons_succ])
                    | (go_big_quiet_want; go_big_quiet_op; first | go_big_quiet_on | go_big_quiet_call (with_reducible first | exact kp_call (CP.out _) | exact kp_call (CF.out _))))
                  refine wpQuiet_nil ?_
                  intro _ hw'
                  obtain ⟨p, hw''⟩ := hw'
                  subst hw''
                  have B4 := hid (B3.out.trans (Below.mono p.h B3.out.size))
                  go_wp2
                  rw [Exit.noGoto_ret]
                  go_ret2
                  exact ⟨_, rfl, LdO.done (HWO.out.below (B4.out) S0.out) (by rw [HM.out.1 rfl]; exact HN.out)⟩
              · have gq : (q != (j : Int) + 1) = true := by simpa using hq
                have HN : Hid (nx P (c - j) j lc (!bg) acc = none) := hid (fit_no hjlt LPJ.out.1 LPJ.out.2 hj4 HTK.out (.inl hq))
                clear hq
                refine region_kept (Kp w3) (by kernel_rfl) (by kernel_rfl) (kp_begin w3) ?_
                repeat (first
                  | go_big_quiet_skip
                  | (go_big_quiet_want; refine quiet_load 123 (.tmp 13) rfl pb 0 rfl [.int .u32 q, .int .u32 g, .int .i64 kd, .slice V m cv] _ (fun p => kp_rng PB.out p) Try.underlying123 rfl PI.out #[.int .u32 q, .int .u32 g, .int .i64 kd, .slice V m cv] rfl ?_; go_big_quiet_on; simp only [Act.put, List.setIfInBounds_toArray, List.set_cons_zero, List.set_cons_succ])
                  | (go_big_quiet_want; go_big_quiet_op; first | go_big_quiet_on | go_big_quiet_call (with_reducible first | exact kp_call (CP.out _) | exact kp_call (CF.out _))))
                refine wpQuiet_nil ?_
                intro _ hw'
                obtain ⟨p, hw''⟩ := hw'
                subst hw''
                have B4 := hid (B3.out.trans (Below.mono p.h B3.out.size))
                go_wp2
                rw [Exit.noGoto_ret]
                go_ret2
                exact ⟨_, rfl, LdO.done (HWO.out.below (B4.out) S0.out) (by rw [HM.out.1 rfl]; exact HN.out)⟩
end Go.Proofs.Ythfkooancgkjaaa
