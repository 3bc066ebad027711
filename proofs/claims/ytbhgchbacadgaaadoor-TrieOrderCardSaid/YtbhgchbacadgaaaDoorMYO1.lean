/-
  What is proved here: a tree's root hangs on its keys and values alone: the walk of the statement.
-/
import Derived.Test.YtbhgchbacadgaaaDoorMYP1
set_option linter.unusedSimpArgs false
set_option linter.unusedVariables false
namespace Go.Proofs.YtbhgchbacadgaaaDoor
open Go.ChangeShapes Go.WideShapes Go.ChangeAt Go.RowKit
set_option linter.unusedVariables false
set_option linter.unusedSimpArgs false
set_option maxRecDepth 20000

theorem root_listed {N N2 : List Nd} {ti t2 : Int} {T T2 : Option Tr} (h1 : TAt N ti T) (h2 : TAt N2 t2 T2) (he : lstO T = lstO T2) : rtL (lstO T) = rtL (lstO T2) := by rw [he]
/-- a list that has no other pairs than P -/
def MemL (P L : List KV) : Prop := L.length = P.length ∧ ∀ q ∈ L, q ∈ P
theorem MemL.set {P L : List KV} (h : MemL P L) {i : Nat} {q : KV} (hq : q ∈ P) : MemL P (L.set i q) := ⟨by rw [List.length_set]; exact h.1, fun r hr => by
  rcases List.mem_or_eq_of_mem_set hr with h1 | h1
  · exact h.2 r h1
  · rw [h1]; exact hq⟩
theorem zero_ypair : ∃ Z : Array Value, Hid (Z = (kvc (z32, z32)).toArray) ∧ (¬ Z = #[]) ∧ ∀ w : World, Sem.run Tryd.prog (zeroValue 36) w = Result.ok (.agg Z) w := by
  refine ⟨(kvc (z32, z32)).toArray, rfl, fun h => ?_, fun w => by kernel_rfl⟩
  have := congrArg Array.size h
  rw [List.size_toArray, kvc_len ky_zero ky_zero] at this
  exact absurd this (by decide)
theorem ypair_info {q : KV} (hq : Ky q.1 ∧ Ky q.2) : (Tryd.prog.info? 36).map (·.size) = some (kvc q).length := by rw [kvc_len hq.1 hq.2]; kernel_rfl
theorem ypair_info2 {q : KV} (hq : Ky q.1 ∧ Ky q.2) : (Tryd.prog.info? 36).map (·.size) = some (kvc q).toArray.size := by rw [List.size_toArray, kvc_len hq.1 hq.2]; kernel_rfl
theorem pair_one {q : KV} : (kvc q).toArray.all (·.oneCell') = true := by
  rw [Array.all_eq_true']
  intro v hv
  exact kvc_one _ v (by simpa using hv)
theorem OwP.cells {n0 : Nat} {w : World} {g n c : Nat} {L : List KV} (h : OwP n0 w (.slice (some ⟨g, 0, none⟩) n c) L) {i : Nat} {q : KV} (hq : L[i]? = some q) (hm : L.length ≤ 1000000) : w.rangeAt g (i * 64) (kvc q) := by
  have := inp_at (h.in hm) hq
  rwa [Nat.zero_add] at this
theorem MemL.all {P L : List KV} (h : MemL P L) (hL : Kys L) (hP : Kys P) : allL (L ++ P) = allL P := allL_over hL hP (fun q hq => ⟨q, h.2 q hq, rfl⟩)
set_option maxHeartbeats 8000000 in
theorem order_early {w : World} {A0 B : Option Addr} {m c0 k d : Nat} (hm : m ≤ 9223372036854775807) (hk : k ≤ 9223372036854775807) (ht : Tab w) (he : 25 < m ∨ 50 < k ∨ m = 0) : Calls Tryd.prog 4 #[.slice A0 m c0, .slice B k d] w fun e w' => e = .returned (.bool true) ∧ Below w.heap.size w w' := by
  have CA := hid (fun w1 (hb : Below w.heap.size w w1) => xawake_any w1 (ht.below hb))
  clear ht
  by_cases h1 : 25 < m
  · have hm1 : (25 : Int) < (m : Int) := by omega
    clear he h1
    go_enter Tryd.func4, Tryd.ntmps4
    go_wp2_with (first
      | (go_at_call 10; refine (CA.out _ (Below.refl _ _)).mono ?_; rintro e w1 ⟨rfl, hb⟩; have B1 := hid hb; clear hb)
      | (go_at_call 10; refine (CA.out _ B1.out).mono ?_; rintro e w2 ⟨rfl, hb⟩; have B2 := hid (B1.out.trans (hb.mono B1.out.size)); clear hb))
    go_ret
    exact ⟨rfl, B2.out⟩
  by_cases h2 : 50 < k
  · have hm1 : ¬ (25 : Int) < (m : Int) := by omega
    have hk1 : (50 : Int) < (k : Int) := by omega
    clear he h1 h2
    go_enter Tryd.func4, Tryd.ntmps4
    go_wp2_with (first
      | (go_at_call 10; refine (CA.out _ (Below.refl _ _)).mono ?_; rintro e w1 ⟨rfl, hb⟩; have B1 := hid hb; clear hb)
      | (go_at_call 10; refine (CA.out _ B1.out).mono ?_; rintro e w2 ⟨rfl, hb⟩; have B2 := hid (B1.out.trans (hb.mono B1.out.size)); clear hb))
    go_ret
    exact ⟨rfl, B2.out⟩
  obtain rfl : m = 0 := by omega
  have hk1 : ¬ (50 : Int) < (k : Int) := by omega
  have hm1 : ¬ (25 : Int) < ((0 : Nat) : Int) := by omega
  clear he h1 h2
  go_enter Tryd.func4, Tryd.ntmps4
  go_wp2_with (first
    | (go_at_call 10; refine (CA.out _ (Below.refl _ _)).mono ?_; rintro e w1 ⟨rfl, hb⟩; have B1 := hid hb; clear hb)
    | (go_at_call 10; refine (CA.out _ B1.out).mono ?_; rintro e w2 ⟨rfl, hb⟩; have B2 := hid (B1.out.trans (hb.mono B1.out.size)); clear hb))
  go_ret
  exact ⟨rfl, B2.out⟩
set_option maxHeartbeats 8000000 in
theorem order_main {w : World} {A0 B : Option Addr} {m c0 k d : Nat} {P : List KV} {by' : List Int} (h : InP w A0 m P) (hby : by'.length = k ∧ Bs by' ∧ Rp w none B by') (ht : Tab w) (hm0 : 0 < m) (hm : m ≤ 25) (hk : k ≤ 50) : Calls Tryd.prog 4 #[.slice A0 m c0, .slice B k d] w fun e w' => e = .returned (.bool true) ∧ Below w.heap.size w w' := by
  have CA := hid (fun w1 (hb : Below w.heap.size w w1) => xawake_any w1 (ht.below hb))
  have hm1 : ¬ (25 : Int) < (m : Int) := by omega
  have hk1 : ¬ (50 : Int) < (k : Int) := by omega
  have hz1 : ¬ (m : Int) = 0 := by omega
  have hz2 : ¬ m = 0 := by omega
  have hd1 : decide ((25 : Int) < (m : Int)) = false := decide_eq_false hm1
  have hd2 : decide ((50 : Int) < (k : Int)) = false := decide_eq_false hk1
  have hd3 : ((m : Int) == 0) = false := by simpa using hz2
  obtain ⟨Z, HZ, hZ0, hZs⟩ := zero_ypair
  have HIN := hid h; have HBY := hid hby; have HT := hid ht
  obtain ⟨bp, op, q0, hA0, _⟩ := h.at hm0
  subst hA0
  have HM := hid (show 0 < m ∧ m ≤ 25 ∧ k ≤ 50 from ⟨hm0, hm, hk⟩)
  clear h hby ht hm0 hm hk
  go_enter Tryd.func4, Tryd.ntmps4
  go_wp2_with (go_at_call 10; refine (CA.out _ (Below.refl _ _)).mono ?_; rintro e w1 ⟨rfl, hb⟩; have B1 := hid hb; clear hb)
  clear hz1 hz2 hm1 hk1 hd1 hd2 hd3 CA
  have hmax : m ≤ 25 := HM.out.2.1
  go_loopw [5] (fun s5 wr => ∃ i : Nat, i ≤ m ∧ s5 = .int .i64 (i : Nat) ∧ Hid (Below w.heap.size w wr)) (fun s5 _ => m - (intOf s5).toNat)
  case atStart => exact ⟨0, Nat.zero_le _, rfl, B1⟩
  case round =>
    obtain ⟨i, hi, rfl, BL0⟩ := hrel
    clear B1
    obtain ⟨wo, rfl⟩ : ∃ wo, wo = wr := ⟨_, rfl⟩
    by_cases hlt : i < m
    · have hlt2 : (i : Int) < m := by omega
      obtain ⟨_, _, qi, e1, hqi, hqi1, hqi2, _, hri, _⟩ := (HIN.out.below BL0.out).at hlt
      injection e1 with e1; injection e1 with e1 e2
      subst e1; subst e2
      go_wp2
      go_loopw [6] (fun s6 wr => ∃ j : Nat, j ≤ i ∧ s6 = .int .i64 (j : Nat) ∧ Hid (Below w.heap.size w wr)) (fun s6 _ => i - (intOf s6).toNat)
      case atStart => exact ⟨0, Nat.zero_le _, rfl, BL0⟩
      case round =>
        obtain ⟨j, hj, rfl, BL⟩ := hrel
        by_cases hjl : j < i
        · have hjl2 : (j : Int) < i := by omega
          have hjm : (j : Int) < m := by omega
          obtain ⟨_, _, qj, e1, hqj, hqj1, hqj2, _, hrj, _⟩ := (HIN.out.below BL.out).at (show j < m by omega)
          injection e1 with e1; injection e1 with e1 e2
          subst e1; subst e2
          obtain ⟨_, _, qi', e1, hqi', hqi1', _, _, hri', _⟩ := (HIN.out.below BL.out).at hlt
          injection e1 with e1; injection e1 with e1 e2
          subst e1; subst e2
          have HjI := hid (u8s_info hqj1); have HiI := hid (u8s_info hqi1')
          have RJ := hid (fun p : PW (Kp wr) => rng_bel p.h hrj)
          have RI := hid (fun p : PW (Kp wr) => rng_bel p.h hri')
          have heq := fun w => equal_key 9998 qj.1 qi'.1 hqj1 hqi1' w
          clear hqj hrj hqi' hri' hqj1 hqj2 hqi1'
          by_cases he : qj.1 = qi'.1
          all_goals
            (first | rw [decide_eq_true he] at heq | rw [decide_eq_false he] at heq)
            clear he
            go_upto_region 9 with (fail)
            refine region_kept (Kp wr) (by kernel_rfl) (by kernel_rfl) (kp_begin wr) ?_
            repeat (first
              | go_big_quiet_skip
              | (go_big_quiet_want; refine quiet_load 24 (.tmp 52) rfl bp (op + j * 64) rfl (u8s qj.1) _ (fun p => RJ.out p) Tryd.underlying24 rfl HjI.out (kc qj.1) rfl ?_; go_big_quiet_on; simp only [Act.put, List.setIfInBounds_toArray, List.set_cons_zero, List.set_cons_succ])
              | (go_big_quiet_want; refine quiet_load 24 (.tmp 57) rfl bp (op + i * 64) rfl (u8s qi'.1) _ (fun p => RI.out p) Tryd.underlying24 rfl HiI.out (kc qi'.1) rfl ?_; go_big_quiet_on; simp only [Act.put, List.setIfInBounds_toArray, List.set_cons_zero, List.set_cons_succ])
              | (go_big_quiet_want; go_big_quiet_op; first | go_big_quiet_on))
            refine wpQuiet_nil ?_
            intro _ hw'
            obtain ⟨p9, hw''⟩ := hw'
            subst hw''
            clear heq
            have BLB := hid (BL.out.trans (p9.h.mono BL.out.size))
            generalize p9.w = wB at BLB ⊢
          · go_wp2
            first | go_ret | go_ret2
            exact ⟨rfl, BLB.out⟩
          · go_wp2
            go_roundw
            case rel => exact ⟨j + 1, by omega, by go_num, BLB⟩
            case measure => simp [intOf]; omega
        · obtain rfl : j = i := by omega
          have hnl : ¬ ((j : Int) < (j : Int)) := by omega
          go_wp2
          go_roundw
          case rel => exact ⟨j + 1, by omega, by go_num, BL⟩
          case measure => simp [intOf]; omega
    · obtain rfl : i = m := by omega
      have hnl : ¬ ((i : Int) < (i : Int)) := by omega
      have hmax2 : k ≤ 50 := HM.out.2.2
      have hpos : 0 < i := HM.out.1
      have HPL := hid HIN.out.1
      have HLEN : Hid (([] : List KV).length + i ≤ 100000) := by show 0 + i ≤ 100000; omega
      go_upto_region 13 with (first
        | (at_builtin; refine wpList_append_pairs rfl (.tmp 60) (.tmp 61) rfl w.heap.size [] (.slice none 0 0) rfl (OwP.nil _ _) (some ⟨bp, op, none⟩) i c0 P rfl (HIN.out.below BL0.out) hpos HLEN.out BL0.out.size ?_; intro v9 w9 how hbut; rw [List.nil_append] at how; have OW9 := hid how; have BL9 := hid (BL0.out.trans (hbut.bel BL0.out.size (fun k hk => by cases hk))); obtain ⟨g9, c9, hv9, hg9, hg92, hc9⟩ := how.pos (by rw [HPL.out]; exact hpos); replace hv9 : v9 = .slice (some ⟨g9, 0, none⟩) i c9 := (by rw [hv9, HPL.out]); subst hv9; have HG9 := hid hg9; clear how hbut hg9 hg92 hc9))
      clear hnl hi hlt
      have HOW : Hid (MemL P P) := ⟨rfl, fun q hq => hq⟩
      go_wp2
      go_loopw [8] (fun s8 wr => ∃ (j : Nat) (L : List KV), j ≤ k ∧ s8 = .int .i64 (j : Nat) ∧ Hid (OwP w.heap.size wr (.slice (some ⟨g9, 0, none⟩) i c9) L) ∧ Hid (MemL P L) ∧ Hid (Below w.heap.size w wr)) (fun s8 _ => k - (intOf s8).toNat)
      case atStart => exact ⟨0, P, Nat.zero_le _, rfl, OW9, HOW, BL9⟩
      case round =>
        obtain ⟨j, L, hj, rfl, OL, ML, BL⟩ := hrel
        clear OW9 BL9 HOW BL0
        by_cases hlt : j < k
        · have hlt2 : (j : Int) < k := by omega
          obtain ⟨ab, hab, _, hcb⟩ := HBY.out.2.2 (by have := HBY.out.1; omega)
          subst hab
          have hx := hcb j (by have := HBY.out.1; omega)
          obtain ⟨x, hxb⟩ : ∃ x : Nat, by'[j]?.getD 0 = (x : Int) ∧ x < 256 := by
            have hm9 := HBY.out.2.1 _ (List.getElem_mem (show j < by'.length by have := HBY.out.1; omega))
            rw [List.getElem?_eq_getElem (show j < by'.length by have := HBY.out.1; omega)]
            exact ⟨(by'[j]'(by have := HBY.out.1; omega)).toNat, by simp only [Option.getD_some]; omega, by omega⟩
          rw [hxb.1] at hx
          replace hx := (BL.out.cell (p := ab.add j) (block_lt_of_cell hx)).trans hx
          have hr1 : Int.tmod (j : Int) (i : Int) = ((j % i : Nat) : Int) := by rw [Int.tmod_eq_emod_of_nonneg (by omega)]; omega
          have hr2 : Int.tmod (x : Int) (i : Int) = ((x % i : Nat) : Int) := by rw [Int.tmod_eq_emod_of_nonneg (by omega)]; omega
          have hi0 : ¬ (i : Int) = 0 := by omega
          have CX := fun p : PW (Kp wr) => (p.h.cell (p := ab.add j) (block_lt_of_cell hx)).trans hx
          clear hcb hx
          go_upto_region 16 with (fail)
          refine region_kept (Kp wr) (by kernel_rfl) (by kernel_rfl) (kp_begin wr) ?_
          repeat (first
            | go_big_quiet_skip
            | (go_big_quiet_want; go_big_quiet_op; first | go_big_quiet_on))
          refine wpQuiet_nil ?_
          intro _ hw'
          obtain ⟨p9, hw''⟩ := hw'
          subst hw''
          have BLB := hid (BL.out.trans (p9.h.mono BL.out.size)); have OLB := hid (OL.out.below p9.h)
          generalize p9.w = wB at BLB OLB ⊢
          clear CX hr1 hr2
          rw [show (j : Int) % (i : Int) = ((j % i : Nat) : Int) by omega, show (x : Int) % (i : Int) = ((x % i : Nat) : Int) by omega]
          have hai : j % i < i := Nat.mod_lt _ hpos
          have hbi : x % i < i := Nat.mod_lt _ hpos
          generalize j % i = a at hai ⊢
          generalize x % i = b at hbi ⊢
          have hai2 : (a : Int) < i := by omega
          have hbi2 : (b : Int) < i := by omega
          have HLL : Hid (L.length = i) := by show _ = _; rw [ML.out.1, HPL.out]
          have HLM : Hid (L.length ≤ 1000000) := by have := HLL.out; show _ ≤ _; omega
          obtain ⟨qa, hqa⟩ : ∃ qa, L[a]? = some qa := ⟨_, List.getElem?_eq_getElem (by rw [HLL.out]; exact hai)⟩
          obtain ⟨qb, hqb⟩ : ∃ qb, L[b]? = some qb := ⟨_, List.getElem?_eq_getElem (by rw [HLL.out]; exact hbi)⟩
          have HQA := hid (OL.out.ok qa (List.mem_of_getElem? hqa)); have HQB := hid (OL.out.ok qb (List.mem_of_getElem? hqb))
          have HLA := hid hqa; have HLB := hid hqb
          have HIA := hid (ypair_info HQA.out); have HIB := hid (ypair_info HQB.out)
          have HIA2 := hid (ypair_info2 HQA.out); have HIB2 := hid (ypair_info2 HQB.out)
          have HZA : Hid (Z.size = (kvc qa).toArray.size) := by show _ = _; rw [HZ.out, List.size_toArray, List.size_toArray, kvc_len ky_zero ky_zero, kvc_len HQA.out.1 HQA.out.2]
          have MP : Hid (qa ∈ P ∧ qb ∈ P) := ⟨ML.out.2 _ (List.mem_of_getElem? hqa), ML.out.2 _ (List.mem_of_getElem? hqb)⟩
          have RA := hid (OLB.out.cells hqa HLM.out)
          clear hqa hqb
          go_upto_region 18 with (first
            | (refine load_at rfl 36 (.tmp 83) rfl g9 (a * 64) rfl (kvc qa) _ RA.out Tryd.underlying36 rfl HIA.out (kvc qa).toArray rfl ?_)
            | (refine wpList_store_row rfl 36 (.tmp 11) (.tmp 84) rfl wB.heap.size (kvc qa).toArray rfl rfl 36 Z (Blk.new wB 36 Z) HIA2.out HZA.out pair_one ?_))
          have BX : Hid (Below wB.heap.size wB ((wB.alloc (.cells Z 36)).setRow wB.heap.size (kvc qa).toArray)) := below_setRow ((Below.refl _ _).alloc (Nat.le_refl _) _) (Nat.le_refl _) _
          have KX : Hid (Blk ((wB.alloc (.cells Z 36)).setRow wB.heap.size (kvc qa).toArray) wB.heap.size 36 (kvc qa).toArray) := (Blk.new wB 36 Z).row _
          have NE : Hid (wB.heap.size ≠ g9) := by
            show _ ≠ _
            have h9 := (OLB.out.row.lt g9 rfl).2
            omega
          have OLC := hid (OLB.out.below BX.out); have BLC := hid (BLB.out.trans (BX.out.mono BLB.out.size))
          clear BX RA OLB BLB
          generalize (wB.alloc (.cells Z 36)).setRow wB.heap.size (kvc qa).toArray = wC at OLC BLC KX ⊢
          generalize wB.heap.size = e11 at KX NE ⊢
          have RB := hid (OLC.out.cells HLB.out HLM.out)
          have THA := hid (OLC.out.there (show a < L.length by rw [HLL.out]; exact hai))
          have hsz : (kvc qb).toArray.size = 64 := by rw [List.size_toArray, kvc_len HQB.out.1 HQB.out.2]
          have THA2 : Hid (wC.there g9 (a * 64) (kvc qb).toArray.size) := by show World.there _ _ _ _; rw [hsz]; exact THA.out
          clear hsz
          go_upto_region 19 with (first
            | (refine load_at rfl 36 (.tmp 89) rfl g9 (b * 64) rfl (kvc qb) _ RB.out Tryd.underlying36 rfl HIB.out (kvc qb).toArray rfl ?_)
            | (refine wpList_store_mid rfl 36 (.tmp 91) (.tmp 90) rfl g9 (a * 64) (kvc qb).toArray rfl rfl THA2.out HIB2.out pair_one ?_))
          have OLD : Hid (OwP w.heap.size (wC.setCells g9 (a * 64) (kvc qb).toArray.toList) (.slice (some ⟨g9, 0, none⟩) i c9) (L.set a qb)) := OLC.out.set HLA.out HQB.out
          have BLD : Hid (Below w.heap.size w (wC.setCells g9 (a * 64) (kvc qb).toArray.toList)) := below_setCells HG9.out _ BLC.out _
          have KXD : Hid (Blk (wC.setCells g9 (a * 64) (kvc qb).toArray.toList) e11 36 (kvc qa).toArray) := KX.out.farCells NE.out _ _
          clear KX OLC BLC RB THA THA2
          generalize wC.setCells g9 (a * 64) (kvc qb).toArray.toList = wD at OLD BLD KXD ⊢
          have MLD := hid (ML.out.set (i := a) MP.out.2)
          have hld : (L.set a qb).length = i := by rw [List.length_set]; exact HLL.out
          have HLD := hid hld
          have THB := hid (OLD.out.there (show b < (L.set a qb).length by rw [hld]; exact hbi))
          have hsz : (kvc qa).toArray.size = 64 := by rw [List.size_toArray, kvc_len HQA.out.1 HQA.out.2]
          have THB2 : Hid (wD.there g9 (b * 64) (kvc qa).toArray.size) := by show World.there _ _ _ _; rw [hsz]; exact THB.out
          obtain ⟨qd, hqd⟩ : ∃ qd, (L.set a qb)[b]? = some qd := ⟨_, List.getElem?_eq_getElem (by rw [hld]; exact hbi)⟩
          have HQD := hid hqd
          have R11 := hid (blk_pair KXD.out)
          clear hsz hld hqd
          go_wp2_with (first
            | (refine load_at rfl 36 (.tmp 11) rfl e11 0 rfl (kvc qa) _ R11.out Tryd.underlying36 rfl HIA.out (kvc qa).toArray rfl ?_)
            | (refine wpList_store_mid rfl 36 (.tmp 95) (.tmp 94) rfl g9 (b * 64) (kvc qa).toArray rfl rfl THB2.out HIA2.out pair_one ?_))
          have OLE : Hid (OwP w.heap.size (wD.setCells g9 (b * 64) (kvc qa).toArray.toList) (.slice (some ⟨g9, 0, none⟩) i c9) ((L.set a qb).set b qa)) := OLD.out.set HQD.out HQA.out
          have BLE : Hid (Below w.heap.size w (wD.setCells g9 (b * 64) (kvc qa).toArray.toList)) := below_setCells HG9.out _ BLD.out _
          have MLE := hid (MLD.out.set (i := b) MP.out.1)
          go_roundw
          case rel => exact ⟨j + 1, _, by omega, by go_num, OLE, MLE, BLE⟩
          case measure => simp [intOf]; omega
        · obtain rfl : j = k := by omega
          have hnl : ¬ ((j : Int) < (j : Int)) := by omega
          clear hlt
          have HL2 := hid (show L.length = i by rw [ML.out.1, HPL.out])
          have HAL := hid (ML.out.all OL.out.ok HIN.out.2.2.1)
          have CB1 := hid (xBuilt_any (c0 := c0) (HIN.out.below BL.out) (by omega) (HT.out.below BL.out))
          go_upto_region 21 with (go_at_call 20; refine CB1.out.mono ?_; clear CB1; rintro e w3 ⟨f, ti, g, b, N, A, c, tv, T, rfl, hbt⟩; have BT := hid hbt; clear hbt)
          have B3 := hid (BL.out.trans (BT.out.bl.mono BL.out.size))
          have HLT : Hid (lstO T = allL P) := by show _ = _; rw [BT.out.l, List.take_length]
          have O3 := hid (OL.out.below BT.out.bl)
          have O0 := hid (OwP.lit0 w3)
          have IN3 : Hid (InP (w3.alloc (.cells #[] 36)) (some ⟨g9, 0, none⟩) i L) := by
            have := (O3.out.below ((Below.refl w3.heap.size w3).alloc (Nat.le_refl _) (.cells #[] 36))).in (by rw [HL2.out]; omega)
            exact this
          have HLE2 : Hid (([] : List KV).length + i ≤ 100000 ∧ L.length + i ≤ 100000) := by show 0 + i ≤ 100000 ∧ _; rw [HL2.out]; omega
          have S30 : Hid (w3.heap.size ≤ (w3.alloc (.cells #[] 36)).heap.size) := by show _ ≤ _; simp
          have FO3 := hid BT.out.fo; have TA3 := hid BT.out.t; have SZ3 := hid BT.out.sz
          clear BT OL O3 BL hnl
          go_upto_region 22 with (first
            | (at_builtin; refine wpList_append_pairs rfl (.tmp 102) (.tmp 103) rfl w3.heap.size [] (.slice (some ⟨w3.heap.size, 0, none⟩) 0 0) rfl O0.out (some ⟨g9, 0, none⟩) i c9 L rfl IN3.out hpos HLE2.out.1 S30.out ?_; intro v4 w4 how hbut; rw [List.nil_append] at how; have OW4 := hid how; have BL4 : Hid (Below w3.heap.size w3 w4) := (((Below.refl w3.heap.size w3).alloc (Nat.le_refl _) (.cells #[] 36)).trans (hbut.bel S30.out (fun k hk => by injection hk with hk; rw [← hk]; exact Nat.le_refl _))); obtain ⟨g4, c4, hv4, _, _, _⟩ := how.pos (by rw [HL2.out]; exact hpos); replace hv4 : v4 = .slice (some ⟨g4, 0, none⟩) i c4 := (by rw [hv4, HL2.out]); subst hv4; clear how hbut)
            | (at_builtin; refine wpList_append_pairs rfl (.tmp 104) (.tmp 105) rfl w3.heap.size L (.slice (some ⟨g4, 0, none⟩) i c4) rfl OW4.out (some ⟨bp, op, none⟩) i c0 P rfl (HIN.out.below (B3.out.trans (BL4.out.mono B3.out.size))) hpos HLE2.out.2 BL4.out.size ?_; intro v5 w5 how hbut; have OW5 := hid how; have BL5 := hid (BL4.out.trans (hbut.bel BL4.out.size (fun k hk => (OW4.out.ty k hk).1))); obtain ⟨A5, c5, hv5⟩ := how.len; replace hv5 : v5 = .slice A5 (i + i) c5 := (by rw [hv5, List.length_append, HL2.out, HPL.out]); subst hv5; have CB2 := hid (xBuilt_any (c0 := c5) (how.in (by rw [List.length_append, HL2.out, HPL.out]; omega)) (by omega) (HT.out.below (B3.out.trans (BL5.out.mono B3.out.size)))); clear how hbut)
            | (go_at_call 20; refine CB2.out.mono ?_; clear CB2; rintro e w6 ⟨f2, t2, g2, b2, N2, A2, c2, tv2, T2, rfl, hbt⟩; have BT2 := hid hbt; clear hbt))
          have B5 := hid (BL5.out.trans (BT2.out.bl.mono BL5.out.size))
          have HT6 := hid (HT.out.below (B3.out.trans (B5.out.mono B3.out.size)))
          have FO6 := hid (FO3.out.below B5.out)
          have FO62 := hid BT2.out.fo; have TA62 := hid BT2.out.t; have SZ62 := hid BT2.out.sz
          have HLT2 : Hid (lstO T2 = allL P) := by show _ = _; rw [BT2.out.l, List.take_length]; exact HAL.out
          obtain ⟨H0, hH0⟩ : ∃ H0, H0 = rtL (allL P) := ⟨_, rfl⟩
          have hk0 : Ky H0 := by
            obtain ⟨h1, h2⟩ := allL_ok P HIN.out.2.2.1
            rw [hH0]; exact rtL_ky h1 h2
          have hLP : (allL P).length ≤ 60 := by
            have := SZ3.out
            have e : szO T = (lstO T).length := by cases T <;> rfl
            rw [e, HLT.out, HPL.out] at this; omega
          have CR1 := fun x (hb : Below w6.heap.size w6 x) => tree_root (FO6.out.below hb) TA3.out (HT6.out.below hb)
          have CR2 := fun x (hb : Below w6.heap.size w6 x) => tree_root (FO62.out.below hb) TA62.out (HT6.out.below hb)
          rw [HLT.out, ← hH0] at CR1
          rw [HLT2.out, ← hH0] at CR2
          unfold hV at CR1 CR2
          have R1 := hid CR1; have R2 := hid CR2
          have CL1 := fun x (hb : Below w6.heap.size w6 x) => xList_any (FO6.out.below hb) TA3.out (by rw [HLT.out]; omega)
          have CL2 := fun x (hb : Below w6.heap.size w6 x) => xList_any (FO62.out.below hb) TA62.out (by rw [HLT2.out]; omega)
          rw [HLT.out] at CL1
          rw [HLT2.out] at CL2
          have L1 := hid CL1; have L2 := hid CL2
          have HPQ := hid hLP
          obtain ⟨ZH, HZH, hZH0, hZHs⟩ := zero_key
          have HHI := hid (kc_info hk0); have HHL := hid (u8s_info hk0)
          have HHZ : Hid (ZH.size = (kc H0).size) := by show _ = _; rw [HZH.out, kc_size zk_ky, kc_size hk0]
          have heq := fun w => equal_key 9998 H0 H0 hk0 hk0 w
          rw [decide_eq_true rfl] at heq
          have B6 := hid (B3.out.trans (B5.out.mono B3.out.size))
          have S0 := hid (Below.refl w6.heap.size w6)
          clear CR1 CR2 CL1 CL2 hk0 hH0 hLP OW4 OW5 BL4 BL5 BT2 HAL FO3 IN3 O0 HLE2 S30 B5
          go_upto_region 23 with (first
            | (go_at_call 13; refine (R1.out _ S0.out).mono ?_; clear R1; rintro e w7 ⟨rfl, hb⟩; have S7 := hid (S0.out.trans (hb.mono S0.out.size)); clear hb)
            | (refine wpList_store_row rfl 24 (.tmp 16) (.tmp 114) rfl w7.heap.size (kc H0) rfl rfl 24 ZH (Blk.new w7 24 ZH) HHI.out HHZ.out (kc_one _) ?_))
          have BX : Hid (Below w7.heap.size w7 ((w7.alloc (.cells ZH 24)).setRow w7.heap.size (kc H0))) := below_setRow ((Below.refl _ _).alloc (Nat.le_refl _) _) (Nat.le_refl _) _
          have K16 : Hid (Blk ((w7.alloc (.cells ZH 24)).setRow w7.heap.size (kc H0)) w7.heap.size 24 (kc H0)) := (Blk.new w7 24 ZH).row _
          have S8 := hid (S7.out.trans (BX.out.mono S7.out.size))
          clear BX S7 S0
          generalize (w7.alloc (.cells ZH 24)).setRow w7.heap.size (kc H0) = w8 at K16 S8 ⊢
          generalize w7.heap.size = e16 at K16 ⊢
          go_upto_region 24 with (first
            | (go_at_call 13; refine (R2.out _ S8.out).mono ?_; clear R2; rintro e w9 ⟨rfl, hb⟩; have S9 := hid (S8.out.trans (hb.mono S8.out.size)); have K169 := hid (K16.out.below hb); clear hb)
            | (refine wpList_store_row rfl 24 (.tmp 18) (.tmp 120) rfl w9.heap.size (kc H0) rfl rfl 24 ZH (Blk.new w9 24 ZH) HHI.out HHZ.out (kc_one _) ?_))
          have BX : Hid (Below w9.heap.size w9 ((w9.alloc (.cells ZH 24)).setRow w9.heap.size (kc H0))) := below_setRow ((Below.refl _ _).alloc (Nat.le_refl _) _) (Nat.le_refl _) _
          have K18 : Hid (Blk ((w9.alloc (.cells ZH 24)).setRow w9.heap.size (kc H0)) w9.heap.size 24 (kc H0)) := (Blk.new w9 24 ZH).row _
          have S10 := hid (S9.out.trans (BX.out.mono S9.out.size)); have K16b := hid (K169.out.below BX.out)
          clear BX S9 S8 K16 K169
          generalize (w9.alloc (.cells ZH 24)).setRow w9.heap.size (kc H0) = w10 at K18 S10 K16b ⊢
          generalize w9.heap.size = e18 at K18 ⊢
          go_wp2_with (first
            | (refine load_at rfl 24 (.tmp 16) rfl e16 0 rfl (u8s H0) _ (blk_key K16b.out) Tryd.underlying24 rfl HHL.out (kc H0) rfl ?_)
            | (refine load_at rfl 24 (.tmp 18) rfl e18 0 rfl (u8s H0) _ (blk_key K18.out) Tryd.underlying24 rfl HHL.out (kc H0) rfl ?_)
            | (go_at_call 19; refine (L1.out _ S10.out).mono ?_; clear L1; rintro e w11 ⟨v11, rfl, ho, hb⟩; have S11 := hid (S10.out.trans (hb.mono S10.out.size)); obtain ⟨A11, c11, hv⟩ := ho.len; obtain ⟨m11, hm11⟩ : ∃ m11, m11 = (allL P).length := ⟨_, rfl⟩; rw [← hm11] at hv; subst hv; have CP1 := hid (lpairs_any (c0 := c11) w11 (ho.in (by have := HPQ.out; omega)) (by have := HPQ.out; omega)); have HM1 := hid hm11; clear hb ho hm11)
            | (go_at_call 18; refine CP1.out.mono ?_; clear CP1; rintro e w12 ⟨v12, rfl, ho, hb⟩; have S12 := hid (S11.out.trans (hb.mono S11.out.size)); obtain ⟨A12, c12, hv⟩ := ho.len; rw [← HM1.out] at hv; subst hv; have I12 := hid (ho.in (by have := HPQ.out; omega)); clear hb ho)
            | (go_at_call 19; refine (L2.out _ S12.out).mono ?_; clear L2; rintro e w13 ⟨v13, rfl, ho, hb⟩; have S13 := hid (S12.out.trans (hb.mono S12.out.size)); have I13 := hid (I12.out.below hb); obtain ⟨A13, c13, hv⟩ := ho.len; rw [← HM1.out] at hv; subst hv; have CP2 := hid (lpairs_any (c0 := c13) w13 (ho.in (by have := HPQ.out; omega)) (by have := HM1.out; have := HPQ.out; omega)); clear hb ho)
            | (go_at_call 18; refine CP2.out.mono ?_; clear CP2; rintro e w14 ⟨v14, rfl, ho, hb⟩; have S14 := hid (S13.out.trans (hb.mono S13.out.size)); obtain ⟨A14, c14, hv⟩ := ho.len; rw [← HM1.out] at hv; subst hv; have CS := ySame_any (c := c12) (c2 := c14) w14 (I13.out.below hb) (ho.in (by have := HPQ.out; omega)); rw [decide_eq_true rfl] at CS; have CS1 := hid CS; clear CS hb ho)
            | (go_at_call 17; refine CS1.out.mono ?_; clear CS1; rintro e w15 ⟨rfl, hb⟩; have S15 := hid (S14.out.trans (hb.mono S14.out.size)); clear hb))
          first | go_ret | go_ret2
          exact ⟨rfl, B6.out.trans (S15.out.mono B6.out.size)⟩
theorem order_walk {w : World} {A0 B : Option Addr} {m c0 k d : Nat} {P : List KV} {by' : List Int} (h : InP w A0 m P) (hby : by'.length = k ∧ Bs by' ∧ Rp w none B by') (hk : k ≤ 9223372036854775807) (ht : Tab w) : Calls Tryd.prog 4 #[.slice A0 m c0, .slice B k d] w fun e w' => e = .returned (.bool true) ∧ Below w.heap.size w w' := by
  by_cases he : 25 < m ∨ 50 < k ∨ m = 0
  · exact order_early h.2.1 hk ht he
  · exact order_main h hby ht (by omega) (by omega) (by omega)
end Go.Proofs.YtbhgchbacadgaaaDoor
