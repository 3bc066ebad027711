/-
  What is written is read, field by field, and nothing is left: the statement of the kit, for every list of fields that can be read as data.
-/
import Derived.Test.YtoandanalfalaaaSmall
import Derived.Test.YtoandanalfalaaaSameQ
import Derived.Deep.RegionWith
import Derived.BigQuiet
import Derived.Deep.QuietTactic
namespace Go.Proofs.Ytoandanalfalaaa
open Go.ChangeShapes Go.WideShapes Go.ChangeAt Go.RowKit
set_option linter.unusedVariables false

theorem below_drewN {B : Nat} {a w : World} (h : Below B a w) (n : Nat) : Below B a (w.drewN n) := ⟨h.os, h.tape, h.output, h.size, h.block⟩
theorem blk_rp {w : World} {g : Nat} {xs : List Int} (h : Blk w g 5 (u8s xs).toArray) : Rp w none (some ⟨g, 0, none⟩) xs := fun _ =>
  ⟨_, rfl, (fun ⟨a, e, _⟩ => by cases e), fun j hj => by rw [Addr.add_lit, Nat.zero_add, h.cell, List.getElem?_toArray, u8s_get _ _ hj]⟩
theorem be_bs (x : Int) (n : Nat) : Bs (be x n) := by
  induction n with
  | zero => intro v hv; simp [be] at hv
  | succ n ih =>
    intro v hv
    simp only [be, List.mem_cons] at hv
    rcases hv with rfl | hv
    · omega
    · exact ih v hv
theorem Bs.append {a b : List Int} (ha : Bs a) (hb : Bs b) : Bs (a ++ b) := fun v hv => by
  rcases List.mem_append.1 hv with h | h
  · exact ha v h
  · exact hb v h
theorem fb_bs (k x : Int) (bb ys : List Int) (h : fb k x bb = some ys) (hb : Bs bb) : Bs ys := by
  unfold fb at h
  repeat' split at h
  all_goals first | (cases h; done) | (injection h with h; subst h; first | exact be_bs _ _ | exact hb | exact (be_bs _ _).append hb | (intro v hv; simp at hv; omega) | (intro v hv; simp at hv))
theorem allB_bs (l : List (Int × Int × List Int)) (BS : List Int) (h : allB l = some BS) (hb : ∀ f ∈ l, Bs f.2.2) : Bs BS := by
  induction l generalizing BS with
  | nil => injection h with h; subst h; intro v hv; simp at hv
  | cons f l ih =>
    obtain ⟨ys, rest, h1, rfl, h2⟩ := allB_cons f l BS h
    exact (fb_bs _ _ _ _ h1 (hb f (List.mem_cons_self ..))).append (ih rest h2 (fun g hg => hb g (List.mem_cons_of_mem _ hg)))
theorem InL.bs {w : World} {A : Option Addr} {n : Nat} {l : List (Int × Int × List Int)} (h : InL w A n l) : ∀ f ∈ l, Bs f.2.2 := by
  intro f hf
  obtain ⟨i, hi⟩ := List.mem_iff_getElem?.1 hf
  have hlt : i < l.length := by
    rcases Nat.lt_or_ge i l.length with h1 | h1
    · exact h1
    · rw [List.getElem?_eq_none h1] at hi; cases hi
  have hl := h.1
  obtain ⟨b, o, _, _, hat⟩ := h.at_ (by omega)
  obtain ⟨k, x, bb, B, c, h1, _, _, h4, _⟩ := hat i (by omega)
  rw [hi] at h1
  injection h1 with h1
  subst h1
  exact h4

set_option maxRecDepth 5000 in
set_option maxHeartbeats 2000000 in
theorem back_few (A : Option Addr) (n c : Nat) (l : List (Int × Int × List Int)) (w : World) (h : InL w A n l) (hf : (few l 60 && sm l) = false) :
    Calls Try.prog 5 #[.slice A n c] w fun e w' => e = .returned (.bool true) ∧ Below w.heap.size w w' := by
  have H := hid h
  clear h
  cases hf1 : few l 60 with
  | false =>
    have tok1 : True := trivial
    clear hf
    go_enter Try.func5, Try.ntmps5
    go_wp2_with (first
      | (go_at_call 9; have _t := tok1; refine (awake_any _).mono ?_; rintro e w1 ⟨rfl, hb1⟩; have HB1 := hid hb1; clear tok1 hb1)
      | (go_at_call 10; refine (Few_any A n c l 60 _ (H.out.below HB1.out) (by omega)).mono ?_; rintro e w2 ⟨rfl, rfl⟩)
      | (go_at_call 9; refine (awake_any _).mono ?_; rintro e w2 ⟨rfl, hb2⟩; have HB2 := hid (HB1.out.trans (hb2.mono HB1.out.size)); clear hb2))
    go_ret
    exact ⟨rfl, HB2.out⟩
  | true =>
    rw [hf1] at hf
    have hf2 : sm l = false := by simpa using hf
    have tok1 : True := trivial
    clear hf
    go_enter Try.func5, Try.ntmps5
    go_wp2_with (first
      | (go_at_call 9; have _t := tok1; refine (awake_any _).mono ?_; rintro e w1 ⟨rfl, hb1⟩; have HB1 := hid hb1; clear tok1 hb1)
      | (go_at_call 10; refine (Few_any A n c l 60 _ (H.out.below HB1.out) (by omega)).mono ?_; rintro e w2 ⟨rfl, rfl⟩)
      | (go_at_call 11; refine (small_any A n c l _ (H.out.below HB1.out)).mono ?_; rintro e w2 ⟨rfl, rfl⟩)
      | (go_at_call 9; refine (awake_any _).mono ?_; rintro e w2 ⟨rfl, hb2⟩; have HB2 := hid (HB1.out.trans (hb2.mono HB1.out.size)); clear hb2))
    go_ret
    exact ⟨rfl, HB2.out⟩

set_option maxRecDepth 5000 in
set_option maxHeartbeats 20000000 in
theorem back_bad (A : Option Addr) (n c : Nat) (l : List (Int × Int × List Int)) (w : World) (h : InL w A n l) (hf1 : few l 60 = true) (hf2 : sm l = true) (hab : allB l = none) :
    Calls Try.prog 5 #[.slice A n c] w fun e w' => e = .returned (.bool true) ∧ Below w.heap.size w w' := by
  obtain ⟨hl, hs⟩ := few_all hf1 (by omega)
  have HSM := hid (sm_all hf2)
  have hn : n ≤ 60 := by have := h.1; omega
  have HLN := hid h.1
  have H := hid h
  have HS := hid hs; have HL := hid hl
  obtain ⟨Z, hz, hz0, z0, z1, z2, z3, z4, hZs⟩ := zero_writer
  have HAB := hid hab
  clear h hs hl
  go_enter Try.func5, Try.ntmps5
  go_wp2_with (first
    | (go_at_call 9; refine (awake_any _).mono ?_; rintro e w1 ⟨rfl, hb1⟩; have HB1 := hid hb1; clear hb1)
    | (go_at_call 10; refine (Few_any A n c l 60 _ (H.out.below HB1.out) (by omega)).mono ?_; rintro e w2 ⟨rfl, rfl⟩)
    | (go_at_call 11; refine (small_any A n c l _ (H.out.below HB1.out)).mono ?_; rintro e w2 ⟨rfl, rfl⟩))
  have hw0 : WRep (w1.alloc (.cells Z 30)) (some ⟨w1.heap.size, 0, none⟩) (.good []) := ⟨_, rfl, new_writer (Blk.new w1 30 Z) hz z0.out z1.out z2.out z3.out⟩
  have hb0 : Below w.heap.size w (w1.alloc (.cells Z 30)) := HB1.out.alloc HB1.out.size _
  obtain ⟨g, hg⟩ : ∃ g, g = w1.heap.size := ⟨_, rfl⟩
  rw [← hg] at hw0 ⊢
  have HOF : Hid (∀ k, Of (some ⟨g, 0, none⟩) k → w.heap.size ≤ k) := by
    have := HB1.out.size
    rintro k ⟨a, ha, rfl⟩; injection ha with ha; subst ha; show _ ≤ g; omega
  have HW0 := hid hw0; have HB0 := hid hb0
  clear hw0 hb0 hg
  generalize w1.alloc (.cells Z 30) = W0 at HW0 HB0 ⊢
  clear HB1
  go_loopw [4] (fun i wr => ∃ k : Nat, k ≤ n ∧ i = .int .i64 k ∧ WRep wr (some ⟨g, 0, none⟩) (stAfter (.good []) (l.take k)) ∧ Below w.heap.size w wr) (fun i _ => n - (intOf i).toNat)
  case atStart => exact ⟨0, by omega, rfl, HW0.out, HB0.out⟩
  case round =>
    obtain ⟨k, hk, rfl, hat, hbl⟩ := hrel
    have HA := hid hat; have HB := hid hbl
    clear hat hbl HW0 HB0
    by_cases hlt : k < n
    · obtain ⟨b, o, rfl, _, hfat⟩ := H.out.at_ (by omega)
      obtain ⟨kk, y, bb, B, cc, q1, q7, q8, q9, hc⟩ := lput_at (hfat k hlt) HB.out HOF.out HS.out
      have HLP := hid (hc _ HA.out (len_good HL.out HS.out k))
      have Q1 := hid q1
      clear hfat q1 hc
      go_wp2_with (go_at_call 12; refine HLP.out.mono ?_; rintro e w3 ⟨rfl, hw3, ho3⟩; have HW3 := hid hw3; have HO3 := hid ho3; clear hw3 ho3)
      go_roundw
      case rel => exact ⟨k + 1, by omega, by go_num, by rw [stAfter_take _ _ _ _ _ _ Q1.out]; exact HW3.out, HB.out.trans (HO3.out.below HB.out.size HOF.out)⟩
      case measure => simp [intOf]; omega
    · have hst : stAfter (.good []) (l.take k) = ofB [] (allB l) := by
        have := HLN.out
        rw [List.take_of_length_le (by omega), stAfter_good]
      have hww := HA.out
      rw [hst] at hww
      have hww : WRep wr (some ⟨g, 0, none⟩) .bad := by rw [HAB.out] at hww; exact hww
      have HOut := hid (Out_bad _ _ hww)
      clear hww hst
      go_wp2_with (go_at_call 13; refine HOut.out.mono ?_; rintro e w5 ⟨rfl, rfl⟩)
      go_ret
      exact ⟨rfl, HB.out⟩

set_option maxRecDepth 5000 in
set_option maxHeartbeats 20000000 in
theorem back_good (A : Option Addr) (n c : Nat) (l : List (Int × Int × List Int)) (w : World) (h : InL w A n l) (hf1 : few l 60 = true) (hf2 : sm l = true) (BS : List Int) (hab : allB l = some BS) :
    Calls Try.prog 5 #[.slice A n c] w fun e w' => e = .returned (.bool true) ∧ Below w.heap.size w w' := by
  obtain ⟨hl, hs⟩ := few_all hf1 (by omega)
  have HSM := hid (sm_all hf2)
  have hn : n ≤ 60 := by have := h.1; omega
  have HLN := hid h.1
  have H := hid h
  have HS := hid hs; have HL := hid hl
  obtain ⟨Z, hz, hz0, z0, z1, z2, z3, z4, hZs⟩ := zero_writer
  have HAB := hid hab
  clear h hs hl
  go_enter Try.func5, Try.ntmps5
  go_wp2_with (first
    | (go_at_call 9; refine (awake_any _).mono ?_; rintro e w1 ⟨rfl, hb1⟩; have HB1 := hid hb1; clear hb1)
    | (go_at_call 10; refine (Few_any A n c l 60 _ (H.out.below HB1.out) (by omega)).mono ?_; rintro e w2 ⟨rfl, rfl⟩)
    | (go_at_call 11; refine (small_any A n c l _ (H.out.below HB1.out)).mono ?_; rintro e w2 ⟨rfl, rfl⟩))
  have hw0 : WRep (w1.alloc (.cells Z 30)) (some ⟨w1.heap.size, 0, none⟩) (.good []) := ⟨_, rfl, new_writer (Blk.new w1 30 Z) hz z0.out z1.out z2.out z3.out⟩
  have hb0 : Below w.heap.size w (w1.alloc (.cells Z 30)) := HB1.out.alloc HB1.out.size _
  obtain ⟨g, hg⟩ : ∃ g, g = w1.heap.size := ⟨_, rfl⟩
  rw [← hg] at hw0 ⊢
  have HOF : Hid (∀ k, Of (some ⟨g, 0, none⟩) k → w.heap.size ≤ k) := by
    have := HB1.out.size
    rintro k ⟨a, ha, rfl⟩; injection ha with ha; subst ha; show _ ≤ g; omega
  have HW0 := hid hw0; have HB0 := hid hb0
  clear hw0 hb0 hg
  generalize w1.alloc (.cells Z 30) = W0 at HW0 HB0 ⊢
  clear HB1
  go_loopw [4] (fun i wr => ∃ k : Nat, k ≤ n ∧ i = .int .i64 k ∧ WRep wr (some ⟨g, 0, none⟩) (stAfter (.good []) (l.take k)) ∧ Below w.heap.size w wr) (fun i _ => n - (intOf i).toNat)
  case atStart => exact ⟨0, by omega, rfl, HW0.out, HB0.out⟩
  case round =>
    obtain ⟨k, hk, rfl, hat, hbl⟩ := hrel
    have HA := hid hat; have HB := hid hbl
    clear hat hbl HW0 HB0
    by_cases hlt : k < n
    · obtain ⟨b, o, rfl, _, hfat⟩ := H.out.at_ (by omega)
      obtain ⟨kk, y, bb, B, cc, q1, q7, q8, q9, hc⟩ := lput_at (hfat k hlt) HB.out HOF.out HS.out
      have HLP := hid (hc _ HA.out (len_good HL.out HS.out k))
      have Q1 := hid q1
      clear hfat q1 hc
      go_wp2_with (go_at_call 12; refine HLP.out.mono ?_; rintro e w3 ⟨rfl, hw3, ho3⟩; have HW3 := hid hw3; have HO3 := hid ho3; clear hw3 ho3)
      go_roundw
      case rel => exact ⟨k + 1, by omega, by go_num, by rw [stAfter_take _ _ _ _ _ _ Q1.out]; exact HW3.out, HB.out.trans (HO3.out.below HB.out.size HOF.out)⟩
      case measure => simp [intOf]; omega
    · have hst : stAfter (.good []) (l.take k) = ofB [] (allB l) := by
        have := HLN.out
        rw [List.take_of_length_le (by omega), stAfter_good]
      have hww := HA.out
      rw [hst] at hww
      obtain ⟨wo, rfl⟩ : ∃ wo : World, wo = wr := ⟨_, rfl⟩
      have hww : WRep wo (some ⟨g, 0, none⟩) (.good BS) := by rw [HAB.out] at hww; exact hww
      have hlen : BS.length < 800000000000 := by
        have h1 := len_good HL.out HS.out n
        have := HLN.out
        rw [List.take_of_length_le (by omega), stAfter_good, HAB.out] at h1
        simpa [ofB, WS.len] using h1
      have hbs : Bs BS := allB_bs l BS HAB.out (H.out.bs)
      have HOut := hid (Out_good _ BS _ hww (by omega))
      have HLEN := hid hlen; have HBS := hid hbs
      obtain ⟨N, hN⟩ : ∃ N, N = BS.length := ⟨_, rfl⟩
      have HNN := hid hN
      have HOut2 := HOut.out
      rw [← hN] at HOut2
      have HOut3 := hid HOut2
      clear hww hst hlen hbs HOut HOut2 hN
      go_wp2_with (first
        | (go_at_call 13; refine HOut3.out.mono ?_; rintro e w5 ⟨rfl, hk5, hb5⟩; have HB5 := hid (HB.out.trans (hb5.mono HB.out.size)); have hnew := New_any (some ⟨wo.heap.size, 0, none⟩) N BS w5 (blk_rp hk5) (by have := HLEN.out; omega) HBS.out; rw [← HNN.out] at hnew; have HNEW := hid hnew; clear hnew hk5 hb5)
        | (go_at_call 16; refine HNEW.out.mono ?_; rintro e w6 ⟨r, rfl, hr6, hrep6, hb6⟩; have HR6 := hid hr6; have HREP6 := hid hrep6; have HB6 := hid (HB5.out.trans (hb6.mono HB5.out.size)); clear hr6 hrep6 hb6))
      have HOFR : Hid (∀ k, Of (some ⟨r, 0, none⟩) k → w.heap.size ≤ k) := by
        have h1 := HR6.out; have h2 := HB5.out.size
        rintro k ⟨a, ha, rfl⟩; injection ha with ha; subst ha; show _ ≤ r; omega
      go_loopw [8] (fun i wr => ∃ (k : Nat) (rest : List Int), k ≤ n ∧ i = .int .i64 k ∧ allB (l.drop k) = some rest ∧ RRep wr (some ⟨r, 0, none⟩) (.got false rest) ∧ Below w.heap.size w wr) (fun i _ => n - (intOf i).toNat)
      case atStart => exact ⟨0, BS, by omega, rfl, HAB.out, HREP6.out, HB6.out⟩
      case round =>
        obtain ⟨k2, rest, hk2, rfl, hall, hrep, hbr⟩ := hrel
        have HALL := hid hall; have HREP := hid hrep; have HBR := hid hbr
        clear hall hrep hbr HREP6 HB6
        by_cases hlt2 : k2 < n
        · obtain ⟨b, o, rfl, hblt, hfat⟩ := H.out.at_ (by omega)
          obtain ⟨kk, x, bb, B, cc, q1, q2, q3, q4, q5, q6, q7, q8, q9⟩ := (hfat k2 hlt2)
          have hmem := List.mem_of_getElem? q1
          have hbb : bb.length ≤ 9000 := HS.out _ hmem
          have hsx : x ≤ 4611686018427387904 ∨ kk = 4 := HSM.out _ hmem
          have hdrop : l.drop k2 = (kk, x, bb) :: l.drop (k2 + 1) := by
            have hkl : k2 < l.length := by have := HLN.out; omega
            rw [List.drop_eq_getElem_cons hkl]
            rw [List.getElem?_eq_getElem hkl] at q1
            injection q1 with q1
            rw [q1]
          have hall := HALL.out
          rw [hdrop] at hall
          obtain ⟨ys, rest', hfb, rfl, hrest'⟩ := allB_cons _ _ _ hall
          have ht := take_any (some ⟨r, 0, none⟩) (.got false (ys ++ rest')) kk (mostOf kk bb) wr HREP.out
          unfold TakePost at ht
          rw [tk_back kk x bb ys rest' hfb q2 q3 hsx hbb] at ht
          simp only at ht
          have HR' := hid hrest'
          have HC0 : Hid (∀ w3, Below w.heap.size w w3 → ∀ j, w3.cell? ⟨b, j, none⟩ = w.cell? ⟨b, j, none⟩) := fun w3 h3 j => h3.cell hblt
          have d0 := (HC0.out wr HBR.out _).trans q7
          have d1 := (HC0.out wr HBR.out _).trans q8
          have d2 := (HC0.out wr HBR.out _).trans q9
          have HBX : Hid (Rp w none B bb) := q5
          have HX0 := hid q2; have HX1 := hid q3
          have Q7 := hid q7; have Q8 := hid q8; have Q9 := hid q9; have HBL := hid hblt
          clear hmem hsx hdrop hall hfb hrest' q1 q2 q3 q4 q5 q6 q7 q8 q9 hfat
          by_cases j1 : kk = 1
          · subst j1
            have e1 : want 1 x = x := rfl
            have e2 : wantB 1 bb = [] := rfl
            have e3 : mostOf 1 bb = 9000 := rfl
            rw [e1, e2, e3] at ht
            simp only [List.length_nil] at ht
            have HT := hid ht
            have hx0 := HX0.out
            clear ht e1 e2 e3
            go_wp2_with (go_at_call 17; refine HT.out.mono ?_; rintro e w3 ⟨A3, c3, rfl, hc3, hf3, hrep3, ho3⟩; have HB3 := hid (HBR.out.trans (ho3.below HBR.out.size HOFR.out)); have z0 := (HC0.out w3 HB3.out _).trans Q7.out; have z1 := (HC0.out w3 HB3.out _).trans Q8.out; have z2 := (HC0.out w3 HB3.out _).trans Q9.out; have HF3 := hid hf3; have HREP3 := hid hrep3; have hb3 : b < w3.heap.size := Nat.lt_of_lt_of_le HBL.out HB3.out.size; clear hc3 hf3 hrep3 ho3)
            go_wp2
            go_quiet (fail)
            go_wp2
            go_roundw
            case rel =>
              refine ⟨k2 + 1, rest', by omega, by go_num, HR'.out, HREP3.out.below ?_, HB3.out.trans (Below.mono ?_ HB3.out.size)⟩ <;> exact below_drewN ((Below.refl _ _).alloc (Nat.le_refl _) _) _
            case measure => simp [intOf]; omega
          by_cases j2 : kk = 2
          · subst j2
            have e1 : want 2 x = x := rfl
            have e2 : wantB 2 bb = [] := rfl
            have e3 : mostOf 2 bb = 9000 := rfl
            rw [e1, e2, e3] at ht
            simp only [List.length_nil] at ht
            have HT := hid ht
            have hx0 := HX0.out
            clear ht e1 e2 e3
            go_wp2_with (go_at_call 17; refine HT.out.mono ?_; rintro e w3 ⟨A3, c3, rfl, hc3, hf3, hrep3, ho3⟩; have HB3 := hid (HBR.out.trans (ho3.below HBR.out.size HOFR.out)); have z0 := (HC0.out w3 HB3.out _).trans Q7.out; have z1 := (HC0.out w3 HB3.out _).trans Q8.out; have z2 := (HC0.out w3 HB3.out _).trans Q9.out; have HF3 := hid hf3; have HREP3 := hid hrep3; have hb3 : b < w3.heap.size := Nat.lt_of_lt_of_le HBL.out HB3.out.size; clear hc3 hf3 hrep3 ho3)
            go_wp2
            go_quiet (fail)
            go_wp2
            go_roundw
            case rel =>
              refine ⟨k2 + 1, rest', by omega, by go_num, HR'.out, HREP3.out.below ?_, HB3.out.trans (Below.mono ?_ HB3.out.size)⟩ <;> exact below_drewN ((Below.refl _ _).alloc (Nat.le_refl _) _) _
            case measure => simp [intOf]; omega
          by_cases j3 : kk = 3
          · subst j3
            have e1 : want 3 x = x % 4294967296 := rfl
            have e2 : wantB 3 bb = [] := rfl
            have e3 : mostOf 3 bb = 9000 := rfl
            rw [e1, e2, e3] at ht
            simp only [List.length_nil] at ht
            have HT := hid ht
            have hx0 := HX0.out
            clear ht e1 e2 e3
            go_wp2_with (go_at_call 17; refine HT.out.mono ?_; rintro e w3 ⟨A3, c3, rfl, hc3, hf3, hrep3, ho3⟩; have HB3 := hid (HBR.out.trans (ho3.below HBR.out.size HOFR.out)); have z0 := (HC0.out w3 HB3.out _).trans Q7.out; have z1 := (HC0.out w3 HB3.out _).trans Q8.out; have z2 := (HC0.out w3 HB3.out _).trans Q9.out; have HF3 := hid hf3; have HREP3 := hid hrep3; have hb3 : b < w3.heap.size := Nat.lt_of_lt_of_le HBL.out HB3.out.size; clear hc3 hf3 hrep3 ho3)
            go_wp2
            go_quiet (fail)
            go_wp2
            go_roundw
            case rel =>
              refine ⟨k2 + 1, rest', by omega, by go_num, HR'.out, HREP3.out.below ?_, HB3.out.trans (Below.mono ?_ HB3.out.size)⟩ <;> exact below_drewN ((Below.refl _ _).alloc (Nat.le_refl _) _) _
            case measure => simp [intOf]; omega
          by_cases j4 : kk = 4
          · subst j4
            have e1 : want 4 x = x := rfl
            have e2 : wantB 4 bb = [] := rfl
            have e3 : mostOf 4 bb = 9000 := rfl
            rw [e1, e2, e3] at ht
            simp only [List.length_nil] at ht
            have HT := hid ht
            have hx0 := HX0.out
            clear ht e1 e2 e3
            go_wp2_with (go_at_call 17; refine HT.out.mono ?_; rintro e w3 ⟨A3, c3, rfl, hc3, hf3, hrep3, ho3⟩; have HB3 := hid (HBR.out.trans (ho3.below HBR.out.size HOFR.out)); have z0 := (HC0.out w3 HB3.out _).trans Q7.out; have z1 := (HC0.out w3 HB3.out _).trans Q8.out; have z2 := (HC0.out w3 HB3.out _).trans Q9.out; have HF3 := hid hf3; have HREP3 := hid hrep3; have hb3 : b < w3.heap.size := Nat.lt_of_lt_of_le HBL.out HB3.out.size; clear hc3 hf3 hrep3 ho3)
            go_wp2
            go_quiet (fail)
            go_wp2
            go_roundw
            case rel =>
              refine ⟨k2 + 1, rest', by omega, by go_num, HR'.out, HREP3.out.below ?_, HB3.out.trans (Below.mono ?_ HB3.out.size)⟩ <;> exact below_drewN ((Below.refl _ _).alloc (Nat.le_refl _) _) _
            case measure => simp [intOf]; omega
          by_cases j5 : kk = 5
          · subst j5
            have e1 : want 5 x = x % 2 := rfl
            have e2 : wantB 5 bb = [] := rfl
            have e3 : mostOf 5 bb = 9000 := rfl
            rw [e1, e2, e3] at ht
            simp only [List.length_nil] at ht
            have HT := hid ht
            have hx0 := HX0.out
            clear ht e1 e2 e3
            go_wp2_with (go_at_call 17; refine HT.out.mono ?_; rintro e w3 ⟨A3, c3, rfl, hc3, hf3, hrep3, ho3⟩; have HB3 := hid (HBR.out.trans (ho3.below HBR.out.size HOFR.out)); have z0 := (HC0.out w3 HB3.out _).trans Q7.out; have z1 := (HC0.out w3 HB3.out _).trans Q8.out; have z2 := (HC0.out w3 HB3.out _).trans Q9.out; have HF3 := hid hf3; have HREP3 := hid hrep3; have hb3 : b < w3.heap.size := Nat.lt_of_lt_of_le HBL.out HB3.out.size; clear hc3 hf3 hrep3 ho3)
            go_wp2
            go_quiet (fail)
            go_wp2
            go_roundw
            case rel =>
              refine ⟨k2 + 1, rest', by omega, by go_num, HR'.out, HREP3.out.below ?_, HB3.out.trans (Below.mono ?_ HB3.out.size)⟩ <;> exact below_drewN ((Below.refl _ _).alloc (Nat.le_refl _) _) _
            case measure => simp [intOf]; omega
          by_cases j6 : kk = 6
          · subst j6
            have e1 : want 6 x = 0 := rfl
            have e2 : wantB 6 bb = bb := rfl
            have e3 : mostOf 6 bb = bb.length := rfl
            rw [e1, e2, e3] at ht
            have HT := hid ht
            have hx0 := HX0.out
            clear ht e1 e2 e3
            go_wp2_with (go_at_call 17; refine HT.out.mono ?_; rintro e w3 ⟨A3, c3, rfl, hc3, hf3, hrep3, ho3⟩; have HB3 := hid (HBR.out.trans (ho3.below HBR.out.size HOFR.out)); have z0 := (HC0.out w3 HB3.out _).trans Q7.out; have z1 := (HC0.out w3 HB3.out _).trans Q8.out; have z2 := (HC0.out w3 HB3.out _).trans Q9.out; have HF3 := hid hf3; have HREP3 := hid hrep3; have hb3 : b < w3.heap.size := Nat.lt_of_lt_of_le HBL.out HB3.out.size; clear hc3 hf3 hrep3 ho3)
            have HSAME : Hid (∀ q, Calls Try.prog 15 #[.slice A3 bb.length c3, .slice B bb.length cc] ((w3.alloc (.cells #[.int .i64 6, .int .u64 (0), .slice A3 bb.length c3] 35)).drewN q) fun e w' => e = .returned (.bool true) ∧ ∃ q', w' = ((w3.alloc (.cells #[.int .i64 6, .int .u64 (0), .slice A3 bb.length c3] 35)).drewN q).drewN q') := by
              intro q
              have hx : Below w3.heap.size w3 ((w3.alloc (.cells #[.int .i64 6, .int .u64 (0), .slice A3 bb.length c3] 35)).drewN q) := below_drewN ((Below.refl _ _).alloc (Nat.le_refl _) _) _
              have h := Same_quiet A3 B c3 cc bb bb _ ((HF3.out.rp (p := none) (fun g _ _ ⟨a, e, _⟩ => by cases e)).belowN hx) (HBX.out.belowN (HB3.out.trans (hx.mono HB3.out.size))) (by omega) (by omega)
              rwa [decide_eq_true rfl] at h
            go_wp2
            go_quiet ((go_at_call 15; exact Calls.quiet_of (HSAME.out _)))
            go_wp2
            go_roundw
            case rel =>
              refine ⟨k2 + 1, rest', by omega, by go_num, HR'.out, HREP3.out.below ?_, HB3.out.trans (Below.mono ?_ HB3.out.size)⟩ <;> exact below_drewN ((Below.refl _ _).alloc (Nat.le_refl _) _) _
            case measure => simp [intOf]; omega
          by_cases j7 : kk = 7
          · subst j7
            have e1 : want 7 x = 0 := rfl
            have e2 : wantB 7 bb = bb := rfl
            have e3 : mostOf 7 bb = 9000 := rfl
            rw [e1, e2, e3] at ht
            have HT := hid ht
            have hx0 := HX0.out
            clear ht e1 e2 e3
            go_wp2_with (go_at_call 17; refine HT.out.mono ?_; rintro e w3 ⟨A3, c3, rfl, hc3, hf3, hrep3, ho3⟩; have HB3 := hid (HBR.out.trans (ho3.below HBR.out.size HOFR.out)); have z0 := (HC0.out w3 HB3.out _).trans Q7.out; have z1 := (HC0.out w3 HB3.out _).trans Q8.out; have z2 := (HC0.out w3 HB3.out _).trans Q9.out; have HF3 := hid hf3; have HREP3 := hid hrep3; have hb3 : b < w3.heap.size := Nat.lt_of_lt_of_le HBL.out HB3.out.size; clear hc3 hf3 hrep3 ho3)
            have HSAME : Hid (∀ q, Calls Try.prog 15 #[.slice A3 bb.length c3, .slice B bb.length cc] ((w3.alloc (.cells #[.int .i64 7, .int .u64 (0), .slice A3 bb.length c3] 35)).drewN q) fun e w' => e = .returned (.bool true) ∧ ∃ q', w' = ((w3.alloc (.cells #[.int .i64 7, .int .u64 (0), .slice A3 bb.length c3] 35)).drewN q).drewN q') := by
              intro q
              have hx : Below w3.heap.size w3 ((w3.alloc (.cells #[.int .i64 7, .int .u64 (0), .slice A3 bb.length c3] 35)).drewN q) := below_drewN ((Below.refl _ _).alloc (Nat.le_refl _) _) _
              have h := Same_quiet A3 B c3 cc bb bb _ ((HF3.out.rp (p := none) (fun g _ _ ⟨a, e, _⟩ => by cases e)).belowN hx) (HBX.out.belowN (HB3.out.trans (hx.mono HB3.out.size))) (by omega) (by omega)
              rwa [decide_eq_true rfl] at h
            go_wp2
            go_quiet ((go_at_call 15; exact Calls.quiet_of (HSAME.out _)))
            go_wp2
            go_roundw
            case rel =>
              refine ⟨k2 + 1, rest', by omega, by go_num, HR'.out, HREP3.out.below ?_, HB3.out.trans (Below.mono ?_ HB3.out.size)⟩ <;> exact below_drewN ((Below.refl _ _).alloc (Nat.le_refl _) _) _
            case measure => simp [intOf]; omega
          by_cases j8 : kk = 8
          · subst j8
            have e1 : want 8 x = x := rfl
            have e2 : wantB 8 bb = [] := rfl
            have e3 : mostOf 8 bb = 9000 := rfl
            rw [e1, e2, e3] at ht
            simp only [List.length_nil] at ht
            have HT := hid ht
            have hx0 := HX0.out
            clear ht e1 e2 e3
            go_wp2_with (go_at_call 17; refine HT.out.mono ?_; rintro e w3 ⟨A3, c3, rfl, hc3, hf3, hrep3, ho3⟩; have HB3 := hid (HBR.out.trans (ho3.below HBR.out.size HOFR.out)); have z0 := (HC0.out w3 HB3.out _).trans Q7.out; have z1 := (HC0.out w3 HB3.out _).trans Q8.out; have z2 := (HC0.out w3 HB3.out _).trans Q9.out; have HF3 := hid hf3; have HREP3 := hid hrep3; have hb3 : b < w3.heap.size := Nat.lt_of_lt_of_le HBL.out HB3.out.size; clear hc3 hf3 hrep3 ho3)
            go_wp2
            go_quiet (fail)
            go_wp2
            go_roundw
            case rel =>
              refine ⟨k2 + 1, rest', by omega, by go_num, HR'.out, HREP3.out.below ?_, HB3.out.trans (Below.mono ?_ HB3.out.size)⟩ <;> exact below_drewN ((Below.refl _ _).alloc (Nat.le_refl _) _) _
            case measure => simp [intOf]; omega
          have e1 : want kk x = 0 := by unfold want; rw [if_neg j3, if_neg j5, if_neg (by omega)]
          have e2 : wantB kk bb = [] := by unfold wantB; rw [if_neg (by omega)]
          have e3 : mostOf kk bb = 9000 := by unfold mostOf; rw [if_neg j6]
          rw [e1, e2, e3] at ht
          simp only [List.length_nil] at ht
          have b1 : (kk == 1) = false := by simpa using j1
          have b2 : (kk == 2) = false := by simpa using j2
          have b3 : (kk == 3) = false := by simpa using j3
          have b4 : (kk == 4) = false := by simpa using j4
          have b5 : (kk == 5) = false := by simpa using j5
          have b6 : (kk == 6) = false := by simpa using j6
          have b7 : (kk == 7) = false := by simpa using j7
          have b8 : (kk == 8) = false := by simpa using j8
          have HT := hid ht
          have hx0 := HX0.out
          clear ht e1 e2 e3 j1 j2 j3 j4 j5 j6 j7 j8
          go_wp2_with (go_at_call 17; refine HT.out.mono ?_; rintro e w3 ⟨A3, c3, rfl, hc3, hf3, hrep3, ho3⟩; have HB3 := hid (HBR.out.trans (ho3.below HBR.out.size HOFR.out)); have z0 := (HC0.out w3 HB3.out _).trans Q7.out; have z1 := (HC0.out w3 HB3.out _).trans Q8.out; have z2 := (HC0.out w3 HB3.out _).trans Q9.out; have HF3 := hid hf3; have HREP3 := hid hrep3; have hb3 : b < w3.heap.size := Nat.lt_of_lt_of_le HBL.out HB3.out.size; clear hc3 hf3 hrep3 ho3)
          go_wp2
          go_quiet (fail)
          go_wp2
          go_roundw
          case rel =>
            refine ⟨k2 + 1, rest', by omega, by go_num, HR'.out, HREP3.out.below ?_, HB3.out.trans (Below.mono ?_ HB3.out.size)⟩ <;> exact below_drewN ((Below.refl _ _).alloc (Nat.le_refl _) _) _
          case measure => simp [intOf]; omega
        · have hkn : k2 = n := by omega
          have h1 := HALL.out
          have hln := HLN.out
          rw [List.drop_of_length_le (by omega)] at h1
          injection h1 with h1
          subst h1
          have HD := hid (Done_any _ _ _ HREP.out)
          clear hln
          go_wp2_with (go_at_call 21; refine HD.out.mono ?_; rintro e w7 ⟨rfl, rfl⟩)
          go_ret
          exact ⟨rfl, HBR.out⟩

theorem back_walk (A : Option Addr) (n c : Nat) (l : List (Int × Int × List Int)) (w : World) (h : InL w A n l) :
    Calls Try.prog 5 #[.slice A n c] w fun e w' => e = .returned (.bool true) ∧ Below w.heap.size w w' := by
  cases hf : (few l 60 && sm l) with
  | false => exact back_few A n c l w h hf
  | true =>
    rw [Bool.and_eq_true] at hf
    cases hab : allB l with
    | none => exact back_bad A n c l w h hf.1 hf.2 hab
    | some BS => exact back_good A n c l w h hf.1 hf.2 BS hab

set_option maxRecDepth 100000 in
theorem back_lifted (os : Os) (started : os.Started) (H : Type) (enc : TypeId × Value → H) :
    ReturnsInHanded {} Try.checked os 5 .any (Rows.wireBackSpec.pre6 enc Try.prog Try.f5 Rows.wireBackRow.domain false) (Rows.wireBackSpec.post enc Try.prog Try.f5 false true false false) := by
  refine returnsInHanded_of_change (C := Try.checked) own started (by kernel_rfl) Try.func5
    (ChangeSpec.witness6 (enc := enc) (C := Try.checked) false ⟨#[], #[.slice none 0 0], []⟩ 8 (by kernel_rfl) (by kernel_rfl) (by kernel_rfl) (by kernel_rfl)) ?_
  intro W base args ds gs before hval0 hW hcnd _
  have hval : ∀ (j : Nat) t v, Try.f5.params[j]? = some t → args[j]? = some v → Value.okWide Try.prog W .any base t v := hval0
  have hW' := hW
  obtain ⟨p, q, hA0, hV, rfl, hfz, hnd⟩ := hW
  have hA : DataW.TrodAll enc Try.prog W 0 (fun _ => true) true Try.f5.params.toList args.toList ds p := hA0
  rw [Try.params5] at hA hval
  obtain ⟨v0, vs0, d0, ds0, p0, q0, hargs, rfl, rfl, h0, r0⟩ := trodAll_cons hA
  obtain ⟨rfl, rfl, rfl⟩ := trodAll_nil r0
  obtain rfl : args = #[v0] := by cases args; simp_all
  obtain ⟨rfl, rfl⟩ := trodVars_none hV
  have k0 := h0
  have lt0 : ∀ x ∈ p0, x.block < W.heap.size := by obtain ⟨m, hm⟩ := k0; exact DataW.trod_lt m _ _ _ hm
  obtain ⟨a0, len0, cap0, rfl⟩ := okWide_slice Try.underlying22 (hval 0 22 v0 rfl rfl)
  obtain ⟨fuel, hf⟩ := h0
  obtain ⟨A, n, c, l, hcs, hin⟩ := open_fields hf
  simp only [Value.cells] at hcs
  injection hcs with hcs; injection hcs with e1 e2 e3
  subst e1; subst e2; subst e3
  clear hA0 hval0
  refine (back_walk _ _ _ l W hin).mono fun e W' ⟨he, bel⟩ => ?_
  subst he
  exact ⟨_, rfl, _, _, _, [], _, [], hW', trodAll_mk1 (shut_bool Try.underlying4 _), (trodAll_cons_mk (Below.trod laidOut (by kernel_rfl) (of_decide_eq_true (by kernel_rfl)) k0 bel lt0) trodAll_mk0), rfl, bel.frame _, fun h => by cases h⟩

theorem back_over : Rows.wireBackRow.holds Try.pinned (OpenSpec.ofChange Rows.wireBackSpec) :=
  OpenClaim.holds_of_wide 5 Try.f5 rfl rfl rfl rfl rfl rfl rfl ⟨rfl, rfl, rfl, rfl, rfl⟩ rfl rfl rfl rfl rfl (by kernel_rfl) Try.func5 (by kernel_rfl)
    (of_decide_eq_true (by kernel_rfl)) (by unfold Func.isWrapper; first | (rw [if_pos (by decide +kernel)]; kernel_rfl) | (rw [if_neg (by decide +kernel)]; exact ⟨rfl, rfl⟩))
    (fun os started H enc _ => back_lifted os started H enc)

theorem wireBack_holds : Rows.WireBackSaid := back_over
#print axioms wireBack_holds
end Go.Proofs.Ytoandanalfalaaa
