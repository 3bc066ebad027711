/-
  What is proved here: whatever is saved, wherever the power goes, whatever of what waits is kept: behind a restart the value is that of the last Save that was answered OK, or of one begun since.
-/
import Derived.Test.YtjdojnbpchommaaSlF
import Derived.Deep.DeepCutAuto
import Derived.Deep.RegionLaw
import Derived.OrdersHeld
namespace Go.Proofs.Ytjdojnbpchommaa
open Go.ChangeShapes Go.WideShapes Go.ChangeAt Go.RowKit
set_option linter.unusedVariables false
set_option linter.unusedSimpArgs false
set_option maxRecDepth 20000

theorem own_cellb {w : World} {base e size n c : Nat} {A : Option Addr} {xs : List Value} (h : w.ownsRow base e size (.slice A n c) n xs) (hn : 0 < n) : ∃ g, A = some ⟨g, 0, none⟩ ∧ base ≤ g ∧ (∃ cur, Blk w g e cur) ∧ ∀ j v, xs[j]? = some v → w.cell? ⟨g, j, none⟩ = some v := by
  rcases h.2 with ⟨_, h0⟩ | ⟨g, cap, cur, hv, hb, hh, hnc, _, hcs, htk⟩
  · omega
  · injection hv with hA
    refine ⟨g, hA, hb, ⟨cur, hh⟩, fun j v hv => ?_⟩
    rw [← htk, List.getElem?_take] at hv
    split at hv
    · rw [(show Blk w g e cur from hh).cell, ← Array.getElem?_toList]; exact hv
    · cases hv
/-- what stays where rows of bytes turn -/
def Kb (w w' : World) : Prop := w.heap.size ≤ w'.heap.size ∧ ∀ k t cs, Blk w k t cs → t ≠ 31 → w'.heap[k]? = w.heap[k]?
theorem append_m {w : World} {ops : Array Oper} {rest : List Oper} {o : Oper} {a : Act} {Q : Exit → Act → World → Prop} (hgd : o.guard = none) (s x : Operand)
    (ho : o.op = .call { callee := .builtin .append, args := #[s, x], argTypes := #[41, 41] }) (n0 : Nat) (M : List (List Int)) (v : Value) (hs : a.eval s = v) (hM : AllM n0 w M v) (B : Option Addr) (m c : Nat) (xs : List Int) (hx : a.eval x = .slice (some ⟨w.heap.size, 0, none⟩) 1 1)
    (hlen : M.length ≤ 1000) (hB : RqL n0 w B xs) (hm : m = xs.length) (hn : n0 ≤ w.heap.size) (h : ∀ v' w', AllM n0 w' (M ++ [xs]) v' → Kb w w' → Below n0 w w' → wpList Try.prog ops Q rest (a.put o.dst v') w') : wpList Try.prog ops Q (o :: rest) a (w.alloc (.cells #[.slice B m c] 31)) := by
  obtain ⟨i0, hi, hz0, hz1, hz2⟩ := info_parts info_row1
  have hb : Below w.heap.size w (w.alloc (.cells #[.slice B m c] 31)) := (Below.refl _ _).alloc (Nat.le_refl _) _
  have hMM := hM
  obtain ⟨A, cc, rows, hv, hown, hj⟩ := hM
  refine wpList_append_own _ hgd s x 41 ho n0 31 i0 (.slice none 0 0) 1 24 Try.underlying41 hi hz0 hz1 hz2 rfl (by decide) v M.length rows hs (hown.alloc _) ⟨w.heap.size, 0, none⟩ 1 1 [.slice B m c] hx rfl (one_row _ _) (fun u hu => by rw [List.mem_singleton.1 hu]; rfl) (by unfold maxLen; omega) (by omega) (Nat.le_trans hn hb.size) ?_
  intro v9 w9 ow9 gr9 _
  obtain ⟨A9, c9, hv9⟩ := slice_of ow9
  have kb : ∀ k t cs, Blk w k t cs → t ≠ 31 → w9.heap[k]? = w.heap[k]? := fun k t cs hk ht =>
    (gr9.block k (hk.same (hb.block k hk.lt)).lt (fun e => own_ne_t hown hk ht e.symm)).trans (hb.block k hk.lt)
  have bel : Below n0 w w9 := (hb.mono hn).trans ((Below.refl _ _).grown gr9 (Nat.le_trans hn hb.size) (fun k hk => (hown.lt k hk).1))
  subst hm
  exact h v9 w9 (AllM.push (by have := hown.1; omega) hj hB hv9 ow9 (fun g cs hg => kb g _ cs hg (by decide)) bel) ⟨Nat.le_trans hb.size gr9.size, kb⟩ bel
theorem Dy.kb {n0 : Nat} {w w' : World} {b : Nat} {s : SS} (h : Dy n0 w b s) (hk : Kb w w') : Dy n0 w' b s := h.typed hk.1 fun k t cs hb ht => hk.2 k t cs hb (fun e => ht (by subst e; decide))
theorem AllM.at {n0 : Nat} {w : World} {M : List (List Int)} {A : Option Addr} {c lm : Nat} (h : AllM n0 w M (.slice A lm c)) {j : Nat} (hj : j < M.length) : lm = M.length ∧ ∃ g B d, A = some ⟨g, 0, none⟩ ∧ w.cell? ⟨g, j, none⟩ = some (.slice B (M[j]?.getD []).length d) ∧ Rp w none B (M[j]?.getD []) := by
  obtain ⟨A', c', rows, hv, hown, hr⟩ := h
  injection hv with e1 e2 e3
  subst e1; subst e2; subst e3
  obtain ⟨g, e, _, _, hc⟩ := own_cellb hown (by omega)
  obtain ⟨B, d, h4, h5⟩ := hr j hj
  exact ⟨rfl, g, B, d, e, hc j _ h4, h5.1⟩
theorem AllM.len {n0 : Nat} {w : World} {M : List (List Int)} {v : Value} (h : AllM n0 w M v) : ∃ A c, v = .slice A M.length c := by
  obtain ⟨A', c', rows, hv, _⟩ := h
  exact ⟨A', c', hv⟩
theorem after_le {M : List (List Int)} {e : Int} {B : List Int} (h : ∀ x ∈ M, x.length ≤ 110) (hB : B.length ≤ 110) : ∀ x ∈ after M e B, x.length ≤ 110 := fun x hx => by
  unfold after at hx
  rcases List.mem_append.1 hx with h1 | h1
  · split at h1
    · simp at h1
    · exact h x h1
  · rw [List.mem_singleton.1 h1]; exact hB
theorem after_len (M : List (List Int)) (e : Int) (B : List Int) : (after M e B).length ≤ M.length + 1 := by
  unfold after
  split <;> simp
set_option maxHeartbeats 16000000 in
theorem swhole_50 (A1 : Option Addr) (n1 d1 : Nat) (ol : List Oq) (w : World) (hin : InOps w A1 n1 ol) (h50 : n1 ≤ 50) (hsm : SmallO ol ol.length)
    (CF : Hid (∀ w', Below w.heap.size w w' → Calls Try.prog 9 #[.slice A1 n1 d1, .int .i64 50] w' fun e w2 => e = .returned (.bool true) ∧ w' = w2)) :
    Calls Try.prog 4 #[.slice A1 n1 d1] w fun e w' => e = .returned (.bool true) ∧ Below w.heap.size w w' := by
  obtain ⟨n0, hn0⟩ : ∃ n0, n0 = w.heap.size := ⟨_, rfl⟩
  have HN0 := hid hn0
  have HOPS := hid hin; have H50 := hid h50; have HSM := hid hsm
  have HOL : Hid (ol.length = n1) := hin.1
  have hn1 : (n1 : Int) ≤ 50 := by omega
  rw [← hn0]
  clear hin h50 hsm hn0
  go_enter Try.func4, Try.ntmps4
  go_wp2_with (first
    | (go_at_call 8; refine (oawake_any _).mono ?_; rintro e w1 ⟨rfl, hb⟩; have B0 := hid hb; have B1 := hid (hb.mono (Nat.le_of_eq HN0.out)); have S1 : Hid (n0 ≤ w1.heap.size) := Nat.le_trans (Nat.le_of_eq HN0.out) hb.size; clear hb)
    | (go_at_call 9; refine (CF.out _ B0.out).mono ?_; rintro e wq ⟨rfl, rfl⟩)
    | (go_at_call 10; refine (Dy.new 5 _ (by decide)).mono ?_; rintro e w3 ⟨b, rfl, hd, hb⟩; have HY3 := hid (hd.mono S1.out); have B3 := hid (B1.out.trans (hb.mono S1.out)); have S3 : Hid (n0 ≤ w3.heap.size) := Nat.le_trans S1.out hb.size; clear hb hd))
  have B4 : Hid (Below w3.heap.size w3 (w3.alloc (.cells #[.slice none 0 0] 31))) := (Below.refl _ _).alloc (Nat.le_refl _) _
  have HY4 := hid (HY3.out.below B4.out)
  have HM4 : Hid (AllM n0 (w3.alloc (.cells #[.slice none 0 0] 31)) [[]] (.slice (some ⟨w3.heap.size, 0, none⟩) 1 1)) := AllM.one (xs := []) rfl ⟨Rp.nil _ _ _, fun h => by simp at h⟩ S3.out
  have BL4 := hid (B3.out.trans (B4.out.mono S3.out))
  clear B0 B1 S1 HY3 B3 S3 B4
  go_loopw [5, 6] (fun mv i wr => ∃ (k : Nat) (s : SS) (M : List (List Int)), k ≤ n1 ∧ i = .int .i64 k ∧ Hid (Dy n0 wr b s) ∧ Hid (Wh s M) ∧ Hid (s.bs ∧ s.Q.length ≤ k ∧ (∀ x ∈ M, x.length ≤ 110) ∧ M.length ≤ k + 1) ∧ Hid (AllM n0 wr M mv) ∧ Hid (Below n0 w wr)) (fun _ i _ => n1 - (intOf i).toNat)
  case atStart => exact ⟨0, _, [[]], Nat.zero_le _, rfl, HY4.out, wh_new, ⟨(cln_new 5 2 (by decide)).bs, Nat.le_refl _, fun x hx => by simp at hx; subst hx; decide, Nat.le_refl _⟩, HM4.out, BL4.out⟩
  case round =>
    obtain ⟨k, s, M, hk, rfl, HY, HW, HI, HM, BL⟩ := hrel
    clear HY4 HM4 BL4
    by_cases hlt : k < n1
    · have S4 : Hid (n0 ≤ wr.heap.size) := Nat.le_trans (Nat.le_of_eq HN0.out) BL.out.size
      obtain ⟨g, off, rfl, hg, hat⟩ := opC_at HOPS.out (by omega)
      obtain ⟨o, B, c1, E, d, h1, h2, h3⟩ := hat k hlt
      have hsmo := HSM.out k (by rw [HOL.out]; exact hlt) o h1
      have key : ∀ j v, (opC o B c1 E d)[j]? = some v → wr.cell? ⟨g, off + k * 5 + j, none⟩ = some v := fun j v hv => (BL.out.cell (by rw [HN0.out]; exact hg)).trans (h3 j v hv)
      have z0 : wr.cell? ⟨g, off + k * 5, none⟩ = some (.int .i64 o.k) := key 0 _ rfl
      have z1 : wr.cell? ⟨g, off + k * 5 + 1, none⟩ = some (.int .i64 o.i) := key 1 _ rfl
      have z2 : wr.cell? ⟨g, off + k * 5 + 2, none⟩ = some (.int .i64 o.t) := key 2 _ rfl
      have z3 : wr.cell? ⟨g, off + k * 5 + 3, none⟩ = some (.slice B o.b.length c1) := key 3 _ rfl
      have z4 : wr.cell? ⟨g, off + k * 5 + 4, none⟩ = some (.slice E o.l.length d) := key 4 _ rfl
      have RB := hid h2.b.2.2.2
      have BB : Hid (Bs o.b) := h2.b.2.2.1
      have SRC : Hid (∀ w', Src n0 w' B o.b) := fun w' hx a ha => .inl (by rw [HN0.out]; exact rp_lt h2.b.2.2.2 hx a ha)
      have HQ9 : Hid (s.Q.length < 1000000) := by show _ < _; have := HI.out.2.1; have := H50.out; omega
      have CW : Hid (∀ w', Dy n0 w' b s → Below n0 w w' → Calls Try.prog 14 #[.pointer (some ⟨b, 0, none⟩), .int .i64 o.i, .slice B o.b.length c1] w' fun e w2 => ∃ r, e = .returned (.int .i64 r) ∧ Lf n0 b (s.wr o.i o.b).2 w' w2) := fun w' hd hb =>
        (dw_src hd (Nat.le_trans (Nat.le_of_eq HN0.out) hb.size) o.i B c1 o.b (RB.out.belowN (bel_of hb HN0.out)) (SRC.out w') hsmo.1 HQ9.out).mono fun e w2 ⟨h1, h2⟩ => ⟨_, h1, h2⟩
      have CFs : Hid (∀ w', Dy n0 w' b s → Below n0 w w' → Calls Try.prog 16 #[.pointer (some ⟨b, 0, none⟩), .int .i64 o.i] w' fun e w2 => e = .returned (.tuple #[]) ∧ Lf n0 b (s.sf o.i) w' w2) := fun w' hd hb =>
        ds_any hd (Nat.le_trans (Nat.le_of_eq HN0.out) hb.size) o.i h2.i
      have CX : Hid (∀ w', Dy n0 w' b s → Below n0 w w' → Calls Try.prog 17 #[.pointer (some ⟨b, 0, none⟩), .slice E o.l.length d] w' fun e w2 => e = .returned (.tuple #[]) ∧ Lf n0 b (s.rs o.l) w' w2) := fun w' hd hb =>
        dx_any hd (Nat.le_trans (Nat.le_of_eq HN0.out) hb.size) E d o.l (h2.l.2.2.below (bel_of hb HN0.out)) (fun hx a ha => by rw [HN0.out]; exact ip_lt h2.l.2.2 hx a ha) (by omega) HQ9.out
      have CS : Hid (∀ w', Dy n0 w' b s → Below n0 w w' → Calls Try.prog 12 #[.pointer (some ⟨b, 0, none⟩), .int .i64 2, .slice B o.b.length c1] w' (SvAns n0 b (s.sv 2 o.b) w')) := fun w' hd hb =>
        oSave_any hd (Nat.le_trans (Nat.le_of_eq HN0.out) hb.size) HI.out.1 2 (by decide) B c1 o.b (RB.out.belowN (bel_of hb HN0.out)) (by omega) HQ9.out
      obtain ⟨xs, hxs⟩ : ∃ m, m = o.b := ⟨_, rfl⟩
      obtain ⟨ll, hll⟩ : ∃ m, m = o.l := ⟨_, rfl⟩
      rw [← hxs] at z3 hsmo
      rw [← hll] at z4 hsmo
      rw [← hxs] at RB BB SRC CW CS
      rw [← hll] at CX
      obtain ⟨m1, hm1⟩ : ∃ m, m = xs.length := ⟨_, rfl⟩
      obtain ⟨m2, hm2⟩ : ∃ m, m = ll.length := ⟨_, rfl⟩
      obtain ⟨kd, hkd⟩ : ∃ m, m = o.k := ⟨_, rfl⟩
      obtain ⟨iv, hiv⟩ : ∃ m, m = o.i := ⟨_, rfl⟩
      obtain ⟨tv, htv⟩ : ∃ m, m = o.t := ⟨_, rfl⟩
      rw [← hkd] at z0
      rw [← hiv] at z1 CW CFs
      rw [← htv] at z2
      rw [← hm1] at z3 CW CS
      rw [← hm2] at z4 CX
      have hk2 : (k : Int) < n1 := by omega
      have hm300 : m1 ≤ 300 := by omega
      have HM1 := hid hm1
      obtain ⟨A9, c9, rfl⟩ := HM.out.len
      obtain ⟨lm, hlm⟩ : ∃ m, m = M.length := ⟨_, rfl⟩
      rw [← hlm] at HM
      have HLM := hid hlm
      rw [← hlm]
      clear key h1 h2 h3 hat hg hsmo hkd hiv htv hm1 hm2 hxs hll hlt hlm
      go_upto_region 9 with (fail)
      have hb5 : Below wr.heap.size wr (wr.alloc (.cells #[.int .i64 kd, .int .i64 iv, .int .i64 tv, .slice B m1 c1, .slice E m2 d] 34)) := (Below.refl _ _).alloc (Nat.le_refl _) _
      have HBK := hid (Blk.new wr 34 #[.int .i64 kd, .int .i64 iv, .int .i64 tv, .slice B m1 c1, .slice E m2 d])
      have HY5 := hid (HY.out.below hb5)
      have HM5 := hid (HM.out.below hb5 S4.out)
      have BL5 := hid (BL.out.trans (hb5.mono S4.out))
      clear hb5 z0 z1 z2 z3 z4 HY HM BL
      obtain ⟨pw, hpw⟩ : ∃ pw, pw = wr.heap.size := ⟨_, rfl⟩
      rw [← hpw] at HBK ⊢
      generalize wr.alloc (.cells #[.int .i64 kd, .int .i64 iv, .int .i64 tv, .slice B m1 c1, .slice E m2 d] 34) = w5 at HBK HY5 HM5 BL5 ⊢
      clear hpw S4
      have S5 : Hid (n0 ≤ w5.heap.size) := Nat.le_trans (Nat.le_of_eq HN0.out) BL5.out.size
      have y0 : w5.cell? ⟨pw, 0, none⟩ = some (.int .i64 kd) := HBK.out.cell 0
      have y1 : w5.cell? ⟨pw, 1, none⟩ = some (.int .i64 iv) := HBK.out.cell 1
      have y3 : w5.cell? ⟨pw, 3, none⟩ = some (.slice B m1 c1) := HBK.out.cell 3
      have y4 : w5.cell? ⟨pw, 4, none⟩ = some (.slice E m2 d) := HBK.out.cell 4
      by_cases k1 : kd = 1
      · subst k1
        by_cases k110 : m1 ≤ 110
        · have g110 : decide ((m1 : Int) ≤ 110) = true := decide_eq_true (by omega)
          have g110' : (m1 : Int) ≤ 110 := by omega
          have HV := hid (wh_save HW.out (B := xs) (by have := HM1.out; omega) BB.out)
          have HVb := hid (s.sv_bs HI.out.1 2 xs BB.out)
          have HVl := hid (s.sv_len 2 xs)
          have HAL := hid (after_le (e := (s.sv 2 xs).1) (B := xs) HI.out.2.2.1 (by have := HM1.out; omega))
          have HALn := hid (after_len M (s.sv 2 xs).1 xs)
          obtain ⟨er, sr, s9, hsv⟩ : ∃ er sr s9, s.sv 2 xs = (er, sr, s9) := ⟨_, _, _, rfl⟩
          rw [hsv] at HV HVb HVl HAL HALn CS
          unfold SvAns at CS
          simp only at HV HVb HVl HAL HALn CS
          clear hsv
          by_cases her : er = 0
          · subst her
            have HVV : Hid (Wh s9 [xs]) := HV.out
            clear HV
            go_wp2_with (first
              | (go_at_call 12; refine (CS.out _ HY5.out BL5.out).mono ?_; rintro e w6 ⟨rfl, hlf⟩; have HY6 := hid hlf.1; have BL6 := hid (BL5.out.trans hlf.2.2); have HBK6 := hid (hlf.2.1.blk HBK.out (by decide)); have S6 : Hid (n0 ≤ w6.heap.size) := Nat.le_trans S5.out hlf.2.1.sz; have q0w6 : w6.cell? ⟨pw, 0, none⟩ = some (.int .i64 1) := HBK6.out.cell 0; have q1w6 : w6.cell? ⟨pw, 1, none⟩ = some (.int .i64 iv) := HBK6.out.cell 1; have q3w6 : w6.cell? ⟨pw, 3, none⟩ = some (.slice B m1 c1) := HBK6.out.cell 3; have q4w6 : w6.cell? ⟨pw, 4, none⟩ = some (.slice E m2 d) := HBK6.out.cell 4; clear hlf)
              | (at_builtin; refine append_m rfl (.tmp 56) (.tmp 59) rfl n0 [] _ rfl (AllM.nil n0 w6) B m1 c1 xs rfl (by simp) ⟨RB.out.belowN (bel_of BL6.out HN0.out), SRC.out _⟩ HM1.out S6.out ?_; intro v9 w9 hm9 hk9 hb9; have HM9 := hid hm9; have HY9 := hid (HY6.out.kb hk9); have BL9 := hid (BL6.out.trans hb9); have HBK9 := hid (HBK6.out.same (hk9.2 _ _ _ HBK6.out (by decide))); have q0w9 : w9.cell? ⟨pw, 0, none⟩ = some (.int .i64 1) := HBK9.out.cell 0; have q1w9 : w9.cell? ⟨pw, 1, none⟩ = some (.int .i64 iv) := HBK9.out.cell 1; have q3w9 : w9.cell? ⟨pw, 3, none⟩ = some (.slice B m1 c1) := HBK9.out.cell 3; have q4w9 : w9.cell? ⟨pw, 4, none⟩ = some (.slice E m2 d) := HBK9.out.cell 4; clear hm9 hk9 hb9))
            go_roundw
            case rel => exact ⟨k + 1, s9, [xs], by omega, by go_num, HY9.out, HVV.out, ⟨HVb.out, Nat.le_trans HVl.out.2 (Nat.succ_le_succ HI.out.2.1), fun x hx => by rw [List.mem_singleton.1 hx]; have := HM1.out; omega, by simp⟩, HM9.out, BL9.out⟩
            case measure => simp [intOf]; omega
          · have g9 : (er == 0) = false := by simpa using her
            have HVV : Hid (Wh s9 (M ++ [xs])) := by
              have := HV.out
              unfold after at this
              rw [if_neg her] at this
              exact this
            have HML : Hid (M.length ≤ 1000) := by show _ ≤ _; have := HI.out.2.2.2; have := H50.out; omega
            clear HV
            go_wp2_with (first
              | (go_at_call 12; refine (CS.out _ HY5.out BL5.out).mono ?_; rintro e w6 ⟨rfl, hlf⟩; have HY6 := hid hlf.1; have HM6 := hid (HM5.out.keep hlf.2.1 hlf.2.2); have BL6 := hid (BL5.out.trans hlf.2.2); have HBK6 := hid (hlf.2.1.blk HBK.out (by decide)); have S6 : Hid (n0 ≤ w6.heap.size) := Nat.le_trans S5.out hlf.2.1.sz; have q0w6 : w6.cell? ⟨pw, 0, none⟩ = some (.int .i64 1) := HBK6.out.cell 0; have q1w6 : w6.cell? ⟨pw, 1, none⟩ = some (.int .i64 iv) := HBK6.out.cell 1; have q3w6 : w6.cell? ⟨pw, 3, none⟩ = some (.slice B m1 c1) := HBK6.out.cell 3; have q4w6 : w6.cell? ⟨pw, 4, none⟩ = some (.slice E m2 d) := HBK6.out.cell 4; clear hlf)
              | (at_builtin; refine append_m rfl (.tmp 56) (.tmp 59) rfl n0 M _ rfl HM6.out B m1 c1 xs rfl HML.out ⟨RB.out.belowN (bel_of BL6.out HN0.out), SRC.out _⟩ HM1.out S6.out ?_; intro v9 w9 hm9 hk9 hb9; have HM9 := hid hm9; have HY9 := hid (HY6.out.kb hk9); have BL9 := hid (BL6.out.trans hb9); have HBK9 := hid (HBK6.out.same (hk9.2 _ _ _ HBK6.out (by decide))); have q0w9 : w9.cell? ⟨pw, 0, none⟩ = some (.int .i64 1) := HBK9.out.cell 0; have q1w9 : w9.cell? ⟨pw, 1, none⟩ = some (.int .i64 iv) := HBK9.out.cell 1; have q3w9 : w9.cell? ⟨pw, 3, none⟩ = some (.slice B m1 c1) := HBK9.out.cell 3; have q4w9 : w9.cell? ⟨pw, 4, none⟩ = some (.slice E m2 d) := HBK9.out.cell 4; clear hm9 hk9 hb9))
            go_roundw
            case rel => exact ⟨k + 1, s9, M ++ [xs], by omega, by go_num, HY9.out, HVV.out, ⟨HVb.out, Nat.le_trans HVl.out.2 (Nat.succ_le_succ HI.out.2.1), fun x hx => by
                rcases List.mem_append.1 hx with h1 | h1
                · exact HI.out.2.2.1 x h1
                · rw [List.mem_singleton.1 h1]; have := HM1.out; omega, by rw [List.length_append, List.length_singleton]; exact Nat.succ_le_succ HI.out.2.2.2⟩, HM9.out, BL9.out⟩
            case measure => simp [intOf]; omega
        · have g110 : decide ((m1 : Int) ≤ 110) = false := decide_eq_false (by omega)
          have g110' : ¬ (m1 : Int) ≤ 110 := by omega
          go_wp2
          go_roundw
          case rel => exact ⟨k + 1, s, M, by omega, by go_num, HY5.out, HW.out, ⟨HI.out.1, Nat.le_succ_of_le HI.out.2.1, HI.out.2.2.1, Nat.le_succ_of_le HI.out.2.2.2⟩, HM5.out, BL5.out⟩
          case measure => simp [intOf]; omega
      · have a1 : (kd == 1) = false := by simpa using k1
        by_cases k2 : kd = 2
        · subst k2
          by_cases i2 : iv = 2
          · subst i2
            go_wp2
            go_roundw
            case rel => exact ⟨k + 1, s, M, by omega, by go_num, HY5.out, HW.out, ⟨HI.out.1, Nat.le_succ_of_le HI.out.2.1, HI.out.2.2.1, Nat.le_succ_of_le HI.out.2.2.2⟩, HM5.out, BL5.out⟩
            case measure => simp [intOf]; omega
          · by_cases i3 : iv = 3
            · subst i3
              go_wp2
              go_roundw
              case rel => exact ⟨k + 1, s, M, by omega, by go_num, HY5.out, HW.out, ⟨HI.out.1, Nat.le_succ_of_le HI.out.2.1, HI.out.2.2.1, Nat.le_succ_of_le HI.out.2.2.2⟩, HM5.out, BL5.out⟩
              case measure => simp [intOf]; omega
            · have b2 : (iv != 2) = true := by simpa using i2
              have b3 : (iv != 3) = true := by simpa using i3
              have N2 := hid i2; have N3 := hid i3
              go_wp2_with (go_at_call 14; refine (CW.out _ HY5.out BL5.out).mono ?_; rintro e w6 ⟨r, rfl, hlf⟩; have HY6 := hid hlf.1; have HM6 := hid (HM5.out.keep hlf.2.1 hlf.2.2); have BL6 := hid (BL5.out.trans hlf.2.2); have HBK6 := hid (hlf.2.1.blk HBK.out (by decide)); have q0w6 : w6.cell? ⟨pw, 0, none⟩ = some (.int .i64 2) := HBK6.out.cell 0; have q1w6 : w6.cell? ⟨pw, 1, none⟩ = some (.int .i64 iv) := HBK6.out.cell 1; have q3w6 : w6.cell? ⟨pw, 3, none⟩ = some (.slice B m1 c1) := HBK6.out.cell 3; have q4w6 : w6.cell? ⟨pw, 4, none⟩ = some (.slice E m2 d) := HBK6.out.cell 4; clear hlf)
              go_roundw
              case rel => exact ⟨k + 1, _, M, by omega, by go_num, HY6.out, wh_write HW.out N2.out N3.out xs, ⟨s.wr_bs HI.out.1 _ _ BB.out, Nat.le_trans (s.wr_len _ _).2 (Nat.succ_le_succ HI.out.2.1), HI.out.2.2.1, Nat.le_succ_of_le HI.out.2.2.2⟩, HM6.out, BL6.out⟩
              case measure => simp [intOf]; omega
        · have a2 : (kd == 2) = false := by simpa using k2
          by_cases k3 : kd = 3
          · subst k3
            go_wp2_with (go_at_call 16; refine (CFs.out _ HY5.out BL5.out).mono ?_; rintro e w6 ⟨rfl, hlf⟩; have HY6 := hid hlf.1; have HM6 := hid (HM5.out.keep hlf.2.1 hlf.2.2); have BL6 := hid (BL5.out.trans hlf.2.2); have HBK6 := hid (hlf.2.1.blk HBK.out (by decide)); have q0w6 : w6.cell? ⟨pw, 0, none⟩ = some (.int .i64 3) := HBK6.out.cell 0; have q1w6 : w6.cell? ⟨pw, 1, none⟩ = some (.int .i64 iv) := HBK6.out.cell 1; have q3w6 : w6.cell? ⟨pw, 3, none⟩ = some (.slice B m1 c1) := HBK6.out.cell 3; have q4w6 : w6.cell? ⟨pw, 4, none⟩ = some (.slice E m2 d) := HBK6.out.cell 4; clear hlf)
            go_roundw
            case rel => exact ⟨k + 1, _, M, by omega, by go_num, HY6.out, wh_fuse HW.out iv, ⟨s.sf_bs HI.out.1 _, Nat.le_succ_of_le HI.out.2.1, HI.out.2.2.1, Nat.le_succ_of_le HI.out.2.2.2⟩, HM6.out, BL6.out⟩
            case measure => simp [intOf]; omega
          · have a3 : (kd == 3) = false := by simpa using k3
            by_cases k4 : kd = 4
            · subst k4
              obtain ⟨nn, vv, hld, hvM, hwh⟩ := wh_restart HW.out ll
              have hrb := s.rs_bs HI.out.1 ll
              have CL : Hid (∀ w', Dy n0 w' b (s.rs ll) → Calls Try.prog 21 #[.pointer (some ⟨b, 0, none⟩), .int .i64 2] w' (LdAns w' (0, nn, vv))) := fun w' hd => by
                have := oLoad_any hd hrb 2 (by decide)
                rwa [hld] at this
              unfold LdAns at CL
              simp only at CL
              have HWH := hid hwh; have HRB := hid hrb; have HVM := hid hvM
              have HVL : Hid (vv.length ≤ 110) := HI.out.2.2.1 vv hvM
              obtain ⟨nv, hnv⟩ : ∃ m, m = vv.length := ⟨_, rfl⟩
              rw [← hnv] at CL
              have HNV := hid hnv
              clear hld hvM hwh hrb hnv
              go_upto_region 22 with (first
                | (go_at_call 17; refine (CX.out _ HY5.out BL5.out).mono ?_; rintro e w6 ⟨rfl, hlf⟩; have HY6 := hid hlf.1; have HM6 := hid (HM5.out.keep hlf.2.1 hlf.2.2); have BL6 := hid (BL5.out.trans hlf.2.2); have S6 : Hid (n0 ≤ w6.heap.size) := Nat.le_trans S5.out hlf.2.1.sz; have HBK6 := hid (hlf.2.1.blk HBK.out (by decide)); have q0w6 : w6.cell? ⟨pw, 0, none⟩ = some (.int .i64 4) := HBK6.out.cell 0; have q1w6 : w6.cell? ⟨pw, 1, none⟩ = some (.int .i64 iv) := HBK6.out.cell 1; have q3w6 : w6.cell? ⟨pw, 3, none⟩ = some (.slice B m1 c1) := HBK6.out.cell 3; have q4w6 : w6.cell? ⟨pw, 4, none⟩ = some (.slice E m2 d) := HBK6.out.cell 4; clear hlf)
                | (go_at_call 21; refine (CL.out _ HY6.out).mono ?_; rintro e w7 ⟨V, cv, rfl, hf, hb⟩; have HY7 := hid (HY6.out.below hb); have HM7 := hid (HM6.out.below hb S6.out); have BL7 := hid (BL6.out.trans (hb.mono S6.out)); have S7 : Hid (n0 ≤ w7.heap.size) := Nat.le_trans S6.out hb.size; have RV7 := hid (hf.rq (n0 := n0)); clear hf hb))
              have hlm2 : (lm : Int) ≤ 1000 := by have := HLM.out; have := HI.out.2.2.2; have := H50.out; omega
              go_wp2
              go_loopw [13, 14] (fun fv iv wr => ∃ (j : Nat) (f : Bool), j ≤ lm ∧ iv = .int .i64 j ∧ fv = .bool f ∧ Hid (∀ i, i < j → M[i]? = some vv → f = true) ∧ Hid (Below w7.heap.size w7 wr)) (fun _ iv _ => lm - (intOf iv).toNat)
              case atStart => exact ⟨0, false, Nat.zero_le _, rfl, rfl, fun i hi => by omega, Below.refl _ _⟩
              case round =>
                obtain ⟨j, f, hj, rfl, rfl, HF, HB⟩ := hrel
                by_cases hjl : j < lm
                · have hj2 : (j : Int) < lm := by omega
                  cases f with
                  | true =>
                    clear hjl
                    go_wp2
                    go_roundw
                    case rel => exact ⟨j + 1, true, by omega, by go_num, rfl, fun i _ _ => rfl, HB.out⟩
                    case measure => simp [intOf]; omega
                  | false =>
                    obtain ⟨-, g9, B9, d9, hA, hcell, hrp⟩ := (HM7.out.below HB.out S7.out).at (j := j) (by have := HLM.out; omega)
                    subst hA
                    obtain ⟨ys, hys⟩ : ∃ ys, ys = M[j]?.getD [] := ⟨_, rfl⟩
                    rw [← hys] at hcell hrp
                    have hyl : ys.length ≤ 110 := by
                      have hjm : j < M.length := by have := HLM.out; omega
                      rw [hys, List.getElem?_eq_getElem hjm]
                      exact HI.out.2.2.1 _ (List.getElem_mem hjm)
                    have CSM := hid (Same_any B9 V d9 cv ys vv wr hrp (RV7.out.1.belowN HB.out) (by omega) (by have := HVL.out; omega))
                    obtain ⟨ny, hny⟩ : ∃ m, m = ys.length := ⟨_, rfl⟩
                    rw [← hny] at hcell CSM
                    rw [← HNV.out] at CSM
                    obtain ⟨f2, hf2⟩ : ∃ f, f = decide (ys = vv) := ⟨_, rfl⟩
                    rw [← hf2] at CSM
                    have HF2 := hid hf2; have HYS := hid hys
                    clear hys hrp hyl hny hf2 hjl
                    go_wp2_with (go_at_call 23; refine CSM.out.mono ?_; rintro e w8 ⟨rfl, hb⟩; have HB8 := hid (HB.out.trans (hb.mono HB.out.size)); clear hb)
                    go_roundw
                    case rel =>
                      refine ⟨j + 1, f2, by omega, by go_num, rfl, fun i hi hM => ?_, HB8.out⟩
                      by_cases hij : i = j
                      · subst hij
                        rw [HF2.out, HYS.out, hM]
                        exact decide_eq_true rfl
                      · have := HF.out i (by omega) hM
                        cases this
                    case measure => simp [intOf]; omega
                · obtain rfl : j = lm := by omega
                  have hft : f = true := by
                    obtain ⟨i, hi⟩ := List.mem_iff_getElem?.1 HVM.out
                    have := (List.getElem?_eq_some_iff.1 hi).1
                    exact HF.out i (by have := HLM.out; omega) hi
                  subst hft
                  have HY8 := hid (HY7.out.below HB.out)
                  have BL8 := hid (BL7.out.trans (HB.out.mono S7.out))
                  have S8 : Hid (n0 ≤ wr.heap.size) := Nat.le_trans S7.out HB.out.size
                  have RV8 := hid (RV7.out.keep (Kt.below HB.out) (HB.out.mono S7.out))
                  go_wp2
                  go_roundw
                  case rel =>
                    have hb9 : Below wr.heap.size wr (wr.alloc (.cells #[.slice V nv cv] 31)) := (Below.refl _ _).alloc (Nat.le_refl _) _
                    exact ⟨k + 1, s.rs ll, [vv], by omega, by go_num, HY8.out.below hb9, HWH.out, ⟨HRB.out, Nat.zero_le _, fun x hx => by rw [List.mem_singleton.1 hx]; exact HVL.out, by simp⟩, AllM.one HNV.out RV8.out S8.out, BL8.out.trans (hb9.mono S8.out)⟩
                  case measure => simp [intOf]; omega
            · have a4 : (kd != 4) = true := by simpa using k4
              go_wp2
              go_roundw
              case rel => exact ⟨k + 1, s, M, by omega, by go_num, HY5.out, HW.out, ⟨HI.out.1, Nat.le_succ_of_le HI.out.2.1, HI.out.2.2.1, Nat.le_succ_of_le HI.out.2.2.2⟩, HM5.out, BL5.out⟩
              case measure => simp [intOf]; omega
    · obtain rfl : k = n1 := by omega
      go_wp2
      go_ret
      exact ⟨rfl, BL.out⟩
theorem swhole_walk (A1 : Option Addr) (n1 d1 : Nat) (ol : List Oq) (w : World) (hin : InOps w A1 n1 ol) :
    Calls Try.prog 4 #[.slice A1 n1 d1] w fun e w' => e = .returned (.bool true) ∧ Below w.heap.size w w' := by
  by_cases hf : ol.length ≤ 50 ∧ SmallO ol ol.length
  · have CF := hid (fun w' (hb : Below w.heap.size w w') => oFew_yes (c := d1) (hin.below hb) hf)
    exact swhole_50 A1 n1 d1 ol w hin (by rw [← hin.1]; exact hf.1) hf.2 CF
  · have CF := hid (fun w' (hb : Below w.heap.size w w') => oFew_no (c := d1) (hin.below hb) hf)
    clear hin hf
    go_enter Try.func4, Try.ntmps4
    go_wp2_with (first
      | (go_at_call 8; (with_reducible refine (oawake_any w).mono ?_); rintro e w1 ⟨rfl, hb⟩; have B1 := hid hb; clear hb)
      | (go_at_call 9; refine (CF.out _ B1.out).mono ?_; rintro e wq ⟨rfl, rfl⟩)
      | (go_at_call 8; refine (oawake_any _).mono ?_; rintro e w2 ⟨rfl, hb⟩; have B2 := hid (B1.out.trans (hb.mono B1.out.size)); clear hb))
    go_ret
    exact ⟨rfl, B2.out⟩
end Go.Proofs.Ytjdojnbpchommaa
