/-
  What is proved here: with power, what is put in the place of all is there, and what is appended behind it.
-/
import Derived.Test.YthfkooancgkjaaaMVtRm
set_option linter.unusedSimpArgs false
set_option linter.unusedVariables false
namespace Go.Proofs.Ythfkooancgkjaaa
open Go.ChangeShapes Go.WideShapes Go.ChangeAt Go.RowKit
set_option linter.unusedVariables false
set_option maxRecDepth 20000

theorem vq_small {k : Nat} {all : List (List Int)} {sure : Nat} {s : SS} {n : Int} {a : Nat} {lam : Int} {l : LS} (h : VQ k all sure s n a lam l) (hk : k ≤ 60) : s.Q.length < 800000 ∧ n + 2 < 18446744073709551616 ∧ l.g + 1 < 256 ∧ (0 ≤ l.g ∧ l.g < 4294967296) ∧ l.n ≤ 14 ∧ a < 2 := by
  have h1 := h.ql; have h2 := h.nb; have h3 := h.gb; have h4 := h.vu.lg
  exact ⟨by omega, by omega, by omega, by omega, h.vu.n2, h.vu.a2⟩
theorem one_bytes {w : World} {x : Int} : Rp (w.alloc (.cells #[.int .u8 x] 5)) none (some ⟨w.heap.size, 0, none⟩) [x] := fun _ => ⟨_, rfl, (fun ⟨a, e, _⟩ => by cases e), fun j hj => by
  rw [Addr.add_lit, Nat.zero_add, (Blk.new w 5 _).cell]
  match j, hj with
  | 0, _ => rfl⟩
theorem one_bytes' {w w' : World} {x : Int} (hb : Below (w.heap.size + 1) (w.alloc (.cells #[.int .u8 x] 5)) w') (n0 : Nat) : RqL n0 w' (some ⟨w.heap.size, 0, none⟩) [x] := by
  have hk : Blk w' w.heap.size 5 #[.int .u8 x] := (Blk.new w 5 _).same (hb.block _ (by omega))
  refine ⟨fun _ => ⟨_, rfl, (fun ⟨a, e, _⟩ => by cases e), fun j hj => ?_⟩, fun _ a ha => ?_⟩
  · rw [Addr.add_lit, Nat.zero_add, hk.cell]
    match j, hj with
    | 0, _ => rfl
  · injection ha with ha
    subst ha
    exact .inr ⟨_, hk⟩
theorem append_m2 {w : World} {u : Value} {ops : Array Oper} {rest : List Oper} {o : Oper} {a : Act} {Q : Exit → Act → World → Prop} (hgd : o.guard = none) (s x : Operand)
    (ho : o.op = .call { callee := .builtin .append, args := #[s, x], argTypes := #[31, 31] }) (n0 : Nat) (M : List (List Int)) (v : Value) (hs : a.eval s = v) (hM : AllM n0 n0 (w.alloc (.cells #[u] 5)) M v) (B : Option Addr) (m c : Nat) (xs : List Int) (hx : a.eval x = .slice (some ⟨w.heap.size + 1, 0, none⟩) 1 1)
    (hlen : M.length ≤ 1000) (hB : RqL n0 (w.alloc (.cells #[u] 5)) B xs) (hm : m = xs.length) (hn : n0 ≤ w.heap.size) (h : ∀ v' w', AllM n0 n0 w' (M ++ [xs]) v' → Kb (w.alloc (.cells #[u] 5)) w' → Below n0 (w.alloc (.cells #[u] 5)) w' → wpList Try.prog ops Q rest (a.put o.dst v') w') : wpList Try.prog ops Q (o :: rest) a ((w.alloc (.cells #[u] 5)).alloc (.cells #[.slice B m c] 23)) := by
  have hs1 : (w.alloc (.cells #[u] 5)).heap.size = w.heap.size + 1 := by simp
  exact append_m hgd s x ho n0 n0 M v hs hM B m c xs (by rw [hs1]; exact hx) hlen hB hm (by omega) (Nat.le_refl _) h
set_option maxHeartbeats 16000000 in
theorem vrep_10 (A1 : Option Addr) (n1 d1 : Nat) (ol : List Ov) (w : World) (hin : InOps w A1 n1 ol) (h10 : n1 ≤ 10) (hsm : SmallV ol ol.length)
    (CF : Hid (∀ w', Below w.heap.size w w' → Calls Try.prog 7 #[.slice A1 n1 d1, .int .i64 10] w' fun e w2 => e = .returned (.bool true) ∧ w' = w2)) :
    Calls Try.prog 4 #[.slice A1 n1 d1] w fun e w' => e = .returned (.bool true) ∧ Below w.heap.size w w' := by
  obtain ⟨n0, hn0⟩ : ∃ n0, n0 = w.heap.size := ⟨_, rfl⟩
  have HN0 := hid hn0
  have HOPS := hid hin; have H10 := hid h10; have HSM := hid hsm
  have HOL : Hid (ol.length = n1) := hin.1
  have CW := hid (fun w => vtawake_any w)
  have CN := hid (fun (u : World) => Dy.new 30 u (by decide))
  obtain ⟨s0, hs0⟩ : ∃ s0, s0 = (⟨List.replicate 30 zpg, [], -1, false⟩ : SS) := ⟨_, rfl⟩
  obtain ⟨a1, a2, a3, a4⟩ := vq_new
  rw [← hs0] at CN a1 a2 a3 a4
  obtain ⟨s1, hs1⟩ : ∃ s1, s1 = (s0.sv 0 (val9 0 1 1)).2.2 := ⟨_, rfl⟩
  rw [← hs1] at a4
  obtain ⟨l1, hl1⟩ : ∃ l1 : LS, l1 = ⟨1, (scn (s1.lp (off 14 0)) 14 14 0 1).2.1, false⟩ := ⟨_, rfl⟩
  rw [← hl1] at a4
  have CO : Hid (∀ b w1, Dy n0 w1 b s0 → Below n0 w w1 → Calls Try.prog 9 #[.pointer (some ⟨b, 0, none⟩)] w1 fun e w' => ∃ vb lb V, e = .returned (.tuple #[.pointer (some ⟨vb, 0, none⟩), V, .int .i64 0]) ∧ RpM 14 n0 b vb w s1 0 1 l1 lb w') := hid fun b w1 h hb => by
    have hs : n0 ≤ w1.heap.size := by have := hb.size; omega
    have := vtOpen_any h hs a2 a1 (by decide) (by decide) (by decide) (by decide) (by decide)
    unfold OpV at this
    refine this.mono ?_
    rintro e w' (⟨_, vb, lb, V, q1, q2, q3, q4, q5, _, q7, q8, q9⟩ | ⟨q, _⟩)
    · refine ⟨vb, lb, V, q1, ⟨?_, ?_, ?_, Nat.le_trans hs q3, Nat.le_trans hs q2, hb.trans q9⟩⟩
      · rw [hs1]; exact q7
      · rw [hl1]; exact q4
      · rw [hl1, hs1]; exact q5
    · exact (q a3).elim
  have HVQ0 := hid a4
  have BW0 : Hid (∀ w', Below w.heap.size w w' → Below n0 w w') := hid fun w' h => by rw [hn0]; exact h
  rw [← hn0]
  clear hin h10 hsm hn0 hs0 hs1 hl1 a1 a2 a3 a4
  have h10 : n1 ≤ 10 := H10.out
  go_enter Try.func4, Try.ntmps4
  go_wp2_with (first
    | (go_at_call 6; (with_reducible refine (CW.out w).mono ?_); rintro e w1 ⟨rfl, hb1⟩; have B1 := hid hb1; clear hb1)
    | (go_at_call 7; refine (CF.out _ B1.out).mono ?_; rintro e w2 ⟨rfl, rfl⟩)
    | (go_at_call 8; refine (CN.out _).mono ?_; rintro e w2 ⟨b, rfl, hd, hb2⟩; have B2 : Hid (Below n0 w w2) := hid (BW0.out _ (B1.out.trans (hb2.mono B1.out.size))); have HD := hid (hd.mono2 (show n0 ≤ w1.heap.size by rw [HN0.out]; exact B1.out.size)); have CO1 := hid (CO.out b w2 HD.out B2.out); clear hd hb2)
    | (go_at_call 9; refine CO1.out.mono ?_; rintro e w3 ⟨vb, lb, V, rfl, hm3⟩; have RM3 := hid hm3; have AL3 := hid (AllM.nil n0 n0 w3); clear hm3))
  clear CO CO1 CN CW CF B1 B2 HD BW0
  go_loopw [8, 9] (fun v i wr => ∃ (k lb sure : Nat) (all : List (List Int)) (s : SS) (n : Int) (a : Nat) (lam : Int) (l : LS), k ≤ n1 ∧ i = .int .i64 k ∧ Hid (VQ (2 * k) all sure s n a lam l) ∧ Hid (RpM 14 n0 b vb w s a lam l lb wr) ∧ Hid (AllM n0 n0 wr all v)) (fun _ i _ => n1 - (intOf i).toNat)
  case atStart => exact ⟨0, lb, 0, [], s1, 1, 0, 1, l1, by omega, rfl, HVQ0, RM3, AL3⟩
  case round =>
    clear HVQ0 RM3 AL3
    obtain ⟨k, lb, sure, all, s, n, a, lam, l, hk, rfl, VQK, RM, AL⟩ := hrel
    have S4 : Hid (n0 ≤ wr.heap.size) := hid (by have := RM.out.be.size; rw [← HN0.out] at this; exact this)
    by_cases hlt : k < n1
    · obtain ⟨ga, off', rfl, hg, hat⟩ := opV_at HOPS.out (by omega)
      obtain ⟨o, B, c1, E, d, h1, h2, h3⟩ := hat k hlt
      have hsmo := HSM.out k (by rw [HOL.out]; exact hlt) o h1
      obtain ⟨hm10, h7000⟩ := fewR_all hsmo.1 (by decide)
      have key : ∀ j v, (opC o B c1 E d)[j]? = some v → wr.cell? ⟨ga, off' + k * 4 + j, none⟩ = some v := fun j v hv => (RM.out.be.cell (by rw [HN0.out]; exact hg)).trans (h3 j v hv)
      obtain ⟨L, hL⟩ : ∃ L, L = o.b := ⟨_, rfl⟩
      have hib := h2.b
      rw [← hL] at hib hm10 h7000
      obtain ⟨m, hm⟩ : ∃ m, m = L.length := ⟨_, rfl⟩
      rw [← hm] at hm10 hib
      have z2 : wr.cell? ⟨ga, off' + k * 4 + 2, none⟩ = some (.slice B m c1) := by rw [hm, hL]; exact key 2 _ rfl
      have HIB := hid hib; have HML := hid hm; have H7 : Hid (∀ x ∈ L, x.length ≤ 7000) := hid h7000
      have HG := hid hg
      have hm9 : m ≤ 10 := hm10
      clear h1 h2 h3 hat hsmo key hL hib hm h7000 hg hm10
      go_wp2
      go_loop [10, 11, 12] (fun p lg j => ∃ i : Nat, i ≤ m ∧ j = .int .i64 i ∧ p = .int .i64 (pgs (L.take i) : Nat) ∧ lg = .bool (lng (L.take i)) ∧ pgs (L.take i) ≤ 64 * i) (fun _ _ j => m - (intOf j).toNat)
      case atStart => exact ⟨0, by omega, rfl, by simp [pgs], by simp [lng], by simp [pgs]⟩
      case round =>
        obtain ⟨i, hi, rfl, rfl, rfl, hpi⟩ := hrel
        obtain ⟨p, hp⟩ : ∃ p, p = pgs (L.take i) := ⟨_, rfl⟩
        obtain ⟨g, hg⟩ : ∃ g, g = lng (L.take i) := ⟨_, rfl⟩
        rw [← hp] at hpi ⊢
        rw [← hg]
        have HP := hid hp; have HGG := hid hg
        clear hp hg
        by_cases hil : i < m
        · obtain ⟨gb, ob, rfl, hb0, hat⟩ := HIB.out.2.2 (by omega)
          obtain ⟨Bx, cc, x, h1, h2, h3, h4, h5, h6⟩ := hat i hil
          obtain ⟨q, hq⟩ : ∃ q, q = x.length := ⟨_, rfl⟩
          rw [← hq] at h2 h5 h6
          have hq7 : q ≤ 7000 := by rw [hq]; exact H7.out x (List.mem_of_getElem? h1)
          have zx : wr.cell? ⟨gb, ob + i, none⟩ = some (.slice Bx q cc) := (RM.out.be.cell (by rw [HN0.out]; exact hb0)).trans h2
          have H1 := hid h1; have HQ := hid hq
          have CX := hid (fun u => xparts_any q u (by omega))
          obtain ⟨pn, hpn⟩ : ∃ p, p = np q := ⟨_, rfl⟩
          have hpb : pn ≤ 64 := by rw [hpn]; exact np_64 hq7
          rw [← hpn] at CX
          have HPN := hid hpn
          clear h1 h2 h3 h4 h5 h6 hat hb0 hq hpn
          have hnew : Hid (pgs (L.take (i + 1)) = p + pn ∧ lng (L.take (i + 1)) = (g || decide (6000 < q))) := hid ⟨by rw [pgs_take H1.out, ← HP.out, HPN.out, HQ.out], by rw [lng_take H1.out, ← HGG.out, HQ.out]⟩
          cases g with
          | true =>
            go_wp2_with (go_at_call 18; refine (CX.out _).mono ?_; rintro e wq ⟨rfl, hwq⟩; subst hwq)
            go_round
            case measure => simp [intOf]; omega
            case rel => exact ⟨i + 1, by omega, by go_num, by rw [hnew.out.1]; go_num, by rw [hnew.out.2]; rfl, by rw [hnew.out.1]; omega⟩
          | false =>
            by_cases hbig : 6000 < q
            · have b1 : (6000 : Int) < (q : Int) := by omega
              go_wp2_with (go_at_call 18; refine (CX.out _).mono ?_; rintro e wq ⟨rfl, hwq⟩; subst hwq)
              go_round
              case measure => simp [intOf]; omega
              case rel => exact ⟨i + 1, by omega, by go_num, by rw [hnew.out.1]; go_num, by rw [hnew.out.2, decide_eq_true hbig]; rfl, by rw [hnew.out.1]; omega⟩
            · have b1 : ¬ (6000 : Int) < (q : Int) := by omega
              go_wp2_with (go_at_call 18; refine (CX.out _).mono ?_; rintro e wq ⟨rfl, hwq⟩; subst hwq)
              go_round
              case measure => simp [intOf]; omega
              case rel => exact ⟨i + 1, by omega, by go_num, by rw [hnew.out.1]; go_num, by rw [hnew.out.2, decide_eq_false hbig]; simp [b1], by rw [hnew.out.1]; omega⟩
        · obtain rfl : i = m := by omega
          have htk : L.take i = L := List.take_of_length_le (by rw [← HML.out]; exact Nat.le_refl _)
          have hp := HP.out; have hgg := HGG.out
          rw [htk] at hp hgg
          obtain ⟨v1, v2, v3, v4, v5, v6⟩ := vq_small VQK.out (by omega)
          have HV := hid (show (0 ≤ l.g ∧ l.g < 4294967296) from v4)
          have hvr := VQK.out.rep (rs := L) (by omega)
          have HBX := hid HIB.out.bsx
          have kb9 : (k : Int) ≤ 9 := by omega
          have eb : IntKind.u8.wrap (k : Int) = (k : Int) := by show (k : Int) % 256 = k; omega
          have BK : Hid (Bs [(k : Int)]) := hid (fun y hy => by simp at hy; omega)
          have VQM := hid VQK.out.more
          cases g with
          | true =>
            have CR := hid (RM.out.long HN0.out.symm S4.out VQK.out.bs VQK.out.vu (by decide) v2 v3 v1 B i c1 L HIB.out (by omega) (lng_yes hgg.symm))
            clear hvr hp hgg v1 v2 v3 v4 v5 v6 htk
            go_upto_region 20 with (first | (go_at_call 14; refine CR.out.mono ?_; rintro e wq ⟨rfl, hwq⟩; subst hwq))
            obtain ⟨v1, v2, v3, v4, v5, v6'⟩ := vq_small VQM.out (by omega)
            obtain ⟨ra, sa, la, hya⟩ : ∃ ra sa la, s.ap (off 14 a) 14 l [(k : Int)] = (ra, sa, la) := ⟨_, _, _, rfl⟩
            have happ := VQM.out.app (by omega) BK.out (by simp)
            rw [hya] at happ
            simp only at happ
            have CA : Hid (ra ≠ 6 → Calls Try.prog 11 #[.pointer (some ⟨vb, 0, none⟩), .slice (some ⟨wr.heap.size, 0, none⟩) 1 1] (wr.alloc (.cells #[.int .u8 (k : Int)] 5)) fun e w' => e = .returned (.int .i64 ra) ∧ RpM 14 n0 b vb w sa a lam la lb w' ∧ Kv (wr.alloc (.cells #[.int .u8 (k : Int)] 5)) w' ∧ Below n0 (wr.alloc (.cells #[.int .u8 (k : Int)] 5)) w') := hid fun h6 =>
              have hb : Below wr.heap.size wr (wr.alloc (.cells #[.int .u8 (k : Int)] 5)) := (Below.refl _ _).alloc (Nat.le_refl _) _
              (RM.out.below hb S4.out).app (Nat.le_trans S4.out hb.size) (by decide) v6' v5 v4 (by omega) _ 1 1 [(k : Int)] rfl one_bytes (fun h => absurd h (by decide)) (by decide) (by decide) ra sa la hya h6
            have HB1 : Hid (Below wr.heap.size wr (wr.alloc (.cells #[.int .u8 (k : Int)] 5))) := hid ((Below.refl _ _).alloc (Nat.le_refl _) _)
            rcases happ with ⟨hr, hvq⟩ | ⟨hr, hvq⟩
            · subst hr
              have HVN := hid hvq
              have CA5 := hid (CA.out (by decide))
              clear CA hya v1 v2 v3 v4 v5 v6' hvq
              go_wp2_with (first
                | (go_at_call 11; refine CA5.out.mono ?_; rintro e w7 ⟨rfl, h2, h3, h4⟩; have RB := hid h2; have SB : Hid (n0 ≤ w7.heap.size) := hid (by have := h2.be.size; rw [← HN0.out] at this; exact this); have AB := hid (AL.out.keepv ((Kv.below HB1.out).trans h3) ((HB1.out.mono S4.out).trans h4)); have KB := hid h3; have BB := hid h4; clear h2 h3 h4))
              go_roundw
              case measure => simp [intOf]; omega
              case rel => exact ⟨k + 1, _, _, all, sa, _, a, lam, la, by omega, by go_num, (show Hid (VQ (2 * (k + 1)) _ _ _ _ _ _ _) from HVN), RB, AB⟩
            · subst hr
              have HVN := hid hvq
              have HAL := hid VQM.out.al.1
              have CA5 := hid (CA.out (by decide))
              clear CA hya v1 v2 v3 v4 v5 v6' hvq
              go_wp2_with (first
                | (go_at_call 11; refine CA5.out.mono ?_; rintro e w7 ⟨rfl, h2, h3, h4⟩; have RB := hid h2; have SB : Hid (n0 ≤ w7.heap.size) := hid (by have := h2.be.size; rw [← HN0.out] at this; exact this); have AB := hid (AL.out.keepv ((Kv.below HB1.out).trans h3) ((HB1.out.mono S4.out).trans h4)); have KB := hid h3; have BB := hid h4; obtain ⟨A7, c7, hv7⟩ := AB.out.len; subst hv7; clear h2 h3 h4)
                | (at_builtin; refine copy_q rfl (.tmp 113) (.tmp 114) rfl n0 all A7 all.length c7 rfl rfl rfl AB.out.raq (by have := HAL.out; omega) SB.out ?_; intro v8 w8 hm8 hk8 hb8; have A8 := hid hm8; have R8 := hid (RB.out.kb hk8 hb8); have S8 := hid (Nat.le_trans SB.out hk8.1); have hbb : Below w8.heap.size w8 (w8.alloc (.cells #[.int .u8 (k : Int)] 5)) := ((Below.refl _ _).alloc (Nat.le_refl _) _); have A9 := hid (A8.out.below hbb S8.out); have R9 := hid (R8.out.below hbb S8.out); have S9 := hid (Nat.le_trans S8.out hbb.size); clear hm8 hk8 hb8 hbb)
                | (at_builtin; refine append_m2 rfl (.tmp 115) (.tmp 119) rfl n0 all _ rfl A9.out (some ⟨w8.heap.size, 0, none⟩) 1 1 [(k : Int)] rfl (by have := HAL.out; omega) (one_bytes' (Below.refl _ _) n0) rfl S8.out ?_; intro v10 w10 hm10 hk10 hb10; have A10 := hid hm10; have R10 := hid (R9.out.kb hk10 hb10); clear hm10 hk10 hb10))
              go_roundw
              case measure => simp [intOf]; omega
              case rel => exact ⟨k + 1, _, _, all ++ [[(k : Int)]], sa, _, a, lam, la, by omega, by go_num, (show Hid (VQ (2 * (k + 1)) _ _ _ _ _ _ _) from HVN), R10, A10⟩
          | false =>
            have hx6 := lng_no hgg.symm
            by_cases hful : 14 < p
            · have gp : (14 : Int) < (p : Int) := by omega
              have gp2 : decide ((14 : Int) < (p : Int)) = true := decide_eq_true gp
              have CR := hid (RM.out.full HN0.out.symm S4.out VQK.out.bs VQK.out.vu (by decide) v2 v3 v1 B i c1 L HIB.out (by omega) hx6 (by omega))
              clear hvr hp hgg v1 v2 v3 v4 v5 v6 htk hx6
              go_upto_region 20 with (first | (go_at_call 14; refine CR.out.mono ?_; rintro e wq ⟨rfl, hwq⟩; subst hwq))
              obtain ⟨v1, v2, v3, v4, v5, v6'⟩ := vq_small VQM.out (by omega)
              obtain ⟨ra, sa, la, hya⟩ : ∃ ra sa la, s.ap (off 14 a) 14 l [(k : Int)] = (ra, sa, la) := ⟨_, _, _, rfl⟩
              have happ := VQM.out.app (by omega) BK.out (by simp)
              rw [hya] at happ
              simp only at happ
              have CA : Hid (ra ≠ 6 → Calls Try.prog 11 #[.pointer (some ⟨vb, 0, none⟩), .slice (some ⟨wr.heap.size, 0, none⟩) 1 1] (wr.alloc (.cells #[.int .u8 (k : Int)] 5)) fun e w' => e = .returned (.int .i64 ra) ∧ RpM 14 n0 b vb w sa a lam la lb w' ∧ Kv (wr.alloc (.cells #[.int .u8 (k : Int)] 5)) w' ∧ Below n0 (wr.alloc (.cells #[.int .u8 (k : Int)] 5)) w') := hid fun h6 =>
                have hb : Below wr.heap.size wr (wr.alloc (.cells #[.int .u8 (k : Int)] 5)) := (Below.refl _ _).alloc (Nat.le_refl _) _
                (RM.out.below hb S4.out).app (Nat.le_trans S4.out hb.size) (by decide) v6' v5 v4 (by omega) _ 1 1 [(k : Int)] rfl one_bytes (fun h => absurd h (by decide)) (by decide) (by decide) ra sa la hya h6
              have HB1 : Hid (Below wr.heap.size wr (wr.alloc (.cells #[.int .u8 (k : Int)] 5))) := hid ((Below.refl _ _).alloc (Nat.le_refl _) _)
              rcases happ with ⟨hr, hvq⟩ | ⟨hr, hvq⟩
              · subst hr
                have HVN := hid hvq
                have CA5 := hid (CA.out (by decide))
                clear CA hya v1 v2 v3 v4 v5 v6' hvq
                go_wp2_with (first
                  | (go_at_call 11; refine CA5.out.mono ?_; rintro e w7 ⟨rfl, h2, h3, h4⟩; have RB := hid h2; have SB : Hid (n0 ≤ w7.heap.size) := hid (by have := h2.be.size; rw [← HN0.out] at this; exact this); have AB := hid (AL.out.keepv ((Kv.below HB1.out).trans h3) ((HB1.out.mono S4.out).trans h4)); have KB := hid h3; have BB := hid h4; clear h2 h3 h4))
                go_roundw
                case measure => simp [intOf]; omega
                case rel => exact ⟨k + 1, _, _, all, sa, _, a, lam, la, by omega, by go_num, (show Hid (VQ (2 * (k + 1)) _ _ _ _ _ _ _) from HVN), RB, AB⟩
              · subst hr
                have HVN := hid hvq
                have HAL := hid VQM.out.al.1
                have CA5 := hid (CA.out (by decide))
                clear CA hya v1 v2 v3 v4 v5 v6' hvq
                go_wp2_with (first
                  | (go_at_call 11; refine CA5.out.mono ?_; rintro e w7 ⟨rfl, h2, h3, h4⟩; have RB := hid h2; have SB : Hid (n0 ≤ w7.heap.size) := hid (by have := h2.be.size; rw [← HN0.out] at this; exact this); have AB := hid (AL.out.keepv ((Kv.below HB1.out).trans h3) ((HB1.out.mono S4.out).trans h4)); have KB := hid h3; have BB := hid h4; obtain ⟨A7, c7, hv7⟩ := AB.out.len; subst hv7; clear h2 h3 h4)
                  | (at_builtin; refine copy_q rfl (.tmp 113) (.tmp 114) rfl n0 all A7 all.length c7 rfl rfl rfl AB.out.raq (by have := HAL.out; omega) SB.out ?_; intro v8 w8 hm8 hk8 hb8; have A8 := hid hm8; have R8 := hid (RB.out.kb hk8 hb8); have S8 := hid (Nat.le_trans SB.out hk8.1); have hbb : Below w8.heap.size w8 (w8.alloc (.cells #[.int .u8 (k : Int)] 5)) := ((Below.refl _ _).alloc (Nat.le_refl _) _); have A9 := hid (A8.out.below hbb S8.out); have R9 := hid (R8.out.below hbb S8.out); have S9 := hid (Nat.le_trans S8.out hbb.size); clear hm8 hk8 hb8 hbb)
                  | (at_builtin; refine append_m2 rfl (.tmp 115) (.tmp 119) rfl n0 all _ rfl A9.out (some ⟨w8.heap.size, 0, none⟩) 1 1 [(k : Int)] rfl (by have := HAL.out; omega) (one_bytes' (Below.refl _ _) n0) rfl S8.out ?_; intro v10 w10 hm10 hk10 hb10; have A10 := hid hm10; have R10 := hid (R9.out.kb hk10 hb10); clear hm10 hk10 hb10))
                go_roundw
                case measure => simp [intOf]; omega
                case rel => exact ⟨k + 1, _, _, all ++ [[(k : Int)]], sa, _, a, lam, la, by omega, by go_num, (show Hid (VQ (2 * (k + 1)) _ _ _ _ _ _ _) from HVN), R10, A10⟩
            · have gp : ¬ (14 : Int) < (p : Int) := by omega
              have gp2 : decide ((14 : Int) < (p : Int)) = false := decide_eq_false gp
              obtain ⟨r9, s9, l9, hY⟩ : ∃ r9 s9 l9, s.rp 14 a lam l L = (r9, s9, l9) := ⟨_, _, _, rfl⟩
              have hcr := RM.out.rep HN0.out.symm S4.out VQK.out.bs VQK.out.vu (by decide) v2 v3 v1 B i c1 L HIB.out (by omega) hx6 (by omega) r9 s9 l9 hY
              obtain ⟨hr0, hvq9⟩ := hvr (fun x hx => ⟨HBX.out x hx, hx6 x hx⟩) (by omega) (by rw [← HML.out]; exact hm9)
              have hg9 : l9.g = l.g + 1 := by
                rcases VQK.out.vu.rp (rs := L) (by omega) (by omega) (fun x hx => ⟨HBX.out x hx, hx6 x hx⟩) (by omega) with ⟨_, _, e3⟩ | ⟨e1, _⟩
                · rw [hY] at e3; exact e3
                · rw [hr0] at e1; cases e1
              rw [hY] at hr0 hvq9
              simp only at hr0 hvq9
              subst hr0
              have CR : Hid (Calls Try.prog 14 #[.pointer (some ⟨vb, 0, none⟩), .slice B i c1] wr fun e w' => e = .returned (.int .i64 0) ∧ ∃ lb', RpM 14 n0 b vb w s9 (1 - a) (l.g + 1) l9 lb' w') := hid (hcr.mono fun e w' ⟨q1, _, _, _, _, q6⟩ => ⟨q1, q6 rfl hg9⟩)
              have HV9 := hid hvq9
              have HIR := hid (fun y (hy : Below n0 w y) => HIB.out.raq (n0 := n0) HN0.out.symm hy)
              clear hcr hvr hp hgg v1 v2 v3 v4 v5 v6 htk hx6 hY hg9 hvq9
              go_upto_region 20 with (first | (go_at_call 14; refine CR.out.mono ?_; rintro e w5 ⟨rfl, lb5, hm5⟩; have R5 := hid hm5; have S5 : Hid (n0 ≤ w5.heap.size) := hid (by have := hm5.be.size; rw [← HN0.out] at this; exact this); have z25 : (w5.alloc (.cells #[] 23)).cell? ⟨ga, off' + k * 4 + 2, none⟩ = some (.slice B i c1) := (((hm5.be.trans (((Below.refl _ _).alloc (Nat.le_refl _) _).mono S5.out)).cell (by rw [HN0.out]; exact HG.out)).trans (((RM.out.be.cell (by rw [HN0.out]; exact HG.out)).symm.trans z2))); clear hm5) | (at_builtin; refine copy_q rfl (.tmp 100) (.tmp 105) rfl n0 L B i c1 rfl rfl HML.out (HIR.out _ R5.out.be) (by rw [← HML.out]; omega) S5.out ?_; intro v6 w6 hm6 hk6 hb6; have AM := hid hm6; have R6 := hid (R5.out.kb hk6 hb6); have S6 := hid (Nat.le_trans S5.out hk6.1); clear hm6 hk6 hb6))
              obtain ⟨v1, v2, v3, v4, v5, v6'⟩ := vq_small HV9.out (by omega)
              obtain ⟨ra, sa, la, hya⟩ : ∃ ra sa la, s9.ap (off 14 (1 - a)) 14 l9 [(k : Int)] = (ra, sa, la) := ⟨_, _, _, rfl⟩
              have happ := HV9.out.app (by omega) BK.out (by simp)
              rw [hya] at happ
              simp only at happ
              have CA : Hid (ra ≠ 6 → Calls Try.prog 11 #[.pointer (some ⟨vb, 0, none⟩), .slice (some ⟨w6.heap.size, 0, none⟩) 1 1] (w6.alloc (.cells #[.int .u8 (k : Int)] 5)) fun e w' => e = .returned (.int .i64 ra) ∧ RpM 14 n0 b vb w sa (1 - a) (l.g + 1) la lb5 w' ∧ Kv (w6.alloc (.cells #[.int .u8 (k : Int)] 5)) w' ∧ Below n0 (w6.alloc (.cells #[.int .u8 (k : Int)] 5)) w') := hid fun h6 =>
                have hb : Below w6.heap.size w6 (w6.alloc (.cells #[.int .u8 (k : Int)] 5)) := (Below.refl _ _).alloc (Nat.le_refl _) _
                (R6.out.below hb S6.out).app (Nat.le_trans S6.out hb.size) (by decide) v6' v5 v4 (by omega) _ 1 1 [(k : Int)] rfl one_bytes (fun h => absurd h (by decide)) (by decide) (by decide) ra sa la hya h6
              have HB1 : Hid (Below w6.heap.size w6 (w6.alloc (.cells #[.int .u8 (k : Int)] 5))) := hid ((Below.refl _ _).alloc (Nat.le_refl _) _)
              rcases happ with ⟨hr, hvq⟩ | ⟨hr, hvq⟩
              · subst hr
                have HVN := hid hvq
                have CA5 := hid (CA.out (by decide))
                clear CA hya v1 v2 v3 v4 v5 v6' hvq
                go_wp2_with (first
                  | (go_at_call 11; refine CA5.out.mono ?_; rintro e w7 ⟨rfl, h2, h3, h4⟩; have RB := hid h2; have SB : Hid (n0 ≤ w7.heap.size) := hid (by have := h2.be.size; rw [← HN0.out] at this; exact this); have AB := hid (AM.out.keepv ((Kv.below HB1.out).trans h3) ((HB1.out.mono S6.out).trans h4)); have KB := hid h3; have BB := hid h4; clear h2 h3 h4))
                go_roundw
                case measure => simp [intOf]; omega
                case rel => exact ⟨k + 1, _, _, L, sa, _, (1 - a), (l.g + 1), la, by omega, by go_num, (show Hid (VQ (2 * (k + 1)) _ _ _ _ _ _ _) from HVN), RB, AB⟩
              · subst hr
                have HVN := hid hvq
                have HAL := hid HV9.out.al.1
                have CA5 := hid (CA.out (by decide))
                clear CA hya v1 v2 v3 v4 v5 v6' hvq
                go_wp2_with (first
                  | (go_at_call 11; refine CA5.out.mono ?_; rintro e w7 ⟨rfl, h2, h3, h4⟩; have RB := hid h2; have SB : Hid (n0 ≤ w7.heap.size) := hid (by have := h2.be.size; rw [← HN0.out] at this; exact this); have AB := hid (AM.out.keepv ((Kv.below HB1.out).trans h3) ((HB1.out.mono S6.out).trans h4)); have KB := hid h3; have BB := hid h4; obtain ⟨A7, c7, hv7⟩ := AB.out.len; subst hv7; clear h2 h3 h4)
                  | (at_builtin; refine copy_q rfl (.tmp 113) (.tmp 114) rfl n0 L A7 L.length c7 rfl rfl rfl AB.out.raq (by have := HAL.out; omega) SB.out ?_; intro v8 w8 hm8 hk8 hb8; have A8 := hid hm8; have R8 := hid (RB.out.kb hk8 hb8); have S8 := hid (Nat.le_trans SB.out hk8.1); have hbb : Below w8.heap.size w8 (w8.alloc (.cells #[.int .u8 (k : Int)] 5)) := ((Below.refl _ _).alloc (Nat.le_refl _) _); have A9 := hid (A8.out.below hbb S8.out); have R9 := hid (R8.out.below hbb S8.out); have S9 := hid (Nat.le_trans S8.out hbb.size); clear hm8 hk8 hb8 hbb)
                  | (at_builtin; refine append_m2 rfl (.tmp 115) (.tmp 119) rfl n0 L _ rfl A9.out (some ⟨w8.heap.size, 0, none⟩) 1 1 [(k : Int)] rfl (by have := HAL.out; omega) (one_bytes' (Below.refl _ _) n0) rfl S8.out ?_; intro v10 w10 hm10 hk10 hb10; have A10 := hid hm10; have R10 := hid (R9.out.kb hk10 hb10); clear hm10 hk10 hb10))
                go_roundw
                case measure => simp [intOf]; omega
                case rel => exact ⟨k + 1, _, _, L ++ [[(k : Int)]], sa, _, (1 - a), (l.g + 1), la, by omega, by go_num, (show Hid (VQ (2 * (k + 1)) _ _ _ _ _ _ _) from HVN), R10, A10⟩
    · obtain rfl : k = n1 := by omega
      obtain ⟨Av, cv, hv⟩ := AL.out.len
      subst hv
      obtain ⟨v1, v2, v3, v4, v5, v6⟩ := vq_small VQK.out (by omega)
      obtain ⟨rf, sf, lf, hyf⟩ : ∃ rf sf lf, s.lf l = (rf, sf, lf) := ⟨_, _, _, rfl⟩
      have hfl := VQK.out.flu
      rw [hyf] at hfl
      simp only at hfl
      obtain ⟨rfl, hvf⟩ := hfl
      have CFL := hid (RM.out.flu S4.out 0 sf lf hyf (by decide))
      have hqf := hvf.ql
      obtain ⟨u1, u2, u3⟩ := hvf.rst []
      have hg9 : lf.g + 1 < 4294967295 := by have := hvf.gb; omega
      have hn9 : n + 1 < 18446744073709551616 := by omega
      have hro := vr_on u1 hn9 u3
      have CX : Hid (∀ y, Dy n0 y b sf → n0 ≤ y.heap.size → Calls Try.prog 15 #[.pointer (some ⟨b, 0, none⟩), .slice none 0 0] y fun e w' => e = .returned (.tuple #[]) ∧ Lf n0 b (sf.rs []) y w') := hid fun y hd hy => dx_any hd hy none 0 [] (fun h => by simp at h) (fun h => by simp at h) (by simp) (by omega)
      have CO : Hid (∀ y, Dy n0 y b (sf.rs []) → n0 ≤ y.heap.size → Calls Try.prog 9 #[.pointer (some ⟨b, 0, none⟩)] y fun e w' => ∃ vb2 A c, e = .returned (.tuple #[.pointer (some ⟨vb2, 0, none⟩), .slice A all.length c, .int .i64 0]) ∧ RAl w' A all ∧ Ks y w' ∧ Below n0 y w') := hid fun y hd hy => by
        have := vtOpen_any hd hy u2 u1 (by decide) (by decide) (by decide) hn9 hg9
        unfold OpV at this
        refine this.mono ?_
        rintro e w' (⟨_, vb2, lb2, V, q1, q2, q3, q4, q5, q6, q7, q8, q9⟩ | ⟨q, _⟩)
        · obtain ⟨A, c, hV, hr⟩ := q6.ral
          rw [hV] at q1
          exact ⟨vb2, A, c, q1, hr, q8, q9⟩
        · exact (q hro).elim
      have H6 := hid VQK.out.al
      obtain ⟨la, hla⟩ : ∃ la, la = all.length := ⟨_, rfl⟩
      have CS : Hid (∀ y A c, RAl y A all → RAl y Av all → Calls Try.prog 17 #[.slice A la c, .slice Av la cv] y fun e w' => e = .returned (.bool true) ∧ ∃ q, w' = y.drewN q) := hid fun y A c h1 h2 => RSame_yes A Av la la c cv all all y hla hla (by have := H6.out.1; omega) h1 h2 (fun f hf => by have := H6.out.2 f hf; omega) (by rw [List.take_length])
      have BWN : Hid (∀ w', Below n0 w w' → Below w.heap.size w w') := hid fun w' h => by rw [← HN0.out]; exact h
      rw [← hla] at CO ⊢
      clear u1 u2 u3 hg9 hn9 hro hvf hyf v1 v2 v3 v4 v5 v6 hqf hla
      go_wp2_with (first
        | (go_at_call 12; refine CFL.out.mono ?_; rintro e w5 ⟨rfl, h2, h3, h4⟩; have R5 := hid h2; have A5 := hid (AL.out.keepv h3 h4); have S5 := hid (Nat.le_trans S4.out h3.sz); have CX5 := hid (CX.out w5 h2.dy (Nat.le_trans S4.out h3.sz)); clear h2 h3 h4)
        | (go_at_call 15; refine CX5.out.mono ?_; rintro e w6 ⟨rfl, hlf⟩; have A6 := hid (A5.out.keepv (Kv.of (Kx.of hlf.2.1)) hlf.2.2); have B6 := hid (R5.out.be.trans hlf.2.2); have S6 := hid (Nat.le_trans S5.out hlf.2.1.sz); have CO6 := hid (CO.out w6 hlf.1 (Nat.le_trans S5.out hlf.2.1.sz)); clear hlf)
        | (go_at_call 9; refine CO6.out.mono ?_; rintro e w7 ⟨vb2, A7, c7, rfl, hr7, h3, h4⟩; have A7' := hid (A6.out.keepv h3.kv h4); have B7 := hid (B6.out.trans h4); have S7 := hid (Nat.le_trans S6.out h3.sz); have CS7 := hid (CS.out w7 A7 c7 hr7 A7'.out.ral_at); clear hr7 h3 h4)
        | (go_at_call 17; refine CS7.out.mono ?_; rintro e w8 ⟨rfl, q8, rfl⟩))
      go_ret
      exact ⟨rfl, B7.out.trans ((below_dn q8).mono S7.out)⟩
theorem vrep_walk (A1 : Option Addr) (n1 d1 : Nat) (ol : List Ov) (w : World) (hin : InOps w A1 n1 ol) : Calls Try.prog 4 #[.slice A1 n1 d1] w fun e w' => e = .returned (.bool true) ∧ Below w.heap.size w w' := by
  have CF := fun w' (hb : Below w.heap.size w w') => vtFew_any A1 n1 d1 10 ol w' (hin.belowv hb) (by decide)
  by_cases h : ol.length ≤ 10 ∧ SmallV ol ol.length
  · exact vrep_10 A1 n1 d1 ol w hin (by rw [← hin.1]; exact h.1) h.2 (hid fun w' hb => vtFew_yes (hin.belowv hb) (by decide) (by rw [← hin.1]; exact h.1) h.2 (CF w' hb))
  · have CF2 := hid (fun w' hb => vtFew_no h (CF w' hb))
    have CW := hid (fun w => vtawake_any w)
    clear CF h hin
    go_enter Try.func4, Try.ntmps4
    go_wp2_with (first
      | (go_at_call 6; (with_reducible refine (CW.out w).mono ?_); rintro e w1 ⟨rfl, hb1⟩; have B1 := hid hb1; clear hb1)
      | (go_at_call 7; refine (CF2.out _ B1.out).mono ?_; rintro e w2 ⟨rfl, rfl⟩)
      | (go_at_call 6; refine (CW.out _).mono ?_; rintro e w3 ⟨rfl, hb3⟩; have B3 := hid (B1.out.trans (hb3.mono B1.out.size)); clear hb3))
    go_ret
    exact ⟨rfl, B3.out⟩
end Go.Proofs.Ythfkooancgkjaaa
