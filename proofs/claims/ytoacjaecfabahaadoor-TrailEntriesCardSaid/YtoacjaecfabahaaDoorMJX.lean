/-
  What is proved here: lists of texts; whether some texts of two lists clash.
-/
import Derived.Test.YtoacjaecfabahaaDoorMF5
import Derived.Test.YtoacjaecfabahaaDoorMSameR
import Derived.Test.YtoacjaecfabahaaDoorMF3
import Derived.BigQuiet
import Derived.Deep.QuietTactic
import Derived.Deep.DeepCutAuto
set_option linter.unusedSimpArgs false
set_option linter.unusedVariables false
namespace Go.Proofs.YtoacjaecfabahaaDoor
open Go.ChangeShapes Go.WideShapes Go.ChangeAt Go.RowKit
set_option linter.unusedVariables false
set_option linter.unusedSimpArgs false
set_option maxRecDepth 20000

theorem csame_any {A B : Option Addr} {c d : Nat} {X Y : List Int} (w : World) (hx : Rp w none A X) (hy : Rp w none B Y) (hl : X.length < 1000000000) (hl2 : Y.length < 1000000000) :
    Calls Tryd.prog 56 #[.slice A X.length c, .slice B Y.length d] w fun e w' => e = .returned (.bool (decide (X = Y))) ∧ Below w.heap.size w w' :=
  (Same_quiet A B c d X Y w hx hy (by omega) (by omega)).mono fun e w' ⟨he, q, hw⟩ => ⟨he, by rw [hw]; exact ⟨rfl, rfl, rfl, Nat.le_refl _, fun _ _ => rfl⟩⟩
theorem ccell_bel {w w' : World} {p : Addr} {v : Value} (hb : Below w.heap.size w w') (h : w.cell? p = some v) : w'.cell? p = some v := (hb.cell (block_lt_of_cell h)).trans h
/-- bytes in a block of bytes -/
def BytV (w : World) (B : Option Addr) (xs : List Int) : Prop := Rp w none B xs ∧ (0 < xs.length → ∀ a, B = some a → ∃ cs, Blk w a.block 5 cs)
def TxV (n0 : Nat) (w : World) (M : List (List Int)) (v : Value) : Prop :=
  ∃ A c rows, v = .slice A M.length c ∧ w.ownsRow n0 89 1 v M.length rows ∧ ∀ j, j < M.length → ∃ B d, rows[j]? = some (.slice B (M[j]?.getD []).length d) ∧ (M[j]?.getD []).length ≤ d ∧ BytV w B (M[j]?.getD [])
theorem BytV.same {w w' : World} {B : Option Addr} {xs : List Int} (h : BytV w B xs) (hk : ∀ g cs, Blk w g 5 cs → w'.heap[g]? = w.heap[g]?) : BytV w' B xs := by
  refine ⟨fun hx => ?_, fun hx a ha => ?_⟩
  · obtain ⟨ad, e, h1, hc⟩ := h.1 hx
    obtain ⟨cs, h5⟩ := h.2 hx ad e
    exact ⟨ad, e, h1, fun k hkk => (World.cell?_of_block (w := w) (by rw [add_block]; exact hk _ _ h5)).trans (hc k hkk)⟩
  · obtain ⟨cs, h5⟩ := h.2 hx a ha
    exact ⟨cs, h5.same (hk _ _ h5)⟩
theorem BytV.below {w w' : World} {B : Option Addr} {xs : List Int} (h : BytV w B xs) (hb : Below w.heap.size w w') : BytV w' B xs := h.same fun g cs hg => hb.block g hg.lt
theorem Fresh.bytV {w w' : World} {B : Option Addr} {xs : List Int} (h : Fresh w w' B xs) : BytV w' B xs := ⟨h.rp0, fun hx a ha => by
  obtain ⟨g, cur, e, hg, hb, hc⟩ := h hx
  rw [e] at ha
  injection ha with ha
  subst ha
  exact ⟨cur, hb⟩⟩
theorem TxV.nil (n0 : Nat) (w : World) : TxV n0 w [] (.slice none 0 0) := ⟨none, 0, [], rfl, ⟨rfl, .inl ⟨rfl, rfl⟩⟩, fun j hj => by simp at hj⟩
theorem TxV.below {n0 : Nat} {w w' : World} {M : List (List Int)} {v : Value} (h : TxV n0 w M v) (hb : Below w.heap.size w w') : TxV n0 w' M v := by
  obtain ⟨A, c, rows, h1, h2, h3⟩ := h
  exact ⟨A, c, rows, h1, own_below h2 hb, fun j hj => by
    obtain ⟨B, d, h4, h5, h6⟩ := h3 j hj
    exact ⟨B, d, h4, h5, h6.below hb⟩⟩
theorem TxV.len {n0 : Nat} {w : World} {M : List (List Int)} {v : Value} (h : TxV n0 w M v) : ∃ A c, v = .slice A M.length c := by
  obtain ⟨A', c', rows, hv, _⟩ := h
  exact ⟨A', c', hv⟩
/-- one of them -/
theorem TxV.at {n0 : Nat} {w : World} {M : List (List Int)} {A : Option Addr} {c lm : Nat} (h : TxV n0 w M (.slice A lm c)) {j : Nat} (hj : j < M.length) : lm = M.length ∧ ∃ g B d, A = some ⟨g, 0, none⟩ ∧ g < w.heap.size ∧ w.cell? ⟨g, j, none⟩ = some (.slice B (M[j]?.getD []).length d) ∧ (M[j]?.getD []).length ≤ d ∧ BytV w B (M[j]?.getD []) := by
  obtain ⟨A', c', rows, hv, hown, hr⟩ := h
  injection hv with e1 e2 e3
  subst e1; subst e2; subst e3
  obtain ⟨B, d, h4, h5, h6⟩ := hr j hj
  refine ⟨rfl, ?_⟩
  rcases hown.2 with ⟨_, h0⟩ | ⟨g, cap, cur, hv, hb, hh, hnc, _, hcs, htk⟩
  · omega
  · injection hv with hA
    refine ⟨g, B, d, hA, (hown.lt g (by rw [hA]; rfl)).2, ?_, h5, h6⟩
    have h2 := hown.cells (g := g) (by rw [hA]; rfl) _ _ h4
    rw [Addr.add_lit, Nat.zero_add] at h2
    exact h2
theorem TxV.in {n0 : Nat} {w : World} {M : List (List Int)} {A : Option Addr} {c lm : Nat} (h : TxV n0 w M (.slice A lm c)) (hb : ∀ x ∈ M, Bs x) (hs : ∀ x ∈ M, x.length < 20000) (hm : M.length ≤ 1000) : InR w A lm M := by
  have hl : lm = M.length := by obtain ⟨A', c', e⟩ := h.len; injection e
  subst hl
  refine ⟨rfl, by omega, fun hn => ?_⟩
  obtain ⟨_, g, _, _, hA, hg, _⟩ := h.at (j := 0) hn
  refine ⟨g, 0, hA, hg, fun i hi => ?_⟩
  obtain ⟨_, g2, B, d, hA2, _, hc, hd, hB⟩ := h.at hi
  rw [hA] at hA2
  injection hA2 with hA2
  injection hA2 with hA2
  subst hA2
  have hmem : M[i]?.getD [] ∈ M := by rw [List.getElem?_eq_getElem hi]; exact List.getElem_mem hi
  refine ⟨B, d, M[i]?.getD [], ?_, by rw [Nat.zero_add]; exact hc, hb _ hmem, hB.1, hd, by have := hs _ hmem; omega⟩
  rw [List.getElem?_eq_getElem hi]; rfl
theorem info_txV : (Tryd.prog.info? 89).map (fun i => (i.zero, i.size, i.bytes)) = some (some (.slice none 0 0), 1, 24) := by kernel_rfl
/-- a text more -/
theorem wp_append_txV {x : World} {o : Oper} {a : Act} {K : Act → World → Prop} {Q : Exit → Act → World → Prop} (s y : Operand)
    (ho : o.op = .call { callee := .builtin .append, args := #[s, y], argTypes := #[66, 66] }) (n0 : Nat) (M : List (List Int)) (v : Value) (hs : a.eval s = v) (hM : TxV n0 x M v) (g5 : Nat) (B : Option Addr) (d m : Nat) (xs : List Int) (hm : m = xs.length) (hx : a.eval y = .slice (some ⟨g5, 0, none⟩) 1 1)
    (hO : Blk x g5 89 #[.slice B m d]) (hd : xs.length ≤ d) (hB : BytV x B xs) (hlen : M.length ≤ 1000) (hn : n0 ≤ x.heap.size)
    (h : ∀ v' w', TxV n0 w' (M ++ [xs]) v' → x.grownBy w' v.ownBlock → K (a.put o.dst v') w') : o.wp Tryd.prog a x K Q := by
  subst hm
  obtain ⟨i0, hi, hz0, hz1, hz2⟩ := info_parts info_txV
  obtain ⟨A, cc, rows, hv, hown, hj⟩ := hM
  refine wp_append_own x s y 66 ho n0 89 i0 (.slice none 0 0) 1 24 Tryd.underlying66 hi hz0 hz1 hz2 rfl (by decide) v M.length rows hs hown ⟨g5, 0, none⟩ 1 1 [.slice B xs.length d] hx rfl ?_ (fun u hu => by rw [List.mem_singleton.1 hu]; rfl) (by unfold maxLen; omega) (by omega) hn ?_
  · intro j u hu
    match j, hu with
    | 0, hu => rw [Addr.add_lit, hO.cell]; exact hu
    | j + 1, hu => simp at hu
  · intro v9 w9 ow9 gr9 _
    have hl : rows.length = M.length := by have := hown.1; omega
    obtain ⟨A9, c9, hv9⟩ : ∃ A' c', v9 = .slice A' (M.length + 1) c' := by
      rcases ow9.2 with ⟨_, h0⟩ | ⟨g, cap, cur, hv, _⟩
      · omega
      · exact ⟨_, _, hv⟩
    have ku : ∀ g cs, Blk x g 5 cs → w9.heap[g]? = x.heap[g]? := fun g cs hg => gr9.block g hg.lt (fun e => by
      rcases hown.2 with ⟨h1, h0⟩ | ⟨g', cap, cur, hv', hb, hh, _⟩
      · rw [h1] at e; cases e
      · rw [hv'] at e; injection e with e; subst e
        exact hg.ne (show Blk x g 89 cur from hh) (by decide) rfl)
    refine h v9 w9 ⟨A9, c9, rows ++ [.slice B xs.length d], by rw [hv9]; simp, by rw [List.length_append]; exact ow9, fun j hjj => ?_⟩ gr9
    rw [List.length_append, List.length_singleton] at hjj
    by_cases hlt : j < M.length
    · obtain ⟨B', d', h4, h5, h6⟩ := hj j hlt
      rw [List.getElem?_append_left hlt]
      exact ⟨B', d', by rw [List.getElem?_append_left (by omega)]; exact h4, h5, h6.same ku⟩
    · obtain rfl : j = M.length := by omega
      rw [List.getElem?_append_right (Nat.le_refl _), Nat.sub_self]
      exact ⟨B, d, by rw [List.getElem?_append_right (by omega), hl, Nat.sub_self]; rfl, hd, hB.same ku⟩
theorem TxV.ty {n0 : Nat} {w : World} {v : Value} {M : List (List Int)} (h : TxV n0 w M v) : ∀ k, v.ownBlock = some k → n0 ≤ k ∧ ∃ C, Blk w k 89 C := fun k hk => by
  obtain ⟨A, c, rows, hv, hown, _⟩ := h
  rcases hown.2 with ⟨h1, h0⟩ | ⟨g, cap, cur, hv, hb, hh, _⟩
  · rw [h1] at hk; cases hk
  · rw [hv] at hk; injection hk with hk; subst hk; exact ⟨hb, cur, hh⟩
def clashV (A B : List (List Int)) : Bool := A.any fun x => B.any fun y => !decide (x = y) && decide (sum x = sum y)
theorem InR.atV {w : World} {A : Option Addr} {n : Nat} {L : List (List Int)} (h : InR w A n L) {k : Nat} (hk : k < n) : ∃ b o B c xs, A = some ⟨b, o, none⟩ ∧ L[k]? = some xs ∧ w.cell? ⟨b, o + k, none⟩ = some (.slice B xs.length c) ∧ Bs xs ∧ Rp w none B xs := by
  obtain ⟨_, _, h3⟩ := h
  obtain ⟨b, o, e, _, hat⟩ := h3 (by omega)
  obtain ⟨B, c, xs, h5, h6, h7, h8, _⟩ := hat k hk
  exact ⟨b, o, B, c, xs, e, h5, h6, h7, h8⟩
/-- do two texts clash? -/
def clash1V (x y : List Int) : Bool := !decide (x = y) && decide (sum x = sum y)
theorem clashV_none {A B : List (List Int)} (h : ∀ i, i < A.length → ∀ k, k < B.length → clash1V (A[i]?.getD []) (B[k]?.getD []) = false) : clashV A B = false := by
  cases hc : clashV A B with
  | false => rfl
  | true =>
    unfold clashV at hc
    rw [List.any_eq_true] at hc
    obtain ⟨x, hx, hc⟩ := hc
    rw [List.any_eq_true] at hc
    obtain ⟨y, hy, hc⟩ := hc
    obtain ⟨i, hi, rfl⟩ := List.getElem_of_mem hx
    obtain ⟨k, hk, rfl⟩ := List.getElem_of_mem hy
    have := h i hi k hk
    rw [List.getElem?_eq_getElem hi, List.getElem?_eq_getElem hk] at this
    have e : clash1V A[i] B[k] = true := hc
    rw [show clash1V ((some A[i]).getD []) ((some B[k]).getD []) = clash1V A[i] B[k] from rfl, e] at this
    cases this
theorem clashV_some {A B : List (List Int)} {i k : Nat} {x y : List Int} (hx : A[i]? = some x) (hy : B[k]? = some y) (h : clash1V x y = true) : clashV A B = true := by
  unfold clashV
  rw [List.any_eq_true]
  refine ⟨x, List.mem_of_getElem? hx, ?_⟩
  rw [List.any_eq_true]
  exact ⟨y, List.mem_of_getElem? hy, h⟩
set_option maxHeartbeats 8000000 in
theorem cClash_any {A B : Option Addr} {n m c d : Nat} {L M : List (List Int)} (w : World) (hL : InR w A n L) (hM : InR w B m M) (h1 : ∀ x ∈ L, x.length < 20000) (h2 : ∀ x ∈ M, x.length < 20000) :
    Calls Tryd.prog 37 #[.slice A n c, .slice B m d] w fun e w' => e = .returned (.bool (clashV L M)) ∧ Below w.heap.size w w' := by
  have HL := hid hL; have HM := hid hM; have H1 := hid h1; have H2 := hid h2
  have hn := hL.2.1; have hm := hM.2.1
  clear hL hM h1 h2
  go_enter Tryd.func37, Tryd.ntmps37
  go_wp2
  go_loopw [5] (fun i wr => ∃ k : Nat, k ≤ n ∧ i = .int .i64 (k : Nat) ∧ Hid (∀ i, i < k → ∀ j, j < m → clash1V (L[i]?.getD []) (M[j]?.getD []) = false) ∧ Hid (Below w.heap.size w wr)) (fun i _ => n - (intOf i).toNat)
  case atStart => exact ⟨0, Nat.zero_le _, rfl, (fun i hi => by omega), Below.refl _ _⟩
  case round =>
    obtain ⟨k, hk, rfl, HNO, BL⟩ := hrel
    by_cases hkn : k < n
    · have hlt : ((k : Int) < (n : Int)) := by omega
      go_wp2
      clear hlt
      go_loopw [6] (fun i wr => ∃ j : Nat, j ≤ m ∧ i = .int .i64 (j : Nat) ∧ Hid (∀ t, t < j → clash1V (L[k]?.getD []) (M[t]?.getD []) = false) ∧ Hid (Below w.heap.size w wr)) (fun i _ => m - (intOf i).toNat)
      case atStart => exact ⟨0, Nat.zero_le _, rfl, (fun i hi => by omega), BL⟩
      case round =>
        obtain ⟨j, hj, rfl, HNJ, BJ⟩ := hrel
        by_cases hjm : j < m
        · have hlt : ((j : Int) < (m : Int)) := by omega
          have hlk : ((k : Int) < (n : Int)) := by omega
          have i1 := HL.out.below BJ.out
          have i2 := HM.out.below BJ.out
          obtain ⟨b1, o1, B1, d1, x, rfl, hx, hc1, hb1, hr1⟩ := i1.atV hkn
          obtain ⟨b2, o2, B2, d2, y, rfl, hy, hc2, hb2, hr2⟩ := i2.atV hjm
          have hlx := H1.out x (List.mem_of_getElem? hx)
          have hly := H2.out y (List.mem_of_getElem? hy)

          have cl1 := fun p : PW (Kp wr) => ccell_bel p.h hc1
          have cl2 := fun p : PW (Kp wr) => ccell_bel p.h hc2
          have CE := hid (fun (w1 : World) (hb : Below wr.heap.size wr w1) => csame_any (c := d1) (d := d2) w1 (hr1.belowN hb) (hr2.belowN hb) (by omega) (by omega))
          have C1 := hid (fun (w1 : World) (hb : Below wr.heap.size wr w1) => show Calls Tryd.prog 47 #[.slice B1 x.length d1] w1 (fun e w' => e = .returned (.agg (u8s (sum x)).toArray) ∧ Below w1.heap.size w1 w') from RSum_any B1 d1 x w1 (hr1.belowN hb) hb1 (by omega))
          have C2 := hid (fun (w1 : World) (hb : Below wr.heap.size wr w1) => show Calls Tryd.prog 47 #[.slice B2 y.length d2] w1 (fun e w' => e = .returned (.agg (u8s (sum y)).toArray) ∧ Below w1.heap.size w1 w') from RSum_any B2 d2 y w1 (hr2.belowN hb) hb2 (by omega))
          have heq := fun w => eql_hash (sum x) (sum y) (sum_bs x) (sum_bs y) (sum_length x) (sum_length y) w
          have HX := hid hx; have HY := hid hy
          have HCL : Hid (clash1V (L[k]?.getD []) (M[j]?.getD []) = (!decide (x = y) && decide (sum x = sum y))) := by show _ = _; rw [hx, hy]; rfl
          clear i1 i2 hx hy hb1 hb2 hr1 hr2
          by_cases he : x = y
          · rw [decide_eq_true he] at CE HCL
            clear heq he
            go_upto_region 7 with (fail)
            clear hlt hlk
            refine region_kept (Kp wr) (by kernel_rfl) (by kernel_rfl) (kp_begin wr) ?_
            repeat (first
              | go_big_quiet_skip
              | (go_big_quiet_want; go_big_quiet_op; first | go_big_quiet_on | go_big_quiet_call (first
                | (go_at_call 56; with_reducible exact kp_call (CE.out _ (PW.h _))))))
            refine wpQuiet_nil ?_
            intro _ hw'
            obtain ⟨p, hw''⟩ := hw'
            subst hw''
            go_wp2
            go_roundw
            case rel =>
              refine ⟨j + 1, by omega, rfl, ?_, BJ.out.trans (p.h.mono BJ.out.size)⟩
              intro t ht
              by_cases h9 : t < j
              · exact HNJ.out t h9
              · obtain rfl : t = j := by omega
                rw [HCL.out]; rfl
            case measure => simp [intOf]; omega
          · rw [decide_eq_false he] at CE HCL
            clear he
            by_cases hs : sum x = sum y
            · have HYES : Hid (clashV L M = true) := clashV_some HX.out HY.out (by have := HCL.out; rw [HX.out, HY.out, decide_eq_true hs] at this; exact this)
              rw [decide_eq_true hs] at heq
              generalize sum x = sx at C1 heq
              generalize sum y = sy at C2 heq
              clear hs HCL
              go_upto_region 7 with (fail)
              clear hlt hlk
              refine region_kept (Kp wr) (by kernel_rfl) (by kernel_rfl) (kp_begin wr) ?_
              repeat (first
                | go_big_quiet_skip
                | (go_big_quiet_want; go_big_quiet_op; first | go_big_quiet_on | go_big_quiet_call (first
                  | (go_at_call 56; with_reducible exact kp_call (CE.out _ (PW.h _)))
                  | (go_at_call 47; with_reducible exact kp_call (C1.out _ (PW.h _)))
                  | (go_at_call 47; with_reducible exact kp_call (C2.out _ (PW.h _))))))
              refine wpQuiet_nil ?_
              intro _ hw'
              obtain ⟨p, hw''⟩ := hw'
              subst hw''
              clear cl1 cl2 heq
              go_wp2
              go_ret
              exact ⟨by rw [HYES.out]; rfl, BJ.out.trans (p.h.mono BJ.out.size)⟩
            · rw [decide_eq_false hs] at heq HCL
              generalize sum x = sx at C1 heq
              generalize sum y = sy at C2 heq
              clear hs
              go_upto_region 7 with (fail)
              clear hlt hlk
              refine region_kept (Kp wr) (by kernel_rfl) (by kernel_rfl) (kp_begin wr) ?_
              repeat (first
                | go_big_quiet_skip
                | (go_big_quiet_want; go_big_quiet_op; first | go_big_quiet_on | go_big_quiet_call (first
                  | (go_at_call 56; with_reducible exact kp_call (CE.out _ (PW.h _)))
                  | (go_at_call 47; with_reducible exact kp_call (C1.out _ (PW.h _)))
                  | (go_at_call 47; with_reducible exact kp_call (C2.out _ (PW.h _))))))
              refine wpQuiet_nil ?_
              intro _ hw'
              obtain ⟨p, hw''⟩ := hw'
              subst hw''
              clear cl1 cl2 heq
              go_wp2
              go_roundw
              case rel =>
                refine ⟨j + 1, by omega, rfl, ?_, BJ.out.trans (p.h.mono BJ.out.size)⟩
                intro t ht
                by_cases h9 : t < j
                · exact HNJ.out t h9
                · obtain rfl : t = j := by omega
                  rw [HCL.out]; rfl
              case measure => simp [intOf]; omega
        · obtain rfl : j = m := by omega
          have hnl : ¬ ((j : Int) < (j : Int)) := by omega
          go_wp2
          go_roundw
          case rel =>
            refine ⟨k + 1, by omega, rfl, ?_, BJ⟩
            intro t ht i hi
            by_cases h9 : t < k
            · exact HNO.out t h9 i hi
            · obtain rfl : t = k := by omega
              exact HNJ.out i hi
          case measure => simp [intOf]; omega
    · obtain rfl : k = n := by omega
      have hnl : ¬ ((k : Int) < (k : Int)) := by omega
      have HCB : Hid (clashV L M = false) := clashV_none (fun i hi j hj => HNO.out i (by rw [← HL.out.1]; exact hi) j (by rw [← HM.out.1]; exact hj))
      go_wp2
      go_ret
      exact ⟨by rw [HCB.out]; rfl, BL.out⟩
theorem wpList_append_txV {w : World} {ops : Array Oper} {rest : List Oper} {o : Oper} {a : Act} {Q : Exit → Act → World → Prop} (hgd : o.guard = none) (s y : Operand)
    (ho : o.op = .call { callee := .builtin .append, args := #[s, y], argTypes := #[66, 66] }) (n0 : Nat) (M : List (List Int)) (v : Value) (hs : a.eval s = v) (hM : TxV n0 w M v) (B : Option Addr) (d : Nat) (xs : List Int) (hx : a.eval y = .slice (some ⟨w.heap.size, 0, none⟩) 1 1)
    (hd : xs.length ≤ d) (hB : BytV w B xs) (hlen : M.length ≤ 1000) (hn : n0 ≤ w.heap.size)
    (h : ∀ v' w', TxV n0 w' (M ++ [xs]) v' → Below n0 w w' → wpList Tryd.prog ops Q rest (a.put o.dst v') w') : wpList Tryd.prog ops Q (o :: rest) a (w.alloc (.cells #[.slice B xs.length d] 89)) := by
  have hb : Below w.heap.size w (w.alloc (.cells #[.slice B xs.length d] 89)) := (Below.refl _ _).alloc (Nat.le_refl _) _
  refine wpList_plain hgd fun _ hK => ?_
  refine wp_append_txV s y ho n0 M v hs (hM.below hb) w.heap.size B d _ xs rfl hx (Blk.new w 89 _) hd (hB.below hb) hlen (Nat.le_trans hn hb.size) (fun v' w' h1 h2 => hK _ _ (h v' w' h1 ?_))
  exact (hb.mono hn).trans ((Below.refl _ _).grown h2 (Nat.le_trans hn hb.size) (fun k hk => ((hM.below hb).ty k hk).1))
end Go.Proofs.YtoacjaecfabahaaDoor
