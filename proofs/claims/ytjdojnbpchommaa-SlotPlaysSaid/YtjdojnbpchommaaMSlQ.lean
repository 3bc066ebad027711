/-
  What is proved here: the bytes of a right page, as the document makes them.
-/
import Derived.Test.YtjdojnbpchommaaMSlR
import Derived.Test.YtjdojnbpchommaaMD1
set_option linter.unusedSimpArgs false
set_option linter.unusedVariables false
namespace Go.Proofs.Ytjdojnbpchommaa
open Go.ChangeShapes Go.WideShapes Go.ChangeAt Go.RowKit
set_option linter.unusedVariables false
set_option linter.unusedSimpArgs false
set_option maxRecDepth 20000

theorem append_rn {w : World} {ops : Array Oper} {rest : List Oper} {o : Oper} {a : Act} {Q : Exit → Act → World → Prop} (hgd : o.guard = none) (s x : Operand)
    (ho : o.op = .call { callee := .builtin .append, args := #[s, x], argTypes := #[31, 31] })
    (base : Nat) (v : Value) (n : Nat) (xs : List Int) (hs : a.eval s = v) (hown : w.ownsRow base 5 1 v n (u8s xs)) (hn : n = xs.length)
    (A : Option Addr) (m c : Nat) (ys : List Int) (hm : m = ys.length) (hx : a.eval x = .slice A m c) (hr : Rp w none A ys) (h63 : n + m < 100000) (hbase : base ≤ w.heap.size)
    (h : ∀ A' c' w', Hid (w'.ownsRow base 5 1 (.slice A' (n + m) c') (n + m) (u8s (xs ++ ys))) → Hid (Below base w w') → wpList Try.prog ops Q rest (a.put o.dst (.slice A' (n + m) c')) w') : wpList Try.prog ops Q (o :: rest) a w := by
  subst hn
  subst hm
  refine append_rp hgd s x ho base base v xs hs hown A c ys hx hr (by omega) hbase (Nat.le_refl _) (fun v' w' h1 h2 => ?_)
  have h1' := h1.out
  rw [List.length_append] at h1'
  obtain ⟨A', c', rfl⟩ := slice_of h1'
  exact h A' c' w' (hid h1') h2
theorem own_rp {w : World} {base n c : Nat} {A : Option Addr} {xs : List Int} (h : w.ownsRow base 5 1 (.slice A n c) n (u8s xs)) : Rp w none A xs := fun hx => by
  have hl := h.1
  rw [u8s_length, Nat.mul_one] at hl
  rcases h.2 with ⟨_, h0⟩ | ⟨g, cap, cur, hv, _, hh, hnc, _, hcs, htk⟩
  · omega
  · injection hv with hA
    refine ⟨_, hA, (fun ⟨a, e, _⟩ => by cases e), fun j hj => ?_⟩
    rw [Addr.add_lit, Nat.zero_add, (show Blk w g 5 cur from hh).cell, ← Array.getElem?_toList]
    have e : cur.toList[j]? = (cur.toList.take (n * 1))[j]? := by rw [List.getElem?_take, if_pos (by omega)]
    rw [e, htk, u8s_get _ _ hj]
/-- a number's bytes, as a slice that is known -/
theorem number_s (x : Int) (n : Nat) (w : World) (hx : 0 ≤ x ∧ x < 18446744073709551616) (hn : n ≤ 8) :
    Calls Try.prog 43 #[.int .u64 x, .int .i64 n] w fun e w' => ∃ A c, e = .returned (.slice A n c) ∧ w'.ownsRow w.heap.size 5 1 (.slice A n c) n (u8s (be x n)) ∧ Below w.heap.size w w' :=
  (Number_own x n w hx hn).mono fun e w' ⟨v, h1, h2, h3⟩ => by
    obtain ⟨A, c, rfl⟩ := slice_of h2
    exact ⟨A, c, h1, h2, h3⟩
/-- how long a slice is -/
def slLen : Value → Nat
  | .slice _ n _ => n
  | _ => 0
theorem rep_snoc (k : Nat) : List.replicate k (0 : Int) ++ [0] = List.replicate (k + 1) 0 := by rw [List.replicate_succ']
set_option maxHeartbeats 4000000 in
theorem qPage_any (x : Int) (A : Option Addr) (c : Nat) (v : List Int) (w : World) (hx : 0 ≤ x ∧ x < 18446744073709551616) (hr : Rp w none A v) (hv : v.length ≤ 110) :
    Calls Try.prog 29 #[.int .u64 x, .slice A v.length c] w fun e w' => ∃ B d, e = .returned (.slice B 128 d) ∧ Fresh w w' B (pgl x v) ∧ Below w.heap.size w w' := by
  obtain ⟨m, hm⟩ : ∃ m, m = v.length := ⟨_, rfl⟩
  rw [← hm]
  have hm110 : m ≤ 110 := by omega
  have CN := hid (fun w => number_s x 8 w hx (by omega))
  have CM := hid (fun w => number_s (m : Int) 2 w (by omega) (by omega))
  have HR := hid hr; have HM := hid hm
  have HX3 : Hid ((be x 8 ++ be m 2 ++ v).length = 10 + m) := by show _ = _; simp only [List.length_append, be_length]; omega
  have HX2 : Hid ((be x 8 ++ be m 2).length = 10) := by show _ = _; simp only [List.length_append, be_length]
  have hwm : IntKind.u64.wrap (m : Int) = (m : Int) := u64_keep _ (by omega) (by omega)
  clear hx hr hm hv
  go_enter Try.func29, Try.ntmps29
  go_upto_region 2 with (go_at_call 43; refine (CN.out w).mono ?_; rintro e w1 ⟨A1, c1, rfl, ho, hb⟩; have OW1 := hid ho; have B1 := hid hb; clear ho hb)
  go_upto_region 3 with (first
    | (go_at_call 43; refine (CM.out w1).mono ?_; rintro e w2 ⟨A2, c2, rfl, ho, hb⟩; have OW2 := hid (own_below OW1.out hb); have R2 := hid (own_rp ho); have B2 := hid (B1.out.trans (hb.mono B1.out.size)); clear ho hb)
    | (at_builtin; refine append_rn rfl (.tmp 8) (.tmp 12) rfl w.heap.size _ 8 (be x 8) rfl OW2.out (by rw [be_length]) A2 2 c2 (be m 2) (by rw [be_length]) rfl R2.out (by decide) B2.out.size ?_; intro A3 c3 w3 ow3 hb3; have OW3 := ow3; have B3 := hid (B2.out.trans hb3.out); clear ow3 hb3))
  go_wp2_with (at_builtin; refine append_rn rfl (.tmp 14) (.tmp 15) rfl w.heap.size _ 10 (be x 8 ++ be m 2) rfl OW3.out HX2.out.symm A m c v HM.out rfl (HR.out.belowN B3.out) (by omega) B3.out.size ?_; intro A4 c4 w4 ow4 hb4; have OW4 := ow4; have B4 := hid (B3.out.trans hb4.out); clear ow4 hb4)
  obtain ⟨wo, rfl⟩ : ∃ wo : World, wo = w4 := ⟨_, rfl⟩
  have OW0 : Hid (wo.ownsRow w.heap.size 5 1 (.slice A4 (10 + m + 0) c4) (10 + m + 0) (u8s (be x 8 ++ be m 2 ++ v ++ List.replicate 0 0))) := by
    show World.ownsRow _ _ _ _ _ _ _
    rw [List.replicate_zero, List.append_nil]; exact OW4.out
  clear OW1 OW2 OW3 OW4 B1 B2 B3 R2 CM hwm HR
  go_loopw [5] (fun pv wr => ∃ (k : Nat) (A5 : Option Addr) (c5 : Nat), k + m ≤ 110 ∧ pv = .slice A5 (10 + m + k) c5 ∧ Hid (wr.ownsRow w.heap.size 5 1 (.slice A5 (10 + m + k) c5) (10 + m + k) (u8s (be x 8 ++ be m 2 ++ v ++ List.replicate k 0))) ∧ Hid (Below w.heap.size w wr)) (fun pv _ => 120 - slLen pv)
  case atStart => exact ⟨0, A4, c4, by omega, rfl, OW0.out, B4.out⟩
  case round =>
    obtain ⟨k, A5, c5, hk, rfl, OW, BW⟩ := hrel
    clear OW0 B4
    obtain ⟨ln, hln⟩ : ∃ ln, ln = 10 + m + k := ⟨_, rfl⟩
    rw [← hln] at OW ⊢
    have HLN := hid hln
    have HXL : Hid (ln = (be x 8 ++ be m 2 ++ v ++ List.replicate k 0).length) := by show _ = _; rw [List.length_append, HX3.out, List.length_replicate]; exact hln
    by_cases hlt : ln < 120
    · have hl2 : (ln : Int) < 120 := by omega
      clear hln
      go_wp2_with (at_builtin; refine append_rn rfl (.tmp 20) (.tmp 21) rfl w.heap.size _ ln _ rfl (OW.out.alloc _) HXL.out (some ⟨wr.heap.size, 0, none⟩) 1 1 [0] rfl rfl (Blk.new wr 5 #[.int .u8 0]).rp (by omega) (Nat.le_trans BW.out.size (by simp)) ?_; intro A6 c6 w6 ow6 hb6; have OW6 := ow6; have B6 := hid ((BW.out.alloc BW.out.size (.cells #[.int .u8 0] 5)).trans hb6.out); clear ow6 hb6)
      go_roundw
      case rel =>
        have e : ln + 1 = 10 + m + (k + 1) := by have := HLN.out; omega
        refine ⟨k + 1, A6, c6, by have := HLN.out; omega, by rw [e], ?_, B6.out⟩
        have h9 := OW6.out
        rw [e, List.append_assoc, rep_snoc] at h9
        exact h9
      case measure => simp [slLen]; omega
    · have hl2 : ¬ (ln : Int) < 120 := by omega
      obtain rfl : ln = 120 := by omega
      have hk2 : k = 110 - m := by omega
      have HK2 := hid hk2
      obtain ⟨w7, rfl⟩ : ∃ w7 : World, w7 = wr := ⟨_, rfl⟩
      clear hln hk2 hlt
      go_wp2_with (first
        | (go_at_call 43; refine (CN.out _).mono ?_; rintro e w8 ⟨A8, c8, rfl, ho, hb⟩; have OW8 := hid (own_below OW.out hb); have R8 := hid (own_rp ho); have B8 := hid (BW.out.trans (hb.mono BW.out.size)); clear ho hb)
        | (at_builtin; refine append_rn rfl (.tmp 23) (.tmp 25) rfl w.heap.size _ 120 _ rfl OW8.out HXL.out A8 8 c8 (be x 8) (by rw [be_length]) rfl R8.out (by decide) B8.out.size ?_; intro A9 c9 w9 ow9 hb9; have OW9 := ow9; have B9 := hid (B8.out.trans hb9.out); clear ow9 hb9))
      go_ret
      have h9 := OW9.out
      have he : be x 8 ++ be m 2 ++ v ++ List.replicate k 0 ++ be x 8 = pgl x v := by
        unfold pgl
        rw [HK2.out, HM.out]
      rw [he] at h9
      obtain ⟨_, _, e1, _, _, hf⟩ := fresh_of_own h9 (Nat.le_refl _)
      injection e1 with e1 _ e3
      subst e1; subst e3
      exact ⟨A9, c9, rfl, hf, B9.out⟩
end Go.Proofs.Ytjdojnbpchommaa
