/-
  Of all texts it is told whether they are different, and have one hash; of a text and itself never: the walk of the statement.
-/
import Derived.Test.YtpponjmhgfikiaaDoorHSums
import Derived.Test.YtpponjmhgfikiaaDoorSameR
import Derived.Laws.BytesArg
namespace Go.Proofs.YtpponjmhgfikiaaDoor
open Go.ChangeShapes Go.WideShapes Go.ChangeAt Go.RowKit
set_option linter.unusedVariables false

theorem conv_rp (A : Option Addr) (n c : Nat) (xs : List Int) (w : World) (hr : Rp w none A xs) (hn : xs.length = n) : (convert 22 9 (.slice A n c)).run Tryd.prog w = .ok (.string (strOfNums xs)) w := by
  rcases Nat.eq_zero_or_pos n with h0 | h0
  · subst h0
    obtain rfl : xs = [] := List.eq_nil_of_length_eq_zero hn
    rw [run_convert_bytes_string w 22 9 5 _ 0 c Tryd.underlying22 Tryd.underlying5 Tryd.underlying9]
    cases A <;> simp [Conv.bytesToString, loadCells]
    all_goals rfl
  · obtain ⟨ad, rfl, hc⟩ := hr.get (by omega)
    obtain ⟨b, o, s⟩ := ad
    have h1 := hc 0 (by omega)
    have hs : s = none := by simpa [Addr.add] using World.cell?_spot h1
    subst hs
    exact run_convert_bytes_arg (P := Tryd.prog) w 22 5 Tryd.underlying22 Tryd.underlying5 b o n c xs hn (fun i hi => by
      have := hc i (by omega)
      rw [Addr.add_lit] at this
      rw [this, List.getD_eq_getElem?_getD]) 9 Tryd.underlying9
theorem nums_eq (a b : List Int) (ha : Bs a) (hb : Bs b) : strOfNums a = strOfNums b ↔ a = b := by
  constructor
  · intro h
    have h2 := congrArg (fun s : ByteArray => s.data.toList) h
    simp only [strOfNums_data] at h2
    exact u8_inj a b ha hb h2
  · rintro rfl; rfl

set_option maxRecDepth 5000 in
set_option maxHeartbeats 1000000 in
theorem Equal_any (A B : Option Addr) (n m c d : Nat) (xs ys : List Int) (w : World) (hx : Rp w none A xs) (hy : Rp w none B ys) (hn : xs.length = n) (hm : ys.length = m) (bx : Bs xs) (by_ : Bs ys) :
    Calls Tryd.prog 27 #[.slice A n c, .slice B m d] w fun e w' => e = .returned (.bool (decide (xs = ys))) ∧ w = w' := by
  have k1 := conv_rp A n c xs w hx hn
  have k2 := conv_rp B m d ys w hy hm
  have HE := hid (nums_eq xs ys bx by_)
  obtain ⟨r, hr⟩ : ∃ r, r = decide (xs = ys) := ⟨_, rfl⟩
  rw [← hr]
  have HR := hid hr
  clear hx hy hn hm bx by_ hr
  go_enter Tryd.func27, Tryd.ntmps27
  go_wp2
  go_ret
  refine ⟨ret_bool ?_, rfl⟩
  show ((strOfNums xs).toList == (strOfNums ys).toList) = r
  rw [HR.out, ByteArray.toList_eq, ByteArray.toList_eq, Bool.eq_iff_iff, beq_iff_eq, decide_eq_true_iff]
  constructor
  · intro h
    exact HE.out.1 (bytes_inj h)
  · rintro rfl; rfl
/-- different, and of one hash -/
def clB (xs ys : List Int) : Bool := !decide (xs = ys) && decide (sum xs = sum ys)
theorem clB_self (xs : List Int) : clB xs xs = false := by unfold clB; rw [decide_eq_true rfl]; rfl
theorem clB_comm (xs ys : List Int) : clB xs ys = clB ys xs := by
  unfold clB
  rw [show decide (xs = ys) = decide (ys = xs) by rw [decide_eq_decide]; exact eq_comm, show decide (sum xs = sum ys) = decide (sum ys = sum xs) by rw [decide_eq_decide]; exact eq_comm]

set_option maxRecDepth 5000 in
set_option maxHeartbeats 1000000 in
theorem Clash_any (A B : Option Addr) (n m c d : Nat) (xs ys : List Int) (w : World) (hx : Rp w none A xs) (hy : Rp w none B ys) (hn : xs.length = n) (hm : ys.length = m) (bx : Bs xs) (by_ : Bs ys) (h5 : n ≤ 500) (h6 : m ≤ 500) (hnc : n ≤ c) (hmd : m ≤ d) (ht : Tab w) :
    Calls Tryd.prog 18 #[.slice A n c, .slice B m d] w fun e w' => e = .returned (.bool (clB xs ys)) ∧ Below w.heap.size w w' := by
  have hE := Equal_any A B n m c d xs ys w hx hy hn hm bx by_
  have B0 := hid (Below.refl w.heap.size w)
  have HS := fun (X : List Int) (P : Option Addr) (k d : Nat) (w1 : World) (hbl : Below w.heap.size w w1) (hr : Rp w none P X) (hb : Bs X) (hl : X.length = k) (h5 : k ≤ 500) (hd : k ≤ d) => hl ▸ Sum_any P d X w1 (hr.belowN hbl) hb (by omega) (by omega) (ht.below hbl)
  unfold hashV at HS
  have H1 := hid (fun (w1 : World) (hb : Below w.heap.size w w1) => HS xs A n c _ hb hx bx hn h5 hnc)
  have H2 := hid (fun (w1 : World) (hb : Below w.heap.size w w1) => HS ys B m d _ hb hy by_ hm h6 hmd)
  have heq := eql_hash (sum xs) (sum ys) (sum_bs xs) (sum_bs ys) (sum_length xs) (sum_length ys)
  have HE := hid hE
  obtain ⟨r, hr⟩ : ∃ r, r = clB xs ys := ⟨_, rfl⟩
  rw [← hr]
  have HR := hid hr
  obtain ⟨p, hp⟩ : ∃ p, p = decide (xs = ys) := ⟨_, rfl⟩
  rw [← hp] at HE
  have HP := hid hp
  obtain ⟨q, hq⟩ : ∃ q, q = decide (sum xs = sum ys) := ⟨_, rfl⟩
  rw [← hq] at heq
  have HQ := hid hq
  obtain ⟨X, hX⟩ : ∃ X, X = sum xs := ⟨_, rfl⟩
  obtain ⟨Y, hY⟩ : ∃ Y, Y = sum ys := ⟨_, rfl⟩
  rw [← hX] at H1 heq
  rw [← hY] at H2 heq
  have tok1 : True := trivial
  clear hE HS hx hy hn hm bx by_ h5 h6 hr hp hq hX hY hnc hmd ht
  cases p with
  | true =>
    have hrf : r = false := by
      rw [HR.out]; unfold clB; rw [← HP.out]; rfl
    have HF := hid hrf
    clear hrf
    go_enter Tryd.func18, Tryd.ntmps18
    go_wp2_with (go_at_call 27; refine HE.out.mono ?_; rintro e w1 ⟨rfl, rfl⟩)
    go_ret
    exact ⟨by rw [HF.out]; rfl, B0.out⟩
  | false =>
    have hrf : r = q := by
      rw [HR.out]; unfold clB; rw [← HP.out, ← HQ.out]; rfl
    have HF := hid hrf
    clear hrf
    go_enter Tryd.func18, Tryd.ntmps18
    go_wp2_with (first
      | (go_at_call 27; refine HE.out.mono ?_; rintro e w1 ⟨rfl, rfl⟩)
      | (go_at_call 9; have _t := tok1; refine (H1.out _ B0.out).mono ?_; rintro e w2 ⟨rfl, hb2⟩; have HB2 := hid (B0.out.trans (hb2.mono B0.out.size)); clear tok1 hb2)
      | (go_at_call 9; refine (H2.out _ HB2.out).mono ?_; rintro e w3 ⟨rfl, hb3⟩; have HB3 := hid (HB2.out.trans (hb3.mono HB2.out.size)); clear hb3))
    go_ret
    exact ⟨by rw [HF.out]; rfl, HB3.out⟩

set_option maxRecDepth 5000 in
set_option maxHeartbeats 1000000 in
theorem RClash_any (A B : Option Addr) (n m c d : Nat) (xs ys : List Int) (w : World) (hx : Rp w none A xs) (hy : Rp w none B ys) (hn : xs.length = n) (hm : ys.length = m) (bx : Bs xs) (by_ : Bs ys) (h5 : n ≤ 500) (h6 : m ≤ 500) :
    Calls Tryd.prog 19 #[.slice A n c, .slice B m d] w fun e w' => e = .returned (.bool (clB xs ys)) ∧ Below w.heap.size w w' := by
  have hE := Same_quiet A B c d xs ys w hx hy (by omega) (by omega)
  rw [hn, hm] at hE
  have B0 := hid (Below.refl w.heap.size w)
  have HS := fun (X : List Int) (P : Option Addr) (k d : Nat) (w1 : World) (hbl : Below w.heap.size w w1) (hr : Rp w none P X) (hb : Bs X) (hl : X.length = k) (h5 : k ≤ 500) => hl ▸ RSum_any P d X w1 (hr.belowN hbl) hb (by omega)
  unfold hashV at HS
  have H1 := hid (fun (w1 : World) (hb : Below w.heap.size w w1) => HS xs A n c _ hb hx bx hn h5)
  have H2 := hid (fun (w1 : World) (hb : Below w.heap.size w w1) => HS ys B m d _ hb hy by_ hm h6)
  have heq := eql_hash (sum xs) (sum ys) (sum_bs xs) (sum_bs ys) (sum_length xs) (sum_length ys)
  have HE := hid hE
  obtain ⟨r, hr⟩ : ∃ r, r = clB xs ys := ⟨_, rfl⟩
  rw [← hr]
  have HR := hid hr
  obtain ⟨p, hp⟩ : ∃ p, p = decide (xs = ys) := ⟨_, rfl⟩
  rw [← hp] at HE
  have HP := hid hp
  obtain ⟨q, hq⟩ : ∃ q, q = decide (sum xs = sum ys) := ⟨_, rfl⟩
  rw [← hq] at heq
  have HQ := hid hq
  obtain ⟨X, hX⟩ : ∃ X, X = sum xs := ⟨_, rfl⟩
  obtain ⟨Y, hY⟩ : ∃ Y, Y = sum ys := ⟨_, rfl⟩
  rw [← hX] at H1 heq
  rw [← hY] at H2 heq
  have tok1 : True := trivial
  clear hE HS hx hy hn hm bx by_ h5 h6 hr hp hq hX hY
  cases p with
  | true =>
    have hrf : r = false := by
      rw [HR.out]; unfold clB; rw [← HP.out]; rfl
    have HF := hid hrf
    clear hrf
    go_enter Tryd.func19, Tryd.ntmps19
    go_wp2_with (go_at_call 12; refine HE.out.mono ?_; rintro e w1 ⟨rfl, q1, rfl⟩)
    go_ret
    exact ⟨by rw [HF.out]; rfl, (below_drewN B0.out q1)⟩
  | false =>
    have hrf : r = q := by
      rw [HR.out]; unfold clB; rw [← HP.out, ← HQ.out]; rfl
    have HF := hid hrf
    clear hrf
    go_enter Tryd.func19, Tryd.ntmps19
    go_wp2_with (first
      | (go_at_call 12; refine HE.out.mono ?_; rintro e w1 ⟨rfl, q1, rfl⟩)
      | (go_at_call 10; have _t := tok1; refine (H1.out _ (below_drewN B0.out q1)).mono ?_; rintro e w2 ⟨rfl, hb2⟩; have HB2 := hid ((below_drewN B0.out q1).trans (hb2.mono (below_drewN B0.out q1).size)); clear tok1 hb2)
      | (go_at_call 10; refine (H2.out _ HB2.out).mono ?_; rintro e w3 ⟨rfl, hb3⟩; have HB3 := hid (HB2.out.trans (hb3.mono HB2.out.size)); clear hb3))
    go_ret
    exact ⟨by rw [HF.out]; rfl, HB3.out⟩

theorem hclash_big (A B : Option Addr) (n m c d : Nat) (w : World) (ht : Tab w) (hn : n ≤ 9223372036854775807) (hm : m ≤ 9223372036854775807) (h : 500 < n ∨ 500 < m) :
    Calls Tryd.prog 6 #[.slice A n c, .slice B m d] w fun e w' => e = .returned (.bool true) ∧ Below w.heap.size w w' := by
  have HAW := hid (fun (w1 : World) (hb : Below w.heap.size w w1) => hawake_any w1 (ht.below hb))
  have B0 := hid (Below.refl w.heap.size w)
  clear ht
  by_cases hn5 : 500 < n
  · have tok1 : True := trivial
    clear h
    go_enter Tryd.func6, Tryd.ntmps6
    go_wp2_with (first
      | (go_at_call 8; have _t := tok1; refine (HAW.out _ B0.out).mono ?_; rintro e w1 ⟨rfl, hb1⟩; have HB1 := hid hb1; clear tok1 hb1)
      | (go_at_call 8; refine (HAW.out _ HB1.out).mono ?_; rintro e w2 ⟨rfl, hb2⟩; have HB2 := hid (HB1.out.trans (hb2.mono HB1.out.size)); clear hb2))
    go_ret
    exact ⟨rfl, HB2.out⟩
  · have hm5 : 500 < m := by omega
    have hn6 : n ≤ 500 := by omega
    have tok1 : True := trivial
    clear h hn5
    go_enter Tryd.func6, Tryd.ntmps6
    go_wp2_with (first
      | (go_at_call 8; have _t := tok1; refine (HAW.out _ B0.out).mono ?_; rintro e w1 ⟨rfl, hb1⟩; have HB1 := hid hb1; clear tok1 hb1)
      | (go_at_call 8; refine (HAW.out _ HB1.out).mono ?_; rintro e w2 ⟨rfl, hb2⟩; have HB2 := hid (HB1.out.trans (hb2.mono HB1.out.size)); clear hb2))
    go_ret
    exact ⟨rfl, HB2.out⟩

set_option maxRecDepth 5000 in
set_option maxHeartbeats 1000000 in
theorem hclash_walk (A B : Option Addr) (n m c d : Nat) (xs ys : List Int) (w : World) (h1 : InB w A n c xs) (h2 : InB w B m d ys) (hnc : n ≤ c) (hmd : m ≤ d) (ht : Tab w) :
    Calls Tryd.prog 6 #[.slice A n c, .slice B m d] w fun e w' => e = .returned (.bool true) ∧ Below w.heap.size w w' := by
  obtain ⟨x1, x2, x3, x4⟩ := h1
  obtain ⟨y1, y2, y3, y4⟩ := h2
  by_cases hbig : 500 < n ∨ 500 < m
  · exact hclash_big A B n m c d w ht x2 y2 hbig
  · have hn5 : n ≤ 500 := by omega
    have hm5 : m ≤ 500 := by omega
    have HAW := hid (fun (w1 : World) (hb : Below w.heap.size w w1) => hawake_any w1 (ht.below hb))
    have B0 := hid (Below.refl w.heap.size w)
    have C1 := hid (fun (w1 : World) (hb : Below w.heap.size w w1) => Clash_any A B n m c d xs ys w1 (x4.belowN hb) (y4.belowN hb) x1 y1 x3 y3 hn5 hm5 hnc hmd (ht.below hb))
    have C2 := fun (w1 : World) (hb : Below w.heap.size w w1) => Clash_any A A n n c c xs xs w1 (x4.belowN hb) (x4.belowN hb) x1 x1 x3 x3 hn5 hn5 hnc hnc (ht.below hb)
    have C3 := fun (w1 : World) (hb : Below w.heap.size w w1) => Clash_any B A m n d c ys xs w1 (y4.belowN hb) (x4.belowN hb) y1 x1 y3 x3 hm5 hn5 hmd hnc (ht.below hb)
    have C4 := hid (fun (w1 : World) (hb : Below w.heap.size w w1) => RClash_any A B n m c d xs ys w1 (x4.belowN hb) (y4.belowN hb) x1 y1 x3 y3 hn5 hm5)
    rw [clB_self] at C2
    rw [clB_comm] at C3
    have C2 := hid C2
    have C3 := hid C3
    obtain ⟨r, hr⟩ : ∃ r, r = clB xs ys := ⟨_, rfl⟩
    rw [← hr] at C1 C3 C4
    have tok1 : True := trivial
    have tok2 : True := trivial
    have tok3 : True := trivial
    clear x1 x2 x3 x4 y1 y2 y3 y4 hr ht hbig
    go_enter Tryd.func6, Tryd.ntmps6
    go_wp2_with (first
      | (go_at_call 8; refine (HAW.out _ B0.out).mono ?_; rintro e w1 ⟨rfl, hb1⟩; have HB1 := hid hb1; clear hb1)
      | (go_at_call 18; have _t := tok1; refine (C1.out _ HB1.out).mono ?_; rintro e w2 ⟨rfl, hb2⟩; have HB2 := hid (HB1.out.trans (hb2.mono HB1.out.size)); clear tok1 hb2)
      | (go_at_call 19; refine (C4.out _ HB2.out).mono ?_; rintro e w3 ⟨rfl, hb3⟩; have HB3 := hid (HB2.out.trans (hb3.mono HB2.out.size)); clear hb3)
      | (go_at_call 18; have _t := tok2; refine (C2.out _ HB3.out).mono ?_; rintro e w4 ⟨rfl, hb4⟩; have HB4 := hid (HB3.out.trans (hb4.mono HB3.out.size)); clear tok2 hb4)
      | (go_at_call 18; have _t := tok3; refine (C1.out _ HB4.out).mono ?_; rintro e w5 ⟨rfl, hb5⟩; have HB5 := hid (HB4.out.trans (hb5.mono HB4.out.size)); clear tok3 hb5)
      | (go_at_call 18; refine (C3.out _ HB5.out).mono ?_; rintro e w6 ⟨rfl, hb6⟩; have HB6 := hid (HB5.out.trans (hb6.mono HB5.out.size)); clear hb6))
    go_ret
    exact ⟨by cases r <;> rfl, HB6.out⟩
end Go.Proofs.YtpponjmhgfikiaaDoor
