/-
  What this file is for: two storeys of trees in plain mathematics: ids and seeds, the public key, signatures, when one is right; what was signed is right. Nothing of the program is walked here.
-/
import Derived.Test.YtobceieadjpaaaaDoorMLsr
import Derived.Test.YtobceieadjpaaaaDoorMHsT
import Derived.Test.YtobceieadjpaaaaDoorMLsp
import Derived.Test.YtobceieadjpaaaaDoorMLsU
import Derived.Deep.DeepCutAuto
import Derived.Deep.RegionLaw
import Derived.Laws.CopyOwn
import Derived.Test.YtobceieadjpaaaaDoorMLsS
set_option linter.unusedSimpArgs false
set_option linter.unusedVariables false
namespace Go.Proofs.YtobceieadjpaaaaDoor
open Go.ChangeShapes Go.WideShapes Go.ChangeAt Go.RowKit
set_option linter.unusedVariables false
set_option maxRecDepth 20000

/-- the parts of the top tree (no number), or of a bottom tree -/
def hprt (sd : List Int) : Option Nat → List (List Int)
  | .none => [sd]
  | .some i => [sd, be (i : Int) 4]
def cid (sd : List Int) (o : Option Nat) : List Int := (sum (textL 105 (hprt sd o))).take 16
def csd (sd : List Int) (o : Option Nat) : List Int := sum (textL 115 (hprt sd o))
theorem cid_idn (sd : List Int) (o : Option Nat) : Idn (cid sd o) := ⟨by unfold cid; rw [List.length_take, sum_length]; rfl, (sum_bs _).take _⟩
theorem csd_ky (sd : List Int) (o : Option Nat) : Ky (csd sd o) := ⟨sum_length _, sum_bs _⟩
/-- the top tree's public key, and the i-th bottom tree's -/
def tpb (t k : Int) (sd : List Int) : List Int := pbt t k (cid sd .none) (csd sd .none)
def bpb (b k : Int) (sd : List Int) (i : Nat) : List Int := pbt b k (cid sd (.some i)) (csd sd (.some i))
def tsg (t k : Int) (sd : List Int) (i : Nat) (m : List Int) : List Int := sgt t k (cid sd .none) (csd sd .none) i m
def bsg (b k : Int) (sd : List Int) (i q : Nat) (m : List Int) : List Int := sgt b k (cid sd (.some i)) (csd sd (.some i)) q m
def hpb (t k : Int) (sd : List Int) : List Int := be 2 4 ++ tpb t k sd
def hkeys (t b k : Int) : Nat := tkeys t k * tkeys b k
def hsize (t b k : Int) : Nat := if hkeys t b k = 0 then 0 else 4 + tsize t k + 56 + tsize b k
def hsg (t b k : Int) (sd : List Int) (n : Nat) (m : List Int) : List Int :=
  be 1 4 ++ tsg t k sd (n / tkeys b k) (bpb b k sd (n / tkeys b k)) ++ bpb b k sd (n / tkeys b k) ++ bsg b k sd (n / tkeys b k) (n % tkeys b k) m

theorem hkeys_no {t b k : Int} (h : hkeys t b k = 0) : tkeys t k = 0 ∨ tkeys b k = 0 := Nat.mul_eq_zero.1 h
theorem hkeys_kd {t b k : Int} (h : hkeys t b k ≠ 0) : (1 ≤ t ∧ t ≤ 4) ∧ (1 ≤ b ∧ b ≤ 4) ∧ Kd k := by
  have h1 : tkeys t k ≠ 0 := fun h0 => h (by unfold hkeys; rw [h0, Nat.zero_mul])
  have h2 : tkeys b k ≠ 0 := fun h0 => h (by unfold hkeys; rw [h0, Nat.mul_zero])
  exact ⟨(tkeys_kd h1).1, (tkeys_kd h2).1, (tkeys_kd h1).2⟩
theorem hkeys_pos {t b k : Int} (h1 : 1 ≤ t ∧ t ≤ 4) (h2 : 1 ≤ b ∧ b ≤ 4) (hk : Kd k) : hkeys t b k ≠ 0 := by
  unfold hkeys
  exact Nat.mul_ne_zero (tkeys_pos h1 hk) (tkeys_pos h2 hk)
theorem hsize_ok {t b k : Int} (h : hkeys t b k ≠ 0) : hsize t b k = 60 + tsize t k + tsize b k := by
  unfold hsize
  rw [if_neg h]; omega
theorem tsize_zero {h k : Int} (hn : tkeys h k = 0) : tsize h k = 0 := by unfold tsize; rw [if_pos hn]
theorem tsize_lim {h k : Int} : tsize h k ≤ 11000 := by
  by_cases hn : tkeys h k = 0
  · rw [tsize_zero hn]; omega
  · obtain ⟨h1, hk⟩ := tkeys_kd hn
    rw [tsize_ok h1 hk]
    have : ksize k ≤ 10000 := by
      have := kchains_le k
      unfold ksize
      split <;> omega
    omega

theorem tpb_length (t k : Int) (sd : List Int) : (tpb t k sd).length = 56 := pbt_length t k (cid_idn _ _).len _
theorem bpb_length (b k : Int) (sd : List Int) (i : Nat) : (bpb b k sd i).length = 56 := pbt_length b k (cid_idn _ _).len _
theorem hpb_length (t k : Int) (sd : List Int) : (hpb t k sd).length = 60 := by unfold hpb; rw [List.length_append, be_length, tpb_length]
theorem hsg_length {t b k : Int} (h1 : 1 ≤ t ∧ t ≤ 4) (h2 : 1 ≤ b ∧ b ≤ 4) (hk : Kd k) (sd : List Int) (n : Nat) (m : List Int) : (hsg t b k sd n m).length = hsize t b k := by
  rw [hsize_ok (hkeys_pos h1 h2 hk)]
  unfold hsg tsg bsg
  rw [List.length_append, List.length_append, List.length_append, be_length, bpb_length, sgt_length h1 hk, sgt_length h2 hk]
  omega

/-- the size that a signature of the public key's tree has; the bottom tree's key; what follows -/
def hvn (p : List Int) : Nat := tsize (vh (p.drop 4)) (vk (p.drop 4))
def hvk (p s : List Int) : List Int := (s.drop (4 + hvn p)).take 56
def hverP (p m s : List Int) : Prop := p.length = 60 ∧ val (p.take 4) = 2 ∧ val (s.take 4) = 1 ∧ 60 + hvn p ≤ s.length ∧ ver (p.drop 4) (hvk p s) ((s.drop 4).take (hvn p)) = true ∧ ver (hvk p s) m (s.drop (60 + hvn p)) = true
instance (p m s : List Int) : Decidable (hverP p m s) := by unfold hverP; exact inferInstance
def hver (p m s : List Int) : Bool := decide (hverP p m s)
theorem hver_no {p m s : List Int} (h : ¬ hverP p m s) : hver p m s = false := decide_eq_false h
theorem hver_wide {p m s : List Int} (h : p.length ≠ 60) : hver p m s = false := hver_no fun hv => h hv.1
theorem ver_len {p m s : List Int} (h : ver p m s = true) : s.length = tsize (vh p) (vk p) := (of_decide_eq_true h : verP p m s).2.2.1
theorem ver_key {p m s : List Int} (h : ver p m s = true) : tkeys (vh p) (vk p) ≠ 0 := (of_decide_eq_true h : verP p m s).2.1
theorem hver_len {p m s : List Int} (h : hverP p m s) : s.length = 60 + hvn p + tsize (vh (hvk p s)) (vk (hvk p s)) := by
  have h1 := ver_len h.2.2.2.2.2
  have h2 := h.2.2.2.1
  rw [List.length_drop] at h1
  omega

section
variable {t b k : Int} {sd : List Int}
theorem hpb_drop : (hpb t k sd).drop 4 = tpb t k sd := by
  unfold hpb
  rw [List.drop_append_of_le_length (by rw [be_length]; omega), List.drop_of_length_le (by rw [be_length]; omega), List.nil_append]
theorem hpb_two : val ((hpb t k sd).take 4) = 2 := by
  unfold hpb
  rw [List.take_append_of_le_length (by rw [be_length]; omega), List.take_of_length_le (by rw [be_length]; omega)]
  exact val_be4 2 (by decide)
theorem hpb_n (h1 : 1 ≤ t ∧ t ≤ 4) (hk : Kd k) : hvn (hpb t k sd) = tsize t k := by
  unfold hvn
  rw [hpb_drop]
  unfold tpb
  rw [pbt_h h1 (cid_idn _ _).len, pbt_k hk (cid_idn _ _).len]
theorem hsg_one (n : Nat) (m : List Int) : val ((hsg t b k sd n m).take 4) = 1 := by
  unfold hsg
  rw [List.append_assoc, List.append_assoc, List.take_append_of_le_length (by rw [be_length]; omega), List.take_of_length_le (by rw [be_length]; omega)]
  exact val_be4 1 (by decide)
theorem hsg_high (h1 : 1 ≤ t ∧ t ≤ 4) (hk : Kd k) (n : Nat) (m : List Int) : ((hsg t b k sd n m).drop 4).take (tsize t k) = tsg t k sd (n / tkeys b k) (bpb b k sd (n / tkeys b k)) := by
  unfold hsg
  have hl : (tsg t k sd (n / tkeys b k) (bpb b k sd (n / tkeys b k))).length = tsize t k := by unfold tsg; exact sgt_length h1 hk _ _
  rw [List.append_assoc, List.append_assoc, List.drop_append_of_le_length (by rw [be_length]; omega), List.drop_of_length_le (by rw [be_length]; omega), List.nil_append,
    List.take_append_of_le_length (by omega), List.take_of_length_le (by omega)]
theorem hsg_key (h1 : 1 ≤ t ∧ t ≤ 4) (hk : Kd k) (n : Nat) (m : List Int) : ((hsg t b k sd n m).drop (4 + tsize t k)).take 56 = bpb b k sd (n / tkeys b k) := by
  unfold hsg
  have hl : (be 1 4 ++ tsg t k sd (n / tkeys b k) (bpb b k sd (n / tkeys b k))).length = 4 + tsize t k := by
    rw [List.length_append, be_length]; unfold tsg; rw [sgt_length h1 hk]
  have hb := bpb_length b k sd (n / tkeys b k)
  rw [List.append_assoc, List.drop_append_of_le_length (by omega), List.drop_of_length_le (by omega), List.nil_append,
    List.take_append_of_le_length (by omega), List.take_of_length_le (by omega)]
theorem hsg_low (h1 : 1 ≤ t ∧ t ≤ 4) (hk : Kd k) (n : Nat) (m : List Int) : (hsg t b k sd n m).drop (60 + tsize t k) = bsg b k sd (n / tkeys b k) (n % tkeys b k) m := by
  unfold hsg
  have hl : (be 1 4 ++ tsg t k sd (n / tkeys b k) (bpb b k sd (n / tkeys b k)) ++ bpb b k sd (n / tkeys b k)).length = 60 + tsize t k := by
    rw [List.length_append, List.length_append, be_length, bpb_length]; unfold tsg; rw [sgt_length h1 hk]; omega
  rw [List.drop_append_of_le_length (by omega), List.drop_of_length_le (by omega), List.nil_append]
/-- what was signed is right -/
theorem hver_right (h1 : 1 ≤ t ∧ t ≤ 4) (h2 : 1 ≤ b ∧ b ≤ 4) (hk : Kd k) {n : Nat} (hn : n < hkeys t b k) (m : List Int) : hver (hpb t k sd) m (hsg t b k sd n m) = true := by
  have hb := tkeys_pos h2 hk
  have hi : n / tkeys b k < tkeys t k := by
    rw [Nat.div_lt_iff_lt_mul (by omega)]; exact hn
  have hq : n % tkeys b k < tkeys b k := Nat.mod_lt _ (by omega)
  refine decide_eq_true ?_
  unfold hverP hvk
  rw [hpb_n h1 hk, hpb_drop, hsg_high h1 hk, hsg_key h1 hk, hsg_low h1 hk]
  refine ⟨hpb_length _ _ _, hpb_two, hsg_one _ _, ?_, ?_, ?_⟩
  · rw [hsg_length h1 h2 hk, hsize_ok (hkeys_pos h1 h2 hk)]; omega
  · exact ver_right h1 hk (cid_idn _ _).len hi _
  · exact ver_right h2 hk (cid_idn _ _).len hq _
/-- with more bytes at its end, or fewer, it isn't -/
theorem hver_long (h1 : 1 ≤ t ∧ t ≤ 4) (h2 : 1 ≤ b ∧ b ≤ 4) (hk : Kd k) (n : Nat) (m m' : List Int) {e : List Int} (he : 0 < e.length) : hver (hpb t k sd) m' (hsg t b k sd n m ++ e) = false := by
  refine hver_no fun hv => ?_
  have hl := hver_len hv
  have hs := hsg_length h1 h2 hk sd n m
  have hz := hsize_ok (hkeys_pos h1 h2 hk)
  have hkey : hvk (hpb t k sd) (hsg t b k sd n m ++ e) = bpb b k sd (n / tkeys b k) := by
    unfold hvk
    rw [hpb_n h1 hk, List.drop_append_of_le_length (by omega), List.take_append_of_le_length (by rw [List.length_drop]; omega), hsg_key h1 hk]
  rw [hkey, hpb_n h1 hk, List.length_append, hs, hz] at hl
  unfold bpb at hl
  rw [pbt_h h2 (cid_idn _ _).len, pbt_k hk (cid_idn _ _).len] at hl
  omega
theorem hver_short (h1 : 1 ≤ t ∧ t ≤ 4) (h2 : 1 ≤ b ∧ b ≤ 4) (hk : Kd k) (n : Nat) (m m' : List Int) {j : Nat} (hj : j < hsize t b k) : hver (hpb t k sd) m' ((hsg t b k sd n m).take j) = false := by
  refine hver_no fun hv => ?_
  have hl := hver_len hv
  have h60 := hv.2.2.2.1
  have hs := hsg_length h1 h2 hk sd n m
  have hz := hsize_ok (hkeys_pos h1 h2 hk)
  rw [hpb_n h1 hk] at hl h60
  rw [List.length_take, hs, Nat.min_eq_left (by omega)] at hl h60
  have hkey : hvk (hpb t k sd) ((hsg t b k sd n m).take j) = bpb b k sd (n / tkeys b k) := by
    unfold hvk
    rw [hpb_n h1 hk, List.drop_take, List.take_take, Nat.min_eq_left (by omega), hsg_key h1 hk]
  rw [hkey] at hl
  unfold bpb at hl
  rw [pbt_h h2 (cid_idn _ _).len, pbt_k hk (cid_idn _ _).len] at hl
  omega
end
theorem bs_app {a b : List Int} (ha : Bs a) (hb : Bs b) : Bs (a ++ b) := fun v hv => (List.mem_append.1 hv).elim (ha v) (hb v)
theorem tpb_bs (t k : Int) (sd : List Int) : Bs (tpb t k sd) := by
  unfold tpb pbt
  exact bs_app (bs_app (bs_app (be_bs _ _) (be_bs _ _)) (cid_idn _ _).bs) (nd_ky _ _ _ _ _).bs
theorem bpb_bs (b k : Int) (sd : List Int) (i : Nat) : Bs (bpb b k sd i) := by
  unfold bpb pbt
  exact bs_app (bs_app (bs_app (be_bs _ _) (be_bs _ _)) (cid_idn _ _).bs) (nd_ky _ _ _ _ _).bs
theorem hpb_bs (t k : Int) (sd : List Int) : Bs (hpb t k sd) := bs_app (be_bs _ _) (tpb_bs t k sd)
end Go.Proofs.YtobceieadjpaaaaDoor
/-
  What is proved here: the code's and the document's sizes and numbers of keys of two storeys; a number in four bytes; a tree whose id and seed are made of parts.
-/
namespace Go.Proofs.YtobceieadjpaaaaDoor
open Go.ChangeShapes Go.WideShapes Go.ChangeAt Go.RowKit
set_option linter.unusedVariables false
set_option maxRecDepth 20000

theorem hSize_any (t b k : Int) (w : World) : Calls Tryd.prog 22 #[.int .i64 t, .int .i64 b, .int .i64 k] w fun e w' => e = .returned (.int .i64 (hsize t b k : Nat)) ∧ Below w.heap.size w w' := by
  have C1 := hid (sSize_any t k); have C2 := hid (sSize_any b k)
  have B0 : Hid (Below w.heap.size w w) := Below.refl _ _
  by_cases hn : hkeys t b k = 0
  · have e1 : hsize t b k = 0 := by unfold hsize; rw [if_pos hn]
    rw [e1]
    by_cases h1 : tkeys t k = 0
    · rw [tsize_zero h1] at C1
      generalize tsize b k = y at C2
      clear hn e1 h1
      go_enter Tryd.func22, Tryd.ntmps22
      go_wp2_with (first
        | (go_at_call 52; (with_reducible refine (C1.out _).mono ?_); rintro e w1 ⟨rfl, hb1⟩; have B1 := hid (B0.out.trans (hb1.mono B0.out.size)); clear hb1)
        | (go_at_call 52; refine (C2.out _).mono ?_; rintro e w2 ⟨rfl, hb2⟩; have B2 := hid (B1.out.trans (hb2.mono B1.out.size)); clear hb2))
      go_ret
      exact ⟨rfl, B2.out⟩
    · have h2 : tkeys b k = 0 := (hkeys_no hn).resolve_left h1
      have hx : tsize t k ≠ 0 := by obtain ⟨a, c⟩ := tkeys_kd h1; rw [tsize_ok a c]; omega
      rw [tsize_zero h2] at C2
      have hxb : (((tsize t k : Nat) : Int) == 0) = false := by simp; exact hx
      have hxn : ¬ ((tsize t k : Nat) : Int) = 0 := by omega
      generalize tsize t k = x at C1 hxb hxn
      clear hn e1 h1 h2 hx
      go_enter Tryd.func22, Tryd.ntmps22
      go_wp2_with (first
        | (go_at_call 52; (with_reducible refine (C1.out _).mono ?_); rintro e w1 ⟨rfl, hb1⟩; have B1 := hid (B0.out.trans (hb1.mono B0.out.size)); clear hb1)
        | (go_at_call 52; refine (C2.out _).mono ?_; rintro e w2 ⟨rfl, hb2⟩; have B2 := hid (B1.out.trans (hb2.mono B1.out.size)); clear hb2))
      go_ret
      exact ⟨rfl, B2.out⟩
  · obtain ⟨h1, h2, hk⟩ := hkeys_kd hn
    have e1 : ((hsize t b k : Nat) : Int) = 4 + (tsize t k : Nat) + 56 + (tsize b k : Nat) := by rw [hsize_ok hn]; omega
    rw [e1]
    have hx : tsize t k ≠ 0 := by rw [tsize_ok h1 hk]; omega
    have hy : tsize b k ≠ 0 := by rw [tsize_ok h2 hk]; omega
    have l1 := tsize_lim (h := t) (k := k); have l2 := tsize_lim (h := b) (k := k)
    have hxb : (((tsize t k : Nat) : Int) == 0) = false := by simp; exact hx
    have hxn : ¬ ((tsize t k : Nat) : Int) = 0 := by omega
    have hyb : (((tsize b k : Nat) : Int) == 0) = false := by simp; exact hy
    have hyn : ¬ ((tsize b k : Nat) : Int) = 0 := by omega
    generalize tsize t k = x at C1 hxb hxn l1 hx
    generalize tsize b k = y at C2 hyb hyn l2 hy
    have w1' : IntKind.i64.wrap (4 + (x : Int)) = 4 + (x : Int) := IntWalk.i64_in _ (by omega)
    have w2' : IntKind.i64.wrap (4 + (x : Int) + 56) = 4 + (x : Int) + 56 := IntWalk.i64_in _ (by omega)
    have w3' : IntKind.i64.wrap (4 + (x : Int) + 56 + (y : Int)) = 4 + (x : Int) + 56 + (y : Int) := IntWalk.i64_in _ (by omega)
    clear hn e1 h1 h2 hk hx hy l1 l2
    go_enter Tryd.func22, Tryd.ntmps22
    go_wp2_with (first
      | (go_at_call 52; (with_reducible refine (C1.out _).mono ?_); rintro e w1 ⟨rfl, hb1⟩; have B1 := hid (B0.out.trans (hb1.mono B0.out.size)); clear hb1)
      | (go_at_call 52; refine (C2.out _).mono ?_; rintro e w2 ⟨rfl, hb2⟩; have B2 := hid (B1.out.trans (hb2.mono B1.out.size)); clear hb2))
    go_ret
    exact ⟨by simp_all, B2.out⟩
theorem uKeys_any (t b k : Int) (w : World) : Calls Tryd.prog 24 #[.int .i64 t, .int .i64 b, .int .i64 k] w fun e w' => e = .returned (.int .i64 (hkeys t b k : Nat)) ∧ w = w' := by
  have C1 := hid (tKeys_any t k); have C2 := hid (tKeys_any b k)
  have l1 := tkeys_le t k; have l2 := tkeys_le b k
  have hm : tkeys t k * tkeys b k ≤ 16 * 16 := Nat.mul_le_mul l1 l2
  have he : ((hkeys t b k : Nat) : Int) = (tkeys t k : Int) * (tkeys b k : Int) := by unfold hkeys; rw [Int.natCast_mul]
  rw [he]
  have hw : IntKind.i64.wrap ((tkeys t k : Int) * (tkeys b k : Int)) = (tkeys t k : Int) * (tkeys b k : Int) := IntWalk.i64_in _ (by rw [← Int.natCast_mul]; omega)
  generalize tkeys t k = x at C1 hw
  generalize tkeys b k = y at C2 hw
  clear l1 l2 hm he
  go_enter Tryd.func24, Tryd.ntmps24
  go_wp2_with (first
    | (go_at_call 55; (with_reducible refine (C1.out _).mono ?_); rintro e wq ⟨rfl, rfl⟩)
    | (go_at_call 55; refine (C2.out _).mono ?_; rintro e wq ⟨rfl, rfl⟩))
  go_ret
  exact ⟨by simp_all, rfl⟩
theorem uSize_any (t b k : Int) (w : World) : Calls Tryd.prog 23 #[.int .i64 t, .int .i64 b, .int .i64 k] w fun e w' => e = .returned (.int .i64 (hsize t b k : Nat)) ∧ w = w' := by
  have CK := hid (uKeys_any t b k)
  have C1 := hid (tSize_any t k); have C2 := hid (tSize_any b k)
  by_cases hn : hkeys t b k = 0
  · have e1 : hsize t b k = 0 := by unfold hsize; rw [if_pos hn]
    rw [e1]
    rw [hn] at CK
    clear hn e1
    go_enter Tryd.func23, Tryd.ntmps23
    go_wp2_with (go_at_call 24; refine (CK.out _).mono ?_; rintro e wq ⟨rfl, rfl⟩)
    go_ret
    exact ⟨rfl, rfl⟩
  · have e1 : ((hsize t b k : Nat) : Int) = 4 + (tsize t k : Nat) + 56 + (tsize b k : Nat) := by rw [hsize_ok hn]; omega
    rw [e1]
    have l1 := tsize_lim (h := t) (k := k); have l2 := tsize_lim (h := b) (k := k)
    have hxb : (((hkeys t b k : Nat) : Int) == 0) = false := by simp; exact hn
    have hxn : ¬ ((hkeys t b k : Nat) : Int) = 0 := by omega
    generalize hkeys t b k = K at CK hxb hxn hn
    generalize tsize t k = x at C1 l1
    generalize tsize b k = y at C2 l2
    have w1' : IntKind.i64.wrap (4 + (x : Int)) = 4 + (x : Int) := IntWalk.i64_in _ (by omega)
    have w2' : IntKind.i64.wrap (4 + (x : Int) + 56) = 4 + (x : Int) + 56 := IntWalk.i64_in _ (by omega)
    have w3' : IntKind.i64.wrap (4 + (x : Int) + 56 + (y : Int)) = 4 + (x : Int) + 56 + (y : Int) := IntWalk.i64_in _ (by omega)
    clear hn e1 l1 l2
    go_enter Tryd.func23, Tryd.ntmps23
    go_wp2_with (first
      | (go_at_call 24; refine (CK.out _).mono ?_; rintro e wq ⟨rfl, rfl⟩)
      | (go_at_call 56; (with_reducible refine (C1.out _).mono ?_); rintro e wq ⟨rfl, rfl⟩)
      | (go_at_call 56; refine (C2.out _).mono ?_; rintro e wq ⟨rfl, rfl⟩))
    go_ret
    exact ⟨by simp_all, rfl⟩

/-- one part, two parts -/
theorem inR_1 {w : World} {g : Nat} {A : Option Addr} {m c : Nat} {xs : List Int} (hb : Blk w g 29 #[.slice A m c]) (hm : m = xs.length) (hr : Rp w none A xs) (hx : Bs xs) (hc : m ≤ c) (hl : m ≤ 300) : InR w (some ⟨g, 0, none⟩) 1 [xs] := by
  subst hm
  refine ⟨rfl, by decide, fun _ => ⟨g, 0, rfl, hb.lt, fun i hi => ?_⟩⟩
  obtain rfl : i = 0 := by omega
  exact ⟨A, c, xs, rfl, by rw [hb.cell]; rfl, hx, hr, hc, by omega⟩
theorem inR_2 {w : World} {g : Nat} {A B : Option Addr} {m c n d : Nat} {xs ys : List Int} (hb : Blk w g 29 #[.slice A m c, .slice B n d]) (hm : m = xs.length) (hr : Rp w none A xs) (hx : Bs xs) (hc : m ≤ c) (hl : m ≤ 300)
    (hn : n = ys.length) (hs : Rp w none B ys) (hy : Bs ys) (hd : n ≤ d) (hk : n ≤ 300) : InR w (some ⟨g, 0, none⟩) 2 [xs, ys] := by
  subst hm hn
  refine ⟨rfl, by decide, fun _ => ⟨g, 0, rfl, hb.lt, fun i hi => ?_⟩⟩
  have h01 : i = 0 ∨ i = 1 := by omega
  rcases h01 with rfl | rfl
  · exact ⟨A, c, xs, rfl, by rw [hb.cell]; rfl, hx, hr, hc, by omega⟩
  · exact ⟨B, d, ys, rfl, by rw [hb.cell]; rfl, hy, hs, hd, by omega⟩
theorem hfour_any (i : Nat) (w : World) (hi : i < 4294967296) : Calls Tryd.prog 95 #[.int .i64 (i : Nat)] w fun e w' => ∃ g, e = .returned (.slice (some ⟨g, 0, none⟩) 4 4) ∧ w.heap.size ≤ g ∧ Blk w' g 5 (u8s (be (i : Int) 4)).toArray ∧ Below w.heap.size w w' := by
  obtain ⟨Z, hz, hz0, z0, z1, z2, z3, z4, hZs⟩ := zero_writer
  have hW0 : WAt (w.alloc (.cells Z 69)) w.heap.size [] := new_writer (Blk.new w 69 Z) hz z0.out z1.out z2.out z3.out
  have HW0 : Hid (WRep (w.alloc (.cells Z 69)) (some ⟨w.heap.size, 0, none⟩) (.good [])) := ⟨_, rfl, hW0⟩
  have B0 : Hid (Below w.heap.size w (w.alloc (.cells Z 69))) := (Below.refl _ _).alloc (Nat.le_refl _) _
  have HOF : Hid (∀ k, Of (some ⟨w.heap.size, 0, none⟩) k → w.heap.size ≤ k) := by rintro k ⟨a, ha, rfl⟩; injection ha with ha; subst ha; show w.heap.size ≤ w.heap.size; omega
  have SK : Hid (w.heap.size < (w.alloc (.cells Z 69)).heap.size) := by show _ < _; simp
  have H1 := hid (WU32_any (some ⟨w.heap.size, 0, none⟩) (.good []) (i : Int) _ HW0.out ⟨by omega, by omega⟩ (by simp [WS.len]))
  have hwr : IntKind.u32.wrap (i : Int) = (i : Int) := by simp [IntKind.wrap, IntKind.bits, IntKind.signed]; omega
  have HPL : Hid ((be (i : Int) 4).length = 4) := be_length _ _
  obtain ⟨PB, hPB⟩ : ∃ PB, PB = be (i : Int) 4 := ⟨_, rfl⟩
  rw [← hPB] at HPL H1 ⊢
  clear hz z0 z1 z2 z3 z4 hW0 HW0 hi hPB
  go_enter Tryd.func95, Tryd.ntmps95
  go_wp2_with (first
    | (go_at_call 37; refine H1.out.mono ?_; rintro e w1 ⟨rfl, hw1, ho1⟩; have B1 := hid (B0.out.trans (ho1.below (Nat.le_of_lt SK.out) HOF.out)); have hw1 : WRep w1 (some ⟨w.heap.size, 0, none⟩) (.good PB) := hw1; have H5 := Out_good (some ⟨w.heap.size, 0, none⟩) PB w1 hw1 (by rw [HPL.out]; decide); rw [HPL.out] at H5; have H5 := hid H5; clear hw1 ho1)
    | (go_at_call 42; refine H5.out.mono ?_; rintro e w5 ⟨rfl, hk5, hb5⟩; have K5 := hid hk5; have B5 := hid (B1.out.trans (hb5.mono B1.out.size)); clear hk5 hb5))
  go_ret
  exact ⟨w1.heap.size, rfl, B1.out.size, K5.out, B5.out⟩
/-- an id lies where it lay -/
structure Gw (id : List Int) (gi : Nat) (w w' : World) : Prop where
  b0 : Blk w' (gi) 23 (u8s id).toArray
  bl : Below w.heap.size w w'
section
variable {id : List Int} {gi : Nat} {w w' w2 : World}
theorem Gw.below (h : Gw id gi w w') (hb : Below w'.heap.size w' w2) : Gw id gi w w2 := ⟨h.b0.below hb, h.bl.trans (hb.mono h.bl.size)⟩
theorem Gw.drew (h : Gw id gi w w') : Gw id gi w w'.drew := h.below ((Below.refl _ _).drew)
theorem Gw.alloc (h : Gw id gi w w') (o : Obj) : Gw id gi w (w'.alloc o) := h.below ((Below.refl _ _).alloc (Nat.le_refl _) _)
theorem Gw.row (h : Gw id gi w w') {g : Nat} (n0 : gi ≠ g) (hg : w.heap.size ≤ g) (cs : Array Value) : Gw id gi w (w'.setRow g cs) := ⟨h.b0.rowFar n0 cs, below_setRow h.bl hg cs⟩
end
theorem splice_all (cur cs : List Value) (h : cur.length = cs.length) : splice cur 0 cs = cs := by
  unfold splice
  simp [h]
set_option maxHeartbeats 4000000 in
theorem hgrow_any (h k : Int) (A : Option Addr) (n c : Nat) (L : List (List Int)) (w : World) (h1 : 1 ≤ h ∧ h ≤ 4) (hk : Kd k) (hr : InR w A n L) (hn : n ≤ 20) (hL : ∀ f ∈ L, f.length ≤ 300) (ht : Tab w) :
    Calls Tryd.prog 64 #[.int .i64 h, .int .i64 k, .slice A n c] w fun e w' => ∃ t, e = .returned (.tuple #[.pointer (some ⟨t, 0, none⟩), .int .i64 0]) ∧ w.heap.size ≤ t ∧ TreeAt w' t h k ((sum (textL 105 L)).take 16) (sum (textL 115 L)) ∧ Below w.heap.size w w' := by
  obtain ⟨Z, HZ, hZ0, hZs⟩ := zero_Hash
  obtain ⟨ZI, HZI, hZI0, hZIs⟩ := zero_I
  have hz32 : Z.size = 32 := by rw [HZ.out, List.size_toArray, u8s_length]; simp
  have CT1 := hid (fun w1 (hb : Below w.heap.size w w1) => Tagged_any 105 A n c L w1 (hr.below hb) hn hL (by decide) (ht.below hb))
  have CT2 := hid (fun w1 (hb : Below w.heap.size w w1) => Tagged_any 115 A n c L w1 (hr.below hb) hn hL (by decide) (ht.below hb))
  have hi : Idn ((sum (textL 105 L)).take 16) := ⟨by rw [List.length_take, sum_length]; rfl, (sum_bs _).take _⟩
  have hs : Ky (sum (textL 115 L)) := ⟨sum_length _, sum_bs _⟩
  have hh : Ky (sum (textL 105 L)) := ⟨sum_length _, sum_bs _⟩
  have CN := hid (fun w1 (hb : Below w.heap.size w w1) => sNew_kd h k ((sum (textL 105 L)).take 16) (sum (textL 115 L)) w1 h1 hk hi hs (ht.below hb))
  generalize sum (textL 115 L) = SD at CT2 CN hs ⊢
  generalize sum (textL 105 L) = HH at CT1 CN hi hh ⊢
  obtain ⟨ID, hID⟩ : ∃ ID, ID = HH.take 16 := ⟨_, rfl⟩
  rw [← hID] at CN hi ⊢
  have HIDE := hid hID
  have IDI := hid (id_info hi); have IDL := hid hi.len; have HHL := hid hh.len
  have HI := hid (info_hash HH hh.len); have HZ32 : Hid (Z.size = (u8s HH).toArray.size) := hz32.trans (hash_size hh.len).symm
  have HSU : Hid ((Tryd.prog.info? 5).map (·.size) = some 1) := by show _ = _; kernel_rfl
  have K0 : Hid (Blk (w.alloc (.cells ZI 23)) w.heap.size 23 ZI) := Blk.new w 23 ZI
  have B0 : Hid (Below w.heap.size w (w.alloc (.cells ZI 23))) := (Below.refl _ _).alloc (Nat.le_refl _) _
  have S0 : Hid (w.heap.size < (w.alloc (.cells ZI 23)).heap.size) := by show _ < _; simp
  clear hr hL ht hi hs hh h1 hk hID hz32 hn
  go_enter Tryd.func64, Tryd.ntmps64
  go_wp2_with (first
    | (go_at_call 92; refine (CT1.out _ B0.out).mono ?_; rintro e w1 ⟨rfl, hb1⟩; have K1 := hid (K0.out.below hb1); have B1 := hid (B0.out.trans (hb1.mono B0.out.size)); clear hb1)
    | (refine wpList_store_row rfl 26 (.tmp 9) (.tmp 11) rfl w1.heap.size (u8s HH).toArray rfl rfl 26 Z (Blk.new w1 26 Z) HI.out HZ32.out (u8s_all HH) ?_; have hbb : Below w1.heap.size w1 ((w1.alloc (.cells Z 26)).setRow w1.heap.size (u8s HH).toArray) := below_setRow ((Below.refl _ _).alloc (Nat.le_refl _) _) (Nat.le_refl _) _; have P2 : Hid (Blk ((w1.alloc (.cells Z 26)).setRow w1.heap.size (u8s HH).toArray) w1.heap.size 26 (u8s HH).toArray) := (Blk.new w1 26 Z).row _; have K2 := hid (K1.out.below hbb); have B2 := hid (B1.out.trans (hbb.mono B1.out.size)); clear hbb; generalize (w1.alloc (.cells Z 26)).setRow w1.heap.size (u8s HH).toArray = w2 at P2 K2 B2 ⊢; generalize w1.heap.size = gh at P2 ⊢))
  have HP : Hid (0 < (u8s ID).length → (some ⟨w.heap.size, 0, none⟩ : Option Addr) = some ⟨w.heap.size, 0, none⟩ ∧ ∃ ad, (some ⟨gh, 0, none⟩ : Option Addr) = some ad ∧ ∀ j v, (u8s ID)[j]? = some v → w2.drew.cell? (ad.add j) = some v) := fun _ => ⟨rfl, _, rfl, fun j v hv => by
    rw [Addr.add_mid, P2.out.drew.cell, Nat.zero_add, List.getElem?_toArray]
    rw [HIDE.out] at hv
    unfold u8s at hv ⊢
    rw [List.map_take, List.getElem?_take] at hv
    split at hv
    · exact hv
    · cases hv⟩
  have HN1 : Hid ((u8s ID).length = Nat.min 32 16) := by show _ = 16; rw [u8s_length, IDL.out]
  have HZC : Hid (w2.drew.heap[w.heap.size]? = some (.cells (u8s (List.replicate 16 0)).toArray 23 (0, 0))) := by
    show _ = _
    rw [← HZI.out]; exact K2.out.drew
  have HF : Hid (0 + (u8s ID).length ≤ (u8s (List.replicate 16 0)).length) := by show _ ≤ _; rw [u8s_length, u8s_length, IDL.out]; simp
  have HBB : Hid (Below w.heap.size w2 w2.drew) := (Below.refl _ _).drew
  have HSP : Hid (splice (u8s (List.replicate 16 0)) 0 (u8s ID) = u8s ID) := splice_all _ _ (by rw [u8s_length, u8s_length, IDL.out]; simp)
  try go_frame
  go_region_law ((with_reducible refine step_copy_splice (d := .tmp 12) (s := .tmp 13) (dT := 29) (sT := 29) (elem := 5) (dp := some (⟨w.heap.size, 0, none⟩ : Addr)) (sp := some (⟨gh, 0, none⟩ : Addr)) (dLen := 16) (dCap := 16) (sLen := 32) (sCap := 32) (g := w.heap.size) (off := 0) (cur := u8s (List.replicate 16 0)) (t := 23) (cs := u8s ID) (B := w.heap.size) (w0 := w2) ?_ ?_ ?_ ?_ ?_ ?_ ?_ ?_ ?_ ?_ ?_ ?_ ?_ ?_); rfl; rfl; exact Tryd.underlying29; exact HSU.out; go_simp; go_simp; exact HZC.out; exact HN1.out; exact HP.out; exact HF.out; exact u8s_one _; exact HBB.out; exact Nat.le_refl _; intro w4 hg4 hb4)
  have GT : Hid (Gw ID w.heap.size w w4) := ⟨by rw [HSP.out] at hg4; exact hg4.out, B2.out.trans (hb4.mono (Nat.le_refl _))⟩
  clear hg4 hb4 HP HN1 HZC HF HBB HSP K0 K1 K2 B0 B1 B2 P2 S0 CT1 hZs hZIs hZ0 hZI0
  go_wp2_with fail
  refine wp_region_held (S := fun w' => Hid (Gw ID w.heap.size w w')) (by kernel_rfl) ?_
  change wpAnyH _ _ _ _ _ _ _ _ w4.drew
  have Gx0 : Hid (Gw ID w.heap.size w w4.drew) := GT.out.drew
  have HBx0 : Below w4.heap.size w4 w4.drew := (Below.refl _ _).drew
  clear HBx0
  generalize w4.drew = x0 at Gx0  ⊢
  refine wpAnyH_take (i := 0) (oi := { dst := some 15, op := _, type := _, pos := _, after := _, guard := _ }) (v := ?_) rfl (by kernel_rfl) (by kernel_rfl) (by kernel_rfl) (fun _ _ _ h => h) (Or.inl ⟨by kernel_rfl, ?_⟩) (by assumption) ?_
  rotate_left
  · (intro w hSw; go_simp; try with_reducible rfl)
  try simp only [Act.put, List.setIfInBounds_toArray, List.set_cons_zero, List.set_cons_succ]
  refine wpAnyH_take (i := 1) (oi := { dst := some 16, op := _, type := _, pos := _, after := _, guard := _ }) (v := ?_) rfl (by kernel_rfl) (by kernel_rfl) (by kernel_rfl) (fun _ _ _ h => h) (Or.inl ⟨by kernel_rfl, ?_⟩) (by assumption) ?_
  rotate_left
  · (intro w hSw; go_simp; try with_reducible rfl)
  try simp only [Act.put, List.setIfInBounds_toArray, List.set_cons_zero, List.set_cons_succ]
  refine wpAnyH_take (i := 2) (oi := { dst := some 17, op := _, type := _, pos := _, after := _, guard := _ }) (v := .agg ((u8s ID).toArray)) rfl (by kernel_rfl) (by kernel_rfl) (by kernel_rfl) (fun _ _ _ h => h) (yieldsIf_load_mid (cs := u8s ID) (by rfl) _ _ rfl _ _ rfl _ (fun w' hSw => (blk_row (Hid.out hSw).b0)) Tryd.underlying23 rfl IDI.out) (by assumption) ?_
  try simp only [Act.put, List.setIfInBounds_toArray, List.set_cons_zero, List.set_cons_succ]
  refine wpAnyH_take (i := 3) (oi := { dst := some 18, op := _, type := _, pos := _, after := _, guard := _ }) (v := ?_) rfl (by kernel_rfl) (by kernel_rfl) (by kernel_rfl) (fun _ _ _ h => h) (Or.inl ⟨by kernel_rfl, ?_⟩) (by assumption) ?_
  rotate_left
  · (intro w hSw; go_simp; try with_reducible rfl)
  try simp only [Act.put, List.setIfInBounds_toArray, List.set_cons_zero, List.set_cons_succ]
  refine wpAnyH_ready (rs := [4]) (by kernel_rfl) (by simp) ?_
  refine (AllReadyH.cons (o := { dst := some 19, op := _, type := _, pos := _, after := _, guard := _ }) rfl (fun Qc hQc => ?_) AllReadyH.nil)
  go_simp
  go_at_call 92; refine (CT2.out _ Gx0.out.bl).mono ?_; rintro e x1 ⟨rfl, hbx1⟩
  have Gx1 := hid (Gx0.out.below hbx1)
  clear hbx1
  go_wp2_with fail
  refine hQc.out _ _ Gx1 (fun hHeld => ?_)
  clear hQc Qc Gx0
  try simp only [Act.put, List.setIfInBounds_toArray, List.set_cons_zero, List.set_cons_succ]
  refine wpAnyH_ready (rs := [5]) (by kernel_rfl) (by simp) ?_
  refine (AllReadyH.cons (o := { dst := some 20, op := _, type := _, pos := _, after := _, guard := _ }) rfl (fun Qc hQc => ?_) AllReadyH.nil)
  go_simp
  go_at_call 18; refine (CN.out _ Gx1.out.bl).mono ?_; rintro e x2 ⟨t, rfl, htl, htr, hbx2⟩; have HTR := hid htr; have HTL := hid (Nat.le_trans Gx1.out.bl.size htl); clear htr htl
  have Gx2 := hid (Gx1.out.below hbx2)
  clear hbx2
  go_wp2_with fail
  refine hQc.out _ _ Gx2 (fun hHeld => ?_)
  clear hQc Qc Gx1
  try simp only [Act.put, List.setIfInBounds_toArray, List.set_cons_zero, List.set_cons_succ]
  refine wpAnyH_take (i := 6) (oi := { dst := some 21, op := _, type := _, pos := _, after := _, guard := _ }) (v := ?_) rfl (by kernel_rfl) (by kernel_rfl) (by kernel_rfl) (fun _ _ _ h => h) (Or.inl ⟨by kernel_rfl, ?_⟩) (by assumption) ?_
  rotate_left
  · (intro w hSw; go_simp; try with_reducible rfl)
  try simp only [Act.put, List.setIfInBounds_toArray, List.set_cons_zero, List.set_cons_succ]
  refine wpAnyH_take (i := 7) (oi := { dst := some 22, op := _, type := _, pos := _, after := _, guard := _ }) (v := ?_) rfl (by kernel_rfl) (by kernel_rfl) (by kernel_rfl) (fun _ _ _ h => h) (Or.inl ⟨by kernel_rfl, ?_⟩) (by assumption) ?_
  rotate_left
  · (intro w hSw; go_simp; try with_reducible rfl)
  try simp only [Act.put, List.setIfInBounds_toArray, List.set_cons_zero, List.set_cons_succ]
  refine wpAnyH_take (i := 8) (oi := { dst := some 6, op := _, type := _, pos := _, after := _, guard := _ }) (v := ?_) rfl (by kernel_rfl) (by kernel_rfl) (by kernel_rfl) (fun _ _ _ h => h) (Or.inl ⟨by kernel_rfl, ?_⟩) (by assumption) ?_
  rotate_left
  · (intro w hSw; go_simp; try with_reducible rfl)
  try simp only [Act.put, List.setIfInBounds_toArray, List.set_cons_zero, List.set_cons_succ]
  refine wpAnyH_take (i := 9) (oi := { dst := some 7, op := _, type := _, pos := _, after := _, guard := _ }) (v := ?_) rfl (by kernel_rfl) (by kernel_rfl) (by kernel_rfl) (fun _ _ _ h => h) (Or.inl ⟨by kernel_rfl, ?_⟩) (by assumption) ?_
  rotate_left
  · (intro w hSw; go_simp; try with_reducible rfl)
  try simp only [Act.put, List.setIfInBounds_toArray, List.set_cons_zero, List.set_cons_succ]
  refine wpAnyH_done (by kernel_rfl) ?_ _
  try simp only [Act.put, List.setIfInBounds_toArray, List.set_cons_zero, List.set_cons_succ]
  have GE := hid Gx2.out.bl
  go_wp2_with fail
  go_ret2
  exact ⟨t, rfl, HTL.out, HTR.out, GE.out⟩
end Go.Proofs.YtobceieadjpaaaaDoor
/-
  What is proved here: the code's signer, made; how many signatures it has, and its public key; the fixed fact that each statement on signers asks first; a nil signer signs nothing.
-/
namespace Go.Proofs.YtobceieadjpaaaaDoor
open Go.ChangeShapes Go.WideShapes Go.ChangeAt Go.RowKit
set_option linter.unusedVariables false
set_option maxRecDepth 20000

/-- a signer's cells -/
def signC (b k : Int) (sd : List Int) (t : Nat) (la : Option Addr) (p : Int) : Array Value := (Value.int .i64 b :: Value.int .i64 k :: (u8s sd ++ [Value.pointer (some ⟨t, 0, none⟩), .pointer la, .int .i64 p])).toArray
theorem sign_lit : ∀ (b k : Int) (g : Nat) (b0 b1 b2 b3 b4 b5 b6 b7 b8 b9 b10 b11 b12 b13 b14 b15 b16 b17 b18 b19 b20 b21 b22 b23 b24 b25 b26 b27 b28 b29 b30 b31 : Int),
    Tryd.prog.built 100 [(0, .int .i64 b), (1, .int .i64 k), (2, .agg (u8s [b0, b1, b2, b3, b4, b5, b6, b7, b8, b9, b10, b11, b12, b13, b14, b15, b16, b17, b18, b19, b20, b21, b22, b23, b24, b25, b26, b27, b28, b29, b30, b31]).toArray), (3, .pointer (some ⟨g, 0, none⟩))] =
    some (signC b k [b0, b1, b2, b3, b4, b5, b6, b7, b8, b9, b10, b11, b12, b13, b14, b15, b16, b17, b18, b19, b20, b21, b22, b23, b24, b25, b26, b27, b28, b29, b30, b31] g none 0) := by
  intros
  kernel_rfl
theorem sign_built (b k : Int) (sd : List Int) (g : Nat) (hs : Ky sd) : Tryd.prog.built 100 [(0, .int .i64 b), (1, .int .i64 k), (2, .agg (u8s sd).toArray), (3, .pointer (some ⟨g, 0, none⟩))] = some (signC b k sd g none 0) := by
  obtain ⟨b0, b1, b2, b3, b4, b5, b6, b7, b8, b9, b10, b11, b12, b13, b14, b15, b16, b17, b18, b19, b20, b21, b22, b23, b24, b25, b26, b27, b28, b29, b30, b31, rfl⟩ := len_32 sd hs.len
  exact sign_lit ..
section
variable (b k : Int) {sd : List Int} (hs : Ky sd) (t : Nat) (la : Option Addr) (p : Int)
theorem signC_b : (signC b k sd t la p)[0]? = some (.int .i64 b) := by unfold signC; rw [List.getElem?_toArray]; rfl
theorem signC_k : (signC b k sd t la p)[1]? = some (.int .i64 k) := by unfold signC; rw [List.getElem?_toArray]; rfl
include hs in
theorem signC_t : (signC b k sd t la p)[34]? = some (.pointer (some ⟨t, 0, none⟩)) := by
  unfold signC
  rw [List.getElem?_toArray, show (34 : Nat) = 32 + 1 + 1 from rfl, List.getElem?_cons_succ, List.getElem?_cons_succ, List.getElem?_append_right (by rw [u8s_length, hs.len]; omega), u8s_length, hs.len]
  rfl
include hs in
theorem signC_l : (signC b k sd t la p)[35]? = some (.pointer la) := by
  unfold signC
  rw [List.getElem?_toArray, show (35 : Nat) = 33 + 1 + 1 from rfl, List.getElem?_cons_succ, List.getElem?_cons_succ, List.getElem?_append_right (by rw [u8s_length, hs.len]; omega), u8s_length, hs.len]
  rfl
include hs in
theorem signC_p : (signC b k sd t la p)[36]? = some (.int .i64 p) := by
  unfold signC
  rw [List.getElem?_toArray, show (36 : Nat) = 34 + 1 + 1 from rfl, List.getElem?_cons_succ, List.getElem?_cons_succ, List.getElem?_append_right (by rw [u8s_length, hs.len]; omega), u8s_length, hs.len]
  rfl
theorem sign_sd {w : World} {s : Nat} (hb : Blk w s 100 (signC b k sd t la p)) : w.rangeAt s 2 (u8s sd) := fun j v hv => by
  have hj : j < (u8s sd).length := by
    rcases Nat.lt_or_ge j (u8s sd).length with h1 | h1
    · exact h1
    · rw [List.getElem?_eq_none h1] at hv; cases hv
  rw [hb.cell]
  unfold signC
  rw [List.getElem?_toArray, show 2 + j = j + 1 + 1 by omega, List.getElem?_cons_succ, List.getElem?_cons_succ, List.getElem?_append_left hj]
  exact hv
end
/-- the bottom tree that was used last -/
def LastAt (w : World) (b k : Int) (sd : List Int) (la : Option Addr) (p : Int) : Prop := la = none ∨ ∃ l j : Nat, la = some ⟨l, 0, none⟩ ∧ p = (j : Nat) ∧ TreeAt w l b k (cid sd (.some j)) (csd sd (.some j))
/-- a signer lies at s -/
def SignAt (w : World) (s : Nat) (t b k : Int) (sd : List Int) : Prop := ∃ g la p, Blk w s 100 (signC b k sd g la p) ∧ TreeAt w g t k (cid sd .none) (csd sd .none) ∧ LastAt w b k sd la p
theorem LastAt.below {w w' : World} {b k : Int} {sd : List Int} {la : Option Addr} {p : Int} (h : LastAt w b k sd la p) (hb : Below w.heap.size w w') : LastAt w' b k sd la p := by
  rcases h with h | ⟨l, j, h1, h2, h3⟩
  · exact .inl h
  · exact .inr ⟨l, j, h1, h2, h3.below hb⟩
theorem SignAt.below {w w' : World} {s : Nat} {t b k : Int} {sd : List Int} (h : SignAt w s t b k sd) (hb : Below w.heap.size w w') : SignAt w' s t b k sd := by
  obtain ⟨g, la, p, h1, h2, h3⟩ := h
  exact ⟨g, la, p, h1.below hb, h2.below hb, h3.below hb⟩
theorem SignAt.lt {w : World} {s : Nat} {t b k : Int} {sd : List Int} (h : SignAt w s t b k sd) : s < w.heap.size := by
  obtain ⟨g, la, p, h1, h2, h3⟩ := h
  exact h1.lt

theorem hNew_no (t b k : Int) (sd : List Int) (w : World) (hn : hkeys t b k = 0) :
    Calls Tryd.prog 26 #[.int .i64 t, .int .i64 b, .int .i64 k, .agg (u8s sd).toArray] w fun e w' => e = .returned (.tuple #[.pointer none, .int .i64 1]) ∧ Below w.heap.size w w' := by
  have B0 : Hid (Below w.heap.size w (w.alloc (.cells (u8s sd).toArray 26))) := (Below.refl _ _).alloc (Nat.le_refl _) _
  have CZ := hid (hSize_any t b k)
  have e1 : hsize t b k = 0 := by unfold hsize; rw [if_pos hn]
  rw [e1] at CZ
  clear hn e1
  go_enter Tryd.func26, Tryd.ntmps26
  go_wp2_with (go_at_call 22; refine (CZ.out _).mono ?_; rintro e w1 ⟨rfl, hb1⟩; have B1 := hid (B0.out.trans (hb1.mono B0.out.size)); clear hb1)
  go_ret2
  exact ⟨rfl, B1.out⟩
set_option maxHeartbeats 4000000 in
theorem hNew_kd (t b k : Int) (sd : List Int) (w : World) (h1 : 1 ≤ t ∧ t ≤ 4) (h2 : 1 ≤ b ∧ b ≤ 4) (hk : Kd k) (hs : Ky sd) (ht : Tab w) :
    Calls Tryd.prog 26 #[.int .i64 t, .int .i64 b, .int .i64 k, .agg (u8s sd).toArray] w fun e w' => ∃ s, e = .returned (.tuple #[.pointer (some ⟨s, 0, none⟩), .int .i64 0]) ∧ w.heap.size ≤ s ∧ SignAt w' s t b k sd ∧ Below w.heap.size w w' := by
  have K0 : Hid (Blk (w.alloc (.cells (u8s sd).toArray 26)) w.heap.size 26 (u8s sd).toArray) := Blk.new _ _ _
  have B0 : Hid (Below w.heap.size w (w.alloc (.cells (u8s sd).toArray 26))) := (Below.refl _ _).alloc (Nat.le_refl _) _
  have CZ := hid (hSize_any t b k)
  have hz : hsize t b k ≠ 0 := by rw [hsize_ok (hkeys_pos h1 h2 hk)]; omega
  have hzb : (((hsize t b k : Nat) : Int) == 0) = false := by simp; exact hz
  have hzn : ¬ ((hsize t b k : Nat) : Int) = 0 := by omega
  generalize hsize t b k = z at CZ hz hzb hzn
  have CG : Hid (∀ g w1, Blk w1 g 29 #[.slice (some ⟨w.heap.size, 0, none⟩) 32 32] → Blk w1 w.heap.size 26 (u8s sd).toArray → Below w.heap.size w w1 → Calls Tryd.prog 64 #[.int .i64 t, .int .i64 k, .slice (some ⟨g, 0, none⟩) 1 1] w1 fun e w' => ∃ tt, e = .returned (.tuple #[.pointer (some ⟨tt, 0, none⟩), .int .i64 0]) ∧ w1.heap.size ≤ tt ∧ TreeAt w' tt t k (cid sd .none) (csd sd .none) ∧ Below w1.heap.size w1 w') := fun g w1 hb1 hb2 hbl =>
    hgrow_any t k (some ⟨g, 0, none⟩) 1 1 [sd] w1 h1 hk (inR_1 hb1 hs.len.symm (blk_rp hb2) hs.bs (by decide) (by decide)) (by decide) (fun f hf => by simp at hf; rw [hf, hs.len]; decide) (ht.below hbl)
  have HSB := hid (fun g => sign_built b k sd g hs)
  have SDI := hid (hash_info hs.len)
  clear h1 h2 hk hs ht hz
  go_enter Tryd.func26, Tryd.ntmps26
  go_wp2_with (first
    | (go_at_call 22; refine (CZ.out _).mono ?_; rintro e w1 ⟨rfl, hb1⟩; have K1 := hid (K0.out.below hb1); have B1 := hid (B0.out.trans (hb1.mono B0.out.size)); clear hb1)
    | (go_at_call 64; refine (CG.out _ _ (Blk.new w1 29 _) (K1.out.alloc _) (B1.out.alloc B1.out.size _)).mono ?_; rintro e w2 ⟨g, rfl, hgl, htr, hb2⟩; have K2 := hid ((K1.out.alloc (.cells #[.slice (some ⟨w.heap.size, 0, none⟩) 32 32] 29)).below hb2); have B2 := hid ((B1.out.alloc B1.out.size (.cells #[.slice (some ⟨w.heap.size, 0, none⟩) 32 32] 29)).trans (hb2.mono (B1.out.alloc B1.out.size _).size)); have T2 := hid htr; have HSBg := HSB.out g; clear hb2 htr hgl)
    | (refine load_at rfl 26 (.tmp 7) rfl w.heap.size 0 rfl (u8s sd) _ (blk_row K2.out) Tryd.underlying26 rfl SDI.out (u8s sd).toArray rfl ?_)
    | (refine wpList_build rfl 100 _ rfl (by simp [Act.eval, HSBg]) ?_))
  have HB := hid (B2.out.alloc B2.out.size (.cells (signC b k sd g none 0) 100))
  have HT : Hid (SignAt (w2.alloc (.cells (signC b k sd g none 0) 100)) w2.heap.size t b k sd) := ⟨g, none, 0, Blk.new w2 100 _, T2.out.below ((Below.refl _ _).alloc (Nat.le_refl _) _), .inl rfl⟩
  have HZ := hid B2.out.size
  generalize w2.alloc (.cells (signC b k sd g none 0) 100) = wz at HT HB ⊢
  go_ret2
  exact ⟨w2.heap.size, rfl, HZ.out, HT.out, HB.out⟩
theorem heach_at (s : Nat) (t b k : Int) (sd : List Int) (w : World) (h2 : 1 ≤ b ∧ b ≤ 4) (hk : Kd k) (hs : Ky sd) (hsg : SignAt w s t b k sd) :
    Calls Tryd.prog 65 #[.pointer (some ⟨s, 0, none⟩)] w fun e w' => e = .returned (.int .i64 (tkeys b k : Nat)) ∧ w = w' := by
  obtain ⟨g, la, p, hb, _, _⟩ := hsg
  have c0 : w.cell? ⟨s, 0, none⟩ = some (.int .i64 b) := by rw [hb.cell]; exact signC_b ..
  have hsh := shl_keys h2 hk
  generalize ((tkeys b k : Nat) : Int) = K at hsh ⊢
  obtain ⟨a1, a2⟩ := h2
  clear hb hk hs
  go_enter Tryd.func65, Tryd.ntmps65
  go_wp2
  go_ret
  exact ⟨by simp_all, rfl⟩
theorem hkeys_le (t b k : Int) : hkeys t b k ≤ 256 := by
  have l1 := tkeys_le t k; have l2 := tkeys_le b k
  have hm : tkeys t k * tkeys b k ≤ 16 * 16 := Nat.mul_le_mul l1 l2
  unfold hkeys; omega
theorem hKeys_at (s : Nat) (t b k : Int) (sd : List Int) (w : World) (h2 : 1 ≤ b ∧ b ≤ 4) (hk : Kd k) (hs : Ky sd) (hsg : SignAt w s t b k sd) :
    Calls Tryd.prog 27 #[.pointer (some ⟨s, 0, none⟩)] w fun e w' => e = .returned (.int .i64 (hkeys t b k : Nat)) ∧ w = w' := by
  have CE := hid (heach_at s t b k sd w h2 hk hs hsg)
  obtain ⟨g, la, p, hb, htr, _⟩ := hsg
  have c34 : w.cell? ⟨s, 34, none⟩ = some (.pointer (some ⟨g, 0, none⟩)) := by rw [hb.cell]; exact signC_t _ _ hs ..
  have CK := hid (sKeys_at g t k _ _ w (cid_idn _ _) (csd_ky _ _) htr)
  have hle := hkeys_le t b k
  have he : ((hkeys t b k : Nat) : Int) = (tkeys t k : Int) * (tkeys b k : Int) := by unfold hkeys; rw [Int.natCast_mul]
  have hw : IntKind.i64.wrap ((tkeys t k : Int) * (tkeys b k : Int)) = (tkeys t k : Int) * (tkeys b k : Int) := IntWalk.i64_in _ (by rw [← he]; omega)
  rw [he]
  generalize ((tkeys t k : Nat) : Int) = x at CK hw
  generalize ((tkeys b k : Nat) : Int) = y at CE hw
  clear hb hk hs htr h2 hle he
  go_enter Tryd.func27, Tryd.ntmps27
  go_wp2_with (first
    | (go_at_call 50; refine CK.out.mono ?_; rintro e wq ⟨rfl, rfl⟩)
    | (go_at_call 65; refine CE.out.mono ?_; rintro e wq ⟨rfl, rfl⟩))
  go_ret
  exact ⟨by simp_all, rfl⟩
theorem hKeys_nil (w : World) : Calls Tryd.prog 27 #[.pointer none] w fun e w' => e = .returned (.int .i64 0) ∧ w = w' := by
  go_enter Tryd.func27, Tryd.ntmps27
  go_wp2
  go_ret
  exact ⟨rfl, rfl⟩
theorem hPublic_nil (w : World) : Calls Tryd.prog 29 #[.pointer none] w fun e w' => e = .returned (.slice none 0 0) ∧ w = w' := by
  go_enter Tryd.func29, Tryd.ntmps29
  go_wp2_with (go_at_call 27; refine (hKeys_nil _).mono ?_; rintro e w1 ⟨rfl, rfl⟩)
  go_ret
  exact ⟨rfl, rfl⟩
theorem hSign_nil (q : Int) (A : Option Addr) (n c : Nat) (w : World) : Calls Tryd.prog 31 #[.pointer none, .int .i64 q, .slice A n c] w fun e w' => e = .returned (.tuple #[.slice none 0 0, .int .i64 1]) ∧ w = w' := by
  go_enter Tryd.func31, Tryd.ntmps31
  go_wp2
  go_ret2
  exact ⟨rfl, rfl⟩
theorem rp_new {w : World} {p g : Nat} {xs : List Int} (h : Blk w g 5 (u8s xs).toArray) (hne : g ≠ p) : Rp w (some ⟨p, 0, none⟩) (some ⟨g, 0, none⟩) xs := fun hx => by
  obtain ⟨ad, e, _, hc⟩ := (blk_rp h) hx
  injection e with e
  subst e
  exact ⟨_, rfl, not_of hne, hc⟩
set_option maxHeartbeats 4000000 in
theorem hPublic_at (s : Nat) (t b k : Int) (sd : List Int) (w : World) (h1 : 1 ≤ t ∧ t ≤ 4) (h2 : 1 ≤ b ∧ b ≤ 4) (hk : Kd k) (hs : Ky sd) (hsg : SignAt w s t b k sd) :
    Calls Tryd.prog 29 #[.pointer (some ⟨s, 0, none⟩)] w fun e w' => ∃ g, e = .returned (.slice (some ⟨g, 0, none⟩) 60 60) ∧ w.heap.size ≤ g ∧ Blk w' g 5 (u8s (hpb t k sd)).toArray ∧ Below w.heap.size w w' := by
  obtain ⟨Z, hz, hz0, z0, z1, z2, z3, z4, hZs⟩ := zero_writer
  have CK := hid (hKeys_at s t b k sd w h2 hk hs hsg)
  have hK := hkeys_pos h1 h2 hk
  have hkz : ((hkeys t b k : Nat) : Int) ≠ 0 := by omega
  have hkb : (((hkeys t b k : Nat) : Int) == 0) = false := by simpa using hkz
  generalize ((hkeys t b k : Nat) : Int) = K at CK hkz hkb
  obtain ⟨g, la, p, hb, htr, _⟩ := hsg
  have HC34 : Hid (∀ w', Below w.heap.size w w' → w'.cell? ⟨s, 34, none⟩ = some (.pointer (some ⟨g, 0, none⟩))) := fun w' h => by rw [(hb.below h).cell]; exact signC_t _ _ hs ..
  have CP : Hid (∀ w', Below w.heap.size w w' → Calls Tryd.prog 20 #[.pointer (some ⟨g, 0, none⟩)] w' fun e w2 => ∃ gp, e = .returned (.slice (some ⟨gp, 0, none⟩) 56 56) ∧ w'.heap.size ≤ gp ∧ Blk w2 gp 5 (u8s (tpb t k sd)).toArray ∧ Below w'.heap.size w' w2) := fun w' h => sPublic_at g t k _ _ w' h1 hk (cid_idn _ _) (csd_ky _ _) (htr.below h)
  have HP : Hid (hpb t k sd = be 2 4 ++ tpb t k sd) := rfl
  have HPL : Hid ((hpb t k sd).length = 60) := hpb_length t k sd
  have HTL : Hid ((tpb t k sd).length = 56) := tpb_length t k sd
  generalize hpb t k sd = PB at HP HPL ⊢
  generalize tpb t k sd = TB at HP HTL CP
  have hW0 : WAt (w.alloc (.cells Z 69)) w.heap.size [] := new_writer (Blk.new w 69 Z) hz z0.out z1.out z2.out z3.out
  have HW0 : Hid (WRep (w.alloc (.cells Z 69)) (some ⟨w.heap.size, 0, none⟩) (.good [])) := ⟨_, rfl, hW0⟩
  have B0 : Hid (Below w.heap.size w (w.alloc (.cells Z 69))) := (Below.refl _ _).alloc (Nat.le_refl _) _
  have HOF : Hid (∀ k, Of (some ⟨w.heap.size, 0, none⟩) k → w.heap.size ≤ k) := by rintro k ⟨a, ha, rfl⟩; injection ha with ha; subst ha; show w.heap.size ≤ w.heap.size; omega
  have SK : Hid (w.heap.size < (w.alloc (.cells Z 69)).heap.size) := by show _ < _; simp
  have H1 := hid (WU32_any (some ⟨w.heap.size, 0, none⟩) (.good []) 2 _ HW0.out (by decide) (by simp [WS.len]))
  clear hz z0 z1 z2 z3 z4 hW0 HW0 h1 h2 hk hs htr hb hK
  go_enter Tryd.func29, Tryd.ntmps29
  go_wp2_with (first
    | (go_at_call 27; refine CK.out.mono ?_; rintro e w1 ⟨rfl, rfl⟩)
    | (go_at_call 37; refine H1.out.mono ?_; rintro e w1 ⟨rfl, hw1, ho1⟩; have B1 := hid (B0.out.trans (ho1.below (Nat.le_of_lt SK.out) HOF.out)); have S1 := hid (Nat.lt_of_lt_of_le SK.out ho1.size); have W1 := hid hw1; have c34 := HC34.out _ B1.out; clear hw1 ho1)
    | (go_at_call 20; refine (CP.out _ B1.out).mono ?_; rintro e w2 ⟨gp, rfl, hgp, hkp, hb2⟩; have B2 := hid (B1.out.trans (hb2.mono B1.out.size)); have W2 := hid (W1.out.below hb2); have H3 := WPlain_any (some ⟨w.heap.size, 0, none⟩) (.good (be 2 4)) (some ⟨gp, 0, none⟩) 56 TB w2 W2.out (rp_new hkp (by have := S1.out; omega)) (by simp [WS.len, be_length, HTL.out]); rw [HTL.out] at H3; have H3 := hid H3; clear hkp hb2 hgp)
    | (go_at_call 38; refine H3.out.mono ?_; rintro e w4 ⟨rfl, hw4, ho4⟩; have B4 := hid (B2.out.trans (ho4.below B2.out.size HOF.out)); have hw4 : WRep w4 (some ⟨w.heap.size, 0, none⟩) (.good PB) := (by rw [HP.out]; exact hw4); have H5 := Out_good (some ⟨w.heap.size, 0, none⟩) PB w4 hw4 (by rw [HPL.out]; decide); rw [HPL.out] at H5; have H5 := hid H5; clear hw4 ho4)
    | (go_at_call 42; refine H5.out.mono ?_; rintro e w5 ⟨rfl, hk5, hb5⟩; have K5 := hid hk5; have B5 := hid (B4.out.trans (hb5.mono B4.out.size)); clear hk5 hb5))
  go_ret
  exact ⟨w4.heap.size, rfl, B4.out.size, K5.out, B5.out⟩
set_option maxHeartbeats 4000000 in
theorem zawake_any (w : World) (ht : Tab w) : Calls Tryd.prog 21 #[] w fun e w' => e = .returned (.bool true) ∧ Below w.heap.size w w' := by
  obtain ⟨Z, HZ, hZ0, hZs⟩ := zero_H
  have hk2 : Kd 2 := .inr (.inl rfl)
  have C1 : Hid (∀ w1, Below w.heap.size w w1 → Calls Tryd.prog 26 #[.int .i64 1, .int .i64 1, .int .i64 2, .agg Z] w1 fun e w' => ∃ s, e = .returned (.tuple #[.pointer (some ⟨s, 0, none⟩), .int .i64 0]) ∧ w1.heap.size ≤ s ∧ SignAt w' s 1 1 2 (List.replicate 32 0) ∧ Below w1.heap.size w1 w') := fun w1 hb => by
    rw [HZ.out]
    exact hNew_kd 1 1 2 _ w1 (by decide) (by decide) hk2 ky_zero (ht.below hb)
  have C2 : Hid (∀ t w1, SignAt w1 t 1 1 2 (List.replicate 32 0) → Calls Tryd.prog 27 #[.pointer (some ⟨t, 0, none⟩)] w1 fun e w' => e = .returned (.int .i64 4) ∧ w1 = w') := fun t w1 h => hKeys_at t 1 1 2 _ w1 (by decide) hk2 ky_zero h
  have C3 : Hid (∀ t w1, SignAt w1 t 1 1 2 (List.replicate 32 0) → Calls Tryd.prog 29 #[.pointer (some ⟨t, 0, none⟩)] w1 fun e w' => ∃ g, e = .returned (.slice (some ⟨g, 0, none⟩) 60 60) ∧ w1.heap.size ≤ g ∧ Blk w' g 5 (u8s (hpb 1 2 (List.replicate 32 0))).toArray ∧ Below w1.heap.size w1 w') := fun t w1 h => hPublic_at t 1 1 2 _ w1 (by decide) (by decide) hk2 ky_zero h
  clear ht hk2
  go_enter Tryd.func21, Tryd.ntmps21
  go_wp2_with (first
    | (go_at_call 26; refine (C1.out _ (Below.refl _ _)).mono ?_; rintro e w1 ⟨t, rfl, _, ht, hb1⟩; have HT := hid ht; have H1 := hid hb1; clear hb1 ht)
    | (go_at_call 27; refine (C2.out _ _ HT.out).mono ?_; rintro e w2 ⟨rfl, rfl⟩)
    | (go_at_call 29; refine (C3.out _ _ HT.out).mono ?_; rintro e w3 ⟨g, rfl, _, _, hb3⟩; have H3 := hid (H1.out.trans (hb3.mono H1.out.size)); clear hb3))
  go_ret
  exact ⟨rfl, H3.out⟩
set_option maxHeartbeats 4000000 in
theorem hnil_walk (q : Int) (A : Option Addr) (n c : Nat) (L : List Int) (w : World) (h : InB w A n c L) (hc : n ≤ c) (ht : Tab w) : Calls Tryd.prog 11 #[.int .i64 q, .slice A n c] w fun e w' => e = .returned (.bool true) ∧ Below w.heap.size w w' := by
  have CA := hid (fun w1 (hb : Below w.heap.size w w1) => zawake_any w1 (ht.below hb))
  have B0 : Hid (Below w.heap.size w w) := Below.refl _ _
  clear h ht
  by_cases hbig : (100 : Int) < (n : Int)
  · go_enter Tryd.func11, Tryd.ntmps11
    go_wp2_with (first
      | (go_at_call 21; (with_reducible refine (CA.out _ B0.out).mono ?_); rintro e w1 ⟨rfl, hb1⟩; have B1 := hid hb1; clear hb1)
      | (go_at_call 21; refine (CA.out _ B1.out).mono ?_; rintro e w2 ⟨rfl, hb2⟩; have B2 := hid (B1.out.trans (hb2.mono B1.out.size)); clear hb2))
    go_ret
    exact ⟨rfl, B2.out⟩
  · go_enter Tryd.func11, Tryd.ntmps11
    go_wp2_with (first
      | (go_at_call 21; refine (CA.out _ B0.out).mono ?_; rintro e w1 ⟨rfl, hb1⟩; have B1 := hid hb1; clear hb1)
      | (go_at_call 31; refine (hSign_nil _ _ _ _ _).mono ?_; rintro e w2 ⟨rfl, rfl⟩)
      | (go_at_call 27; refine (hKeys_nil _).mono ?_; rintro e w3 ⟨rfl, rfl⟩)
      | (go_at_call 29; refine (hPublic_nil _).mono ?_; rintro e w4 ⟨rfl, rfl⟩))
    go_ret
    exact ⟨rfl, B1.out⟩
end Go.Proofs.YtobceieadjpaaaaDoor
