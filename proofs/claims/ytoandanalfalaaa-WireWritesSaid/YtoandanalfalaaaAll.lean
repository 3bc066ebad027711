/-
  What is proved here: what the document's own bytes of a list of fields are.
-/
import Derived.Test.YtoandanalfalaaaBytes
import Derived.Test.YtoandanalfalaaaSmall
namespace Go.Proofs.Ytoandanalfalaaa
open Go.ChangeShapes Go.WideShapes Go.ChangeAt Go.RowKit
set_option linter.unusedVariables false

theorem allB_snoc (l : List (Int × Int × List Int)) (f : Int × Int × List Int) (pre ys : List Int) (h : allB l = some pre) (hf : fb f.1 f.2.1 f.2.2 = some ys) : allB (l ++ [f]) = some (pre ++ ys) := by
  induction l generalizing pre with
  | nil =>
    injection h with h
    subst h
    show (match fb f.1 f.2.1 f.2.2 with | none => none | some ys => (allB []).map (ys ++ ·)) = _
    rw [hf]; simp [allB]
  | cons g l ih =>
    obtain ⟨zs, rest, h1, rfl, h2⟩ := allB_cons g l pre h
    show (match fb g.1 g.2.1 g.2.2 with | none => none | some zs => (allB (l ++ [f])).map (zs ++ ·)) = _
    rw [h1, ih rest h2]; simp
theorem allB_none (l : List (Int × Int × List Int)) (i : Nat) (f : Int × Int × List Int) (h : l[i]? = some f) (hf : fb f.1 f.2.1 f.2.2 = none) : allB l = none := by
  induction l generalizing i with
  | nil => simp at h
  | cons g l ih =>
    show (match fb g.1 g.2.1 g.2.2 with | none => none | some zs => (allB l).map (zs ++ ·)) = _
    cases i with
    | zero =>
      simp at h
      subst h
      rw [hf]
    | succ i =>
      rw [ih i (by simpa using h)]
      cases fb g.1 g.2.1 g.2.2 <;> rfl

theorem own_below {w w' : World} {base e size n : Nat} {v : Value} {xs : List Value} (h : w.ownsRow base e size v n xs) (hb : Below w.heap.size w w') : w'.ownsRow base e size v n xs := by
  refine ⟨h.1, ?_⟩
  rcases h.2 with h1 | ⟨g, cap, cur, hv, hg, hh, r⟩
  · exact .inl h1
  · have hlt : g < w.heap.size := by
      rcases Nat.lt_or_ge g w.heap.size with h2 | h2
      · exact h2
      · rw [Array.getElem?_eq_none h2] at hh; cases hh
    exact .inr ⟨g, cap, cur, hv, hg, (hb.block g hlt).trans hh, r⟩
theorem append_rp {w : World} {ops : Array Oper} {rest : List Oper} {o : Oper} {a : Act} {Q : Exit → Act → World → Prop} (hgd : o.guard = none) (s x : Operand)
    (ho : o.op = .call { callee := .builtin .append, args := #[s, x], argTypes := #[33, 33] })
    (base B : Nat) (v : Value) (xs : List Int) (hs : a.eval s = v) (hown : w.ownsRow base 5 1 v xs.length (u8s xs))
    (A : Option Addr) (c : Nat) (ys : List Int) (hx : a.eval x = .slice A ys.length c) (hr : Rp w none A ys) (h63 : xs.length + ys.length < 1000000000000) (hbase : base ≤ w.heap.size) (hB : B ≤ base)
    (h : ∀ v' w', Hid (w'.ownsRow base 5 1 v' (xs ++ ys).length (u8s (xs ++ ys))) → Hid (Below B w w') → wpList Try.prog ops Q rest (a.put o.dst v') w') : wpList Try.prog ops Q (o :: rest) a w := by
  obtain ⟨i0, hi, hz0, hz1, hz2⟩ := info_parts info_u8
  cases A with
  | none =>
    have h0 : ys = [] := by
      cases ys with
      | nil => rfl
      | cons y ys => obtain ⟨ad, e, _⟩ := hr (by simp); cases e
    subst h0
    refine wpList_append_nil' hgd s x 33 ho base 5 i0 1 Try.underlying33 hi v xs.length (u8s xs) c hs hown hx ?_
    exact h v w (show World.ownsRow _ _ _ _ _ _ _ by rw [List.append_nil]; exact hown) (Below.refl _ _)
  | some ad =>
    refine wpList_append_own _ hgd s x 33 ho base 5 i0 (.int .u8 0) 1 1 Try.underlying33 hi hz0 hz1 hz2 rfl (by decide) v xs.length (u8s xs) hs hown ad ys.length c (u8s ys) hx (by rw [u8s_length]; omega) (fun j u hu => ?_) (u8s_one _) (by unfold maxLen; omega) (by omega) hbase ?_
    · rcases Nat.lt_or_ge j ys.length with hj | hj
      · obtain ⟨ad', e', hc⟩ := hr.get (by omega)
        injection e' with e'; subst e'
        rw [hc j hj, ← hu, u8s_get _ _ hj]
      · rw [List.getElem?_eq_none (by rw [u8s_length]; exact hj)] at hu; cases hu
    · intro v' w' h1 h2 _
      refine h v' w' (show World.ownsRow _ _ _ _ _ _ _ from ?_) ((Below.refl _ _).grown h2 (by omega) (fun b hb => Nat.le_trans hB (hown.lt b hb).1))
      rw [List.length_append, show u8s (xs ++ ys) = u8s xs ++ u8s ys by simp [u8s]]
      exact h1

def AllPost (l : List (Int × Int × List Int)) (w : World) (e : Ending) (w' : World) : Prop :=
  Below w.heap.size w w' ∧ ((allB l = none ∧ e = .returned (.tuple #[.slice none 0 0, .bool false])) ∨
      ∃ BS A' c', allB l = some BS ∧ e = .returned (.tuple #[.slice A' BS.length c', .bool true]) ∧ Rp w' none A' BS)

set_option maxRecDepth 5000 in
set_option maxHeartbeats 4000000 in
theorem All_any (A : Option Addr) (n c : Nat) (l : List (Int × Int × List Int)) (w : World) (h : InL w A n l) (hf1 : few l 60 = true) (hf2 : sm l = true) :
    Calls Try.prog 14 #[.slice A n c] w (AllPost l w) := by
  obtain ⟨hl, hs⟩ := few_all hf1 (by omega)
  have HSM := hid (sm_all hf2)
  have hn : n ≤ 60 := by have := h.1; omega
  have HLN := hid h.1
  have H := hid h
  have HS := hid hs; have HL := hid hl
  clear h hs hl hf1 hf2
  go_enter Try.func14, Try.ntmps14
  go_wp2
  go_loopw [4, 5] (fun ov iv wr => ∃ (k : Nat) (pre : List Int), k ≤ n ∧ iv = .int .i64 k ∧ wr.ownsRow w.heap.size 5 1 ov pre.length (u8s pre) ∧ allB (l.take k) = some pre ∧ Below w.heap.size w wr) (fun _ iv _ => n - (intOf iv).toNat)
  case atStart => exact ⟨0, [], by omega, rfl, World.ownsRow_nil _ _ _ _, rfl, Below.refl _ _⟩
  case round =>
    obtain ⟨k, pre, hk, rfl, hown, hpre, hbl⟩ := hrel
    have HOWN := hid hown; have HPRE := hid hpre; have HB := hid hbl
    have HLP : Hid (pre.length < 800000000000) := by
      have h1 := len_good HL.out HS.out k
      rw [stAfter_good, hpre] at h1
      show pre.length < _
      simpa [ofB, WS.len] using h1
    clear hown hpre hbl
    by_cases hlt : k < n
    · obtain ⟨b, o, rfl, hblt, hfat⟩ := H.out.at_ (by omega)
      obtain ⟨kk, x, bb, B, cc, q1, q2, q3, q4, q5, q6, q7, q8, q9⟩ := (hfat k hlt)
      have hmem := List.mem_of_getElem? q1
      have hbb : bb.length ≤ 9000 := HS.out _ hmem
      have hsx : x ≤ 4611686018427387904 ∨ kk = 4 := HSM.out _ hmem
      have key : ∀ j, wr.cell? ⟨b, j, none⟩ = w.cell? ⟨b, j, none⟩ := fun j => HB.out.cell hblt
      have d0 := (key _).trans q7
      have d1 := (key _).trans q8
      have d2 := (key _).trans q9
      have HBY := bytes_any kk x bb B cc wr ⟨q2, q3⟩ hsx (q5.belowN HB.out) hbb
      unfold BytesPost at HBY
      have HBY := hid HBY
      have Q1 := hid q1
      have HYL : Hid (∀ ys, fb kk x bb = some ys → pre.length + ys.length < 1000000000000 ∧ allB (l.take (k + 1)) = some (pre ++ ys)) := by
        intro ys hys
        have hkl : k < l.length := by have := HLN.out; omega
        have e : l[k] = (kk, x, bb) := by rw [List.getElem?_eq_getElem hkl] at q1; injection q1
        have h2 : allB (l.take (k + 1)) = some (pre ++ ys) := by
          rw [List.take_succ_eq_append_getElem hkl, e]
          exact allB_snoc _ _ _ _ HPRE.out hys
        have h1 := len_good HL.out HS.out (k + 1)
        rw [stAfter_good, h2] at h1
        have h3 : (pre ++ ys).length < 800000000000 := by simpa [ofB, WS.len] using h1
        rw [List.length_append] at h3
        exact ⟨by omega, h2⟩
      clear hmem hsx hfat q1 q2 q3 q4 q5 q6 q7 q8 q9 key
      cases hfb : fb kk x bb with
      | none =>
        have HN := hid (allB_none l k (kk, x, bb) Q1.out hfb)
        have HFB := hid hfb
        clear hfb
        go_wp2_with (go_at_call 32; refine HBY.out.mono ?_; rintro e w2 ⟨A2, c2, ys, ok, rfl, hrp, hb2, hf2⟩; have hok : ok = false := (by rw [HFB.out] at hf2; cases ok with | false => rfl | true => simp at hf2); subst hok; have HB2 := hid (HB.out.trans (hb2.mono HB.out.size)); clear hrp hb2 hf2)
        go_ret2
        exact ⟨HB2.out, .inl ⟨HN.out, rfl⟩⟩
      | some ys' =>
        have HFB := hid hfb
        clear hfb
        go_wp2_with (first
          | (go_at_call 32; refine HBY.out.mono ?_; rintro e w2 ⟨A2, c2, ys, ok, rfl, hrp, hb2, hf2⟩; have hok : ok = true := (by rw [HFB.out] at hf2; cases ok with | true => rfl | false => simp at hf2); subst hok; have hyy : ys' = ys := (by rw [HFB.out] at hf2; simpa using hf2); subst hyy; have HRP := hid hrp; have HB2 := hid (HB.out.trans (hb2.mono HB.out.size)); have HO2 := hid (own_below HOWN.out hb2); have HSZ := hid (Nat.le_trans HB.out.size hb2.size); clear hrp hb2 hf2)
          | (at_builtin; refine append_rp rfl (.tmp 24) (.tmp 25) rfl w.heap.size w.heap.size _ pre rfl HO2.out A2 c2 ys' rfl HRP.out (HYL.out _ HFB.out).1 HSZ.out (Nat.le_refl _) ?_; intro v3 w3 HO3 HB3))
        go_roundw
        case rel => exact ⟨k + 1, pre ++ ys', by omega, by go_num, HO3.out, (HYL.out _ HFB.out).2, HB2.out.trans HB3.out⟩
        case measure => simp [intOf]; omega
    · have hkn : k = n := by omega
      have hpre := HPRE.out
      have hln := HLN.out
      rw [List.take_of_length_le (by omega)] at hpre
      obtain ⟨A2, c2, rfl, _, _, hf2⟩ := fresh_of_own HOWN.out (Nat.le_refl _)
      have HF2 := hid hf2; have HPR := hid hpre
      clear hf2 hpre hln HOWN
      go_wp2
      go_ret2
      exact ⟨HB.out, .inr ⟨pre, A2, c2, HPR.out, rfl, HF2.out.rp0⟩⟩
end Go.Proofs.Ytoandanalfalaaa
