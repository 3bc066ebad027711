/-
  What is proved here: the code's text with a tag.
-/
import Derived.Test.YtpponjmhgfikiaaDoorRowsR
namespace Go.Proofs.YtpponjmhgfikiaaDoor
open Go.ChangeShapes Go.WideShapes Go.ChangeAt Go.RowKit
set_option linter.unusedVariables false

/-- the bytes of a number, the most significant first -/
def be (x : Int) : Nat → List Int
  | 0 => []
  | n + 1 => x / 256 ^ n % 256 :: be x n
theorem be_length (x : Int) (n : Nat) : (be x n).length = n := by
  induction n with
  | zero => rfl
  | succ n ih => simp [be, ih]
/-- a part with its number of bytes -/
def part (xs : List Int) : List Int := be xs.length 4 ++ xs
/-- the text with a tag -/
def textL (tag : Int) (L : List (List Int)) : List Int := tag :: L.flatMap part
theorem part_length (xs : List Int) : (part xs).length = 4 + xs.length := by simp [part, be_length]
theorem textL_snoc (tag : Int) (L : List (List Int)) (xs : List Int) : textL tag (L ++ [xs]) = textL tag L ++ part xs := by simp [textL]
theorem textL_take (tag : Int) (L : List (List Int)) (k : Nat) (xs : List Int) (h : L[k]? = some xs) : textL tag (L.take (k + 1)) = textL tag (L.take k) ++ part xs := by
  have hk : k < L.length := by
    rcases Nat.lt_or_ge k L.length with h1 | h1
    · exact h1
    · rw [List.getElem?_eq_none h1] at h; cases h
  rw [List.take_succ_eq_append_getElem hk, textL_snoc]
  rw [List.getElem?_eq_getElem hk] at h
  injection h with h
  rw [h]
theorem textL_len (tag : Int) (L : List (List Int)) (k : Nat) (hL : ∀ f ∈ L, f.length ≤ 300) : (textL tag (L.take k)).length ≤ 1 + 304 * k := by
  induction k with
  | zero => simp [textL]
  | succ k ih =>
    rcases Nat.lt_or_ge k L.length with h1 | h1
    · rw [textL_take tag L k L[k] (List.getElem?_eq_getElem h1), List.length_append, part_length]
      have := hL _ (List.getElem_mem h1)
      omega
    · rw [List.take_of_length_le (by omega)]
      rw [List.take_of_length_le h1] at ih
      omega
theorem make_cap (n : Nat) (hn : n < 1000000000000) (u : World) : (Instr.makeSlice 22 (.int .i64 0) (.int .i64 (n : Int))).run Tryd.prog u =
      .ok (.slice (some ⟨u.heap.size, 0, none⟩) 0 n) (u.alloc (.cells (Array.replicate n (Value.int .u8 0)) 5)) := by
  obtain ⟨i0, hi, hz0, hz1, hz2⟩ := info_parts info_u8
  have h := run_make (P := Tryd.prog) u 22 5 i0 (.int .u8 0) Tryd.underlying22 hi hz0 .i64 .i64 (0 : Int) (n : Int) (by omega) (by omega) (by rw [hz2]; omega) (by omega)
  have e : ((n : Int)).toNat = n := by omega
  rw [e] at h
  have e2 : madeCells (Value.int .u8 0).cells (n * i0.size) = Array.replicate n (Value.int .u8 0) := by
    rw [hz1, Nat.mul_one]
    unfold madeCells
    refine Array.ext (by simp) (fun j h1 h2 => ?_)
    simp [Value.cells, Nat.mod_one]
  rw [e2] at h
  exact h
theorem own_made (u : World) (n B : Nat) (hn : n ≤ maxLen) (hB : B ≤ u.heap.size) : (u.alloc (.cells (Array.replicate n (Value.int .u8 0)) 5)).ownsRow B 5 1 (.slice (some ⟨u.heap.size, 0, none⟩) 0 n) 0 [] :=
  ⟨by simp, .inr ⟨u.heap.size, n, _, rfl, hB, heap_alloc_new u _, by omega, hn, by simp, by simp⟩⟩

theorem append_rpm {w : World} {ops : Array Oper} {rest : List Oper} {o : Oper} {a : Act} {Q : Exit → Act → World → Prop} (hgd : o.guard = none) (s x : Operand)
    (ho : o.op = .call { callee := .builtin .append, args := #[s, x], argTypes := #[22, 22] })
    (base B : Nat) (v : Value) (xs : List Int) (hs : a.eval s = v) (hown : w.ownsRow base 5 1 v xs.length (u8s xs))
    (A : Option Addr) (m c : Nat) (ys : List Int) (hm : m = ys.length) (hx : a.eval x = .slice A m c) (hr : Rp w none A ys) (h63 : xs.length + ys.length < 1000000000000) (hbase : base ≤ w.heap.size) (hB : B ≤ base)
    (h : ∀ v' w', Hid (w'.ownsRow base 5 1 v' (xs ++ ys).length (u8s (xs ++ ys))) → Hid (Below B w w') → wpList Tryd.prog ops Q rest (a.put o.dst v') w') : wpList Tryd.prog ops Q (o :: rest) a w := by
  subst hm
  exact append_rp hgd s x ho base B v xs hs hown A c ys hx hr h63 hbase hB h
theorem be4_small (m : Nat) (h : m ≤ 300) : be (m : Int) 4 = [(m : Int) / 16777216, (m : Int) / 65536, (m : Int) / 256, (m : Int) % 256] := by
  simp [be]
  omega

set_option maxRecDepth 5000 in
set_option maxHeartbeats 2000000 in
theorem Text_any (tag : Int) (A : Option Addr) (n c : Nat) (L : List (List Int)) (w : World) (h : InR w A n L) (hn : n ≤ 20) (hL : ∀ f ∈ L, f.length ≤ 300) (ht : 0 ≤ tag ∧ tag < 256) :
    Calls Tryd.prog 13 #[.int .u8 tag, .slice A n c] w fun e w' => ∃ A' c', e = .returned (.slice A' (textL tag L).length c') ∧ (textL tag L).length ≤ c' ∧ Fresh w w' A' (textL tag L) ∧ Below w.heap.size w w' := by
  have H := hid h; have HLL := hid hL; have HLN := hid h.1
  obtain ⟨ht0, ht1⟩ := ht
  clear h hL
  go_enter Tryd.func13, Tryd.ntmps13
  go_wp2
  go_loop [5, 14] (fun s i => ∃ k S : Nat, k ≤ n ∧ S ≤ 7000 ∧ i = .int .i64 k ∧ s = .int .i64 S ∧ Hid (S = (textL tag (L.take k)).length)) (fun _ i => n - (intOf i).toNat)
  case atStart => exact ⟨0, 1, by omega, by omega, rfl, rfl, rfl⟩
  case round =>
    obtain ⟨k, S, hk, hS, rfl, rfl, HS⟩ := hrel
    by_cases hlt : k < n
    · obtain ⟨b, o, rfl, _, hat⟩ := H.out.2.2 (by omega)
      obtain ⟨B, cc, bb, h1, h9, h2, h3, h4, h6⟩ := hat k hlt
      have HT := hid (textL_take tag L k bb h1)
      have hlen := textL_len tag L (k + 1) HLL.out
      have hbb : bb.length ≤ 300 := HLL.out _ (List.mem_of_getElem? h1)
      obtain ⟨m, hm⟩ : ∃ m, m = bb.length := ⟨_, rfl⟩
      rw [← hm] at h9 h6 hbb
      have HM := hid hm
      have HLE := hid hlen
      clear hat h1 h2 h3 h4 hm hlen
      go_wp2
      go_round
      case rel =>
        refine ⟨k + 1, S + (4 + m), by omega, ?_, by go_num, by go_num, ?_⟩
        · have := HLE.out
          have h5 := HS.out
          have h7 := HM.out
          rw [HT.out, List.length_append, part_length] at this
          omega
        · show _ = _
          rw [HT.out, List.length_append, part_length, ← HS.out, ← HM.out]
      case measure => simp [intOf]; omega
    · have hkn : n ≤ k := by omega
      have hmk := make_cap S (by omega)
      have hB0 : Below w.heap.size w ((w.alloc (.cells (Array.replicate S (Value.int .u8 0)) 5)).alloc (.cells #[.int .u8 tag] 5)) := ((Below.refl _ _).alloc (Nat.le_refl _) _).alloc (by simp) _
      have hO0 : ((w.alloc (.cells (Array.replicate S (Value.int .u8 0)) 5)).alloc (.cells #[.int .u8 tag] 5)).ownsRow w.heap.size 5 1 (.slice (some ⟨w.heap.size, 0, none⟩) 0 S) 0 [] :=
        own_below (own_made w S w.heap.size (by unfold maxLen; omega) (Nat.le_refl _)) ((Below.refl _ _).alloc (Nat.le_refl _) _)
      have hR0 : Rp ((w.alloc (.cells (Array.replicate S (Value.int .u8 0)) 5)).alloc (.cells #[.int .u8 tag] 5)) none (some ⟨w.heap.size + 1, 0, none⟩) [tag] := by
        have hk := Blk.new (w.alloc (.cells (Array.replicate S (Value.int .u8 0)) 5)) 5 #[.int .u8 tag]
        rw [show (w.alloc (.cells (Array.replicate S (Value.int .u8 0)) 5)).heap.size = w.heap.size + 1 by simp] at hk
        exact Blk.rp (xs := [tag]) hk
      have B0 := hid hB0; have O0 := hid hO0; have R0 := hid hR0
      clear hB0 hO0 hR0
      go_wp2_with (at_builtin; refine append_rp rfl (.tmp 26) (.tmp 28) rfl w.heap.size w.heap.size _ [] rfl O0.out (some ⟨w.heap.size + 1, 0, none⟩) 1 [tag] rfl R0.out (by simp) B0.out.size (Nat.le_refl _) ?_; intro v1 w1 HO1 HB1)
      have HBL1 := hid (B0.out.trans HB1.out)
      clear B0 O0 R0 HB1
      have hst : textL tag (L.take 0) = [tag] := by simp [textL]
      have HST := hid hst
      clear hst hmk
      go_loopw [8, 32] (fun v i wr => ∃ (j : Nat) (acc : List Int), j ≤ n ∧ i = .int .i64 j ∧ Hid (acc = textL tag (L.take j)) ∧ Hid (wr.ownsRow w.heap.size 5 1 v acc.length (u8s acc)) ∧ Hid (Below w.heap.size w wr)) (fun _ i _ => n - (intOf i).toNat)
      case atStart => exact ⟨0, [tag], by omega, rfl, HST.out.symm, HO1.out, HBL1.out⟩
      case round =>
        obtain ⟨j, acc, hj, rfl, HACC, HOWN, HBL⟩ := hrel
        clear HO1 HBL1
        obtain ⟨wo, rfl⟩ : ∃ wo : World, wo = wr := ⟨_, rfl⟩
        by_cases hlt2 : j < n
        · obtain ⟨b, o, rfl, hbw, hat⟩ := H.out.2.2 (by omega)
          obtain ⟨B, cc, bb, h1, h9, h2, h3, h4, h6⟩ := hat j hlt2
          have HT := hid (textL_take tag L j bb h1)
          have hlen := textL_len tag L (j + 1) HLL.out
          have hbb : bb.length ≤ 300 := HLL.out _ (List.mem_of_getElem? h1)
          have hcell : wo.cell? ⟨b, o + j, none⟩ = some (.slice B bb.length cc) := (HBL.out.cell hbw).trans h9
          obtain ⟨m, hm⟩ : ∃ m, m = bb.length := ⟨_, rfl⟩
          rw [← hm] at hcell h6 hbb
          have HM := hid hm
          have HLE := hid hlen
          have HRB := hid h3
          clear hat h1 h2 h3 h4 hm hlen h9
          have hal : acc.length ≤ 7000 := by
            have h5 := HLE.out
            have h7 := HACC.out
            rw [HT.out, ← h7, List.length_append] at h5
            omega
          have hR1 : Rp (wo.alloc (.cells #[.int .u8 ((m : Int) / 16777216), .int .u8 ((m : Int) / 65536), .int .u8 ((m : Int) / 256), .int .u8 ((m : Int) % 256)] 5)) none (some ⟨wo.heap.size, 0, none⟩) [(m : Int) / 16777216, (m : Int) / 65536, (m : Int) / 256, (m : Int) % 256] :=
            Blk.rp (xs := [(m : Int) / 16777216, (m : Int) / 65536, (m : Int) / 256, (m : Int) % 256]) (Blk.new wo 5 _)
          have hB1 : Below wo.heap.size wo (wo.alloc (.cells #[.int .u8 ((m : Int) / 16777216), .int .u8 ((m : Int) / 65536), .int .u8 ((m : Int) / 256), .int .u8 ((m : Int) % 256)] 5)) := (Below.refl _ _).alloc (Nat.le_refl _) _
          have O1 := hid (own_below HOWN.out hB1)
          have R1 := hid hR1
          have B1 := hid (HBL.out.trans (hB1.mono HBL.out.size))
          have HBE := hid (be4_small m hbb)
          have HAL := hid hal
          have hal4 : acc.length + 4 < 1000000000000 := by omega
          have halb : (acc ++ [(m : Int) / 16777216, (m : Int) / 65536, (m : Int) / 256, (m : Int) % 256]).length + bb.length < 1000000000000 := by
            have := HM.out
            simp; omega
          have HAL4 := hid hal4; have HALB := hid halb
          clear hR1 hB1 hal hal4 halb
          go_wp2_with (first
            | (at_builtin; refine append_rp rfl (.tmp 39) (.tmp 51) rfl w.heap.size w.heap.size _ acc rfl O1.out (some ⟨wo.heap.size, 0, none⟩) 4 [(m : Int) / 16777216, (m : Int) / 65536, (m : Int) / 256, (m : Int) % 256] rfl R1.out HAL4.out B1.out.size (Nat.le_refl _) ?_; intro v2 w2 HO2 HB2; have HB3 := hid (B1.out.trans HB2.out))
            | (at_builtin; refine append_rpm rfl (.tmp 53) (.tmp 54) rfl w.heap.size w.heap.size _ (acc ++ [(m : Int) / 16777216, (m : Int) / 65536, (m : Int) / 256, (m : Int) % 256]) rfl HO2.out B m cc bb HM.out rfl (HRB.out.belowN HB3.out) HALB.out HB3.out.size (Nat.le_refl _) ?_; intro v3 w3 HO3 HB4))
          go_roundw
          case rel =>
            refine ⟨j + 1, acc ++ [(m : Int) / 16777216, (m : Int) / 65536, (m : Int) / 256, (m : Int) % 256] ++ bb, by omega, by go_num, ?_, HO3.out, HB3.out.trans HB4.out⟩
            show _ = _
            rw [HT.out, ← HACC.out, part, ← HM.out, HBE.out, List.append_assoc]
          case measure => simp [intOf]; omega
        · have hacc : acc = textL tag L := by
            rw [HACC.out, List.take_of_length_le (by have := HLN.out; omega)]
          obtain ⟨A2, c2, rfl, _, hc2, hf2⟩ := fresh_of_own HOWN.out (Nat.le_refl _)
          have HF2 := hid hf2; have HAC := hid hacc
          clear hf2 hacc HOWN
          go_wp2
          go_ret
          rw [← HAC.out]
          exact ⟨A2, c2, rfl, hc2, HF2.out, HBL.out⟩
end Go.Proofs.YtpponjmhgfikiaaDoor
