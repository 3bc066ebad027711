/-
  What is proved here: the document's own blocks of a message.
-/
import Derived.Test.YtpponjmhgfikiaaDoorNum2
namespace Go.Proofs.YtpponjmhgfikiaaDoor
open Go.ChangeShapes Go.WideShapes Go.ChangeAt Go.RowKit
set_option linter.unusedVariables false

theorem be8_range (x : Int) : be x 8 = (List.range 8).map fun i => x / 256 ^ (7 - i) % 256 := rfl
theorem padded_be (xs : List Int) : padded xs = xs ++ 128 :: List.replicate ((119 - xs.length % 64) % 64) 0 ++ be (8 * (xs.length : Int)) 8 := by
  unfold padded
  rw [be8_range]
  simp

set_option maxRecDepth 5000 in
set_option maxHeartbeats 2000000 in
theorem Padded_any (A : Option Addr) (c : Nat) (xs : List Int) (w : World) (hr : Rp w none A xs) (hl : xs.length < 1000000000) :
    Calls Tryd.prog 24 #[.slice A xs.length c] w fun e w' => ∃ A' c', e = .returned (.slice A' (padded xs).length c') ∧ (padded xs).length ≤ c' ∧ Fresh w w' A' (padded xs) ∧ Below w.heap.size w w' := by
  obtain ⟨n, hn⟩ : ∃ n, n = xs.length := ⟨_, rfl⟩
  rw [← hn] at hl ⊢
  have HN := hid hn; have HR := hid hr
  have HS0 : Hid (([] : List Int).length + xs.length < 1000000000000) := by show _ < _; simp; omega
  have HO0 : Hid (w.ownsRow w.heap.size 5 1 (.slice none 0 0) ([] : List Int).length (u8s [])) := World.ownsRow_nil _ _ _ _
  have HS1 : Hid (([] ++ xs : List Int).length + [(128 : Int)].length < 1000000000000) := by show _ < _; simp; omega
  clear hr hn
  go_enter Tryd.func24, Tryd.ntmps24
  go_wp2_with (first
    | (at_builtin; refine append_rpm rfl (.tmp 4) (.tmp 5) rfl w.heap.size w.heap.size _ [] rfl HO0.out A n c xs HN.out rfl HR.out HS0.out (Nat.le_refl _) (Nat.le_refl _) ?_; intro v1 w1 HO1 HB1; have HO1b := hid (own_below HO1.out ((Below.refl w1.heap.size w1).alloc (Nat.le_refl _) (.cells #[.int .u8 128] 5))); have HR1 : Hid (Rp (w1.alloc (.cells #[.int .u8 128] 5)) none (some ⟨w1.heap.size, 0, none⟩) [128]) := Blk.rp (xs := [128]) (Blk.new w1 5 _); have HZ1 : Hid (w.heap.size ≤ (w1.alloc (.cells #[.int .u8 128] 5)).heap.size) := Nat.le_trans HB1.out.size (by simp))
    | (at_builtin; refine append_rp rfl (.tmp 7) (.tmp 8) rfl w.heap.size w.heap.size _ ([] ++ xs) rfl HO1b.out (some ⟨w1.heap.size, 0, none⟩) 1 [128] rfl HR1.out HS1.out HZ1.out (Nat.le_refl _) ?_; intro v2 w2 HO2 HB2))
  have HBL2 : Hid (Below w.heap.size w w2) := (HB1.out.alloc HB1.out.size _).trans HB2.out
  obtain ⟨A2, c2, rfl, _, hc2, _⟩ := fresh_of_own HO2.out (Nat.le_refl w.heap.size)
  obtain ⟨q2, hq2⟩ : ∃ q, q = ([] ++ xs ++ [(128 : Int)]).length := ⟨_, rfl⟩
  rw [← hq2] at HO2 ⊢
  have HQ2 : Hid (q2 = n + 1 + 0) := by show _ = _; rw [hq2, HN.out]; simp
  have HO2' : Hid (w2.ownsRow w.heap.size 5 1 (.slice A2 q2 c2) q2 (u8s (xs ++ 128 :: List.replicate 0 0))) := by
    have h := HO2.out
    rw [List.nil_append] at h
    exact h
  obtain ⟨Z, hZ⟩ : ∃ Z, Z = (119 - n % 64) % 64 := ⟨_, rfl⟩
  have HZ := hid hZ
  clear HO0 HO1 HO1b HO2 HR1 HZ1 HB1 HB2 HS0 HS1 hq2 hc2 hZ
  go_loopw [3] (fun v wr => ∃ (z q : Nat) (A' : Option Addr) (c' : Nat), v = .slice A' q c' ∧ Hid (z ≤ Z) ∧ Hid (q = n + 1 + z) ∧ Hid (wr.ownsRow w.heap.size 5 1 (.slice A' q c') q (u8s (xs ++ 128 :: List.replicate z 0))) ∧ Hid (Below w.heap.size w wr)) (fun v _ => n + 1 + Z - lenOf v)
  case atStart => exact ⟨0, q2, A2, c2, rfl, Nat.zero_le _, HQ2.out, HO2'.out, HBL2.out⟩
  case round =>
    obtain ⟨z, q, A', c', rfl, HZL, HQ, HO, HB⟩ := hrel
    clear HO2' HBL2 HQ2
    have hqb : q ≤ 2000000000 := by have := HQ.out; have := HZL.out; have := HZ.out; omega
    by_cases hlt : q % 64 = 56
    · have hne : ((q : Int) % 64 != 56) = false := by simp; omega
      have hzZ : z = Z := by have := HQ.out; have := HZL.out; have := HZ.out; omega
      have HZZ := hid hzZ
      have hx0 : (0 : Int) ≤ 8 * (n : Int) := by omega
      have HNM := hid (fun (wx : World) => Number_any (8 * (n : Int)) 8 wx (by omega) (by omega))
      clear hlt hzZ hx0
      go_wp2_with (first
        | (go_at_call 26; refine (HNM.out _).mono ?_; rintro e w4 ⟨A4, c4, rfl, hc4, hf4, hb4⟩; have HF4 := hid hf4.rp0; have HO4 := hid (own_below HO.out hb4); have HB4 := hid (HB.out.trans (hb4.mono HB.out.size)); have HQ4 : Hid (q = (xs ++ 128 :: List.replicate z 0).length) := (by show _ = _; rw [HQ.out, HN.out]; simp; omega); have HS4 : Hid ((xs ++ 128 :: List.replicate z 0).length + (be (8 * (n : Int)) 8).length < 1000000000000) := (by show _ < _; rw [← HQ4.out, be_length]; omega); have HO5 : Hid (w4.ownsRow w.heap.size 5 1 (.slice A' q c') (xs ++ 128 :: List.replicate z 0).length (u8s (xs ++ 128 :: List.replicate z 0))) := (by show World.ownsRow _ _ _ _ _ _ _; rw [← HQ4.out]; exact HO4.out); clear hc4 hf4 hb4)
        | (at_builtin; refine append_rpm rfl (.tmp 17) (.tmp 22) rfl w.heap.size w.heap.size _ (xs ++ 128 :: List.replicate z 0) rfl HO5.out A4 8 c4 (be (8 * (n : Int)) 8) (by rw [be_length]) rfl HF4.out HS4.out HB4.out.size (Nat.le_refl _) ?_; intro v5 w5 HO6 HB5))
      obtain ⟨A5, c5, rfl, _, hc5, hf5⟩ := fresh_of_own HO6.out (Nat.le_refl w.heap.size)
      have hpd : padded xs = xs ++ 128 :: List.replicate z 0 ++ be (8 * (n : Int)) 8 := by
        rw [padded_be, HZZ.out, HZ.out, HN.out]
      rw [← hpd] at hc5 hf5 ⊢
      have HC5 := hid hc5; have HF5 := hid hf5
      clear hpd hc5 hf5
      go_wp2
      go_ret
      exact ⟨A5, c5, rfl, HC5.out, HF5.out, HB4.out.trans HB5.out⟩
    · have hne : ((q : Int) % 64 != 56) = true := by simp; omega
      have HO1b := hid (own_below HO.out ((Below.refl wr.heap.size wr).alloc (Nat.le_refl _) (.cells #[.int .u8 0] 5)))
      have HQ4 : Hid (q = (xs ++ 128 :: List.replicate z 0).length) := (by show _ = _; rw [HQ.out, HN.out]; simp; omega)
      have HO5 : Hid ((wr.alloc (.cells #[.int .u8 0] 5)).ownsRow w.heap.size 5 1 (.slice A' q c') (xs ++ 128 :: List.replicate z 0).length (u8s (xs ++ 128 :: List.replicate z 0))) := (by show World.ownsRow _ _ _ _ _ _ _; rw [← HQ4.out]; exact HO1b.out)
      have HR1 : Hid (Rp (wr.alloc (.cells #[.int .u8 0] 5)) none (some ⟨wr.heap.size, 0, none⟩) [0]) := Blk.rp (xs := [0]) (Blk.new wr 5 _)
      have HS4 : Hid ((xs ++ 128 :: List.replicate z 0).length + [(0 : Int)].length < 1000000000000) := (by show _ < _; rw [← HQ4.out]; simp; omega)
      have HZ1 : Hid (w.heap.size ≤ (wr.alloc (.cells #[.int .u8 0] 5)).heap.size) := Nat.le_trans HB.out.size (by simp)
      have HZL2 : Hid (z + 1 ≤ Z) := by
        have := HQ.out; have := HZL.out; have := HZ.out
        show _ ≤ _
        omega
      clear hlt HO1b
      go_wp2_with (at_builtin; refine append_rp rfl (.tmp 14) (.tmp 15) rfl w.heap.size w.heap.size _ (xs ++ 128 :: List.replicate z 0) rfl HO5.out (some ⟨wr.heap.size, 0, none⟩) 1 [0] rfl HR1.out HS4.out HZ1.out (Nat.le_refl _) ?_; intro v3 w3 HO3 HB3; obtain ⟨A3, c3, rfl, _, _, _⟩ := fresh_of_own HO3.out (Nat.le_refl w.heap.size); obtain ⟨q3, hq3⟩ : ∃ q, q = (xs ++ 128 :: List.replicate z 0 ++ [(0 : Int)]).length := ⟨_, rfl⟩; rw [← hq3] at HO3 ⊢; have HQ3 := hid hq3; clear hq3)
      refine ⟨⟨z + 1, q3, A3, c3, rfl, HZL2.out, ?_, ?_, (HB.out.alloc HB.out.size _).trans HB3.out⟩, ?_⟩
      · show _ = _
        rw [HQ3.out, List.length_append, ← HQ4.out, HQ.out]; rfl
      · have h := HO3.out
        have e : xs ++ 128 :: List.replicate z (0 : Int) ++ [0] = xs ++ 128 :: List.replicate (z + 1) 0 := by
          rw [List.replicate_succ']; simp
        rw [e] at h
        exact h
      · have h1 : q3 = q + 1 := by rw [HQ3.out, List.length_append, ← HQ4.out]; rfl
        have h2 := HQ.out
        have h3 := HZL2.out
        simp only [lenOf]
        omega
end Go.Proofs.YtpponjmhgfikiaaDoor
