/-
  What is proved here: the first bytes of a write, and behind them what was there.
-/
import Derived.Test.YtjdojnbpchommaaMVeW
import Derived.Deep.DeepCutAuto
import Derived.Deep.RegionLaw
set_option linter.unusedSimpArgs false
set_option linter.unusedVariables false
namespace Go.Proofs.Ytjdojnbpchommaa
open Go.ChangeShapes Go.WideShapes Go.ChangeAt Go.RowKit
set_option linter.unusedVariables false
set_option linter.unusedSimpArgs false
set_option maxRecDepth 20000

def clamp (t : Int) : Nat := (min (max t 0) 128).toNat
theorem keep_clamp (l : List Int) (i : Nat) : keep l i = clamp (l[i]?.getD 0) := rfl
theorem mx_at {p q : List Int} (hp : p.length = 128) (hq : q.length = 128) (t : Int) {k : Nat} (hk : k < 128) : (mx p q (clamp t))[k]? = some (if (k : Int) < t then q[k]?.getD 0 else p[k]?.getD 0) := by
  unfold mx
  by_cases h : (k : Int) < t
  · rw [if_pos h, List.getElem?_append_left (by rw [List.length_take, hq]; unfold clamp; omega), List.getElem?_take, if_pos (by unfold clamp; omega), List.getElem?_eq_getElem (by omega)]; rfl
  · have hc : clamp t ≤ k := by unfold clamp; omega
    rw [if_neg h, List.getElem?_append_right (by rw [List.length_take, hq]; omega), List.getElem?_drop, List.length_take, hq, Nat.min_eq_left (by omega), show clamp t + (k - clamp t) = k by omega, List.getElem?_eq_getElem (by omega)]; rfl
theorem clamp_le (t : Int) : clamp t ≤ 128 := by unfold clamp; omega
def MixAns (w : World) (xs : List Int) (e : Ending) (w' : World) : Prop := ∃ X d, e = .returned (.slice X 128 (128 + d)) ∧ Fresh w w' X xs ∧ Below w.heap.size w w'
set_option maxHeartbeats 8000000 in
theorem Mixed_any (A B : Option Addr) (c d : Nat) (p q : List Int) (t : Int) (w : World) (hp : p.length = 128) (hq : q.length = 128) (ha : Rp w none A p) (hb : Rp w none B q) (ht : -9223372036854775808 ≤ t ∧ t ≤ 9223372036854775807) :
    Calls Try.prog 34 #[.slice A 128 c, .slice B 128 d, .int .i64 t] w (MixAns w (mx p q (clamp t))) := by
  obtain ⟨X, hX⟩ : ∃ X, X = mx p q (clamp t) := ⟨_, rfl⟩
  have HX : Hid (∀ k : Nat, k < 128 → X[k]? = some (if (k : Int) < t then q[k]?.getD 0 else p[k]?.getD 0)) := fun k hk => by rw [hX]; exact mx_at hp hq t hk
  have HXL : Hid (X.length = 128) := by show _ = _; rw [hX]; exact mx_length hp hq (clamp_le t)
  rw [← hX]
  have HA := hid ha; have HB := hid hb; have HP := hid hp; have HQ := hid hq
  obtain ⟨ht1, ht2⟩ := ht
  clear ha hb hp hq hX
  go_enter Try.func34, Try.ntmps34
  go_wp2
  go_loopw [7, 8] (fun o i wr => ∃ (k : Nat) (Y : Option Addr) (e : Nat), k ≤ 128 ∧ i = .int .i64 k ∧ o = .slice Y k e ∧ Hid (wr.ownsRow w.heap.size 5 1 (.slice Y k e) k (u8s (X.take k))) ∧ Hid (Below w.heap.size w wr)) (fun _ i _ => 128 - (intOf i).toNat)
  case atStart => exact ⟨0, none, 0, Nat.zero_le _, rfl, rfl, ⟨rfl, .inl ⟨rfl, rfl⟩⟩, Below.refl _ _⟩
  case round =>
    obtain ⟨k, Y, e, hk, rfl, rfl, HO, BL⟩ := hrel
    by_cases hlt : k < 128
    · have hk2 : (k : Int) < 128 := by omega
      have hxk := HX.out k hlt
      have HTK : Hid (X.take (k + 1) = X.take k ++ [X[k]?.getD 0]) := by
        show _ = _
        rw [List.take_add_one, hxk]; rfl
      have HTL : Hid ((X.take k).length = k) := by show _ = _; rw [List.length_take, HXL.out]; omega
      have HK := hid hlt
      by_cases hkt : (k : Int) < t
      · rw [if_pos hkt] at hxk
        obtain ⟨ad, rfl, hcell⟩ := (HB.out.belowN BL.out).get (by rw [HQ.out]; decide)
        have hck := hcell k (by rw [HQ.out]; exact hlt)
        obtain ⟨y, hy⟩ : ∃ y, y = q[k]?.getD 0 := ⟨_, rfl⟩
        rw [← hy] at hck hxk
        have HXK := hid hxk
        clear hcell hy hxk hlt
        go_wp2_with (at_builtin; refine append_rp rfl (.tmp 18) (.tmp 23) rfl w.heap.size w.heap.size (.slice Y k e) (X.take k) rfl (by rw [HTL.out]; exact HO.out.alloc _) (some ⟨wr.heap.size, 0, none⟩) 1 [y] rfl (Blk.new wr 5 #[.int .u8 y]).rp (by rw [HTL.out]; have := HK.out; simp; omega) (Nat.le_trans BL.out.size (by simp)) (Nat.le_refl _) ?_; intro v9 w9 ow9 hb9; have ow9' := ow9.out; rw [List.length_append, HTL.out] at ow9'; obtain ⟨Y9, e9, rfl⟩ := slice_of ow9'; have OW9 := hid ow9'; have HB9 := hb9; clear ow9 ow9' hb9)
        go_roundw
        case rel =>
          refine ⟨k + 1, Y9, e9, by omega, by go_num, rfl, ?_, (BL.out.alloc BL.out.size _).trans HB9.out⟩
          have := OW9.out
          rw [HTK.out, HXK.out]
          exact this
        case measure => simp [intOf]; omega
      · rw [if_neg hkt] at hxk
        obtain ⟨ad, rfl, hcell⟩ := (HA.out.belowN BL.out).get (by rw [HP.out]; decide)
        have hck := hcell k (by rw [HP.out]; exact hlt)
        obtain ⟨y, hy⟩ : ∃ y, y = p[k]?.getD 0 := ⟨_, rfl⟩
        rw [← hy] at hck hxk
        have HXK := hid hxk
        clear hcell hy hxk hlt
        go_wp2_with (at_builtin; refine append_rp rfl (.tmp 25) (.tmp 30) rfl w.heap.size w.heap.size (.slice Y k e) (X.take k) rfl (by rw [HTL.out]; exact HO.out.alloc _) (some ⟨wr.heap.size, 0, none⟩) 1 [y] rfl (Blk.new wr 5 #[.int .u8 y]).rp (by rw [HTL.out]; have := HK.out; simp; omega) (Nat.le_trans BL.out.size (by simp)) (Nat.le_refl _) ?_; intro v9 w9 ow9 hb9; have ow9' := ow9.out; rw [List.length_append, HTL.out] at ow9'; obtain ⟨Y9, e9, rfl⟩ := slice_of ow9'; have OW9 := hid ow9'; have HB9 := hb9; clear ow9 ow9' hb9)
        go_roundw
        case rel =>
          refine ⟨k + 1, Y9, e9, by omega, by go_num, rfl, ?_, (BL.out.alloc BL.out.size _).trans HB9.out⟩
          have := OW9.out
          rw [HTK.out, HXK.out]
          exact this
        case measure => simp [intOf]; omega
    · obtain rfl : k = 128 := by omega
      go_wp2
      go_ret
      have h := HO.out
      rw [List.take_of_length_le (by rw [HXL.out]; omega)] at h
      obtain ⟨Y', e', hv, _, hge, hf⟩ := fresh_of_own h (Nat.le_refl _)
      injection hv with hv1 _ hv2
      subst hv1; subst hv2
      exact ⟨Y, e - 128, by rw [Nat.add_sub_cancel' hge]; rfl, hf, BL.out⟩
end Go.Proofs.Ytjdojnbpchommaa
