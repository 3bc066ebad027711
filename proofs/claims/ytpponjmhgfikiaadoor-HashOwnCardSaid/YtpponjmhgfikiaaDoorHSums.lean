/-
  All texts have the hash that the chapter says: the walk of the statement.
-/
import Derived.Test.YtpponjmhgfikiaaDoorRSum
import Derived.Stop.BytesEq
namespace Go.Proofs.YtpponjmhgfikiaaDoor
open Go.ChangeShapes Go.WideShapes Go.ChangeAt Go.RowKit
set_option linter.unusedVariables false

theorem to_u8 (l : List Int) (h : Bs l) : u8s l = (l.map fun v => UInt8.ofNat v.toNat).map Go.Extern.Stop.cell := by
  unfold u8s
  rw [List.map_map]
  apply List.map_congr_left
  intro v hv
  obtain ⟨h0, h1⟩ := h v hv
  show Value.int .u8 v = .int .u8 ((UInt8.ofNat v.toNat).toNat : Int)
  congr 1
  rw [UInt8.toNat_ofNat']
  omega
theorem u8_inj (a b : List Int) (ha : Bs a) (hb : Bs b) (h : (a.map fun v => UInt8.ofNat v.toNat) = b.map fun v => UInt8.ofNat v.toNat) : a = b := by
  have h2 : u8s a = u8s b := by rw [to_u8 a ha, to_u8 b hb, h]
  unfold u8s at h2
  have : Function.Injective (Value.int .u8) := fun x y e => by injection e
  exact (List.map_inj_right (fun x y e => this e)).1 h2
theorem eql_hash (a b : List Int) (ha : Bs a) (hb : Bs b) (la : a.length = 32) (lb : b.length = 32) (w : World) :
    (binOp .eql 25 (.agg (u8s a).toArray) (.agg (u8s b).toArray)).run Tryd.prog w = .ok (.bool (decide (a = b))) w := by
  have h := run_eql_bytes (P := Tryd.prog) w 25 5 32 Tryd.underlying25 Tryd.underlying5 (fun w => by kernel_rfl) (a.map fun v => UInt8.ofNat v.toNat) (b.map fun v => UInt8.ofNat v.toNat) (by simp [la]) (by simp [lb])
  rw [← to_u8 a ha, ← to_u8 b hb] at h
  rw [h]
  congr 2
  rw [Bool.eq_iff_iff, beq_iff_eq, decide_eq_true_iff]
  exact ⟨fun e => u8_inj a b ha hb e, fun e => by rw [e]⟩
theorem sum_bs (b : List Int) : Bs (sum b) := by
  intro v hv
  unfold sum at hv
  simp only [List.mem_map] at hv
  obtain ⟨i, _, rfl⟩ := hv
  omega

set_option maxRecDepth 5000 in
set_option maxHeartbeats 1000000 in
theorem hsums_walk (A : Option Addr) (n c : Nat) (xs : List Int) (w : World) (h : InB w A n c xs) (hc : n ≤ c) (ht : Tab w) :
    Calls Tryd.prog 3 #[.slice A n c] w fun e w' => e = .returned (.bool true) ∧ Below w.heap.size w w' := by
  obtain ⟨hl, hm, hb, hr⟩ := h
  have HAW := hid (fun (w1 : World) (hb : Below w.heap.size w w1) => hawake_any w1 (ht.below hb))
  have B0 := hid (Below.refl w.heap.size w)
  by_cases hbig : 2000 < n
  · have tok1 : True := trivial
    clear hl hb hr ht
    go_enter Tryd.func3, Tryd.ntmps3
    go_wp2_with (first
      | (go_at_call 8; have _t := tok1; refine (HAW.out _ B0.out).mono ?_; rintro e w1 ⟨rfl, hb1⟩; have HB1 := hid hb1; clear tok1 hb1)
      | (go_at_call 8; refine (HAW.out _ HB1.out).mono ?_; rintro e w2 ⟨rfl, hb2⟩; have HB2 := hid (HB1.out.trans (hb2.mono HB1.out.size)); clear hb2))
    go_ret
    exact ⟨rfl, HB2.out⟩
  · have hS := fun (w1 : World) (hbl : Below w.heap.size w w1) => Sum_any A c xs w1 (hr.belowN hbl) hb (by omega) (by omega) (ht.below hbl)
    have hR := fun (w1 : World) (hbl : Below w.heap.size w w1) => RSum_any A c xs w1 (hr.belowN hbl) hb (by omega)
    unfold hashV at hS hR
    rw [hl] at hS hR
    obtain ⟨S, hSS⟩ : ∃ S, S = sum xs := ⟨_, rfl⟩
    rw [← hSS] at hS hR
    have heq : ∀ w : World, (binOp .eql 25 (.agg (u8s S).toArray) (.agg (u8s S).toArray)).run Tryd.prog w = .ok (.bool true) w := fun w => by
      have h := eql_hash S S (by rw [hSS]; exact sum_bs xs) (by rw [hSS]; exact sum_bs xs) (by rw [hSS]; exact sum_length xs) (by rw [hSS]; exact sum_length xs) w
      rw [decide_eq_true rfl] at h
      exact h
    have HS := hid hS; have HR := hid hR
    clear hl hb hr ht hS hR hSS
    go_enter Tryd.func3, Tryd.ntmps3
    go_wp2_with (first
      | (go_at_call 8; refine (HAW.out _ B0.out).mono ?_; rintro e w1 ⟨rfl, hb1⟩; have HB1 := hid hb1; clear hb1)
      | (go_at_call 9; refine (HS.out _ HB1.out).mono ?_; rintro e w2 ⟨rfl, hb2⟩; have HB2 := hid (HB1.out.trans (hb2.mono HB1.out.size)); clear hb2)
      | (go_at_call 10; refine (HR.out _ HB2.out).mono ?_; rintro e w3 ⟨rfl, hb3⟩; have HB3 := hid (HB2.out.trans (hb3.mono HB2.out.size)); clear hb3))
    go_ret
    exact ⟨rfl, HB3.out⟩
end Go.Proofs.YtpponjmhgfikiaaDoor
