/-
  What is proved here: the program answers; all labels, versions and numbers have the key, the commitment and the salt that the chapter says.
-/
import Derived.Test.YtjhaamffgkialaaDoorMC11
import Derived.Test.YtjhaamffgkialaaDoorMCO
import Derived.Lib.SlBytesConst
set_option linter.unusedSimpArgs false
set_option linter.unusedVariables false
namespace Go.Proofs.YtjhaamffgkialaaDoor
open Go.ChangeShapes Go.WideShapes Go.ChangeAt Go.RowKit
set_option linter.unusedVariables false
set_option linter.unusedSimpArgs false
set_option maxRecDepth 20000

theorem bs_one : Bs [97] := fun v hv => by rw [List.mem_singleton.1 hv]; decide
theorem awake_ok : okF (cm [97]) 1 ([] ++ [gw zH [97] [] 1 []]) = true := by
  rw [okV_iff]
  refine ⟨by decide, fun i hi => ?_⟩
  have h0 : i = 0 := by simpa using hi
  subst h0
  unfold stF
  rw [if_pos rfl]
  have e : vAt ([] ++ [gw zH [97] [] 1 []]) 0 = gw zH [97] [] 1 [] := rfl
  rw [e]
  unfold gw lastC
  simp
theorem rp_97 (w : World) : Rp (w.alloc (.cells #[.int .u8 97] 5 (1, 2))) none (some ⟨w.heap.size, 0, none⟩) [97] := fun _ =>
  ⟨_, rfl, (fun ⟨a, e, _⟩ => by cases e), fun j hj => by
    have h0 : j = 0 := by simpa using hj
    subst h0
    rw [Addr.add_lit, cell_of_row _ w.heap.size _ #[.int .u8 97] 5 (1, 2) (heap_alloc_new w _)]
    rfl⟩
theorem chAwake_any (w : World) (ht : Tab w) : Calls Tryd.prog 31 #[] w fun e w' => e = .returned (.bool true) ∧ Below w.heap.size w w' := by
  have B0 : Hid (Below w.heap.size w (w.alloc (.cells #[.int .u8 97] 5 (1, 2)))) := (Below.refl _ _).alloc (Nat.le_refl _) _
  have hL : Lbl (w.alloc (.cells #[.int .u8 97] 5 (1, 2))) (some ⟨w.heap.size, 0, none⟩) 1 [97] := ⟨rp_97 w, bs_one, by decide, by decide⟩
  have hcv := Lib.run_convert_bytes_const w 23 5 #[.int .u8 97] 1 1 Tryd.underlying23 Tryd.underlying5
  rw [show (#[Value.int .u8 97] : Array Value).size = 1 from rfl] at hcv
  have CG0 := grow_any (seed := zH) (ep := 1) (val := []) (Av := none) (cv := 0) (c2 := 0) hL (InV.nil _ none) (fun q hq => by simp at hq) (by decide) hh_zero ⟨by decide, by decide⟩ (Rp.nil _ _ _) (fun v hv => by simp at hv) (by decide) (ht.below B0.out)
  rw [show ([97] : List Int).length = 1 from rfl, awake_ok] at CG0
  have CG := hid CG0
  clear CG0 hL ht
  go_enter Tryd.func31, Tryd.ntmps31
  go_upto_region 2 with (first
    | (refine cbuild_h0 rfl rfl ?_)
    | (go_at_call 51; refine CG.out.mono ?_; rintro e w1 ⟨⟨A1, n1, c1, rfl, hc1, hn1, hin1⟩, hb1⟩; have IN1 := hid hin1; have B1 := hid (B0.out.trans (hb1.mono B0.out.size)); have HN1 := hid hn1; clear hb1 hin1 hn1 hc1))
  have hn1' : n1 = 1 := HN1.out
  subst hn1'
  have hin : InV w1 A1 1 ([] ++ [gw zH [97] [] 1 []]) := IN1.out
  obtain ⟨b, oo, V, rfl, hbl, hat, harg, hq⟩ := hin.at (k := 0) (by decide)
  have c0 : w1.cell? ⟨b, oo, none⟩ = some (.int .i64 1) := by
    have := hat.n
    rw [Nat.zero_mul, Nat.add_zero] at this
    exact this
  clear hat harg hq hbl hin IN1 HN1 CG
  go_wp2
  go_ret
  exact ⟨rfl, B1.out⟩
theorem eql_hash1 {a : List Int} (h : Hh a) : ∀ w : World, (binOp .eql 26 (.agg (u8s a).toArray) (.agg (u8s a).toArray)).run Tryd.prog w = .ok (.bool true) w := fun w => by
  have h1 := eql_hash a a h.bs h.bs h.len h.len w
  rw [decide_eq_true rfl] at h1
  exact h1
end Go.Proofs.YtjhaamffgkialaaDoor
