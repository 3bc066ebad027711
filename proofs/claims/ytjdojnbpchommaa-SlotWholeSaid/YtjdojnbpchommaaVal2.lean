/-
  What is proved here: what the document's own number of some bytes is.
-/
import Derived.Test.YtjdojnbpchommaaRd4
import Derived.RegionTactic
import Derived.LoopTactic
import Derived.Outline
namespace Go.Proofs.Ytjdojnbpchommaa
open Go.ChangeShapes Go.WideShapes Go.ChangeAt Go.RowKit
set_option linter.unusedVariables false
set_option maxRecDepth 20000

set_option maxRecDepth 5000 in
set_option maxHeartbeats 1000000 in
theorem Value_any (A : Option Addr) (c : Nat) (xs : List Int) (w : World) (hr : Rp w none A xs) (hb : Bs xs) (hn : xs.length ≤ 8) :
    Calls Try.prog 38 #[.slice A xs.length c] w fun e w' => e = .returned (.int .u64 (val xs)) ∧ w = w' := by
  obtain ⟨n, hN⟩ : ∃ n, n = xs.length := ⟨_, rfl⟩
  rw [← hN] at hn ⊢
  have HN := hid hN; have HR := hid hr; have HB := hid hb
  clear hr hb hN
  go_enter Try.func38, Try.ntmps38
  go_wp2
  go_loop [3, 4] (fun xv iv => ∃ k : Nat, k ≤ n ∧ iv = .int .i64 k ∧ xv = .int .u64 (val (xs.take k))) (fun _ iv => n - (intOf iv).toNat)
  case atStart => exact ⟨0, by omega, rfl, rfl⟩
  case round =>
    obtain ⟨k, hk, rfl, rfl⟩ := hrel
    by_cases hlt : k < n
    · have hn := HN.out
      obtain ⟨ad, rfl, hc⟩ := HR.out.get (by omega)
      have hck := hc k (by omega)
      have HT := hid (val_take xs k (by omega))
      have hy := HB.out.at k
      obtain ⟨y, hyy⟩ : ∃ y, y = xs[k]?.getD 0 := ⟨_, rfl⟩
      rw [← hyy] at hck HT hy
      have hX := val_bound (xs.take k) (HB.out.take k)
      rw [List.length_take] at hX
      have h7 := pow_seven (min k xs.length) (by omega)
      obtain ⟨X, hXX⟩ : ∃ X, X = val (xs.take k) := ⟨_, rfl⟩
      rw [← hXX] at hX HT ⊢
      have HX := hid hX; have H7 := hid h7; have HY := hid hy
      obtain ⟨hy0, hy1⟩ := hy
      clear hX h7 hc hn hyy hXX
      go_wp2
      go_round
      case rel =>
        refine ⟨k + 1, by omega, by go_num, ?_⟩
        have h1 := HX.out; have h2 := H7.out; have h3 := HY.out
        rw [HT.out]
        first
          | rfl
          | (congr 1; rw [u64_keep (X * 256) (by omega) (by omega), u64_keep _ (by omega) (by omega)])
          | (congr 1; rw [u64_keep _ (by omega) (by omega)])
          | (congr 1; simp [IntKind.wrap, IntKind.bits, IntKind.signed]; omega)
      case measure => simp [intOf]; omega
    · have hkn : k = n := by omega
      have e : val (xs.take k) = val xs := by rw [List.take_of_length_le (by have := HN.out; omega)]
      rw [e]
      clear e
      go_wp2
      go_ret
      exact ⟨rfl, rfl⟩

end Go.Proofs.Ytjdojnbpchommaa
