/-
  What is proved here: whether the numbers of a list of fields are small, as the statements ask it.
-/
import Derived.Test.YtmdclicomneomaaPure
namespace Go.Proofs.Ytmdclicomneomaa
open Go.ChangeShapes Go.WideShapes Go.ChangeAt Go.RowKit
set_option linter.unusedVariables false

def smallF (f : Int × Int × List Int) : Bool := decide (f.2.1 ≤ 4611686018427387904) || decide (f.1 = 4)
def sm (l : List (Int × Int × List Int)) : Bool := l.all smallF
theorem sm_all {l : List (Int × Int × List Int)} (h : sm l = true) : ∀ f ∈ l, f.2.1 ≤ 4611686018427387904 ∨ f.1 = 4 := by
  intro f hf
  unfold sm at h
  rw [List.all_eq_true] at h
  have := h f hf
  unfold smallF at this
  rw [Bool.or_eq_true] at this
  simpa using this

set_option maxRecDepth 5000 in
set_option maxHeartbeats 1000000 in
theorem small_any (A : Option Addr) (n c : Nat) (l : List (Int × Int × List Int)) (w : World) (h : InL w A n l) :
    Calls Try.prog 11 #[.slice A n c] w fun e w' => e = .returned (.bool (sm l)) ∧ w = w' := by
  have hl := h.1
  have hmax := h.2.1
  obtain ⟨r, hr⟩ : ∃ r, r = sm l := ⟨_, rfl⟩
  rw [← hr]
  have HR := hid hr; have H := hid h; have HL := hid hl
  clear hr h hl
  go_enter Try.func11, Try.ntmps11
  go_wp2
  go_loop [3] (fun i => ∃ k : Nat, k ≤ n ∧ i = .int .i64 k ∧ ((l.take k).all smallF = true)) (fun i => n - (intOf i).toNat)
  case atStart => exact ⟨0, by omega, rfl, by simp⟩
  case round =>
    obtain ⟨k, hk, rfl, hall⟩ := hrel
    have HA := hid hall
    clear hall
    by_cases hlt : k < n
    · obtain ⟨b, o, rfl, _, hat⟩ := H.out.at_ (by omega)
      obtain ⟨kk, x, bb, B, cc, h1, h2, h3, h4, h5, h6, h7, h8, h9⟩ := hat k hlt
      have H1 := hid h1
      have hkl : Hid (k < l.length) := by have := HL.out; show _ < _; omega
      have hel : Hid (l[k]? = some (kk, x, bb)) := h1
      have hstep : Hid (smallF (kk, x, bb) = true → (l.take (k + 1)).all smallF = true) := by
        intro hs
        have hkl := hkl.out
        rw [List.take_succ_eq_append_getElem hkl, List.all_append, HA.out]
        have e : l[k] = (kk, x, bb) := by have h1 := H1.out; rw [List.getElem?_eq_getElem hkl] at h1; injection h1
        rw [e]; simp [hs]
      have hbad : Hid (smallF (kk, x, bb) = false → r = false) := by
        intro hs
        rw [HR.out]
        unfold sm
        rw [List.all_eq_false]
        exact ⟨_, List.mem_of_getElem? H1.out, by rw [hs]; decide⟩
      obtain ⟨M, hM⟩ : ∃ M : Int, M = 4611686018427387904 := ⟨_, rfl⟩
      clear hat h1 h4 h5 h6 h9 H1 hkl hel h2 h3
      by_cases hbig : 4611686018427387904 < x
      · by_cases h4 : kk = 4
        · have hs := hid (hstep.out (by subst h4; simp [smallF]))
          have b4 : (kk == 4) = true := by simpa using h4
          have b4' : (kk != 4) = false := by simp [h4]
          clear hstep hbad h4
          go_wp2
          go_round
          case rel => exact ⟨k + 1, by omega, by go_num, hs.out⟩
          case measure => simp [intOf]; omega
        · have hf := hid (hbad.out (by simp [smallF, h4]; omega))
          have b4 : (kk == 4) = false := by simpa using h4
          have b4' : (kk != 4) = true := by simp [h4]
          clear hstep hbad h4
          go_wp2
          go_ret
          rw [hf.out]
          exact ⟨rfl, rfl⟩
      · have hs := hid (hstep.out (by simp [smallF]; omega))
        clear hstep hbad
        go_wp2
        go_round
        case rel => exact ⟨k + 1, by omega, by go_num, hs.out⟩
        case measure => simp [intOf]; omega
    · have hk3 : k = n := by omega
      subst hk3
      have hf : r = true := by
        have hl := HL.out
        have ha := HA.out
        rw [List.take_of_length_le (by omega)] at ha
        rw [HR.out]; exact ha
      have HF := hid hf
      clear hf
      go_wp2
      go_ret
      rw [HF.out]
      exact ⟨rfl, rfl⟩
end Go.Proofs.Ytmdclicomneomaa
