/-
  What this file is for: keys as rows of bytes, and a byte's bits, in plain mathematics (as in the texts on prefixes, for a seat that has the hash's own words).
-/
import Derived.Test.YteiflhgmgdibgaaBase
namespace Go.Proofs.Yteiflhgmgdibgaa
open Go.ChangeShapes Go.WideShapes Go.ChangeAt Go.RowKit
set_option linter.unusedVariables false

/-- 32 bytes -/
structure Ky (K : List Int) : Prop where
  len : K.length = 32
  bs : Bs K
/-- bit t of a byte, the most significant one first -/
def bt (x : Int) (t : Nat) : Int := x / 2 ^ (7 - t) % 2
theorem byte_ext (x y : Int) (hx : 0 ≤ x ∧ x < 256) (hy : 0 ≤ y ∧ y < 256) (h : ∀ t, t < 8 → bt x t = bt y t) : x = y := by
  have h0 := h 0 (by decide); have h1 := h 1 (by decide); have h2 := h 2 (by decide); have h3 := h 3 (by decide)
  have h4 := h 4 (by decide); have h5 := h 5 (by decide); have h6 := h 6 (by decide); have h7 := h 7 (by decide)
  simp only [bt] at h0 h1 h2 h3 h4 h5 h6 h7
  simp at h0 h1 h2 h3 h4 h5 h6 h7
  omega
end Go.Proofs.Yteiflhgmgdibgaa
