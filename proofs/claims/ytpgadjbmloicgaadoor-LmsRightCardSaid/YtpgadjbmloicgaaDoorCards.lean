/-
  DERIVED. GIVEN WITH THE SEED: THE CARDS: each row of YtpgadjbmloicgaaDoorRows.lean that lists a variable, with what it lists TIED to the program's text (the seventh form; the later family's looks); each row that meets fmt, with fmt's text TOLD by the authors' own Lean function (tested against real Go, not proved from fmt's source: count such statements apart). THE CARD IS WHAT COUNTS. Prove the row's statement (the work); the ties are given (YtpgadjbmloicgaaDoorTie.lean); close each card by the builder's one call (the guide's Derived/Test/ToyasCard.lean, 'card_holds'). Laid BY PROGRAM, IN A SANDBOX (cutbox-door.mjs). By AI agents, Wed Nov 11 2026. No macro, syntax, notation, axiom, sorry.
-/
import Derived.Test.YtpgadjbmloicgaaDoorRows
import GoSem.ClaimSeven
namespace Go.Proofs.YtpgadjbmloicgaaDoor
namespace Rows

/-- THE TIED CARD OF 'rolodexlaw04.LmotsRecovers'. -/
def lmotsRecoversCard : Claim7 := { stood := { row := lmotsRecoversRow, standIns := [], harness := (true, "3ac9673d0362cf47aa9d5e78f498c4dfd8845f07981a96f560acf8d6b3857b7f"), looks := false }, kinds := [], alts := [], laidByText := true, laidKinds := [.data], laidTests := true, laidLooks := .later }
def LmotsRecoversCardSaid : Prop := Claim7.holds Tryd.pinned (.plain (OpenSpec.ofChange lmotsRecoversSpec)) lmotsRecoversCard

/-- THE TIED CARD OF 'rolodexlaw04.LmotsCuts'. -/
def lmotsCutsCard : Claim7 := { stood := { row := lmotsCutsRow, standIns := [], harness := (true, "3ac9673d0362cf47aa9d5e78f498c4dfd8845f07981a96f560acf8d6b3857b7f"), looks := false }, kinds := [], alts := [], laidByText := true, laidKinds := [.data], laidTests := true, laidLooks := .later }
def LmotsCutsCardSaid : Prop := Claim7.holds Tryd.pinned (.plain (OpenSpec.ofChange lmotsCutsSpec)) lmotsCutsCard

/-- THE TIED CARD OF 'rolodexlaw05.LmsKeys'. -/
def lmsKeysCard : Claim7 := { stood := { row := lmsKeysRow, standIns := [], harness := (true, "3ac9673d0362cf47aa9d5e78f498c4dfd8845f07981a96f560acf8d6b3857b7f"), looks := false }, kinds := [], alts := [], laidByText := true, laidKinds := [.data], laidTests := true, laidLooks := .later }
def LmsKeysCardSaid : Prop := Claim7.holds Tryd.pinned (.plain (OpenSpec.ofChange lmsKeysSpec)) lmsKeysCard

/-- THE TIED CARD OF 'rolodexlaw05.LmsSigns'. -/
def lmsSignsCard : Claim7 := { stood := { row := lmsSignsRow, standIns := [], harness := (true, "3ac9673d0362cf47aa9d5e78f498c4dfd8845f07981a96f560acf8d6b3857b7f"), looks := false }, kinds := [], alts := [], laidByText := true, laidKinds := [.data], laidTests := true, laidLooks := .later }
def LmsSignsCardSaid : Prop := Claim7.holds Tryd.pinned (.plain (OpenSpec.ofChange lmsSignsSpec)) lmsSignsCard

/-- THE TIED CARD OF 'rolodexlaw05.LmsVerifies'. -/
def lmsVerifiesCard : Claim7 := { stood := { row := lmsVerifiesRow, standIns := [], harness := (true, "3ac9673d0362cf47aa9d5e78f498c4dfd8845f07981a96f560acf8d6b3857b7f"), looks := false }, kinds := [], alts := [], laidByText := true, laidKinds := [.data], laidTests := true, laidLooks := .later }
def LmsVerifiesCardSaid : Prop := Claim7.holds Tryd.pinned (.plain (OpenSpec.ofChange lmsVerifiesSpec)) lmsVerifiesCard

/-- THE TIED CARD OF 'rolodexlaw05.LmsRight'. -/
def lmsRightCard : Claim7 := { stood := { row := lmsRightRow, standIns := [], harness := (true, "3ac9673d0362cf47aa9d5e78f498c4dfd8845f07981a96f560acf8d6b3857b7f"), looks := false }, kinds := [], alts := [], laidByText := true, laidKinds := [.data], laidTests := true, laidLooks := .later }
def LmsRightCardSaid : Prop := Claim7.holds Tryd.pinned (.plain (OpenSpec.ofChange lmsRightSpec)) lmsRightCard

/-- THE TIED CARD OF 'rolodexlaw05.LmsCuts'. -/
def lmsCutsCard : Claim7 := { stood := { row := lmsCutsRow, standIns := [], harness := (true, "3ac9673d0362cf47aa9d5e78f498c4dfd8845f07981a96f560acf8d6b3857b7f"), looks := false }, kinds := [], alts := [], laidByText := true, laidKinds := [.data], laidTests := true, laidLooks := .later }
def LmsCutsCardSaid : Prop := Claim7.holds Tryd.pinned (.plain (OpenSpec.ofChange lmsCutsSpec)) lmsCutsCard

/-- THE TIED CARD OF 'rolodexlaw05.LmsNil'. -/
def lmsNilCard : Claim7 := { stood := { row := lmsNilRow, standIns := [], harness := (true, "3ac9673d0362cf47aa9d5e78f498c4dfd8845f07981a96f560acf8d6b3857b7f"), looks := false }, kinds := [], alts := [], laidByText := true, laidKinds := [.data], laidTests := true, laidLooks := .later }
def LmsNilCardSaid : Prop := Claim7.holds Tryd.pinned (.plain (OpenSpec.ofChange lmsNilSpec)) lmsNilCard

/-- THE SECOND FORM's CARD OF 'rolodexlaw04.LmotsRecovers'. -/
def lmotsRecoversUptoCard : Claim7 := { stood := { row := lmotsRecoversUptoRow, standIns := [], harness := (true, "3ac9673d0362cf47aa9d5e78f498c4dfd8845f07981a96f560acf8d6b3857b7f"), looks := false }, kinds := [], alts := [], laidByText := true, laidKinds := [.data], laidTests := true, laidLooks := .later }
def LmotsRecoversUptoCardSaid : Prop := Claim7.holds Tryd.pinned (.plain (OpenSpec.upto lmotsRecoversSpec)) lmotsRecoversUptoCard

/-- THE SECOND FORM's CARD OF 'rolodexlaw04.LmotsCuts'. -/
def lmotsCutsUptoCard : Claim7 := { stood := { row := lmotsCutsUptoRow, standIns := [], harness := (true, "3ac9673d0362cf47aa9d5e78f498c4dfd8845f07981a96f560acf8d6b3857b7f"), looks := false }, kinds := [], alts := [], laidByText := true, laidKinds := [.data], laidTests := true, laidLooks := .later }
def LmotsCutsUptoCardSaid : Prop := Claim7.holds Tryd.pinned (.plain (OpenSpec.upto lmotsCutsSpec)) lmotsCutsUptoCard

/-- THE SECOND FORM's CARD OF 'rolodexlaw05.LmsKeys'. -/
def lmsKeysUptoCard : Claim7 := { stood := { row := lmsKeysUptoRow, standIns := [], harness := (true, "3ac9673d0362cf47aa9d5e78f498c4dfd8845f07981a96f560acf8d6b3857b7f"), looks := false }, kinds := [], alts := [], laidByText := true, laidKinds := [.data], laidTests := true, laidLooks := .later }
def LmsKeysUptoCardSaid : Prop := Claim7.holds Tryd.pinned (.plain (OpenSpec.upto lmsKeysSpec)) lmsKeysUptoCard

/-- THE SECOND FORM's CARD OF 'rolodexlaw05.LmsSigns'. -/
def lmsSignsUptoCard : Claim7 := { stood := { row := lmsSignsUptoRow, standIns := [], harness := (true, "3ac9673d0362cf47aa9d5e78f498c4dfd8845f07981a96f560acf8d6b3857b7f"), looks := false }, kinds := [], alts := [], laidByText := true, laidKinds := [.data], laidTests := true, laidLooks := .later }
def LmsSignsUptoCardSaid : Prop := Claim7.holds Tryd.pinned (.plain (OpenSpec.upto lmsSignsSpec)) lmsSignsUptoCard

/-- THE SECOND FORM's CARD OF 'rolodexlaw05.LmsVerifies'. -/
def lmsVerifiesUptoCard : Claim7 := { stood := { row := lmsVerifiesUptoRow, standIns := [], harness := (true, "3ac9673d0362cf47aa9d5e78f498c4dfd8845f07981a96f560acf8d6b3857b7f"), looks := false }, kinds := [], alts := [], laidByText := true, laidKinds := [.data], laidTests := true, laidLooks := .later }
def LmsVerifiesUptoCardSaid : Prop := Claim7.holds Tryd.pinned (.plain (OpenSpec.upto lmsVerifiesSpec)) lmsVerifiesUptoCard

/-- THE SECOND FORM's CARD OF 'rolodexlaw05.LmsRight'. -/
def lmsRightUptoCard : Claim7 := { stood := { row := lmsRightUptoRow, standIns := [], harness := (true, "3ac9673d0362cf47aa9d5e78f498c4dfd8845f07981a96f560acf8d6b3857b7f"), looks := false }, kinds := [], alts := [], laidByText := true, laidKinds := [.data], laidTests := true, laidLooks := .later }
def LmsRightUptoCardSaid : Prop := Claim7.holds Tryd.pinned (.plain (OpenSpec.upto lmsRightSpec)) lmsRightUptoCard

/-- THE SECOND FORM's CARD OF 'rolodexlaw05.LmsCuts'. -/
def lmsCutsUptoCard : Claim7 := { stood := { row := lmsCutsUptoRow, standIns := [], harness := (true, "3ac9673d0362cf47aa9d5e78f498c4dfd8845f07981a96f560acf8d6b3857b7f"), looks := false }, kinds := [], alts := [], laidByText := true, laidKinds := [.data], laidTests := true, laidLooks := .later }
def LmsCutsUptoCardSaid : Prop := Claim7.holds Tryd.pinned (.plain (OpenSpec.upto lmsCutsSpec)) lmsCutsUptoCard

/-- THE SECOND FORM's CARD OF 'rolodexlaw05.LmsNil'. -/
def lmsNilUptoCard : Claim7 := { stood := { row := lmsNilUptoRow, standIns := [], harness := (true, "3ac9673d0362cf47aa9d5e78f498c4dfd8845f07981a96f560acf8d6b3857b7f"), looks := false }, kinds := [], alts := [], laidByText := true, laidKinds := [.data], laidTests := true, laidLooks := .later }
def LmsNilUptoCardSaid : Prop := Claim7.holds Tryd.pinned (.plain (OpenSpec.upto lmsNilSpec)) lmsNilUptoCard
end Rows
end Go.Proofs.YtpgadjbmloicgaaDoor
