/-
  DERIVED. GIVEN WITH THE SEED: THE CARDS: each row of YteiflhgmgdibgaaDoorRows.lean that lists a variable, with what it lists TIED to the program's text (the seventh form; the later family's looks); each row that meets fmt, with fmt's text TOLD by the authors' own Lean function (tested against real Go, not proved from fmt's source: count such statements apart). THE CARD IS WHAT COUNTS. Prove the row's statement (the work); the ties are given (YteiflhgmgdibgaaDoorTie.lean); close each card by the builder's one call (the guide's Derived/Test/ToyasCard.lean, 'card_holds'). Laid BY PROGRAM, IN A SANDBOX (cutbox-door.mjs). By AI agents, Wed Nov 11 2026. No macro, syntax, notation, axiom, sorry.
-/
import Derived.Test.YteiflhgmgdibgaaDoorRows
import GoSem.ClaimSeven
namespace Go.Proofs.YteiflhgmgdibgaaDoor
namespace Rows

/-- THE TIED CARD OF 'rolodexlaw04.LmotsPublic'. -/
def lmotsPublicCard : Claim7 := { stood := { row := lmotsPublicRow, standIns := [], harness := (true, "8d940ffd486657a648d7333f7b751e482d04cf537a0fc7fedac7ea2fba5d3038"), looks := false }, kinds := [], alts := [], laidByText := true, laidKinds := [.data], laidTests := true, laidLooks := .later }
def LmotsPublicCardSaid : Prop := Claim7.holds Tryd.pinned (.plain (OpenSpec.ofChange lmotsPublicSpec)) lmotsPublicCard

/-- THE TIED CARD OF 'rolodexlaw04.LmotsSigns'. -/
def lmotsSignsCard : Claim7 := { stood := { row := lmotsSignsRow, standIns := [], harness := (true, "8d940ffd486657a648d7333f7b751e482d04cf537a0fc7fedac7ea2fba5d3038"), looks := false }, kinds := [], alts := [], laidByText := true, laidKinds := [.data], laidTests := true, laidLooks := .later }
def LmotsSignsCardSaid : Prop := Claim7.holds Tryd.pinned (.plain (OpenSpec.ofChange lmotsSignsSpec)) lmotsSignsCard

/-- THE TIED CARD OF 'rolodexlaw04.LmotsRecovers'. -/
def lmotsRecoversCard : Claim7 := { stood := { row := lmotsRecoversRow, standIns := [], harness := (true, "8d940ffd486657a648d7333f7b751e482d04cf537a0fc7fedac7ea2fba5d3038"), looks := false }, kinds := [], alts := [], laidByText := true, laidKinds := [.data], laidTests := true, laidLooks := .later }
def LmotsRecoversCardSaid : Prop := Claim7.holds Tryd.pinned (.plain (OpenSpec.ofChange lmotsRecoversSpec)) lmotsRecoversCard

/-- THE TIED CARD OF 'rolodexlaw04.LmotsRight'. -/
def lmotsRightCard : Claim7 := { stood := { row := lmotsRightRow, standIns := [], harness := (true, "8d940ffd486657a648d7333f7b751e482d04cf537a0fc7fedac7ea2fba5d3038"), looks := false }, kinds := [], alts := [], laidByText := true, laidKinds := [.data], laidTests := true, laidLooks := .later }
def LmotsRightCardSaid : Prop := Claim7.holds Tryd.pinned (.plain (OpenSpec.ofChange lmotsRightSpec)) lmotsRightCard

/-- THE TIED CARD OF 'rolodexlaw04.LmotsCuts'. -/
def lmotsCutsCard : Claim7 := { stood := { row := lmotsCutsRow, standIns := [], harness := (true, "8d940ffd486657a648d7333f7b751e482d04cf537a0fc7fedac7ea2fba5d3038"), looks := false }, kinds := [], alts := [], laidByText := true, laidKinds := [.data], laidTests := true, laidLooks := .later }
def LmotsCutsCardSaid : Prop := Claim7.holds Tryd.pinned (.plain (OpenSpec.ofChange lmotsCutsSpec)) lmotsCutsCard

/-- THE SECOND FORM's CARD OF 'rolodexlaw04.LmotsPublic'. -/
def lmotsPublicUptoCard : Claim7 := { stood := { row := lmotsPublicUptoRow, standIns := [], harness := (true, "8d940ffd486657a648d7333f7b751e482d04cf537a0fc7fedac7ea2fba5d3038"), looks := false }, kinds := [], alts := [], laidByText := true, laidKinds := [.data], laidTests := true, laidLooks := .later }
def LmotsPublicUptoCardSaid : Prop := Claim7.holds Tryd.pinned (.plain (OpenSpec.upto lmotsPublicSpec)) lmotsPublicUptoCard

/-- THE SECOND FORM's CARD OF 'rolodexlaw04.LmotsSigns'. -/
def lmotsSignsUptoCard : Claim7 := { stood := { row := lmotsSignsUptoRow, standIns := [], harness := (true, "8d940ffd486657a648d7333f7b751e482d04cf537a0fc7fedac7ea2fba5d3038"), looks := false }, kinds := [], alts := [], laidByText := true, laidKinds := [.data], laidTests := true, laidLooks := .later }
def LmotsSignsUptoCardSaid : Prop := Claim7.holds Tryd.pinned (.plain (OpenSpec.upto lmotsSignsSpec)) lmotsSignsUptoCard

/-- THE SECOND FORM's CARD OF 'rolodexlaw04.LmotsRecovers'. -/
def lmotsRecoversUptoCard : Claim7 := { stood := { row := lmotsRecoversUptoRow, standIns := [], harness := (true, "8d940ffd486657a648d7333f7b751e482d04cf537a0fc7fedac7ea2fba5d3038"), looks := false }, kinds := [], alts := [], laidByText := true, laidKinds := [.data], laidTests := true, laidLooks := .later }
def LmotsRecoversUptoCardSaid : Prop := Claim7.holds Tryd.pinned (.plain (OpenSpec.upto lmotsRecoversSpec)) lmotsRecoversUptoCard

/-- THE SECOND FORM's CARD OF 'rolodexlaw04.LmotsRight'. -/
def lmotsRightUptoCard : Claim7 := { stood := { row := lmotsRightUptoRow, standIns := [], harness := (true, "8d940ffd486657a648d7333f7b751e482d04cf537a0fc7fedac7ea2fba5d3038"), looks := false }, kinds := [], alts := [], laidByText := true, laidKinds := [.data], laidTests := true, laidLooks := .later }
def LmotsRightUptoCardSaid : Prop := Claim7.holds Tryd.pinned (.plain (OpenSpec.upto lmotsRightSpec)) lmotsRightUptoCard

/-- THE SECOND FORM's CARD OF 'rolodexlaw04.LmotsCuts'. -/
def lmotsCutsUptoCard : Claim7 := { stood := { row := lmotsCutsUptoRow, standIns := [], harness := (true, "8d940ffd486657a648d7333f7b751e482d04cf537a0fc7fedac7ea2fba5d3038"), looks := false }, kinds := [], alts := [], laidByText := true, laidKinds := [.data], laidTests := true, laidLooks := .later }
def LmotsCutsUptoCardSaid : Prop := Claim7.holds Tryd.pinned (.plain (OpenSpec.upto lmotsCutsSpec)) lmotsCutsUptoCard
end Rows
end Go.Proofs.YteiflhgmgdibgaaDoor
