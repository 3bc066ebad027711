/-
  DERIVED. GIVEN WITH THE SEED: THE CARDS: each row of YtbhgchbacadgaaaDoorRows.lean that lists a variable, with what it lists TIED to the program's text (the seventh form; the later family's looks); each row that meets fmt, with fmt's text TOLD by the authors' own Lean function (tested against real Go, not proved from fmt's source: count such statements apart). THE CARD IS WHAT COUNTS. Prove the row's statement (the work); the ties are given (YtbhgchbacadgaaaDoorTie.lean); close each card by the builder's one call (the guide's Derived/Test/ToyasCard.lean, 'card_holds'). Laid BY PROGRAM, IN A SANDBOX (cutbox-door.mjs). By AI agents, Wed Nov 11 2026. No macro, syntax, notation, axiom, sorry.
-/
import Derived.Test.YtbhgchbacadgaaaDoorRows
import GoSem.ClaimSeven
namespace Go.Proofs.YtbhgchbacadgaaaDoor
namespace Rows

/-- THE TIED CARD OF 'rolodexlaw11.TriePuts'. -/
def triePutsCard : Claim7 := { stood := { row := triePutsRow, standIns := [], harness := (true, "bfb55b414b425edbd4c8e8b90db6f1f507d4521b9492ac32e8e2dea52f63801d"), looks := false }, kinds := [], alts := [], laidByText := true, laidKinds := [.data], laidTests := true, laidLooks := .later }
def TriePutsCardSaid : Prop := Claim7.holds Tryd.pinned (.plain (OpenSpec.ofChange triePutsSpec)) triePutsCard

/-- THE TIED CARD OF 'rolodexlaw11.TrieOrder'. -/
def trieOrderCard : Claim7 := { stood := { row := trieOrderRow, standIns := [], harness := (true, "bfb55b414b425edbd4c8e8b90db6f1f507d4521b9492ac32e8e2dea52f63801d"), looks := false }, kinds := [], alts := [], laidByText := true, laidKinds := [.data], laidTests := true, laidLooks := .later }
def TrieOrderCardSaid : Prop := Claim7.holds Tryd.pinned (.plain (OpenSpec.ofChange trieOrderSpec)) trieOrderCard

/-- THE TIED CARD OF 'rolodexlaw11.TrieNodes'. -/
def trieNodesCard : Claim7 := { stood := { row := trieNodesRow, standIns := [], harness := (true, "bfb55b414b425edbd4c8e8b90db6f1f507d4521b9492ac32e8e2dea52f63801d"), looks := false }, kinds := [], alts := [], laidByText := true, laidKinds := [.data], laidTests := true, laidLooks := .later }
def TrieNodesCardSaid : Prop := Claim7.holds Tryd.pinned (.plain (OpenSpec.ofChange trieNodesSpec)) trieNodesCard

/-- THE TIED CARD OF 'rolodexlaw12.ProofShows'. -/
def proofShowsCard : Claim7 := { stood := { row := proofShowsRow, standIns := [], harness := (true, "bfb55b414b425edbd4c8e8b90db6f1f507d4521b9492ac32e8e2dea52f63801d"), looks := false }, kinds := [], alts := [], laidByText := true, laidKinds := [.data], laidTests := true, laidLooks := .later }
def ProofShowsCardSaid : Prop := Claim7.holds Tryd.pinned (.plain (OpenSpec.ofChange proofShowsSpec)) proofShowsCard

/-- THE TIED CARD OF 'rolodexlaw12.ProofSound'. -/
def proofSoundCard : Claim7 := { stood := { row := proofSoundRow, standIns := [], harness := (true, "bfb55b414b425edbd4c8e8b90db6f1f507d4521b9492ac32e8e2dea52f63801d"), looks := false }, kinds := [], alts := [], laidByText := true, laidKinds := [.data], laidTests := true, laidLooks := .later }
def ProofSoundCardSaid : Prop := Claim7.holds Tryd.pinned (.plain (OpenSpec.ofChange proofSoundSpec)) proofSoundCard

/-- THE TIED CARD OF 'rolodexlaw13.DeltaSince'. -/
def deltaSinceCard : Claim7 := { stood := { row := deltaSinceRow, standIns := [], harness := (true, "bfb55b414b425edbd4c8e8b90db6f1f507d4521b9492ac32e8e2dea52f63801d"), looks := false }, kinds := [], alts := [], laidByText := true, laidKinds := [.data], laidTests := true, laidLooks := .later }
def DeltaSinceCardSaid : Prop := Claim7.holds Tryd.pinned (.plain (OpenSpec.ofChange deltaSinceSpec)) deltaSinceCard

/-- THE TIED CARD OF 'rolodexlaw13.DeltaNone'. -/
def deltaNoneCard : Claim7 := { stood := { row := deltaNoneRow, standIns := [], harness := (true, "bfb55b414b425edbd4c8e8b90db6f1f507d4521b9492ac32e8e2dea52f63801d"), looks := false }, kinds := [], alts := [], laidByText := true, laidKinds := [.data], laidTests := true, laidLooks := .later }
def DeltaNoneCardSaid : Prop := Claim7.holds Tryd.pinned (.plain (OpenSpec.ofChange deltaNoneSpec)) deltaNoneCard

/-- THE SECOND FORM's CARD OF 'rolodexlaw11.TriePuts'. -/
def triePutsUptoCard : Claim7 := { stood := { row := triePutsUptoRow, standIns := [], harness := (true, "bfb55b414b425edbd4c8e8b90db6f1f507d4521b9492ac32e8e2dea52f63801d"), looks := false }, kinds := [], alts := [], laidByText := true, laidKinds := [.data], laidTests := true, laidLooks := .later }
def TriePutsUptoCardSaid : Prop := Claim7.holds Tryd.pinned (.plain (OpenSpec.upto triePutsSpec)) triePutsUptoCard

/-- THE SECOND FORM's CARD OF 'rolodexlaw11.TrieOrder'. -/
def trieOrderUptoCard : Claim7 := { stood := { row := trieOrderUptoRow, standIns := [], harness := (true, "bfb55b414b425edbd4c8e8b90db6f1f507d4521b9492ac32e8e2dea52f63801d"), looks := false }, kinds := [], alts := [], laidByText := true, laidKinds := [.data], laidTests := true, laidLooks := .later }
def TrieOrderUptoCardSaid : Prop := Claim7.holds Tryd.pinned (.plain (OpenSpec.upto trieOrderSpec)) trieOrderUptoCard

/-- THE SECOND FORM's CARD OF 'rolodexlaw11.TrieNodes'. -/
def trieNodesUptoCard : Claim7 := { stood := { row := trieNodesUptoRow, standIns := [], harness := (true, "bfb55b414b425edbd4c8e8b90db6f1f507d4521b9492ac32e8e2dea52f63801d"), looks := false }, kinds := [], alts := [], laidByText := true, laidKinds := [.data], laidTests := true, laidLooks := .later }
def TrieNodesUptoCardSaid : Prop := Claim7.holds Tryd.pinned (.plain (OpenSpec.upto trieNodesSpec)) trieNodesUptoCard

/-- THE SECOND FORM's CARD OF 'rolodexlaw12.ProofShows'. -/
def proofShowsUptoCard : Claim7 := { stood := { row := proofShowsUptoRow, standIns := [], harness := (true, "bfb55b414b425edbd4c8e8b90db6f1f507d4521b9492ac32e8e2dea52f63801d"), looks := false }, kinds := [], alts := [], laidByText := true, laidKinds := [.data], laidTests := true, laidLooks := .later }
def ProofShowsUptoCardSaid : Prop := Claim7.holds Tryd.pinned (.plain (OpenSpec.upto proofShowsSpec)) proofShowsUptoCard

/-- THE SECOND FORM's CARD OF 'rolodexlaw12.ProofSound'. -/
def proofSoundUptoCard : Claim7 := { stood := { row := proofSoundUptoRow, standIns := [], harness := (true, "bfb55b414b425edbd4c8e8b90db6f1f507d4521b9492ac32e8e2dea52f63801d"), looks := false }, kinds := [], alts := [], laidByText := true, laidKinds := [.data], laidTests := true, laidLooks := .later }
def ProofSoundUptoCardSaid : Prop := Claim7.holds Tryd.pinned (.plain (OpenSpec.upto proofSoundSpec)) proofSoundUptoCard

/-- THE SECOND FORM's CARD OF 'rolodexlaw13.DeltaSince'. -/
def deltaSinceUptoCard : Claim7 := { stood := { row := deltaSinceUptoRow, standIns := [], harness := (true, "bfb55b414b425edbd4c8e8b90db6f1f507d4521b9492ac32e8e2dea52f63801d"), looks := false }, kinds := [], alts := [], laidByText := true, laidKinds := [.data], laidTests := true, laidLooks := .later }
def DeltaSinceUptoCardSaid : Prop := Claim7.holds Tryd.pinned (.plain (OpenSpec.upto deltaSinceSpec)) deltaSinceUptoCard

/-- THE SECOND FORM's CARD OF 'rolodexlaw13.DeltaNone'. -/
def deltaNoneUptoCard : Claim7 := { stood := { row := deltaNoneUptoRow, standIns := [], harness := (true, "bfb55b414b425edbd4c8e8b90db6f1f507d4521b9492ac32e8e2dea52f63801d"), looks := false }, kinds := [], alts := [], laidByText := true, laidKinds := [.data], laidTests := true, laidLooks := .later }
def DeltaNoneUptoCardSaid : Prop := Claim7.holds Tryd.pinned (.plain (OpenSpec.upto deltaNoneSpec)) deltaNoneUptoCard
end Rows
end Go.Proofs.YtbhgchbacadgaaaDoor
