/-
  DERIVED. GIVEN WITH THE SEED: THE CARDS: each row of YtpeldkadpnoeiaaDoorRows.lean that lists a variable, with what it lists TIED to the program's text (the seventh form; the later family's looks); each row that meets fmt, with fmt's text TOLD by the authors' own Lean function (tested against real Go, not proved from fmt's source: count such statements apart). THE CARD IS WHAT COUNTS. Prove the row's statement (the work); the ties are given (YtpeldkadpnoeiaaDoorTie.lean); close each card by the builder's one call (the guide's Derived/Test/ToyasCard.lean, 'card_holds'). Laid BY PROGRAM, IN A SANDBOX (cutbox-door.mjs). By AI agents, Wed Nov 11 2026. No macro, syntax, notation, axiom, sorry.
-/
import Derived.Test.YtpeldkadpnoeiaaDoorRows
import GoSem.ClaimSeven
namespace Go.Proofs.YtpeldkadpnoeiaaDoor
namespace Rows

/-- THE TIED CARD OF 'rolodexlaw15.FrontierHashes'. -/
def frontierHashesCard : Claim7 := { stood := { row := frontierHashesRow, standIns := [], harness := (true, "1e1c87d9a136122e1a79460201e1ae80db730675b09f1b4e699f9f305659f4b1"), looks := false }, kinds := [], alts := [], laidByText := true, laidKinds := [.data], laidTests := true, laidLooks := .later }
def FrontierHashesCardSaid : Prop := Claim7.holds Tryd.pinned (.plain (OpenSpec.ofChange frontierHashesSpec)) frontierHashesCard

/-- THE TIED CARD OF 'rolodexlaw15.FrontierSegments'. -/
def frontierSegmentsCard : Claim7 := { stood := { row := frontierSegmentsRow, standIns := [], harness := (true, "1e1c87d9a136122e1a79460201e1ae80db730675b09f1b4e699f9f305659f4b1"), looks := false }, kinds := [], alts := [], laidByText := true, laidKinds := [.data, .data], laidTests := true, laidLooks := .later }
def FrontierSegmentsCardSaid : Prop := Claim7.holds Tryd.pinned (.plain (OpenSpec.ofChange frontierSegmentsSpec)) frontierSegmentsCard

/-- THE TIED CARD OF 'rolodexlaw15.FrontierRanges'. -/
def frontierRangesCard : Claim7 := { stood := { row := frontierRangesRow, standIns := [], harness := (true, "1e1c87d9a136122e1a79460201e1ae80db730675b09f1b4e699f9f305659f4b1"), looks := false }, kinds := [], alts := [], laidByText := true, laidKinds := [.data, .data], laidTests := true, laidLooks := .later }
def FrontierRangesCardSaid : Prop := Claim7.holds Tryd.pinned (.plain (OpenSpec.ofChange frontierRangesSpec)) frontierRangesCard

/-- THE TIED CARD OF 'rolodexlaw15.FrontierJoins'. -/
def frontierJoinsCard : Claim7 := { stood := { row := frontierJoinsRow, standIns := [], harness := (true, "1e1c87d9a136122e1a79460201e1ae80db730675b09f1b4e699f9f305659f4b1"), looks := false }, kinds := [], alts := [], laidByText := true, laidKinds := [.data, .data], laidTests := true, laidLooks := .later }
def FrontierJoinsCardSaid : Prop := Claim7.holds Tryd.pinned (.plain (OpenSpec.ofChange frontierJoinsSpec)) frontierJoinsCard

/-- THE TIED CARD OF 'rolodexlaw15.FrontierParts'. -/
def frontierPartsCard : Claim7 := { stood := { row := frontierPartsRow, standIns := [], harness := (true, "1e1c87d9a136122e1a79460201e1ae80db730675b09f1b4e699f9f305659f4b1"), looks := false }, kinds := [], alts := [], laidByText := true, laidKinds := [.data, .data], laidTests := true, laidLooks := .later }
def FrontierPartsCardSaid : Prop := Claim7.holds Tryd.pinned (.plain (OpenSpec.ofChange frontierPartsSpec)) frontierPartsCard

/-- THE TIED CARD OF 'rolodexlaw15.FrontierGrows'. -/
def frontierGrowsCard : Claim7 := { stood := { row := frontierGrowsRow, standIns := [], harness := (true, "1e1c87d9a136122e1a79460201e1ae80db730675b09f1b4e699f9f305659f4b1"), looks := false }, kinds := [], alts := [], laidByText := true, laidKinds := [.data, .data], laidTests := true, laidLooks := .later }
def FrontierGrowsCardSaid : Prop := Claim7.holds Tryd.pinned (.plain (OpenSpec.ofChange frontierGrowsSpec)) frontierGrowsCard

/-- THE SECOND FORM's CARD OF 'rolodexlaw15.FrontierHashes'. -/
def frontierHashesUptoCard : Claim7 := { stood := { row := frontierHashesUptoRow, standIns := [], harness := (true, "1e1c87d9a136122e1a79460201e1ae80db730675b09f1b4e699f9f305659f4b1"), looks := false }, kinds := [], alts := [], laidByText := true, laidKinds := [.data], laidTests := true, laidLooks := .later }
def FrontierHashesUptoCardSaid : Prop := Claim7.holds Tryd.pinned (.plain (OpenSpec.upto frontierHashesSpec)) frontierHashesUptoCard

/-- THE SECOND FORM's CARD OF 'rolodexlaw15.FrontierSegments'. -/
def frontierSegmentsUptoCard : Claim7 := { stood := { row := frontierSegmentsUptoRow, standIns := [], harness := (true, "1e1c87d9a136122e1a79460201e1ae80db730675b09f1b4e699f9f305659f4b1"), looks := false }, kinds := [], alts := [], laidByText := true, laidKinds := [.data, .data], laidTests := true, laidLooks := .later }
def FrontierSegmentsUptoCardSaid : Prop := Claim7.holds Tryd.pinned (.plain (OpenSpec.upto frontierSegmentsSpec)) frontierSegmentsUptoCard

/-- THE SECOND FORM's CARD OF 'rolodexlaw15.FrontierRanges'. -/
def frontierRangesUptoCard : Claim7 := { stood := { row := frontierRangesUptoRow, standIns := [], harness := (true, "1e1c87d9a136122e1a79460201e1ae80db730675b09f1b4e699f9f305659f4b1"), looks := false }, kinds := [], alts := [], laidByText := true, laidKinds := [.data, .data], laidTests := true, laidLooks := .later }
def FrontierRangesUptoCardSaid : Prop := Claim7.holds Tryd.pinned (.plain (OpenSpec.upto frontierRangesSpec)) frontierRangesUptoCard

/-- THE SECOND FORM's CARD OF 'rolodexlaw15.FrontierJoins'. -/
def frontierJoinsUptoCard : Claim7 := { stood := { row := frontierJoinsUptoRow, standIns := [], harness := (true, "1e1c87d9a136122e1a79460201e1ae80db730675b09f1b4e699f9f305659f4b1"), looks := false }, kinds := [], alts := [], laidByText := true, laidKinds := [.data, .data], laidTests := true, laidLooks := .later }
def FrontierJoinsUptoCardSaid : Prop := Claim7.holds Tryd.pinned (.plain (OpenSpec.upto frontierJoinsSpec)) frontierJoinsUptoCard

/-- THE SECOND FORM's CARD OF 'rolodexlaw15.FrontierParts'. -/
def frontierPartsUptoCard : Claim7 := { stood := { row := frontierPartsUptoRow, standIns := [], harness := (true, "1e1c87d9a136122e1a79460201e1ae80db730675b09f1b4e699f9f305659f4b1"), looks := false }, kinds := [], alts := [], laidByText := true, laidKinds := [.data, .data], laidTests := true, laidLooks := .later }
def FrontierPartsUptoCardSaid : Prop := Claim7.holds Tryd.pinned (.plain (OpenSpec.upto frontierPartsSpec)) frontierPartsUptoCard

/-- THE SECOND FORM's CARD OF 'rolodexlaw15.FrontierGrows'. -/
def frontierGrowsUptoCard : Claim7 := { stood := { row := frontierGrowsUptoRow, standIns := [], harness := (true, "1e1c87d9a136122e1a79460201e1ae80db730675b09f1b4e699f9f305659f4b1"), looks := false }, kinds := [], alts := [], laidByText := true, laidKinds := [.data, .data], laidTests := true, laidLooks := .later }
def FrontierGrowsUptoCardSaid : Prop := Claim7.holds Tryd.pinned (.plain (OpenSpec.upto frontierGrowsSpec)) frontierGrowsUptoCard
end Rows
end Go.Proofs.YtpeldkadpnoeiaaDoor
