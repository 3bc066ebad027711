/-
  DERIVED. GIVEN WITH THE SEED: THE CARDS: each row of YtjhaamffgkialaaDoorRows.lean that lists a variable, with what it lists TIED to the program's text (the seventh form; the later family's looks); each row that meets fmt, with fmt's text TOLD by the authors' own Lean function (tested against real Go, not proved from fmt's source: count such statements apart). THE CARD IS WHAT COUNTS. Prove the row's statement (the work); the ties are given (YtjhaamffgkialaaDoorTie.lean); close each card by the builder's one call (the guide's Derived/Test/ToyasCard.lean, 'card_holds'). Laid BY PROGRAM, IN A SANDBOX (cutbox-door.mjs). By AI agents, Wed Nov 11 2026. No macro, syntax, notation, axiom, sorry.
-/
import Derived.Test.YtjhaamffgkialaaDoorRows
import GoSem.ClaimSeven
namespace Go.Proofs.YtjhaamffgkialaaDoor
namespace Rows

/-- THE TIED CARD OF 'rolodexlaw11.TrieOrder'. -/
def trieOrderCard : Claim7 := { stood := { row := trieOrderRow, standIns := [], harness := (true, "4bd4ae8d0681ac3edb38e3213014bcbad2b825a4d1b2f3f6bb05a4b1009a2362"), looks := false }, kinds := [], alts := [], laidByText := true, laidKinds := [.data], laidTests := true, laidLooks := .later }
def TrieOrderCardSaid : Prop := Claim7.holds Tryd.pinned (.plain (OpenSpec.ofChange trieOrderSpec)) trieOrderCard

/-- THE TIED CARD OF 'rolodexlaw12.ProofSound'. -/
def proofSoundCard : Claim7 := { stood := { row := proofSoundRow, standIns := [], harness := (true, "4bd4ae8d0681ac3edb38e3213014bcbad2b825a4d1b2f3f6bb05a4b1009a2362"), looks := false }, kinds := [], alts := [], laidByText := true, laidKinds := [.data], laidTests := true, laidLooks := .later }
def ProofSoundCardSaid : Prop := Claim7.holds Tryd.pinned (.plain (OpenSpec.ofChange proofSoundSpec)) proofSoundCard

/-- THE TIED CARD OF 'rolodexlaw13.DeltaNone'. -/
def deltaNoneCard : Claim7 := { stood := { row := deltaNoneRow, standIns := [], harness := (true, "4bd4ae8d0681ac3edb38e3213014bcbad2b825a4d1b2f3f6bb05a4b1009a2362"), looks := false }, kinds := [], alts := [], laidByText := true, laidKinds := [.data], laidTests := true, laidLooks := .later }
def DeltaNoneCardSaid : Prop := Claim7.holds Tryd.pinned (.plain (OpenSpec.ofChange deltaNoneSpec)) deltaNoneCard

/-- THE TIED CARD OF 'rolodexlaw14.ChainHashes'. -/
def chainHashesCard : Claim7 := { stood := { row := chainHashesRow, standIns := [], harness := (true, "4bd4ae8d0681ac3edb38e3213014bcbad2b825a4d1b2f3f6bb05a4b1009a2362"), looks := false }, kinds := [], alts := [], laidByText := true, laidKinds := [.data], laidTests := true, laidLooks := .later }
def ChainHashesCardSaid : Prop := Claim7.holds Tryd.pinned (.plain (OpenSpec.ofChange chainHashesSpec)) chainHashesCard

/-- THE TIED CARD OF 'rolodexlaw14.ChainForms'. -/
def chainFormsCard : Claim7 := { stood := { row := chainFormsRow, standIns := [], harness := (true, "4bd4ae8d0681ac3edb38e3213014bcbad2b825a4d1b2f3f6bb05a4b1009a2362"), looks := false }, kinds := [], alts := [], laidByText := true, laidKinds := [.data], laidTests := true, laidLooks := .later }
def ChainFormsCardSaid : Prop := Claim7.holds Tryd.pinned (.plain (OpenSpec.ofChange chainFormsSpec)) chainFormsCard

/-- THE TIED CARD OF 'rolodexlaw14.ChainGrows'. -/
def chainGrowsCard : Claim7 := { stood := { row := chainGrowsRow, standIns := [], harness := (true, "4bd4ae8d0681ac3edb38e3213014bcbad2b825a4d1b2f3f6bb05a4b1009a2362"), looks := false }, kinds := [], alts := [], laidByText := true, laidKinds := [.data], laidTests := true, laidLooks := .later }
def ChainGrowsCardSaid : Prop := Claim7.holds Tryd.pinned (.plain (OpenSpec.ofChange chainGrowsSpec)) chainGrowsCard

/-- THE TIED CARD OF 'rolodexlaw14.ChainBuilds'. -/
def chainBuildsCard : Claim7 := { stood := { row := chainBuildsRow, standIns := [], harness := (true, "4bd4ae8d0681ac3edb38e3213014bcbad2b825a4d1b2f3f6bb05a4b1009a2362"), looks := false }, kinds := [], alts := [], laidByText := true, laidKinds := [.data], laidTests := true, laidLooks := .later }
def ChainBuildsCardSaid : Prop := Claim7.holds Tryd.pinned (.plain (OpenSpec.ofChange chainBuildsSpec)) chainBuildsCard

/-- THE TIED CARD OF 'rolodexlaw14.ChainSound'. -/
def chainSoundCard : Claim7 := { stood := { row := chainSoundRow, standIns := [], harness := (true, "4bd4ae8d0681ac3edb38e3213014bcbad2b825a4d1b2f3f6bb05a4b1009a2362"), looks := false }, kinds := [], alts := [], laidByText := true, laidKinds := [.data], laidTests := true, laidLooks := .later }
def ChainSoundCardSaid : Prop := Claim7.holds Tryd.pinned (.plain (OpenSpec.ofChange chainSoundSpec)) chainSoundCard

/-- THE SECOND FORM's CARD OF 'rolodexlaw11.TrieOrder'. -/
def trieOrderUptoCard : Claim7 := { stood := { row := trieOrderUptoRow, standIns := [], harness := (true, "4bd4ae8d0681ac3edb38e3213014bcbad2b825a4d1b2f3f6bb05a4b1009a2362"), looks := false }, kinds := [], alts := [], laidByText := true, laidKinds := [.data], laidTests := true, laidLooks := .later }
def TrieOrderUptoCardSaid : Prop := Claim7.holds Tryd.pinned (.plain (OpenSpec.upto trieOrderSpec)) trieOrderUptoCard

/-- THE SECOND FORM's CARD OF 'rolodexlaw12.ProofSound'. -/
def proofSoundUptoCard : Claim7 := { stood := { row := proofSoundUptoRow, standIns := [], harness := (true, "4bd4ae8d0681ac3edb38e3213014bcbad2b825a4d1b2f3f6bb05a4b1009a2362"), looks := false }, kinds := [], alts := [], laidByText := true, laidKinds := [.data], laidTests := true, laidLooks := .later }
def ProofSoundUptoCardSaid : Prop := Claim7.holds Tryd.pinned (.plain (OpenSpec.upto proofSoundSpec)) proofSoundUptoCard

/-- THE SECOND FORM's CARD OF 'rolodexlaw13.DeltaNone'. -/
def deltaNoneUptoCard : Claim7 := { stood := { row := deltaNoneUptoRow, standIns := [], harness := (true, "4bd4ae8d0681ac3edb38e3213014bcbad2b825a4d1b2f3f6bb05a4b1009a2362"), looks := false }, kinds := [], alts := [], laidByText := true, laidKinds := [.data], laidTests := true, laidLooks := .later }
def DeltaNoneUptoCardSaid : Prop := Claim7.holds Tryd.pinned (.plain (OpenSpec.upto deltaNoneSpec)) deltaNoneUptoCard

/-- THE SECOND FORM's CARD OF 'rolodexlaw14.ChainHashes'. -/
def chainHashesUptoCard : Claim7 := { stood := { row := chainHashesUptoRow, standIns := [], harness := (true, "4bd4ae8d0681ac3edb38e3213014bcbad2b825a4d1b2f3f6bb05a4b1009a2362"), looks := false }, kinds := [], alts := [], laidByText := true, laidKinds := [.data], laidTests := true, laidLooks := .later }
def ChainHashesUptoCardSaid : Prop := Claim7.holds Tryd.pinned (.plain (OpenSpec.upto chainHashesSpec)) chainHashesUptoCard

/-- THE SECOND FORM's CARD OF 'rolodexlaw14.ChainForms'. -/
def chainFormsUptoCard : Claim7 := { stood := { row := chainFormsUptoRow, standIns := [], harness := (true, "4bd4ae8d0681ac3edb38e3213014bcbad2b825a4d1b2f3f6bb05a4b1009a2362"), looks := false }, kinds := [], alts := [], laidByText := true, laidKinds := [.data], laidTests := true, laidLooks := .later }
def ChainFormsUptoCardSaid : Prop := Claim7.holds Tryd.pinned (.plain (OpenSpec.upto chainFormsSpec)) chainFormsUptoCard

/-- THE SECOND FORM's CARD OF 'rolodexlaw14.ChainGrows'. -/
def chainGrowsUptoCard : Claim7 := { stood := { row := chainGrowsUptoRow, standIns := [], harness := (true, "4bd4ae8d0681ac3edb38e3213014bcbad2b825a4d1b2f3f6bb05a4b1009a2362"), looks := false }, kinds := [], alts := [], laidByText := true, laidKinds := [.data], laidTests := true, laidLooks := .later }
def ChainGrowsUptoCardSaid : Prop := Claim7.holds Tryd.pinned (.plain (OpenSpec.upto chainGrowsSpec)) chainGrowsUptoCard

/-- THE SECOND FORM's CARD OF 'rolodexlaw14.ChainBuilds'. -/
def chainBuildsUptoCard : Claim7 := { stood := { row := chainBuildsUptoRow, standIns := [], harness := (true, "4bd4ae8d0681ac3edb38e3213014bcbad2b825a4d1b2f3f6bb05a4b1009a2362"), looks := false }, kinds := [], alts := [], laidByText := true, laidKinds := [.data], laidTests := true, laidLooks := .later }
def ChainBuildsUptoCardSaid : Prop := Claim7.holds Tryd.pinned (.plain (OpenSpec.upto chainBuildsSpec)) chainBuildsUptoCard

/-- THE SECOND FORM's CARD OF 'rolodexlaw14.ChainSound'. -/
def chainSoundUptoCard : Claim7 := { stood := { row := chainSoundUptoRow, standIns := [], harness := (true, "4bd4ae8d0681ac3edb38e3213014bcbad2b825a4d1b2f3f6bb05a4b1009a2362"), looks := false }, kinds := [], alts := [], laidByText := true, laidKinds := [.data], laidTests := true, laidLooks := .later }
def ChainSoundUptoCardSaid : Prop := Claim7.holds Tryd.pinned (.plain (OpenSpec.upto chainSoundSpec)) chainSoundUptoCard
end Rows
end Go.Proofs.YtjhaamffgkialaaDoor
