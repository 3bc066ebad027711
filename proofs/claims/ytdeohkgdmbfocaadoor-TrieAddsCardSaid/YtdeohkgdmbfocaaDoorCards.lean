/-
  DERIVED. GIVEN WITH THE SEED: THE CARDS: each row of YtdeohkgdmbfocaaDoorRows.lean that lists a variable, with what it lists TIED to the program's text (the seventh form; the later family's looks); each row that meets fmt, with fmt's text TOLD by the authors' own Lean function (tested against real Go, not proved from fmt's source: count such statements apart). THE CARD IS WHAT COUNTS. Prove the row's statement (the work); the ties are given (YtdeohkgdmbfocaaDoorTie.lean); close each card by the builder's one call (the guide's Derived/Test/ToyasCard.lean, 'card_holds'). Laid BY PROGRAM, IN A SANDBOX (cutbox-door.mjs). By AI agents, Wed Nov 11 2026. No macro, syntax, notation, axiom, sorry.
-/
import Derived.Test.YtdeohkgdmbfocaaDoorRows
import GoSem.ClaimSeven
namespace Go.Proofs.YtdeohkgdmbfocaaDoor
namespace Rows

/-- THE TIED CARD OF 'rolodexlaw11.TriePuts'. -/
def triePutsCard : Claim7 := { stood := { row := triePutsRow, standIns := [], harness := (true, "255aeaf8228c767b763f8993289b246a10fe4504c2b62b18e3fbc3e660392191"), looks := false }, kinds := [], alts := [], laidByText := true, laidKinds := [.data], laidTests := true, laidLooks := .later }
def TriePutsCardSaid : Prop := Claim7.holds Tryd.pinned (.plain (OpenSpec.ofChange triePutsSpec)) triePutsCard

/-- THE TIED CARD OF 'rolodexlaw11.TrieOrder'. -/
def trieOrderCard : Claim7 := { stood := { row := trieOrderRow, standIns := [], harness := (true, "255aeaf8228c767b763f8993289b246a10fe4504c2b62b18e3fbc3e660392191"), looks := false }, kinds := [], alts := [], laidByText := true, laidKinds := [.data], laidTests := true, laidLooks := .later }
def TrieOrderCardSaid : Prop := Claim7.holds Tryd.pinned (.plain (OpenSpec.ofChange trieOrderSpec)) trieOrderCard

/-- THE TIED CARD OF 'rolodexlaw11.TrieTexts'. -/
def trieTextsCard : Claim7 := { stood := { row := trieTextsRow, standIns := [], harness := (true, "255aeaf8228c767b763f8993289b246a10fe4504c2b62b18e3fbc3e660392191"), looks := false }, kinds := [], alts := [], laidByText := true, laidKinds := [.data], laidTests := true, laidLooks := .later }
def TrieTextsCardSaid : Prop := Claim7.holds Tryd.pinned (.plain (OpenSpec.ofChange trieTextsSpec)) trieTextsCard

/-- THE TIED CARD OF 'rolodexlaw11.TrieNodes'. -/
def trieNodesCard : Claim7 := { stood := { row := trieNodesRow, standIns := [], harness := (true, "255aeaf8228c767b763f8993289b246a10fe4504c2b62b18e3fbc3e660392191"), looks := false }, kinds := [], alts := [], laidByText := true, laidKinds := [.data], laidTests := true, laidLooks := .later }
def TrieNodesCardSaid : Prop := Claim7.holds Tryd.pinned (.plain (OpenSpec.ofChange trieNodesSpec)) trieNodesCard

/-- THE TIED CARD OF 'rolodexlaw11.TrieAdds'. -/
def trieAddsCard : Claim7 := { stood := { row := trieAddsRow, standIns := [], harness := (true, "255aeaf8228c767b763f8993289b246a10fe4504c2b62b18e3fbc3e660392191"), looks := false }, kinds := [], alts := [], laidByText := true, laidKinds := [.data], laidTests := true, laidLooks := .later }
def TrieAddsCardSaid : Prop := Claim7.holds Tryd.pinned (.plain (OpenSpec.ofChange trieAddsSpec)) trieAddsCard

/-- THE TIED CARD OF 'rolodexlaw11.TrieNone'. -/
def trieNoneCard : Claim7 := { stood := { row := trieNoneRow, standIns := [], harness := (true, "255aeaf8228c767b763f8993289b246a10fe4504c2b62b18e3fbc3e660392191"), looks := false }, kinds := [], alts := [], laidByText := true, laidKinds := [.data], laidTests := true, laidLooks := .later }
def TrieNoneCardSaid : Prop := Claim7.holds Tryd.pinned (.plain (OpenSpec.ofChange trieNoneSpec)) trieNoneCard

/-- THE SECOND FORM's CARD OF 'rolodexlaw11.TriePuts'. -/
def triePutsUptoCard : Claim7 := { stood := { row := triePutsUptoRow, standIns := [], harness := (true, "255aeaf8228c767b763f8993289b246a10fe4504c2b62b18e3fbc3e660392191"), looks := false }, kinds := [], alts := [], laidByText := true, laidKinds := [.data], laidTests := true, laidLooks := .later }
def TriePutsUptoCardSaid : Prop := Claim7.holds Tryd.pinned (.plain (OpenSpec.upto triePutsSpec)) triePutsUptoCard

/-- THE SECOND FORM's CARD OF 'rolodexlaw11.TrieOrder'. -/
def trieOrderUptoCard : Claim7 := { stood := { row := trieOrderUptoRow, standIns := [], harness := (true, "255aeaf8228c767b763f8993289b246a10fe4504c2b62b18e3fbc3e660392191"), looks := false }, kinds := [], alts := [], laidByText := true, laidKinds := [.data], laidTests := true, laidLooks := .later }
def TrieOrderUptoCardSaid : Prop := Claim7.holds Tryd.pinned (.plain (OpenSpec.upto trieOrderSpec)) trieOrderUptoCard

/-- THE SECOND FORM's CARD OF 'rolodexlaw11.TrieTexts'. -/
def trieTextsUptoCard : Claim7 := { stood := { row := trieTextsUptoRow, standIns := [], harness := (true, "255aeaf8228c767b763f8993289b246a10fe4504c2b62b18e3fbc3e660392191"), looks := false }, kinds := [], alts := [], laidByText := true, laidKinds := [.data], laidTests := true, laidLooks := .later }
def TrieTextsUptoCardSaid : Prop := Claim7.holds Tryd.pinned (.plain (OpenSpec.upto trieTextsSpec)) trieTextsUptoCard

/-- THE SECOND FORM's CARD OF 'rolodexlaw11.TrieNodes'. -/
def trieNodesUptoCard : Claim7 := { stood := { row := trieNodesUptoRow, standIns := [], harness := (true, "255aeaf8228c767b763f8993289b246a10fe4504c2b62b18e3fbc3e660392191"), looks := false }, kinds := [], alts := [], laidByText := true, laidKinds := [.data], laidTests := true, laidLooks := .later }
def TrieNodesUptoCardSaid : Prop := Claim7.holds Tryd.pinned (.plain (OpenSpec.upto trieNodesSpec)) trieNodesUptoCard

/-- THE SECOND FORM's CARD OF 'rolodexlaw11.TrieAdds'. -/
def trieAddsUptoCard : Claim7 := { stood := { row := trieAddsUptoRow, standIns := [], harness := (true, "255aeaf8228c767b763f8993289b246a10fe4504c2b62b18e3fbc3e660392191"), looks := false }, kinds := [], alts := [], laidByText := true, laidKinds := [.data], laidTests := true, laidLooks := .later }
def TrieAddsUptoCardSaid : Prop := Claim7.holds Tryd.pinned (.plain (OpenSpec.upto trieAddsSpec)) trieAddsUptoCard

/-- THE SECOND FORM's CARD OF 'rolodexlaw11.TrieNone'. -/
def trieNoneUptoCard : Claim7 := { stood := { row := trieNoneUptoRow, standIns := [], harness := (true, "255aeaf8228c767b763f8993289b246a10fe4504c2b62b18e3fbc3e660392191"), looks := false }, kinds := [], alts := [], laidByText := true, laidKinds := [.data], laidTests := true, laidLooks := .later }
def TrieNoneUptoCardSaid : Prop := Claim7.holds Tryd.pinned (.plain (OpenSpec.upto trieNoneSpec)) trieNoneUptoCard
end Rows
end Go.Proofs.YtdeohkgdmbfocaaDoor
