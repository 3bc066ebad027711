/-
  DERIVED. GIVEN WITH THE SEED: THE CARDS: each row of YtpponjmhgfikiaaDoorRows.lean that lists a variable, with what it lists TIED to the program's text (the seventh form; the later family's looks); each row that meets fmt, with fmt's text TOLD by the authors' own Lean function (tested against real Go, not proved from fmt's source: count such statements apart). THE CARD IS WHAT COUNTS. Prove the row's statement (the work); the ties are given (YtpponjmhgfikiaaDoorTie.lean); close each card by the builder's one call (the guide's Derived/Test/ToyasCard.lean, 'card_holds'). Laid BY PROGRAM, IN A SANDBOX (cutbox-door.mjs). By AI agents, Wed Nov 11 2026. No macro, syntax, notation, axiom, sorry.
-/
import Derived.Test.YtpponjmhgfikiaaDoorRows
import GoSem.ClaimSeven
namespace Go.Proofs.YtpponjmhgfikiaaDoor
namespace Rows

/-- THE TIED CARD OF 'rolodexlaw02.HashSums'. -/
def hashSumsCard : Claim7 := { stood := { row := hashSumsRow, standIns := [], harness := (true, "c360beb4d2bf096569c04da053ef49be8fbc08cf0ef5f908ef843362af30625d"), looks := false }, kinds := [], alts := [], laidByText := true, laidKinds := [.data], laidTests := true, laidLooks := .later }
def HashSumsCardSaid : Prop := Claim7.holds Tryd.pinned (.plain (OpenSpec.ofChange hashSumsSpec)) hashSumsCard

/-- THE TIED CARD OF 'rolodexlaw02.HashTexts'. -/
def hashTextsCard : Claim7 := { stood := { row := hashTextsRow, standIns := [], harness := (true, "c360beb4d2bf096569c04da053ef49be8fbc08cf0ef5f908ef843362af30625d"), looks := false }, kinds := [], alts := [], laidByText := true, laidKinds := [.data], laidTests := true, laidLooks := .later }
def HashTextsCardSaid : Prop := Claim7.holds Tryd.pinned (.plain (OpenSpec.ofChange hashTextsSpec)) hashTextsCard

/-- THE TIED CARD OF 'rolodexlaw02.HashApart'. -/
def hashApartCard : Claim7 := { stood := { row := hashApartRow, standIns := [], harness := (true, "c360beb4d2bf096569c04da053ef49be8fbc08cf0ef5f908ef843362af30625d"), looks := false }, kinds := [], alts := [], laidByText := true, laidKinds := [.data], laidTests := true, laidLooks := .later }
def HashApartCardSaid : Prop := Claim7.holds Tryd.pinned (.plain (OpenSpec.ofChange hashApartSpec)) hashApartCard

/-- THE TIED CARD OF 'rolodexlaw02.HashClashes'. -/
def hashClashesCard : Claim7 := { stood := { row := hashClashesRow, standIns := [], harness := (true, "c360beb4d2bf096569c04da053ef49be8fbc08cf0ef5f908ef843362af30625d"), looks := false }, kinds := [], alts := [], laidByText := true, laidKinds := [.data], laidTests := true, laidLooks := .later }
def HashClashesCardSaid : Prop := Claim7.holds Tryd.pinned (.plain (OpenSpec.ofChange hashClashesSpec)) hashClashesCard

/-- THE TIED CARD OF 'rolodexlaw02.HashOwn'. -/
def hashOwnCard : Claim7 := { stood := { row := hashOwnRow, standIns := [], harness := (true, "c360beb4d2bf096569c04da053ef49be8fbc08cf0ef5f908ef843362af30625d"), looks := false }, kinds := [], alts := [], laidByText := true, laidKinds := [.data], laidTests := true, laidLooks := .later }
def HashOwnCardSaid : Prop := Claim7.holds Tryd.pinned (.plain (OpenSpec.ofChange hashOwnSpec)) hashOwnCard

/-- THE SECOND FORM's CARD OF 'rolodexlaw02.HashSums'. -/
def hashSumsUptoCard : Claim7 := { stood := { row := hashSumsUptoRow, standIns := [], harness := (true, "c360beb4d2bf096569c04da053ef49be8fbc08cf0ef5f908ef843362af30625d"), looks := false }, kinds := [], alts := [], laidByText := true, laidKinds := [.data], laidTests := true, laidLooks := .later }
def HashSumsUptoCardSaid : Prop := Claim7.holds Tryd.pinned (.plain (OpenSpec.upto hashSumsSpec)) hashSumsUptoCard

/-- THE SECOND FORM's CARD OF 'rolodexlaw02.HashTexts'. -/
def hashTextsUptoCard : Claim7 := { stood := { row := hashTextsUptoRow, standIns := [], harness := (true, "c360beb4d2bf096569c04da053ef49be8fbc08cf0ef5f908ef843362af30625d"), looks := false }, kinds := [], alts := [], laidByText := true, laidKinds := [.data], laidTests := true, laidLooks := .later }
def HashTextsUptoCardSaid : Prop := Claim7.holds Tryd.pinned (.plain (OpenSpec.upto hashTextsSpec)) hashTextsUptoCard

/-- THE SECOND FORM's CARD OF 'rolodexlaw02.HashApart'. -/
def hashApartUptoCard : Claim7 := { stood := { row := hashApartUptoRow, standIns := [], harness := (true, "c360beb4d2bf096569c04da053ef49be8fbc08cf0ef5f908ef843362af30625d"), looks := false }, kinds := [], alts := [], laidByText := true, laidKinds := [.data], laidTests := true, laidLooks := .later }
def HashApartUptoCardSaid : Prop := Claim7.holds Tryd.pinned (.plain (OpenSpec.upto hashApartSpec)) hashApartUptoCard

/-- THE SECOND FORM's CARD OF 'rolodexlaw02.HashClashes'. -/
def hashClashesUptoCard : Claim7 := { stood := { row := hashClashesUptoRow, standIns := [], harness := (true, "c360beb4d2bf096569c04da053ef49be8fbc08cf0ef5f908ef843362af30625d"), looks := false }, kinds := [], alts := [], laidByText := true, laidKinds := [.data], laidTests := true, laidLooks := .later }
def HashClashesUptoCardSaid : Prop := Claim7.holds Tryd.pinned (.plain (OpenSpec.upto hashClashesSpec)) hashClashesUptoCard

/-- THE SECOND FORM's CARD OF 'rolodexlaw02.HashOwn'. -/
def hashOwnUptoCard : Claim7 := { stood := { row := hashOwnUptoRow, standIns := [], harness := (true, "c360beb4d2bf096569c04da053ef49be8fbc08cf0ef5f908ef843362af30625d"), looks := false }, kinds := [], alts := [], laidByText := true, laidKinds := [.data], laidTests := true, laidLooks := .later }
def HashOwnUptoCardSaid : Prop := Claim7.holds Tryd.pinned (.plain (OpenSpec.upto hashOwnSpec)) hashOwnUptoCard
end Rows
end Go.Proofs.YtpponjmhgfikiaaDoor
