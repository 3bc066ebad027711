/-
  DERIVED. GIVEN WITH THE SEED: THE CARDS: each row of YtjhaamffgkialaaGreatDoorRows.lean that lists a variable, with what it lists TIED to the program's text (the seventh form; the later family's looks); each row that meets fmt, with fmt's text TOLD by the authors' own Lean function (tested against real Go, not proved from fmt's source: count such statements apart). THE CARD IS WHAT COUNTS. Prove the row's statement (the work); the ties are given (YtjhaamffgkialaaGreatDoorTie.lean); close each card by the builder's one call (the guide's Derived/Test/ToyasCard.lean, 'card_holds'). Laid BY PROGRAM, IN A SANDBOX (cutbox-door.mjs). By AI agents, Wed Nov 11 2026. No macro, syntax, notation, axiom, sorry.
-/
import Derived.Test.YtjhaamffgkialaaGreatDoorRows
import GoSem.ClaimSeven
namespace Go.Proofs.YtjhaamffgkialaaGreatDoor
namespace Rows

/-- THE TIED CARD OF 'rolodexlaw13.DeltaSound'. -/
def deltaSoundCard : Claim7 := { stood := { row := deltaSoundRow, standIns := [], harness := (true, "bebd4f67c578902053ff694ac69652f81d6361e057c9e77e10d1ac37eeb0f4ad"), looks := false }, kinds := [], alts := [], laidByText := true, laidKinds := [.data], laidTests := true, laidLooks := .later }
def DeltaSoundCardSaid : Prop := Claim7.holds Tryz.pinned (.plain (OpenSpec.ofChange deltaSoundSpec)) deltaSoundCard

/-- THE SECOND FORM's CARD OF 'rolodexlaw13.DeltaSound'. -/
def deltaSoundUptoCard : Claim7 := { stood := { row := deltaSoundUptoRow, standIns := [], harness := (true, "bebd4f67c578902053ff694ac69652f81d6361e057c9e77e10d1ac37eeb0f4ad"), looks := false }, kinds := [], alts := [], laidByText := true, laidKinds := [.data], laidTests := true, laidLooks := .later }
def DeltaSoundUptoCardSaid : Prop := Claim7.holds Tryz.pinned (.plain (OpenSpec.upto deltaSoundSpec)) deltaSoundUptoCard
end Rows
end Go.Proofs.YtjhaamffgkialaaGreatDoor
