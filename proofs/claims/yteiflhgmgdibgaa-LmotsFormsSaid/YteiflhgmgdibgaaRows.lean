/-
  No cell of these rows narrows 'for every input' (looked for: loops, veiled, ifaces, maps, wideKeys, modest, calm, conditions, laid).
  DERIVED. THE GIVEN ROWS OF THIS SEAT. 2 by the template 'for every input the law returns true; each argument reads behind the call as it read before'; 0 by the template 'total and deterministic' (their statements: YteiflhgmgdibgaaTotals.lean).
  GIVEN WITH THE SEED: the statements are not yours to turn. If you find one false, say at which input.
  Laid BY PROGRAM, IN A SANDBOX (cutbox-rows.mjs): the forced cells as the released guide's own fill.sh prints them over the translation c0a8f9ffc4dfe53a… (all of the seat's roots in one cut). By AI agents, Wed Nov 11 2026. No macro, syntax, notation, axiom, sorry.
-/
import Derived.Test.YteiflhgmgdibgaaChecked
import GoSem.Claim
import GoSem.ClaimJoined
import GoSem.ClaimMapViews
import Derived.JoinedTies
import Derived.KernelRfl
namespace Go.Proofs.Yteiflhgmgdibgaa
/- THE CELL 'sum', in the pinned program and in every row, IS THE sha256 OF THE DUMP (.gsa) THAT YteiflhgmgdibgaaProg.lean LOADS. Nothing in Lean hashes anything: it is a label: what it is worth is what the hold of that sum in a sandbox is worth. -/
noncomputable def Try.pinned : Pinned := { name := "yteiflhgmgdibgaa", sum := "c0a8f9ffc4dfe53ad8b0ed4752280eed296f95a4c650b010fe4fba276689c9e6", checked := Try.checked }
namespace Rows
def none {H : Type} : Left H := { results := [], args := [] }

/-- 'rolodexlaw04.LmotsForms': WHATEVER THE INPUT: true; the input reads as it did. -/
def lmotsFormsSpec : ChangeSpec := { name := "lmotsForms", fn := fun _ => fun
  | [d1, d2] => { results := [.lit (.bool true)], args := [d1, d2] }
  | _ => none }
def lmotsFormsRow : OpenClaim := { program := "yteiflhgmgdibgaa", sum := "c0a8f9ffc4dfe53ad8b0ed4752280eed296f95a4c650b010fe4fba276689c9e6", func := "rolodex/rolodexlaw04.LmotsForms", spec := "lmotsForms", unfollowed := true, recurses := true, apart := false }
def LmotsFormsSaid : Prop := lmotsFormsRow.holds Try.pinned (OpenSpec.ofChange lmotsFormsSpec)

/-- ITS FALSE NEIGHBOUR: 'it returns false'. Refute it at one input. -/
def lmotsFormsWrong : ChangeSpec := { name := "lmotsForms", fn := fun _ => fun
  | [d1, d2] => { results := [.lit (.bool false)], args := [d1, d2] }
  | _ => none }
def LmotsFormsWrongFalsely : Prop := lmotsFormsRow.holds Try.pinned (OpenSpec.ofChange lmotsFormsWrong)

/-- 'rolodexlaw04.LmotsLess': WHATEVER THE INPUT: true; the input reads as it did. -/
def lmotsLessSpec : ChangeSpec := { name := "lmotsLess", fn := fun _ => fun
  | [d1, d2, d3] => { results := [.lit (.bool true)], args := [d1, d2, d3] }
  | _ => none }
def lmotsLessRow : OpenClaim := { program := "yteiflhgmgdibgaa", sum := "c0a8f9ffc4dfe53ad8b0ed4752280eed296f95a4c650b010fe4fba276689c9e6", func := "rolodex/rolodexlaw04.LmotsLess", spec := "lmotsLess", unfollowed := true, recurses := true, apart := false }
def LmotsLessSaid : Prop := lmotsLessRow.holds Try.pinned (OpenSpec.ofChange lmotsLessSpec)

/-- ITS FALSE NEIGHBOUR: 'it returns false'. Refute it at one input. -/
def lmotsLessWrong : ChangeSpec := { name := "lmotsLess", fn := fun _ => fun
  | [d1, d2, d3] => { results := [.lit (.bool false)], args := [d1, d2, d3] }
  | _ => none }
def LmotsLessWrongFalsely : Prop := lmotsLessRow.holds Try.pinned (OpenSpec.ofChange lmotsLessWrong)

/- THE SECOND FORM. 'bulk': how many values and letters a reading holds, each counted each time it is reached (what is shared counts as often as it is met; a slice's spare places count too). A statement '..UptoSaid' is the law's where the arguments, and the package variables that the reading takes, are together of bulk at most 1048576: NARROWER than '..Said'. Prove '..Said' where nothing that the law and all that it calls make is longer than what came in: it says more and counts as full. Else prove '..UptoSaid'. A law counts once. -/
mutual
def uptoBulk {H : Type} : DataW H → Nat
  | .lit (.string bytes) => bytes.length + 1
  | .lit _ => 1
  | .nil => 1
  | .ptr d => uptoBulk d + 1
  | .slice elems spare => uptoBulkAll elems + uptoBulkAll spare + 1
  | .agg parts => uptoBulkAll parts + 1
  | .iface _ d => uptoBulk d + 1
  | .map entries => uptoBulkEntries entries + 1
  | .held _ => 1
def uptoBulkAll {H : Type} : List (DataW H) → Nat
  | [] => 0
  | d :: r => uptoBulk d + uptoBulkAll r
def uptoBulkEntries {H : Type} : List (Lit × DataW H) → Nat
  | [] => 0
  | x :: r => uptoBulkEntry x + uptoBulkEntries r
def uptoBulkEntry {H : Type} : Lit × DataW H → Nat
  | (.string bytes, d) => bytes.length + uptoBulk d + 1
  | (_, d) => uptoBulk d + 1
 end
def uptoSmall : (H : Type) → List (DataW H) → Bool := fun _ ds => decide (uptoBulkAll ds ≤ 1048576)
def OpenSpec.upto (s : _root_.Go.ChangeSpec) : _root_.Go.OpenSpec := { _root_.Go.OpenSpec.ofChange s with cond := some uptoSmall }

/-- 'rolodexlaw04.LmotsForms', WHERE WHAT IT READS IS OF BULK AT MOST 1048576: true; the input reads as it did. -/
def lmotsFormsUptoRow : OpenClaim := { program := "yteiflhgmgdibgaa", sum := "c0a8f9ffc4dfe53ad8b0ed4752280eed296f95a4c650b010fe4fba276689c9e6", func := "rolodex/rolodexlaw04.LmotsForms", spec := "lmotsForms", unfollowed := true, recurses := true, apart := false, narrowed := true }
def LmotsFormsUptoSaid : Prop := lmotsFormsUptoRow.holds Try.pinned (OpenSpec.upto lmotsFormsSpec)

/-- 'rolodexlaw04.LmotsLess', WHERE WHAT IT READS IS OF BULK AT MOST 1048576: true; the input reads as it did. -/
def lmotsLessUptoRow : OpenClaim := { program := "yteiflhgmgdibgaa", sum := "c0a8f9ffc4dfe53ad8b0ed4752280eed296f95a4c650b010fe4fba276689c9e6", func := "rolodex/rolodexlaw04.LmotsLess", spec := "lmotsLess", unfollowed := true, recurses := true, apart := false, narrowed := true }
def LmotsLessUptoSaid : Prop := lmotsLessUptoRow.holds Try.pinned (OpenSpec.upto lmotsLessSpec)

end Rows
end Go.Proofs.Yteiflhgmgdibgaa
