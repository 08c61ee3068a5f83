/-
  fold.Space.
-/
import Derived.Test.YtchholpiikeakaaSv
namespace Go.Proofs.Ytchholpiikeakaa.Fo
set_option linter.unusedSimpArgs false
set_option linter.unusedVariables false
open Go.RowKit Ba Fm

end Go.Proofs.Ytchholpiikeakaa.Fo
