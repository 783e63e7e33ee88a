/-
  All matches as a row.
-/
import Derived.Test.YtminaamfelcajaaMaG
import Derived.Maps.AppendAt
import Derived.Maps.OwnIn
namespace Go.Proofs.Ytminaamfelcajaa.MaH
open Go.RowKit Go.Shelf Rd Go.Proofs.Ytminaamfelcajaa.Row MaM MaF It
set_option linter.unusedVariables false
set_option linter.unusedSimpArgs false
set_option maxRecDepth 10000
attribute [local go_sem] Oper.semAt_some
end Go.Proofs.Ytminaamfelcajaa.MaH
