/- The fixed fact of layer 4's laws, by its walk. -/
import Derived.Test.YtedhfgadphjobaaGeo3
import Derived.Test.YtedhfgadphjobaaGeoRef
namespace Go.Proofs.Ytedhfgadphjobaa
open Go.RowKit Go.Sort
set_option linter.unusedVariables false
set_option maxRecDepth 100000

end Go.Proofs.Ytedhfgadphjobaa
