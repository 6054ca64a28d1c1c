/- Rows of Uses that came in, opened. -/
import Derived.Test.YtgakidimipipeaaGknfielib
import Derived.Test.YtgakidimipipeaaOpenRec
namespace Go.Proofs.Ytgakidimipipeaa
open Go.ChangeShapes Go.WideShapes Go.RowKit Go.Deep
set_option linter.unusedVariables false
set_option linter.unusedSimpArgs false
set_option maxRecDepth 100000

end Go.Proofs.Ytgakidimipipeaa
