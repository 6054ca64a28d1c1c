/- The document's ReadUses: what it reads of any sector is what the program reads. -/
import Derived.Test.YtgakidimipipeaaGbdjoomcl
import Derived.Test.YtgakidimipipeaaGanjhiidd
namespace Go.Proofs.Ytgakidimipipeaa
open Go.RowKit Go.Sort
set_option linter.unusedVariables false
set_option linter.unusedSimpArgs false
set_option maxRecDepth 100000

end Go.Proofs.Ytgakidimipipeaa
