/- The law's 'same' on two equal summaries. -/
import Derived.Test.YtgakidimipipeaaGreatGcpodmepd
namespace Go.Proofs.YtgakidimipipeaaGreat
open Go.RowKit Go.Sort
set_option linter.unusedVariables false
set_option linter.unusedSimpArgs false
set_option maxRecDepth 100000

end Go.Proofs.YtgakidimipipeaaGreat
