/- part.Num at one kind of numbers: uint64. -/
import Derived.Test.YtnengblmcfiajaaPort
namespace Go.Proofs.Ytnengblmcfiajaa
open Go.RowKit Go.Sort
set_option linter.unusedVariables false
set_option linter.unusedSimpArgs false
set_option maxRecDepth 100000

end Go.Proofs.Ytnengblmcfiajaa
