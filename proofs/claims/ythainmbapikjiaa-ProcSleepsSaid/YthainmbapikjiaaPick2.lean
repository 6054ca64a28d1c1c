/- pick.Places at the slots of the inode map, and at floats; slices.IndexFunc at both tables. -/
import Derived.Test.YthainmbapikjiaaPick
import Derived.Shelf.Abstract
import Derived.BigQuiet
import Derived.Deep.QuietTactic
namespace Go.Proofs.Ythainmbapikjiaa
open Go.RowKit Go.Sort
set_option linter.unusedVariables false
set_option linter.unusedSimpArgs false
set_option maxRecDepth 100000

end Go.Proofs.Ythainmbapikjiaa
