/- Contracts: CopyMem, EqMem of the reference; draftOf, frame, allows, hasAll of package mem; the law's there. -/
import Derived.Test.YtalbblaicmdhmaaGreatWords
import Derived.Test.YtalbblaicmdhmaaGreatMemA
set_option linter.all false
namespace Go.Proofs.YtalbblaicmdhmaaGreat
open Go.ChangeShapes Go.WideShapes Go.ChangeAt Go.RowKit Go.Deep

end Go.Proofs.YtalbblaicmdhmaaGreat
