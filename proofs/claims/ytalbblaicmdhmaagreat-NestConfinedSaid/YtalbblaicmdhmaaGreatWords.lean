/- Contracts: bulwarkref0.CopyWords, EqWords; bulwarklaw0.Words; slices.Clone of words. -/
import Derived.Test.YtalbblaicmdhmaaGreatOwn
set_option linter.all false
namespace Go.Proofs.YtalbblaicmdhmaaGreat
open Go.ChangeShapes Go.WideShapes Go.ChangeAt Go.RowKit Go.Deep

end Go.Proofs.YtalbblaicmdhmaaGreat
