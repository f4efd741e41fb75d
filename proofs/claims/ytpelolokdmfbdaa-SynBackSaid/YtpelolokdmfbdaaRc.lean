/- The small functions of package root and of its reference: contracts. -/
import Derived.Test.YtpelolokdmfbdaaRa
namespace Go.Proofs.Ytpelolokdmfbdaa
open Go.ChangeShapes Go.WideShapes Go.ChangeAt Go.RowKit Go.Deep

end Go.Proofs.Ytpelolokdmfbdaa
