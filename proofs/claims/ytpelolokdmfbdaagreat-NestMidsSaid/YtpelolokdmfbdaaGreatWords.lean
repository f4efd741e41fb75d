/- Contracts: bulwarkref0.CopyWords, EqWords; bulwarklaw0.Words; slices.Clone of words. -/
import Derived.Test.YtpelolokdmfbdaaGreatOwn
namespace Go.Proofs.YtpelolokdmfbdaaGreat
open Go.ChangeShapes Go.WideShapes Go.ChangeAt Go.RowKit Go.Deep

end Go.Proofs.YtpelolokdmfbdaaGreat
