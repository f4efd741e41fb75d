/- Contracts: bulwarkref0.CopyWords, EqWords; bulwarklaw0.Words; slices.Clone of words. -/
import Derived.Test.YtkpckfmnjebjaaaOwn
namespace Go.Proofs.Ytkpckfmnjebjaaa
open Go.ChangeShapes Go.WideShapes Go.ChangeAt Go.RowKit Go.Deep

end Go.Proofs.Ytkpckfmnjebjaaa
