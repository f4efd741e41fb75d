/- Contracts: CopyMem, EqMem of the reference; draftOf, frame, allows, hasAll of package mem; the law's there. -/
import Derived.Test.YtkpckfmnjebjaaaWords
import Derived.Test.YtkpckfmnjebjaaaMemA
namespace Go.Proofs.Ytkpckfmnjebjaaa
open Go.ChangeShapes Go.WideShapes Go.ChangeAt Go.RowKit Go.Deep

end Go.Proofs.Ytkpckfmnjebjaaa
