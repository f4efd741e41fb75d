/- The program's May: contract. -/
import Derived.Test.YtjohnpbfdpmajaaPa
import Derived.Deep.CutBlock
import Derived.Deep.DeepCutAuto
set_option linter.all false
namespace Go.Proofs.Ytjohnpbfdpmajaa
open Go.ChangeShapes Go.WideShapes Go.ChangeAt Go.RowKit Go.Deep

/-- An access to what has attributes, as the program keeps it. -/
def attC (t : Atr) (acc : Int) : Array Value := #[.bool t.r, .bool t.w, .bool t.x, .bool t.a, .bool t.n, .int .i64 t.s, .int .i64 acc]
def attV (t : Atr) (acc : Int) : Value := .agg (attC t acc)
end Go.Proofs.Ytjohnpbfdpmajaa
