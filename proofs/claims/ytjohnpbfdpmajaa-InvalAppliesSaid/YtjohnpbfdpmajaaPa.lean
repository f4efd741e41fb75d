/- Permissions plainly; the reference's May, Both, Flag: contracts. -/
import Derived.Test.YtjohnpbfdpmajaaRow
import Derived.Test.YtjohnpbfdpmajaaEq
import Derived.Test.YtjohnpbfdpmajaaRb
import Derived.Test.YtjohnpbfdpmajaaTl
import Derived.Deep.CutBlock
set_option linter.all false
namespace Go.Proofs.Ytjohnpbfdpmajaa
open Go.ChangeShapes Go.WideShapes Go.ChangeAt Go.RowKit Go.Deep

def mayA (t : Atr) (acc : Int) : Bool := ((decide (acc = 0) && t.r) || (decide (acc = 1) && t.w)) || (decide (acc = 2) && t.x)
def flagA (t : Atr) (acc st lv pg : Int) : Flt := if t.a = false then ⟨3, st, lv, false, pg⟩ else if mayA t acc = false then ⟨4, st, lv, false, pg⟩ else flt0
def bothS (x a : Atr) : Atr := ⟨x.r && a.r, x.w && a.w, x.x && a.x, x.a && a.a, x.n || a.n, x.s⟩
def both1 : Atr := ⟨true, true, true, true, false, 0⟩
def bothL (L : List Atr) : Atr := L.foldl bothS both1
theorem both_take (L : List Atr) (k : Nat) (t : Atr) (h : L[k]? = some t) : bothL (L.take (k + 1)) = bothS (bothL (L.take k)) t := by
  unfold bothL
  rw [List.take_add_one, h, List.foldl_append]
  rfl
end Go.Proofs.Ytjohnpbfdpmajaa
