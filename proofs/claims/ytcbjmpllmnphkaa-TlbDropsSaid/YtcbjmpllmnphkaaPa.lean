/- Permissions plainly; the reference's May, Both, Flag: contracts. -/
import Derived.Test.YtcbjmpllmnphkaaRow
import Derived.Test.YtcbjmpllmnphkaaEq
import Derived.Test.YtcbjmpllmnphkaaRb
import Derived.Test.YtcbjmpllmnphkaaTl
import Derived.Deep.CutBlock
set_option linter.all false
namespace Go.Proofs.Ytcbjmpllmnphkaa
open Go.ChangeShapes Go.WideShapes Go.ChangeAt Go.RowKit Go.Deep

def mayA (t : Atr) (acc : Int) : Bool := ((decide (acc = 0) && t.r) || (decide (acc = 1) && t.w)) || (decide (acc = 2) && t.x)
def flagA (t : Atr) (acc st lv pg : Int) : Flt := if t.a = false then ⟨3, st, lv, false, pg⟩ else if mayA t acc = false then ⟨4, st, lv, false, pg⟩ else flt0
def bothS (x a : Atr) : Atr := ⟨x.r && a.r, x.w && a.w, x.x && a.x, x.a && a.a, x.n || a.n, x.s⟩
def both1 : Atr := ⟨true, true, true, true, false, 0⟩
def bothL (L : List Atr) : Atr := L.foldl bothS both1
theorem acc_any (acc : Int) (w : World) :
    Calls Try.prog 19 #[.int .i64 acc] w fun e w' => e = .returned (.bool (numB acc 2)) ∧ w = w' := by
  go_enter Try.func19, Try.ntmps19
  go_wp2_with fail
  refine (num_any _ _ _).mono ?_
  rintro e w1 ⟨rfl, rfl⟩
  go_wp2
  go_ret
  exact ⟨rfl, rfl⟩
theorem mayA_any (t : Atr) (acc : Int) (w : World) :
    Calls Try.prog 46 #[atrV t, .int .i64 acc] w fun e w' => e = .returned (.bool (mayA t acc)) ∧ Below w.heap.size w w' := by
  obtain ⟨r, wr, x, a, n, s⟩ := t
  unfold atrV atrC
  unfold mayA
  simp only
  by_cases h0 : acc = 0
  · subst h0
    cases r
    all_goals
      go_enter Try.func46, Try.ntmps46
      go_wp2
      go_ret
      exact ⟨rfl, by go_grown⟩
  by_cases h1 : acc = 1
  · subst h1
    cases wr
    all_goals
      go_enter Try.func46, Try.ntmps46
      go_wp2
      go_ret
      exact ⟨rfl, by go_grown⟩
  by_cases h2 : acc = 2
  · subst h2
    cases x
    all_goals
      go_enter Try.func46, Try.ntmps46
      go_wp2
      go_ret
      exact ⟨rfl, by go_grown⟩
  · rw [decide_eq_false h0, decide_eq_false h1, decide_eq_false h2]
    go_enter Try.func46, Try.ntmps46
    go_wp2
    go_ret
    exact ⟨rfl, by go_grown⟩
theorem both_take (L : List Atr) (k : Nat) (t : Atr) (h : L[k]? = some t) : bothL (L.take (k + 1)) = bothS (bothL (L.take k)) t := by
  unfold bothL
  rw [List.take_add_one, h, List.foldl_append]
  rfl
end Go.Proofs.Ytcbjmpllmnphkaa
