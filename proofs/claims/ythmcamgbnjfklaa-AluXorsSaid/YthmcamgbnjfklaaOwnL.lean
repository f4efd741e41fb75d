/- Rows of fields of the call's own: made, appended to, read. -/
import Derived.Test.YthmcamgbnjfklaaDm
import Derived.Laws.AppendOwn
import Derived.Laws.AppendOwnNone
import Derived.Laws.OwnMore
import Derived.Deep.AppendLies
set_option linter.all false
namespace Go.Proofs.Ythmcamgbnjfklaa
open Go.ChangeShapes Go.WideShapes Go.ChangeAt Go.RowKit Go.Deep

def cellsL : List Fld → List Value
  | [] => []
  | x :: L => .int .i64 x.a :: .int .i64 x.n :: .int .u64 (u x.v) :: cellsL L
theorem cellsL_append (L M : List Fld) : cellsL (L ++ M) = cellsL L ++ cellsL M := by
  induction L with
  | nil => rfl
  | cons x L ih => simp only [List.cons_append, cellsL, ih]
theorem cellsL_length (L : List Fld) : (cellsL L).length = L.length * 3 := by
  induction L with
  | nil => rfl
  | cons x L ih => simp only [cellsL, List.length_cons, ih]; omega
theorem cellsL_one (L : List Fld) : ∀ v ∈ cellsL L, v.oneCell' = true := by
  induction L with
  | nil => intro v hv; cases hv
  | cons x L ih =>
    intro v hv
    simp only [cellsL, List.mem_cons] at hv
    rcases hv with rfl | rfl | rfl | hv
    · rfl
    · rfl
    · rfl
    · exact ih v hv
theorem cellsL_get (L : List Fld) (j : Nat) (hj : j < L.length) : (cellsL L)[j * 3]? = some (.int .i64 (nth L j).a) ∧ (cellsL L)[j * 3 + 1]? = some (.int .i64 (nth L j).n) ∧ (cellsL L)[j * 3 + 2]? = some (.int .u64 (u (nth L j).v)) := by
  induction L generalizing j with
  | nil => cases hj
  | cons x L ih =>
    cases j with
    | zero => exact ⟨rfl, rfl, rfl⟩
    | succ j =>
      have := ih j (by simpa using hj)
      rw [show (j + 1) * 3 = j * 3 + 3 from by omega]
      exact this

def SmallL (L : List Fld) : Prop := ∀ x ∈ L, -100 ≤ x.a ∧ x.a ≤ 100 ∧ -100 ≤ x.n ∧ x.n ≤ 100
end Go.Proofs.Ythmcamgbnjfklaa
