/- Small contracts that later stages use too: a number within a bound; cells that stay. Contracts of the small functions of package mem and of its reference. -/
import Derived.Test.YtbhnjaajkolklaaBx
import Derived.ProofKit
import Derived.OpenShut
set_option linter.all false
namespace Go.Proofs.Ytbhnjaajkolklaa
section
open Go.ChangeShapes Go.WideShapes Go.ChangeAt Go.RowKit

theorem keepc {w w' : World} (hb : Below w.heap.size w w') {b o : Nat} {x : Value} (hc : w.cell? ⟨b, o, none⟩ = some x) : w'.cell? ⟨b, o, none⟩ = some x :=
  (hb.cell (p := ⟨b, o, none⟩) (cell_block hc)).trans hc

end
section
open Go.ChangeShapes Go.WideShapes Go.ChangeAt Go.RowKit

/-- May a memory of so many words be? -/
def okM (l : Nat) : Bool := decide (8 ≤ l ∧ l ≤ 512 ∧ l % 8 = 0)
theorem okM_true {l : Nat} (h : okM l = true) : 8 ≤ l ∧ l ≤ 512 ∧ l % 8 = 0 := of_decide_eq_true h
/-- May a size be? -/
def okS (s : Int) : Bool := decide (s = 1 ∨ s = 2 ∨ s = 4 ∨ s = 8)
theorem okS_true {s : Int} (h : okS s = true) : s = 1 ∨ s = 2 ∨ s = 4 ∨ s = 8 := of_decide_eq_true h
/-- The error of a place. -/
def mayM (l : Nat) (a s : Int) : Int := if okS s = false then 1 else if a < 0 ∨ 8 * (l : Int) ≤ a then 2 else if a % s ≠ 0 then 8 else 0

theorem bmay_any (f : Option Addr) (l c : Nat) (w : World) :
    Calls Try.prog 64 #[.agg #[.slice f l c]] w fun e w' => e = .returned (.bool (okM l)) ∧ w' = w.alloc (.cells #[.slice f l c] 101) := by
  go_enter Try.func64, Try.ntmps64
  go_wp2
  all_goals
    go_ret
    refine ⟨ret_bool ?_, rfl⟩
    unfold okM
    rw [Bool.eq_iff_iff]
    simp
    omega

theorem bframes_any (f : Option Addr) (l c : Nat) (w : World) (hl : l ≤ 1000000000000000) :
    Calls Try.prog 63 #[.agg #[.slice f l c]] w fun e w' => e = .returned (.int .i64 ((l : Int) / 8)) ∧ w' = w.alloc (.cells #[.slice f l c] 101) := by
  go_enter Try.func63, Try.ntmps63
  go_wp2
  go_ret
  exact ⟨rfl, rfl⟩

theorem bbytes_any (f : Option Addr) (l c : Nat) (w : World) (hl : l ≤ 1000000000) :
    Calls Try.prog 77 #[.agg #[.slice f l c]] w fun e w' => e = .returned (.int .i64 ((l : Int) * 8)) ∧ w' = w.alloc (.cells #[.slice f l c] 101) := by
  go_enter Try.func77, Try.ntmps77
  go_wp2
  go_ret
  exact ⟨rfl, rfl⟩

theorem pmay_any (a s : Int) (w : World) :
    Calls Try.prog 76 #[.agg #[.int .i64 a, .int .i64 s]] w fun e w' => e = .returned (.bool (okS s)) ∧ w' = w.alloc (.cells #[.int .i64 a, .int .i64 s] 111) := by
  by_cases hs : okS s = true
  · rcases okS_true hs with rfl | rfl | rfl | rfl
    all_goals
      go_enter Try.func76, Try.ntmps76
      go_wp2
      go_ret
      exact ⟨rfl, rfl⟩
  · have hn : s ≠ 1 ∧ s ≠ 2 ∧ s ≠ 4 ∧ s ≠ 8 := by
      unfold okS at hs; simp at hs; omega
    obtain ⟨n1, n2, n3, n4⟩ := hn
    have e : okS s = false := by simpa using hs
    rw [e]
    clear e hs
    go_enter Try.func76, Try.ntmps76
    go_wp2
    go_ret
    refine ⟨ret_bool ?_, rfl⟩
    simp [n1, n2, n3, n4]

theorem pword_any (a s : Int) (w : World) (h0 : 0 ≤ a) (h1 : a ≤ 1000000000000) :
    Calls Try.prog 78 #[.agg #[.int .i64 a, .int .i64 s]] w fun e w' => e = .returned (.int .i64 (a / 8)) ∧ w' = w.alloc (.cells #[.int .i64 a, .int .i64 s] 111) := by
  go_enter Try.func78, Try.ntmps78
  go_wp2
  go_ret
  exact ⟨rfl, rfl⟩

theorem plow_any (a s : Int) (w : World) (h0 : 0 ≤ a) (h1 : a ≤ 1000000000000) :
    Calls Try.prog 80 #[.agg #[.int .i64 a, .int .i64 s]] w fun e w' => e = .returned (.int .i64 (a % 8 * 8)) ∧ w' = w.alloc (.cells #[.int .i64 a, .int .i64 s] 111) := by
  go_enter Try.func80, Try.ntmps80
  go_wp2
  go_ret
  exact ⟨rfl, rfl⟩

theorem pones_any (a s : Int) (w : World) (h0 : 1 ≤ s) (h1 : s ≤ 8) :
    Calls Try.prog 79 #[.agg #[.int .i64 a, .int .i64 s]] w fun e w' => e = .returned (.int .u64 (u (msk (8 * s)))) ∧ w' = w.alloc (.cells #[.int .i64 a, .int .i64 s] 111) := by
  go_enter Try.func79, Try.ntmps79
  go_wp2
  go_ret
  refine ⟨ret_int ?_, rfl⟩
  rw [← msk_ones]
  congr 2
  omega

end
end Go.Proofs.Ytbhnjaajkolklaa
