/- Contracts of the small functions of package mem and of its reference. -/
import Derived.Test.YtalbblaicmdhmaaGreatRefs
set_option linter.all false
namespace Go.Proofs.YtalbblaicmdhmaaGreat
open Go.ChangeShapes Go.WideShapes Go.ChangeAt Go.RowKit

/-- May a memory of so many words be? -/
def okM (l : Nat) : Bool := decide (8 ≤ l ∧ l ≤ 512 ∧ l % 8 = 0)
theorem okM_true {l : Nat} (h : okM l = true) : 8 ≤ l ∧ l ≤ 512 ∧ l % 8 = 0 := of_decide_eq_true h
/-- May a size be? -/
def okS (s : Int) : Bool := decide (s = 1 ∨ s = 2 ∨ s = 4 ∨ s = 8)
theorem okS_true {s : Int} (h : okS s = true) : s = 1 ∨ s = 2 ∨ s = 4 ∨ s = 8 := of_decide_eq_true h
/-- The error of a place. -/
def mayM (l : Nat) (a s : Int) : Int := if okS s = false then 1 else if a < 0 ∨ 8 * (l : Int) ≤ a then 2 else if a % s ≠ 0 then 8 else 0

theorem rnum_any (n m : Int) (w : World) :
    Calls Tryz.prog 16 #[.int .i64 n, .int .i64 m] w fun e w' => e = .returned (.bool (decide (0 ≤ n ∧ n ≤ m))) ∧ w' = w := by
  go_enter Tryz.func16, Tryz.ntmps16
  go_wp2
  all_goals
    go_ret
    refine ⟨ret_bool ?_, rfl⟩
    rw [Bool.eq_iff_iff]
    simp
    omega

theorem rmem_any (f : Option Addr) (l c : Nat) (w : World) :
    Calls Tryz.prog 14 #[.agg #[.slice f l c]] w fun e w' => e = .returned (.bool (okM l)) ∧ w' = w.alloc (.cells #[.slice f l c] 24) := by
  go_enter Tryz.func14, Tryz.ntmps14
  go_wp2
  all_goals
    go_ret
    refine ⟨ret_bool ?_, rfl⟩
    unfold okM
    rw [Bool.eq_iff_iff]
    simp
    omega

theorem bmay_any (f : Option Addr) (l c : Nat) (w : World) :
    Calls Tryz.prog 57 #[.agg #[.slice f l c]] w fun e w' => e = .returned (.bool (okM l)) ∧ w' = w.alloc (.cells #[.slice f l c] 106) := by
  go_enter Tryz.func57, Tryz.ntmps57
  go_wp2
  all_goals
    go_ret
    refine ⟨ret_bool ?_, rfl⟩
    unfold okM
    rw [Bool.eq_iff_iff]
    simp
    omega

theorem rframes_any (f : Option Addr) (l c : Nat) (w : World) (hl : l ≤ 1000000000000000) :
    Calls Tryz.prog 20 #[.agg #[.slice f l c]] w fun e w' => e = .returned (.int .i64 ((l : Int) / 8)) ∧ w' = w.alloc (.cells #[.slice f l c] 24) := by
  go_enter Tryz.func20, Tryz.ntmps20
  go_wp2
  go_ret
  exact ⟨rfl, rfl⟩

theorem bframes_any (f : Option Addr) (l c : Nat) (w : World) (hl : l ≤ 1000000000000000) :
    Calls Tryz.prog 84 #[.agg #[.slice f l c]] w fun e w' => e = .returned (.int .i64 ((l : Int) / 8)) ∧ w' = w.alloc (.cells #[.slice f l c] 106) := by
  go_enter Tryz.func84, Tryz.ntmps84
  go_wp2
  go_ret
  exact ⟨rfl, rfl⟩

theorem bbytes_any (f : Option Addr) (l c : Nat) (w : World) (hl : l ≤ 1000000000) :
    Calls Tryz.prog 102 #[.agg #[.slice f l c]] w fun e w' => e = .returned (.int .i64 ((l : Int) * 8)) ∧ w' = w.alloc (.cells #[.slice f l c] 106) := by
  go_enter Tryz.func102, Tryz.ntmps102
  go_wp2
  go_ret
  exact ⟨rfl, rfl⟩

theorem pmay_any (a s : Int) (w : World) :
    Calls Tryz.prog 101 #[.agg #[.int .i64 a, .int .i64 s]] w fun e w' => e = .returned (.bool (okS s)) ∧ w' = w.alloc (.cells #[.int .i64 a, .int .i64 s] 141) := by
  by_cases hs : okS s = true
  · rcases okS_true hs with rfl | rfl | rfl | rfl
    all_goals
      go_enter Tryz.func101, Tryz.ntmps101
      go_wp2
      go_ret
      exact ⟨rfl, rfl⟩
  · have hn : s ≠ 1 ∧ s ≠ 2 ∧ s ≠ 4 ∧ s ≠ 8 := by
      unfold okS at hs; simp at hs; omega
    obtain ⟨n1, n2, n3, n4⟩ := hn
    have e : okS s = false := by simpa using hs
    rw [e]
    clear e hs
    go_enter Tryz.func101, Tryz.ntmps101
    go_wp2
    go_ret
    refine ⟨ret_bool ?_, rfl⟩
    simp [n1, n2, n3, n4]

theorem pword_any (a s : Int) (w : World) (h0 : 0 ≤ a) (h1 : a ≤ 1000000000000) :
    Calls Tryz.prog 91 #[.agg #[.int .i64 a, .int .i64 s]] w fun e w' => e = .returned (.int .i64 (a / 8)) ∧ w' = w.alloc (.cells #[.int .i64 a, .int .i64 s] 141) := by
  go_enter Tryz.func91, Tryz.ntmps91
  go_wp2
  go_ret
  exact ⟨rfl, rfl⟩

theorem plow_any (a s : Int) (w : World) (h0 : 0 ≤ a) (h1 : a ≤ 1000000000000) :
    Calls Tryz.prog 92 #[.agg #[.int .i64 a, .int .i64 s]] w fun e w' => e = .returned (.int .i64 (a % 8 * 8)) ∧ w' = w.alloc (.cells #[.int .i64 a, .int .i64 s] 141) := by
  go_enter Tryz.func92, Tryz.ntmps92
  go_wp2
  go_ret
  exact ⟨rfl, rfl⟩

theorem pones_any (a s : Int) (w : World) (h0 : 1 ≤ s) (h1 : s ≤ 8) :
    Calls Tryz.prog 93 #[.agg #[.int .i64 a, .int .i64 s]] w fun e w' => e = .returned (.int .u64 (u (msk (8 * s)))) ∧ w' = w.alloc (.cells #[.int .i64 a, .int .i64 s] 141) := by
  go_enter Tryz.func93, Tryz.ntmps93
  go_wp2
  go_ret
  refine ⟨ret_int ?_, rfl⟩
  rw [← msk_ones]
  congr 2
  omega

end Go.Proofs.YtalbblaicmdhmaaGreat
