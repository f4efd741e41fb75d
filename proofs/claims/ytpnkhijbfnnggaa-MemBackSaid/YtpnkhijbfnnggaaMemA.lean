/- Contracts of the small functions of package mem and of its reference. -/
import Derived.Test.YtpnkhijbfnnggaaRefs
namespace Go.Proofs.Ytpnkhijbfnnggaa
open Go.ChangeShapes Go.WideShapes Go.ChangeAt Go.RowKit

/-- May a memory of so many words be? -/
def okM (l : Nat) : Bool := decide (8 ≤ l ∧ l ≤ 512 ∧ l % 8 = 0)
theorem okM_true {l : Nat} (h : okM l = true) : 8 ≤ l ∧ l ≤ 512 ∧ l % 8 = 0 := of_decide_eq_true h
/-- May a size be? -/
def okS (s : Int) : Bool := decide (s = 1 ∨ s = 2 ∨ s = 4 ∨ s = 8)
theorem okS_true {s : Int} (h : okS s = true) : s = 1 ∨ s = 2 ∨ s = 4 ∨ s = 8 := of_decide_eq_true h
/-- The error of a place. -/
def mayE (l : Nat) (a s : Int) : Int := if okS s = false then 1 else if a < 0 ∨ 8 * (l : Int) ≤ a then 2 else if a % s ≠ 0 then 8 else 0

theorem num_any (n : Int) (w : World) :
    Calls Try.prog 14 #[.int .i64 n] w fun e w' => e = .returned (.int .i64 n) ∧ w = w' := by
  go_enter Try.func14, Try.ntmps14
  go_wp2
  go_ret
  exact ⟨rfl, rfl⟩

theorem rnum_any (n m : Int) (w : World) :
    Calls Try.prog 43 #[.int .i64 n, .int .i64 m] w fun e w' => e = .returned (.bool (decide (0 ≤ n ∧ n ≤ m))) ∧ w' = w := by
  go_enter Try.func43, Try.ntmps43
  go_wp2
  all_goals
    go_ret
    refine ⟨ret_bool ?_, rfl⟩
    rw [Bool.eq_iff_iff]
    simp
    omega

theorem rmem_any (f : Option Addr) (l c : Nat) (w : World) :
    Calls Try.prog 12 #[.agg #[.slice f l c]] w fun e w' => e = .returned (.bool (okM l)) ∧ w' = w.alloc (.cells #[.slice f l c] 24) := by
  go_enter Try.func12, Try.ntmps12
  go_wp2
  all_goals
    go_ret
    refine ⟨ret_bool ?_, rfl⟩
    unfold okM
    rw [Bool.eq_iff_iff]
    simp
    omega

theorem bmay_any (f : Option Addr) (l c : Nat) (w : World) :
    Calls Try.prog 37 #[.agg #[.slice f l c]] w fun e w' => e = .returned (.bool (okM l)) ∧ w' = w.alloc (.cells #[.slice f l c] 65) := by
  go_enter Try.func37, Try.ntmps37
  go_wp2
  all_goals
    go_ret
    refine ⟨ret_bool ?_, rfl⟩
    unfold okM
    rw [Bool.eq_iff_iff]
    simp
    omega

theorem rframes_any (f : Option Addr) (l c : Nat) (w : World) (hl : l ≤ 1000000000000000) :
    Calls Try.prog 16 #[.agg #[.slice f l c]] w fun e w' => e = .returned (.int .i64 ((l : Int) / 8)) ∧ w' = w.alloc (.cells #[.slice f l c] 24) := by
  go_enter Try.func16, Try.ntmps16
  go_wp2
  go_ret
  exact ⟨rfl, rfl⟩

theorem bframes_any (f : Option Addr) (l c : Nat) (w : World) (hl : l ≤ 1000000000000000) :
    Calls Try.prog 36 #[.agg #[.slice f l c]] w fun e w' => e = .returned (.int .i64 ((l : Int) / 8)) ∧ w' = w.alloc (.cells #[.slice f l c] 65) := by
  go_enter Try.func36, Try.ntmps36
  go_wp2
  go_ret
  exact ⟨rfl, rfl⟩

theorem bbytes_any (f : Option Addr) (l c : Nat) (w : World) (hl : l ≤ 1000000000) :
    Calls Try.prog 52 #[.agg #[.slice f l c]] w fun e w' => e = .returned (.int .i64 ((l : Int) * 8)) ∧ w' = w.alloc (.cells #[.slice f l c] 65) := by
  go_enter Try.func52, Try.ntmps52
  go_wp2
  go_ret
  exact ⟨rfl, rfl⟩

theorem pmay_any (a s : Int) (w : World) :
    Calls Try.prog 51 #[.agg #[.int .i64 a, .int .i64 s]] w fun e w' => e = .returned (.bool (okS s)) ∧ w' = w.alloc (.cells #[.int .i64 a, .int .i64 s] 69) := by
  by_cases hs : okS s = true
  · rcases okS_true hs with rfl | rfl | rfl | rfl
    all_goals
      go_enter Try.func51, Try.ntmps51
      go_wp2
      go_ret
      exact ⟨rfl, rfl⟩
  · have hn : s ≠ 1 ∧ s ≠ 2 ∧ s ≠ 4 ∧ s ≠ 8 := by
      unfold okS at hs; simp at hs; omega
    obtain ⟨n1, n2, n3, n4⟩ := hn
    have e : okS s = false := by simpa using hs
    rw [e]
    clear e hs
    go_enter Try.func51, Try.ntmps51
    go_wp2
    go_ret
    refine ⟨ret_bool ?_, rfl⟩
    simp [n1, n2, n3, n4]

theorem pword_any (a s : Int) (w : World) (h0 : 0 ≤ a) (h1 : a ≤ 1000000000000) :
    Calls Try.prog 39 #[.agg #[.int .i64 a, .int .i64 s]] w fun e w' => e = .returned (.int .i64 (a / 8)) ∧ w' = w.alloc (.cells #[.int .i64 a, .int .i64 s] 69) := by
  go_enter Try.func39, Try.ntmps39
  go_wp2
  go_ret
  exact ⟨rfl, rfl⟩

theorem plow_any (a s : Int) (w : World) (h0 : 0 ≤ a) (h1 : a ≤ 1000000000000) :
    Calls Try.prog 40 #[.agg #[.int .i64 a, .int .i64 s]] w fun e w' => e = .returned (.int .i64 (a % 8 * 8)) ∧ w' = w.alloc (.cells #[.int .i64 a, .int .i64 s] 69) := by
  go_enter Try.func40, Try.ntmps40
  go_wp2
  go_ret
  exact ⟨rfl, rfl⟩

theorem pones_any (a s : Int) (w : World) (h0 : 1 ≤ s) (h1 : s ≤ 8) :
    Calls Try.prog 41 #[.agg #[.int .i64 a, .int .i64 s]] w fun e w' => e = .returned (.int .u64 (u (msk (8 * s)))) ∧ w' = w.alloc (.cells #[.int .i64 a, .int .i64 s] 69) := by
  go_enter Try.func41, Try.ntmps41
  go_wp2
  go_ret
  refine ⟨ret_int ?_, rfl⟩
  rw [← msk_ones]
  congr 2
  omega

theorem rmay_any (f : Option Addr) (l c : Nat) (a s : Int) (w : World) (hl : l ≤ 1000000000) :
    Calls Try.prog 19 #[.agg #[.slice f l c], .int .i64 a, .int .i64 s] w fun e w' => e = .returned (.int .i64 (mayE l a s)) ∧ w' = w.alloc (.cells #[.slice f l c] 24) := by
  by_cases hs : okS s = true
  · have hs' := okS_true hs
    by_cases ha : a < 0 ∨ 8 * (l : Int) ≤ a
    · have e : mayE l a s = 2 := by unfold mayE; rw [if_neg (by simp [hs]), if_pos ha]
      rw [e]
      clear e hs
      rcases hs' with rfl | rfl | rfl | rfl <;> by_cases hn : a < 0
      all_goals
        go_enter Try.func19, Try.ntmps19
        go_wp2
        go_ret
        exact ⟨rfl, rfl⟩
    · have e : mayE l a s = if a % s ≠ 0 then 8 else 0 := by unfold mayE; rw [if_neg (by simp [hs]), if_neg ha]
      rw [e]
      clear e hs
      have h0 : 0 ≤ a := by omega
      have h1 : a < 8 * (l : Int) := by omega
      clear ha
      by_cases hq : a % s = 0
      · have hq' : (a % s != 0) = false := by simpa using hq
        rw [if_neg (fun h => h hq)]
        clear hq
        rcases hs' with rfl | rfl | rfl | rfl
        all_goals
          go_enter Try.func19, Try.ntmps19
          go_wp2
          go_ret
          exact ⟨rfl, rfl⟩
      · have hq' : (a % s != 0) = true := by simpa using hq
        rw [if_pos hq]
        rcases hs' with rfl | rfl | rfl | rfl
        · omega
        all_goals
          clear hq
          go_enter Try.func19, Try.ntmps19
          go_wp2
          go_ret
          exact ⟨rfl, rfl⟩
  · have e : mayE l a s = 1 := by unfold mayE; rw [if_pos (by simpa using hs)]
    have hn : s ≠ 1 ∧ s ≠ 2 ∧ s ≠ 4 ∧ s ≠ 8 := by
      unfold okS at hs; simp at hs; omega
    obtain ⟨n1, n2, n3, n4⟩ := hn
    rw [e]
    have m1 : (s != 1) = true := by simpa using n1
    have m2 : (s != 2) = true := by simpa using n2
    have m3 : (s != 4) = true := by simpa using n3
    have m4 : (s != 8) = true := by simpa using n4
    clear e hs n1 n2 n3 n4
    go_enter Try.func19, Try.ntmps19
    go_wp2
    go_ret
    exact ⟨rfl, rfl⟩
end Go.Proofs.Ytpnkhijbfnnggaa
