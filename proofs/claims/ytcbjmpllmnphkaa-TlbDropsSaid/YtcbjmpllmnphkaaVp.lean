/- The program's May: contract. -/
import Derived.Test.YtcbjmpllmnphkaaPa
import Derived.Deep.CutBlock
import Derived.Deep.DeepCutAuto
set_option linter.all false
namespace Go.Proofs.Ytcbjmpllmnphkaa
open Go.ChangeShapes Go.WideShapes Go.ChangeAt Go.RowKit Go.Deep

/-- An access to what has attributes, as the program keeps it. -/
def attC (t : Atr) (acc : Int) : Array Value := #[.bool t.r, .bool t.w, .bool t.x, .bool t.a, .bool t.n, .int .i64 t.s, .int .i64 acc]
def attV (t : Atr) (acc : Int) : Value := .agg (attC t acc)
theorem attemptOf_any (t : Atr) (acc : Int) (w : World) :
    Calls Try.prog 73 #[atrV t, .int .i64 acc] w fun e w' => e = .returned (attV t acc) ∧ Below w.heap.size w w' := by
  obtain ⟨r, wr, x, a, n, s⟩ := t
  unfold attV attC atrV atrC
  go_enter Try.func73, Try.ntmps73
  go_wp2
  go_returns
  exact ⟨rfl, by go_grown⟩
theorem attMay_any (t : Atr) (acc : Int) (w : World) :
    Calls Try.prog 74 #[attV t acc] w fun e w' => e = .returned (.bool (numB acc 2)) ∧ Below w.heap.size w w' := by
  obtain ⟨r, wr, x, a, n, s⟩ := t
  unfold attV attC
  simp only
  rw [show numB acc 2 = (decide (0 ≤ acc) && decide (acc ≤ 2)) from by simp [numB]]
  cases h0 : decide (0 ≤ acc)
  all_goals
    go_enter Try.func74, Try.ntmps74
    go_wp2
    go_ret
    exact ⟨by first | rfl | simp, by go_grown⟩
theorem attDo_any (t : Atr) (acc : Int) (w : World) :
    Calls Try.prog 75 #[attV t acc] w fun e w' => e = .returned (.bool (mayA t acc)) ∧ Below w.heap.size w w' := by
  obtain ⟨r, wr, x, a, n, s⟩ := t
  unfold attV attC
  unfold mayA
  simp only
  by_cases h0 : acc = 0
  · subst h0
    cases r
    all_goals
      go_enter Try.func75, Try.ntmps75
      go_wp2
      go_ret
      exact ⟨rfl, by go_grown⟩
  by_cases h1 : acc = 1
  · subst h1
    cases wr
    all_goals
      go_enter Try.func75, Try.ntmps75
      go_wp2
      go_ret
      exact ⟨rfl, by go_grown⟩
  by_cases h2 : acc = 2
  · subst h2
    cases x
    all_goals
      go_enter Try.func75, Try.ntmps75
      go_wp2
      go_ret
      exact ⟨rfl, by go_grown⟩
  · rw [decide_eq_false h0, decide_eq_false h1, decide_eq_false h2]
    go_enter Try.func75, Try.ntmps75
    go_wp2
    go_ret
    exact ⟨rfl, by go_grown⟩
set_option maxHeartbeats 3200000 in
theorem mayP_any (t : Atr) (acc : Int) (w : World) :
    Calls Try.prog 66 #[atrV t, .int .i64 acc] w fun e w' => e = .returned (.tuple #[.bool (numB acc 2 && mayA t acc), .int .i64 (if numB acc 2 = true then 0 else 1)]) ∧ Below w.heap.size w w' := by
  have HA := Lib.hid (fun W => attemptOf_any t acc W)
  have HB := Lib.hid (fun W => attMay_any t acc W)
  have HD := Lib.hid (fun W => attDo_any t acc W)
  generalize mayA t acc = m at *
  generalize numB acc 2 = b at *
  obtain ⟨r, wr, x, a, n, s⟩ := t
  unfold attV attC at *
  unfold atrV atrC at *
  simp only at *
  have A0 := Lib.hid (BoxAt.new w #[.bool r, .bool wr, .bool x, .bool a, .bool n, .int .i64 s] 32)
  have B0 := Lib.hid (bel_alloc (Below.refl w.heap.size w) (.cells #[.bool r, .bool wr, .bool x, .bool a, .bool n, .int .i64 s] 32))
  go_enter Try.func66, Try.ntmps66
  go_upto_region 1 with fail
  obtain ⟨W0, hW0⟩ : ∃ W0, W0 = w.alloc (.cells #[.bool r, .bool wr, .bool x, .bool a, .bool n, .int .i64 s] 32) := ⟨_, rfl⟩
  rw [← hW0] at A0 B0 ⊢
  clear hW0
  have Ac0 := A0.out.get 0 (.bool r) rfl
  have Ac1 := A0.out.get 1 (.bool wr) rfl
  have Ac2 := A0.out.get 2 (.bool x) rfl
  have Ac3 := A0.out.get 3 (.bool a) rfl
  have Ac4 := A0.out.get 4 (.bool n) rfl
  have Ac5 := A0.out.get 5 (.int .i64 s) rfl
  go_wp2_with fail
  refine (HA.out _).mono ?_
  rintro e w11 ⟨rfl, hb11⟩
  have A12 := Lib.hid (A0.out.below hb11)
  have B12 := Lib.hid (bel_trans B0.out hb11)
  clear Ac0 Ac1 Ac2 Ac3 Ac4 Ac5
  clear A0 B0 hb11
  go_upto_region 2 with fail
  have A13 := Lib.hid ((A12.out.alloc (.cells #[.bool r, .bool wr, .bool x, .bool a, .bool n, .int .i64 s, .int .i64 acc] 96)))
  have T13 := Lib.hid ((BoxAt.newAt (w11) #[.bool r, .bool wr, .bool x, .bool a, .bool n, .int .i64 s, .int .i64 acc] 96 (w11.heap.size) (by first | rfl | (simp; done) | (simp; omega))))
  have B13 := Lib.hid ((bel_alloc B12.out (.cells #[.bool r, .bool wr, .bool x, .bool a, .bool n, .int .i64 s, .int .i64 acc] 96)))
  clear A12 B12
  obtain ⟨W2, hW2⟩ : ∃ W2, W2 = w11.alloc (.cells #[.bool r, .bool wr, .bool x, .bool a, .bool n, .int .i64 s, .int .i64 acc] 96) := ⟨_, rfl⟩
  obtain ⟨bT, hbT⟩ : ∃ bT, bT = w11.heap.size := ⟨_, rfl⟩
  rw [← hW2] at A13 T13 B13 ⊢
  rw [← hbT] at T13 ⊢
  clear hW2 hbT
  have Tc0 := T13.out.get 0 (.bool r) rfl
  have Tc1 := T13.out.get 1 (.bool wr) rfl
  have Tc2 := T13.out.get 2 (.bool x) rfl
  have Tc3 := T13.out.get 3 (.bool a) rfl
  have Tc4 := T13.out.get 4 (.bool n) rfl
  have Tc5 := T13.out.get 5 (.int .i64 s) rfl
  have Tc6 := T13.out.get 6 (.int .i64 acc) rfl
  go_wp2_with fail
  refine (HB.out _).mono ?_
  rintro e w14 ⟨rfl, hb14⟩
  have A15 := Lib.hid (A13.out.below hb14)
  have T15 := Lib.hid (T13.out.below hb14)
  have B15 := Lib.hid (bel_trans B13.out hb14)
  clear Tc0 Tc1 Tc2 Tc3 Tc4 Tc5 Tc6
  clear A13 T13 B13 hb14
  cases b
  · go_wp2
    go_ret2
    exact ⟨rfl, B15.out⟩
  · have Tc0 := T15.out.get 0 (.bool r) rfl
    have Tc1 := T15.out.get 1 (.bool wr) rfl
    have Tc2 := T15.out.get 2 (.bool x) rfl
    have Tc3 := T15.out.get 3 (.bool a) rfl
    have Tc4 := T15.out.get 4 (.bool n) rfl
    have Tc5 := T15.out.get 5 (.int .i64 s) rfl
    have Tc6 := T15.out.get 6 (.int .i64 acc) rfl
    go_wp2_with fail
    refine (HD.out _).mono ?_
    rintro e w16 ⟨rfl, hb16⟩
    have A17 := Lib.hid (A15.out.below hb16)
    have T17 := Lib.hid (T15.out.below hb16)
    have B17 := Lib.hid (bel_trans B15.out hb16)
    clear Tc0 Tc1 Tc2 Tc3 Tc4 Tc5 Tc6
    clear A15 T15 B15 hb16
    go_wp2
    go_ret2
    exact ⟨rfl, B17.out⟩
end Go.Proofs.Ytcbjmpllmnphkaa
