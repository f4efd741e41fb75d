/- Contracts of the functions of package word, and of its reference, that later layers call: Get. Cells of plain data. -/
import Derived.Test.YtlflfpohglgopaaBits
import Derived.Test.YtlflfpohglgopaaOpen
import Derived.Outline
import Derived.Handy
import Derived.Deep.QuietTactic
import Derived.BigQuiet
import Derived.Deep.RegionHeld3
import Derived.Lib.Hide
import Derived.WalkLawsBesides
import Derived.WalkSpells
import Derived.LoopTactic
import Derived.Deep.RegionWith
set_option linter.all false
namespace Go.Proofs.Ytlflfpohglgopaa
open Go.ChangeShapes Go.WideShapes Go.ChangeAt Go.RowKit Go.Deep

/-- The cells of a descriptor or a hit, and of a fault, that are new. -/
abbrev z9 : Array Value := #[.int .i64 0, .int .i64 0, .bool false, .bool false, .bool false, .bool false, .bool false, .int .i64 0, .int .i64 0]
abbrev z5 : Array Value := #[.int .i64 0, .int .i64 0, .int .i64 0, .bool false, .int .i64 0]

/-- May a place be? -/
def okB (a n : Int) : Bool := decide (0 ≤ a ∧ 1 ≤ n ∧ a + n ≤ 64)

theorem okB_true {a n : Int} (h : okB a n = true) : 0 ≤ a ∧ 1 ≤ n ∧ a + n ≤ 64 := of_decide_eq_true h

theorem okB_false {a n : Int} (h : okB a n = false) : ¬ (0 ≤ a ∧ 1 ≤ n ∧ a + n ≤ 64) := of_decide_eq_false h

theorem ret_bool {a b : Bool} (h : a = b) : Ending.returned (.bool a) = .returned (.bool b) := by rw [h]

theorem ret_int {k : IntKind} {a b : Int} (h : a = b) : Ending.returned (.int k a) = .returned (.int k b) := by rw [h]

theorem mask_any (n : Int) (w : World) (h0 : 0 ≤ n) :
    Calls Try.prog 38 #[.int .i64 n] w fun e w' => e = .returned (.int .u64 (u (msk n))) ∧ w = w' := by
  by_cases h : 64 ≤ n
  · go_enter Try.func38, Try.ntmps38
    go_wp2
    go_ret
    refine ⟨ret_int ?_, rfl⟩
    rw [msk_all n h]; decide
  · go_enter Try.func38, Try.ntmps38
    go_wp2
    go_ret
    exact ⟨ret_int (msk_ref n h0 (by omega)), rfl⟩

theorem fits_any (a n : Int) (w : World) :
    Calls Try.prog 46 #[.int .i64 a, .int .i64 n] w fun e w' => e = .returned (.bool (okB a n)) ∧ w = w' := by
  go_enter Try.func46, Try.ntmps46
  go_wp2
  all_goals
    go_ret
    refine ⟨ret_bool ?_, rfl⟩
    unfold okB
    rw [Bool.eq_iff_iff]
    simp
    omega

theorem mayBe_any (a n : Int) (w : World) (hn : n ≤ 9223372036854775807) :
    Calls Try.prog 42 #[.agg #[.int .i64 a, .int .i64 n]] w fun e w' => e = .returned (.bool (okB a n)) ∧ w' = w.alloc (.cells #[.int .i64 a, .int .i64 n] 87) := by
  go_enter Try.func42, Try.ntmps42
  go_wp2
  all_goals
    go_ret
    refine ⟨ret_bool ?_, rfl⟩
    unfold okB
    rw [Bool.eq_iff_iff]
    simp
    omega

theorem ones_any (a n : Int) (w : World) (h0 : 1 ≤ n) (h1 : n ≤ 64) :
    Calls Try.prog 43 #[.agg #[.int .i64 a, .int .i64 n]] w fun e w' => e = .returned (.int .u64 (u (msk n))) ∧ w' = w.alloc (.cells #[.int .i64 a, .int .i64 n] 87) := by
  go_enter Try.func43, Try.ntmps43
  go_wp2
  go_ret
  exact ⟨ret_int (msk_ones n), rfl⟩

theorem below_drewN {B : Nat} {a w : World} (h : Below B a w) (n : Nat) : Below B a (w.drewN n) := ⟨h.os, h.tape, h.output, h.size, h.block⟩

theorem bel_alloc {a w : World} (h : Below a.heap.size a w) (o : Obj) : Below a.heap.size a (w.alloc o) := h.alloc h.size o

theorem bel_trans {a w w' : World} (h : Below a.heap.size a w) (k : Below w.heap.size w w') : Below a.heap.size a w' := h.trans (k.mono h.size)

theorem get_yes (v : BitVec 64) (a n : Int) (w : World) (h : okB a n = true) :
    Calls Try.prog 35 #[.int .u64 (u v), .int .i64 a, .int .i64 n] w fun e w' => e = .returned (.tuple #[.int .u64 (u (v >>> a.toNat &&& msk n)), .int .i64 0]) ∧ w' = (((w.alloc (.cells #[.int .i64 a, .int .i64 n] 87)).alloc (.cells #[.int .i64 a, .int .i64 n] 87)).alloc (.cells #[.int .i64 a, .int .i64 n] 87)).drew := by
  obtain ⟨h0, h1, h2⟩ := okB_true h
  go_enter Try.func35, Try.ntmps35
  go_wp2_with (go_at_call 42; refine (mayBe_any _ _ _ (by omega)).mono ?_; rintro e w' ⟨rfl, rfl⟩)
  go_region_held3 (fun w' => w'.cell? ⟨w.heap.size, 0, none⟩ = some (.int .i64 a) ∧ w'.cell? ⟨w.heap.size, 1, none⟩ = some (.int .i64 n)) (go_keep)
    (first | (go_at_call 43; refine (ones_any _ _ _ h1 (by omega)).mono ?_; rintro e w' ⟨rfl, rfl⟩))
  go_wp2
  go_ret2
  exact ⟨rfl, rfl⟩

theorem get_no (v : BitVec 64) (a n : Int) (w : World) (hn : n ≤ 9223372036854775807) (h : okB a n = false) :
    Calls Try.prog 35 #[.int .u64 (u v), .int .i64 a, .int .i64 n] w fun e w' => e = .returned (.tuple #[.int .u64 0, .int .i64 1]) ∧ w' = (w.alloc (.cells #[.int .i64 a, .int .i64 n] 87)).alloc (.cells #[.int .i64 a, .int .i64 n] 87) := by
  go_enter Try.func35, Try.ntmps35
  go_wp2_with (go_at_call 42; refine (mayBe_any _ _ _ hn).mono ?_; rintro e w' ⟨rfl, rfl⟩)
  go_ret2
  exact ⟨rfl, rfl⟩

theorem rget_any (v : BitVec 64) (a n : Int) (w : World) (h0 : 0 ≤ a) (h2 : a ≤ 64) (h1 : 0 ≤ n) :
    Calls Try.prog 28 #[.int .u64 (u v), .int .i64 a, .int .i64 n] w fun e w' => e = .returned (.int .u64 (u (v >>> a.toNat &&& msk n))) ∧ ∃ m, w' = w.drewN m := by
  go_enter Try.func28, Try.ntmps28
  go_wp2
  go_quiet ((go_at_call 38; exact Calls.quiet_of_same ((mask_any _ _ h1).mono fun _ _ ⟨a, b⟩ => ⟨a, b.symm⟩)))
  go_wp2
  go_ret
  exact ⟨rfl, _, rfl⟩

/-- A field's three cells, at an address. -/
structure FieldAt (W : World) (b o : Nat) (a n : Int) (v : BitVec 64) : Prop where
  lt : b < W.heap.size
  c0 : W.cell? ⟨b, o, none⟩ = some (.int .i64 a)
  c1 : W.cell? ⟨b, o + 1, none⟩ = some (.int .i64 n)
  c2 : W.cell? ⟨b, o + 2, none⟩ = some (.int .u64 (u v))
  n1 : n ≤ 9223372036854775807
  n0 : -9223372036854775808 ≤ n
  a1 : a ≤ 9223372036854775807
  a0 : -9223372036854775808 ≤ a

theorem FieldAt.below {W w : World} {b o : Nat} {v : BitVec 64} {a n : Int} (h : FieldAt W b o a n v) (hb : Below W.heap.size W w) : FieldAt w b o a n v :=
  ⟨Nat.lt_of_lt_of_le h.lt hb.size, (hb.cell (p := ⟨b, o, none⟩) h.lt).trans h.c0, (hb.cell (p := ⟨b, o + 1, none⟩) h.lt).trans h.c1, (hb.cell (p := ⟨b, o + 2, none⟩) h.lt).trans h.c2, h.n1, h.n0, h.a1, h.a0⟩

theorem i64_bounds {n : Int} (h : (Lit.int .i64 n).wf = true) : n ≤ 9223372036854775807 ∧ -9223372036854775808 ≤ n := by
  have h1 : IntKind.i64.min = -9223372036854775808 := rfl
  have h2 : IntKind.i64.max = 9223372036854775807 := rfl
  simp only [Lit.wf, Bool.and_eq_true, decide_eq_true_eq] at h
  omega

theorem u64_word {n : Int} (h : (Lit.int .u64 n).wf = true) : ∃ x : BitVec 64, n = u x := by
  have h1 : IntKind.u64.min = 0 := rfl
  have h2 : IntKind.u64.max = 18446744073709551615 := rfl
  simp only [Lit.wf, Bool.and_eq_true, decide_eq_true_eq] at h
  exact u_of n (by omega) (by omega)

section
variable {H : Type} {enc : TypeId × Value → H} {w : World} {base : Nat} {held : Bool}

theorem int_cell {n : Nat} {c : Value} {y : DataW H × List MemPlace} (h : DataW.trod enc Try.prog w base (fun _ => true) held n 3 [c] = some y) :
    ∃ a : Int, c = .int .i64 a ∧ a ≤ 9223372036854775807 ∧ -9223372036854775808 ≤ a := by
  obtain ⟨a, hc, _, hw⟩ := DataW.trod_int Try.underlying3 h
  simp at hc
  exact ⟨a, hc, i64_bounds hw⟩

theorem word_cell {n : Nat} {c : Value} {y : DataW H × List MemPlace} (h : DataW.trod enc Try.prog w base (fun _ => true) held n 23 [c] = some y) :
    ∃ x : BitVec 64, c = .int .u64 (u x) := by
  obtain ⟨a, hc, _, hw⟩ := DataW.trod_int Try.underlying23 h
  obtain ⟨x, rfl⟩ := u64_word hw
  simp at hc
  exact ⟨x, hc⟩
end
theorem fits_no (a n : Int) (w : World) (h : okB a n = false) :
    Calls Try.prog 46 #[.int .i64 a, .int .i64 n] w fun e w' => e = .returned (.bool false) ∧ w' = w :=
  (fits_any a n w).mono fun _ _ ⟨he, hw⟩ => ⟨by rw [he, h], hw.symm⟩

theorem fits_yes (a n : Int) (w : World) (h : okB a n = true) :
    Calls Try.prog 46 #[.int .i64 a, .int .i64 n] w fun e w' => e = .returned (.bool true) ∧ w' = w :=
  (fits_any a n w).mono fun _ _ ⟨he, hw⟩ => ⟨by rw [he, h], hw.symm⟩

theorem mask_same (n : Int) (w : World) (h0 : 0 ≤ n) :
    Calls Try.prog 38 #[.int .i64 n] w fun e w' => e = .returned (.int .u64 (u (msk n))) ∧ w' = w :=
  (mask_any n w h0).mono fun _ _ ⟨he, hw⟩ => ⟨he, hw.symm⟩

theorem bcell {W w1 : World} (hb : Below W.heap.size W w1) : (∀ b o, b < W.heap.size → w1.cell? ⟨b, o, none⟩ = W.cell? ⟨b, o, none⟩) :=
  fun b o h => hb.cell (p := ⟨b, o, none⟩) h
end Go.Proofs.Ytlflfpohglgopaa
