/- How arguments that are slices of structs are opened to cells; what a law's end owes. Contracts of the functions of package word, and of its reference, that later layers call: Get. Cells of plain data. -/
import Derived.Test.YtbhnjaajkolklaaRows
import Derived.WalkKit
import Derived.ProofKit
import Derived.OpenShut
import Derived.Below
import Derived.Carry
import Derived.ChangeSame
import Derived.Deep.Slices
import Derived.Deep.Fields
import Derived.DataReads
import Derived.Test.YtbhnjaajkolklaaBits
import Derived.Outline
import Derived.Handy
import Derived.Deep.QuietTactic
import Derived.BigQuiet
import Derived.Deep.RegionHeld3
import Derived.Lib.Hide
import Derived.WalkLawsBesides
import Derived.WalkSpells
import Derived.LoopTactic
import Derived.Deep.RegionWith
set_option linter.all false
namespace Go.Proofs.Ytbhnjaajkolklaa
section
open Go.ChangeShapes Go.WideShapes Go.ChangeAt Go.RowKit Go.Deep

theorem own : ownKnob Try.prog.godebug = none := by kernel_rfl
theorem laidOut : laidOutB Try.prog = true := by kernel_rfl

section
variable {H : Type} {enc : TypeId × Value → H} {P : Program}

/-- A law's end: it is true, and nothing that was there has changed: so the one argument reads as it read. -/
theorem post_law {f : Func} {s : ChangeSpec} {apart fresh handsOn : Bool} {W W' : World} {args : Array Value} {v : Value} {ds gs : List (DataW H)} {before : List MemPlace}
    (hW : DataW.Whole enc P f.params.toList s.vars apart W args.toList ds gs before)
    (hres : ∀ (b : Nat) (sp : Nat → Bool) (hd : Bool), DataW.TrodAll enc P W' b sp hd f.resultTypes.toList (v.resultList f.resultTypes.size) (s.fn H (ds ++ gs)).results [])
    (hargs : DataW.TrodAll enc P W' 0 (fun b => decide (b < W.heap.size)) true f.params.toList args.toList (s.fn H (ds ++ gs)).args before)
    (hvars : DataW.TrodVars enc P W' (fun b => decide (b < W.heap.size)) s.vars (s.fn H (ds ++ gs)).vars [])
    (hb : Below W.heap.size W W') : s.post enc P f apart fresh handsOn false W args v W' :=
  ⟨ds, gs, before, [], before, [], hW, hres _ _ _, hargs, hvars, World.keptBut_mono (fun _ hp => ⟨hp, Or.inr (Or.inl hp)⟩) (hb.frame (· ∈ before)), fun h => by cases h⟩

variable {w : World} {base : Nat} {spare : Nat → Bool} {held : Bool}

theorem add_none (b o n : Nat) : (Addr.mk b o none).add n = ⟨b, o + n, none⟩ := by
  unfold Addr.add
  by_cases h : n = 0
  · subst h; rfl
  · rw [if_neg h]

theorem cell_block {a : Addr} {v : Value} (h : w.cell? a = some v) : a.block < w.heap.size := by
  unfold World.cell? at h
  split at h
  · rename_i hb; exact (Array.getElem?_eq_some_iff.1 hb).1
  · cases h

end
end
section
open Go.ChangeShapes Go.WideShapes Go.ChangeAt Go.RowKit Go.Deep

/-- The cells of a descriptor or a hit, and of a fault, that are new. -/
abbrev z9 : Array Value := #[.int .i64 0, .int .i64 0, .bool false, .bool false, .bool false, .bool false, .bool false, .int .i64 0, .int .i64 0]
/-- May a place be? -/
def okB (a n : Int) : Bool := decide (0 ≤ a ∧ 1 ≤ n ∧ a + n ≤ 64)

theorem okB_true {a n : Int} (h : okB a n = true) : 0 ≤ a ∧ 1 ≤ n ∧ a + n ≤ 64 := of_decide_eq_true h

theorem ret_bool {a b : Bool} (h : a = b) : Ending.returned (.bool a) = .returned (.bool b) := by rw [h]

theorem ret_int {k : IntKind} {a b : Int} (h : a = b) : Ending.returned (.int k a) = .returned (.int k b) := by rw [h]

theorem mayBe_any (a n : Int) (w : World) (hn : n ≤ 9223372036854775807) :
    Calls Try.prog 72 #[.agg #[.int .i64 a, .int .i64 n]] w fun e w' => e = .returned (.bool (okB a n)) ∧ w' = w.alloc (.cells #[.int .i64 a, .int .i64 n] 124) := by
  go_enter Try.func72, Try.ntmps72
  go_wp2
  all_goals
    go_ret
    refine ⟨ret_bool ?_, rfl⟩
    unfold okB
    rw [Bool.eq_iff_iff]
    simp
    omega

theorem ones_any (a n : Int) (w : World) (h0 : 1 ≤ n) (h1 : n ≤ 64) :
    Calls Try.prog 73 #[.agg #[.int .i64 a, .int .i64 n]] w fun e w' => e = .returned (.int .u64 (u (msk n))) ∧ w' = w.alloc (.cells #[.int .i64 a, .int .i64 n] 124) := by
  go_enter Try.func73, Try.ntmps73
  go_wp2
  go_ret
  exact ⟨ret_int (msk_ones n), rfl⟩

theorem below_drewN {B : Nat} {a w : World} (h : Below B a w) (n : Nat) : Below B a (w.drewN n) := ⟨h.os, h.tape, h.output, h.size, h.block⟩

theorem bel_alloc {a w : World} (h : Below a.heap.size a w) (o : Obj) : Below a.heap.size a (w.alloc o) := h.alloc h.size o

theorem bel_trans {a w w' : World} (h : Below a.heap.size a w) (k : Below w.heap.size w w') : Below a.heap.size a w' := h.trans (k.mono h.size)

theorem get_yes (v : BitVec 64) (a n : Int) (w : World) (h : okB a n = true) :
    Calls Try.prog 57 #[.int .u64 (u v), .int .i64 a, .int .i64 n] w fun e w' => e = .returned (.tuple #[.int .u64 (u (v >>> a.toNat &&& msk n)), .int .i64 0]) ∧ w' = (((w.alloc (.cells #[.int .i64 a, .int .i64 n] 124)).alloc (.cells #[.int .i64 a, .int .i64 n] 124)).alloc (.cells #[.int .i64 a, .int .i64 n] 124)).drew := by
  obtain ⟨h0, h1, h2⟩ := okB_true h
  go_enter Try.func57, Try.ntmps57
  go_wp2_with (go_at_call 72; refine (mayBe_any _ _ _ (by omega)).mono ?_; rintro e w' ⟨rfl, rfl⟩)
  go_region_held3 (fun w' => w'.cell? ⟨w.heap.size, 0, none⟩ = some (.int .i64 a) ∧ w'.cell? ⟨w.heap.size, 1, none⟩ = some (.int .i64 n)) (go_keep)
    (first | (go_at_call 73; refine (ones_any _ _ _ h1 (by omega)).mono ?_; rintro e w' ⟨rfl, rfl⟩))
  go_wp2
  go_ret2
  exact ⟨rfl, rfl⟩

/-- A field's three cells, at an address. -/
structure FieldAt (W : World) (b o : Nat) (a n : Int) (v : BitVec 64) : Prop where
  lt : b < W.heap.size
  c0 : W.cell? ⟨b, o, none⟩ = some (.int .i64 a)
  c1 : W.cell? ⟨b, o + 1, none⟩ = some (.int .i64 n)
  c2 : W.cell? ⟨b, o + 2, none⟩ = some (.int .u64 (u v))
  n1 : n ≤ 9223372036854775807
  n0 : -9223372036854775808 ≤ n
  a1 : a ≤ 9223372036854775807
  a0 : -9223372036854775808 ≤ a

theorem FieldAt.below {W w : World} {b o : Nat} {v : BitVec 64} {a n : Int} (h : FieldAt W b o a n v) (hb : Below W.heap.size W w) : FieldAt w b o a n v :=
  ⟨Nat.lt_of_lt_of_le h.lt hb.size, (hb.cell (p := ⟨b, o, none⟩) h.lt).trans h.c0, (hb.cell (p := ⟨b, o + 1, none⟩) h.lt).trans h.c1, (hb.cell (p := ⟨b, o + 2, none⟩) h.lt).trans h.c2, h.n1, h.n0, h.a1, h.a0⟩

theorem i64_bounds {n : Int} (h : (Lit.int .i64 n).wf = true) : n ≤ 9223372036854775807 ∧ -9223372036854775808 ≤ n := by
  have h1 : IntKind.i64.min = -9223372036854775808 := rfl
  have h2 : IntKind.i64.max = 9223372036854775807 := rfl
  simp only [Lit.wf, Bool.and_eq_true, decide_eq_true_eq] at h
  omega

theorem u64_word {n : Int} (h : (Lit.int .u64 n).wf = true) : ∃ x : BitVec 64, n = u x := by
  have h1 : IntKind.u64.min = 0 := rfl
  have h2 : IntKind.u64.max = 18446744073709551615 := rfl
  simp only [Lit.wf, Bool.and_eq_true, decide_eq_true_eq] at h
  exact u_of n (by omega) (by omega)

section
variable {H : Type} {enc : TypeId × Value → H} {w : World} {base : Nat} {held : Bool}

end
end
end Go.Proofs.Ytbhnjaajkolklaa
