/- Plain arithmetic: a uint64 as a bit vector; the operations of the walk on it. How arguments that are slices of structs are opened to cells; what a law's end owes. Contracts of the functions of package word, and of its reference, that later layers call: Get. Cells of plain data. Plain walking: an operation of a region that draws its order is taken first, in short. -/
import Derived.Test.YtbhnjaajkolklaaGreatRows
import Derived.WalkKit
import Derived.Laws.BitsAllLaws
import Derived.ProofKit
import Derived.OpenShut
import Derived.Below
import Derived.Carry
import Derived.ChangeSame
import Derived.Deep.Slices
import Derived.Deep.Fields
import Derived.DataReads
import Derived.Outline
import Derived.Handy
import Derived.Deep.QuietTactic
import Derived.BigQuiet
import Derived.Deep.RegionHeld3
import Derived.Lib.Hide
import Derived.WalkLawsBesides
import Derived.WalkSpells
import Derived.LoopTactic
import Derived.Deep.RegionWith
import Derived.OrdersHeld
set_option linter.all false
namespace Go.Proofs.YtbhnjaajkolklaaGreat
section
open Go.RowKit

/-- A word as the number that the walk has. -/
def u (x : BitVec 64) : Int := (x.toNat : Int)

theorem u_lo (x : BitVec 64) : 0 ≤ u x := by unfold u; omega
theorem u_hi (x : BitVec 64) : u x < 18446744073709551616 := by unfold u; have := x.isLt; omega
theorem u_inj {x y : BitVec 64} : u x = u y ↔ x = y := by
  unfold u
  constructor
  · intro h; exact BitVec.eq_of_toNat_eq (by omega)
  · rintro rfl; rfl
theorem u_of (n : Int) (h0 : 0 ≤ n) (h1 : n < 18446744073709551616) : ∃ x : BitVec 64, n = u x := by
  refine ⟨BitVec.ofNat 64 n.toNat, ?_⟩
  unfold u
  rw [BitVec.toNat_ofNat, Nat.mod_eq_of_lt (by omega)]
  omega
@[go_sem] theorem u_and (x y : BitVec 64) : bits .and .u64 (u x) (u y) = u (x &&& y) := by
  unfold u; rw [u64_and_nat _ _ (by have := x.isLt; omega) (by have := y.isLt; omega)]; simp
@[go_sem] theorem u_or (x y : BitVec 64) : bits .or .u64 (u x) (u y) = u (x ||| y) := by
  unfold u; rw [u64_or_nat _ _ (by have := x.isLt; omega) (by have := y.isLt; omega)]; simp
@[go_sem] theorem u_xor (x y : BitVec 64) : bits .xor .u64 (u x) (u y) = u (x ^^^ y) := by
  unfold u; rw [u64_xor_nat _ _ (by have := x.isLt; omega) (by have := y.isLt; omega)]; simp
@[go_sem] theorem u_andNot (x y : BitVec 64) : bits .andNot .u64 (u x) (u y) = u (x &&& ~~~y) := by
  unfold u; rw [u64_andNot_nat _ _ (by have := x.isLt; omega) (by have := y.isLt; omega)]; simp
@[go_sem] theorem u_not (x : BitVec 64) : bits .xor .u64 (IntKind.u64.max) (u x) = u (~~~x) := by
  have : IntKind.u64.max = u (BitVec.allOnes 64) := by decide
  rw [this, u_xor, BitVec.allOnes_xor]
@[go_sem] theorem u_not' (x : BitVec 64) : bits .xor .u64 18446744073709551615 (u x) = u (~~~x) := by
  have : (18446744073709551615 : Int) = u (BitVec.allOnes 64) := by decide
  rw [this, u_xor, BitVec.allOnes_xor]
@[go_sem] theorem u_shl (x : BitVec 64) (k : Nat) : IntKind.u64.wrap (u x * 2 ^ k) = u (x <<< k) := by
  unfold u
  rw [IntKind.wrap_u64, BitVec.toNat_shiftLeft, Nat.shiftLeft_eq]
  have : (x.toNat : Int) * 2 ^ k = ((x.toNat * 2 ^ k : Nat) : Int) := by simp
  rw [this]
  generalize x.toNat * 2 ^ k = m
  omega
@[go_sem] theorem u_shr (x : BitVec 64) (k : Nat) : u x / 2 ^ k = u (x >>> k) := by
  unfold u
  rw [BitVec.toNat_ushiftRight, Nat.shiftRight_eq_div_pow]
  norm_cast
@[go_sem] theorem u_add (x y : BitVec 64) : IntKind.u64.wrap (u x + u y) = u (x + y) := by
  unfold u; rw [IntKind.wrap_u64, BitVec.toNat_add]; omega
@[go_sem] theorem u_mul (x y : BitVec 64) : IntKind.u64.wrap (u x * u y) = u (x * y) := by
  unfold u; rw [IntKind.wrap_u64, BitVec.toNat_mul]
  have : (x.toNat : Int) * y.toNat = ((x.toNat * y.toNat : Nat) : Int) := by simp
  rw [this]
  generalize x.toNat * y.toNat = m
  omega
@[go_sem] theorem u_sub (x y : BitVec 64) : IntKind.u64.wrap (u x - u y) = u (x - y) := by
  unfold u; rw [IntKind.wrap_u64, BitVec.toNat_sub]; have := x.isLt; have := y.isLt; omega
@[go_sem] theorem u_wrap (x : BitVec 64) : IntKind.u64.wrap (u x) = u x := by
  rw [IntKind.wrap_u64]; exact Int.emod_eq_of_lt (u_lo x) (u_hi x)
theorem u_beq (x y : BitVec 64) : (u x == u y) = decide (x = y) := by
  rw [Bool.eq_iff_iff]; simp [u_inj]
theorem u_bne (x y : BitVec 64) : (u x != u y) = decide (x ≠ y) := by
  rw [bne, u_beq]; simp
/-- The lowest n bits. -/
def msk (n : Int) : BitVec 64 := BitVec.allOnes 64 >>> (64 - n).toNat
theorem msk_ones (n : Int) : (18446744073709551615 : Int) / 2 ^ (64 - n).toNat = u (msk n) := by
  have : (18446744073709551615 : Int) = u (BitVec.allOnes 64) := by decide
  rw [this, u_shr]; rfl
theorem msk_bit (n : Int) (k : Nat) (h0 : 0 ≤ n) (h1 : n ≤ 64) : (msk n).getLsbD k = decide (k < n.toNat) := by
  unfold msk
  rw [BitVec.getLsbD_ushiftRight, BitVec.getLsbD_allOnes]
  congr 1
  apply propext; omega
theorem msk_all (n : Int) (h : 64 ≤ n) : msk n = BitVec.allOnes 64 := by
  unfold msk; rw [show (64 - n).toNat = 0 from by omega]; rfl
theorem msk_ref (n : Int) (h0 : 0 ≤ n) (h1 : n ≤ 63) : IntKind.u64.wrap (IntKind.u64.wrap (2 ^ n.toNat) - 1) = u (msk n) := by
  have e : (msk n).toNat = 2 ^ n.toNat - 1 := by
    unfold msk
    rw [BitVec.toNat_ushiftRight, BitVec.toNat_allOnes, Nat.shiftRight_eq_div_pow]
    have : ∀ k : Fin 64, (2 ^ 64 - 1) / 2 ^ (64 - (k : Nat)) = 2 ^ (k : Nat) - 1 := by decide +kernel
    have := this ⟨n.toNat, by omega⟩
    simp only at this
    rw [show (64 - n).toNat = 64 - n.toNat from by omega]
    exact this
  have hp : 2 ^ n.toNat < 2 ^ 64 := Nat.pow_lt_pow_right (by omega) (by omega)
  have hq : 0 < 2 ^ n.toNat := Nat.pow_pos (by omega)
  unfold u
  rw [e, IntKind.wrap_u64, IntKind.wrap_u64]
  have : ((2 : Int) ^ n.toNat) = ((2 ^ n.toNat : Nat) : Int) := by norm_cast
  rw [this]
  omega
end
section
open Go.ChangeShapes Go.WideShapes Go.ChangeAt Go.RowKit Go.Deep

theorem own : ownKnob Tryz.prog.godebug = none := by kernel_rfl
theorem laidOut : laidOutB Tryz.prog = true := by kernel_rfl

section
variable {H : Type} {enc : TypeId × Value → H} {P : Program}

/-- A law's end: it is true, and nothing that was there has changed: so the one argument reads as it read. -/
theorem post_law {f : Func} {s : ChangeSpec} {apart fresh handsOn : Bool} {W W' : World} {args : Array Value} {v : Value} {ds gs : List (DataW H)} {before : List MemPlace}
    (hW : DataW.Whole enc P f.params.toList s.vars apart W args.toList ds gs before)
    (hres : ∀ (b : Nat) (sp : Nat → Bool) (hd : Bool), DataW.TrodAll enc P W' b sp hd f.resultTypes.toList (v.resultList f.resultTypes.size) (s.fn H (ds ++ gs)).results [])
    (hargs : DataW.TrodAll enc P W' 0 (fun b => decide (b < W.heap.size)) true f.params.toList args.toList (s.fn H (ds ++ gs)).args before)
    (hvars : DataW.TrodVars enc P W' (fun b => decide (b < W.heap.size)) s.vars (s.fn H (ds ++ gs)).vars [])
    (hb : Below W.heap.size W W') : s.post enc P f apart fresh handsOn false W args v W' :=
  ⟨ds, gs, before, [], before, [], hW, hres _ _ _, hargs, hvars, World.keptBut_mono (fun _ hp => ⟨hp, Or.inr (Or.inl hp)⟩) (hb.frame (· ∈ before)), fun h => by cases h⟩

variable {w : World} {base : Nat} {spare : Nat → Bool} {held : Bool}

theorem add_none (b o n : Nat) : (Addr.mk b o none).add n = ⟨b, o + n, none⟩ := by
  unfold Addr.add
  by_cases h : n = 0
  · subst h; rfl
  · rw [if_neg h]

theorem cell_block {a : Addr} {v : Value} (h : w.cell? a = some v) : a.block < w.heap.size := by
  unfold World.cell? at h
  split at h
  · rename_i hb; exact (Array.getElem?_eq_some_iff.1 hb).1
  · cases h

end
end
section
open Go.ChangeShapes Go.WideShapes Go.ChangeAt Go.RowKit Go.Deep

/-- The cells of a descriptor or a hit, and of a fault, that are new. -/
abbrev z9 : Array Value := #[.int .i64 0, .int .i64 0, .bool false, .bool false, .bool false, .bool false, .bool false, .int .i64 0, .int .i64 0]
abbrev z5 : Array Value := #[.int .i64 0, .int .i64 0, .int .i64 0, .bool false, .int .i64 0]

/-- May a place be? -/
def okB (a n : Int) : Bool := decide (0 ≤ a ∧ 1 ≤ n ∧ a + n ≤ 64)

theorem okB_true {a n : Int} (h : okB a n = true) : 0 ≤ a ∧ 1 ≤ n ∧ a + n ≤ 64 := of_decide_eq_true h

theorem ret_bool {a b : Bool} (h : a = b) : Ending.returned (.bool a) = .returned (.bool b) := by rw [h]

theorem ret_int {k : IntKind} {a b : Int} (h : a = b) : Ending.returned (.int k a) = .returned (.int k b) := by rw [h]

theorem mask_any (n : Int) (w : World) (h0 : 0 ≤ n) :
    Calls Tryz.prog 82 #[.int .i64 n] w fun e w' => e = .returned (.int .u64 (u (msk n))) ∧ w = w' := by
  by_cases h : 64 ≤ n
  · go_enter Tryz.func82, Tryz.ntmps82
    go_wp2
    go_ret
    refine ⟨ret_int ?_, rfl⟩
    rw [msk_all n h]; decide
  · go_enter Tryz.func82, Tryz.ntmps82
    go_wp2
    go_ret
    exact ⟨ret_int (msk_ref n h0 (by omega)), rfl⟩

theorem fits_any (a n : Int) (w : World) :
    Calls Tryz.prog 98 #[.int .i64 a, .int .i64 n] w fun e w' => e = .returned (.bool (okB a n)) ∧ w = w' := by
  go_enter Tryz.func98, Tryz.ntmps98
  go_wp2
  all_goals
    go_ret
    refine ⟨ret_bool ?_, rfl⟩
    unfold okB
    rw [Bool.eq_iff_iff]
    simp
    omega

theorem mayBe_any (a n : Int) (w : World) (hn : n ≤ 9223372036854775807) :
    Calls Tryz.prog 123 #[.agg #[.int .i64 a, .int .i64 n]] w fun e w' => e = .returned (.bool (okB a n)) ∧ w' = w.alloc (.cells #[.int .i64 a, .int .i64 n] 171) := by
  go_enter Tryz.func123, Tryz.ntmps123
  go_wp2
  all_goals
    go_ret
    refine ⟨ret_bool ?_, rfl⟩
    unfold okB
    rw [Bool.eq_iff_iff]
    simp
    omega

theorem ones_any (a n : Int) (w : World) (h0 : 1 ≤ n) (h1 : n ≤ 64) :
    Calls Tryz.prog 124 #[.agg #[.int .i64 a, .int .i64 n]] w fun e w' => e = .returned (.int .u64 (u (msk n))) ∧ w' = w.alloc (.cells #[.int .i64 a, .int .i64 n] 171) := by
  go_enter Tryz.func124, Tryz.ntmps124
  go_wp2
  go_ret
  exact ⟨ret_int (msk_ones n), rfl⟩

theorem below_drewN {B : Nat} {a w : World} (h : Below B a w) (n : Nat) : Below B a (w.drewN n) := ⟨h.os, h.tape, h.output, h.size, h.block⟩

theorem bel_alloc {a w : World} (h : Below a.heap.size a w) (o : Obj) : Below a.heap.size a (w.alloc o) := h.alloc h.size o

theorem bel_trans {a w w' : World} (h : Below a.heap.size a w) (k : Below w.heap.size w w') : Below a.heap.size a w' := h.trans (k.mono h.size)

theorem get_yes (v : BitVec 64) (a n : Int) (w : World) (h : okB a n = true) :
    Calls Tryz.prog 112 #[.int .u64 (u v), .int .i64 a, .int .i64 n] w fun e w' => e = .returned (.tuple #[.int .u64 (u (v >>> a.toNat &&& msk n)), .int .i64 0]) ∧ w' = (((w.alloc (.cells #[.int .i64 a, .int .i64 n] 171)).alloc (.cells #[.int .i64 a, .int .i64 n] 171)).alloc (.cells #[.int .i64 a, .int .i64 n] 171)).drew := by
  obtain ⟨h0, h1, h2⟩ := okB_true h
  go_enter Tryz.func112, Tryz.ntmps112
  go_wp2_with (go_at_call 123; refine (mayBe_any _ _ _ (by omega)).mono ?_; rintro e w' ⟨rfl, rfl⟩)
  go_region_held3 (fun w' => w'.cell? ⟨w.heap.size, 0, none⟩ = some (.int .i64 a) ∧ w'.cell? ⟨w.heap.size, 1, none⟩ = some (.int .i64 n)) (go_keep)
    (first | (go_at_call 124; refine (ones_any _ _ _ h1 (by omega)).mono ?_; rintro e w' ⟨rfl, rfl⟩))
  go_wp2
  go_ret2
  exact ⟨rfl, rfl⟩

theorem rget_any (v : BitVec 64) (a n : Int) (w : World) (h0 : 0 ≤ a) (h2 : a ≤ 64) (h1 : 0 ≤ n) :
    Calls Tryz.prog 80 #[.int .u64 (u v), .int .i64 a, .int .i64 n] w fun e w' => e = .returned (.int .u64 (u (v >>> a.toNat &&& msk n))) ∧ ∃ m, w' = w.drewN m := by
  go_enter Tryz.func80, Tryz.ntmps80
  go_wp2
  go_quiet ((go_at_call 82; exact Calls.quiet_of_same ((mask_any _ _ h1).mono fun _ _ ⟨a, b⟩ => ⟨a, b.symm⟩)))
  go_wp2
  go_ret
  exact ⟨rfl, _, rfl⟩

/-- A field's three cells, at an address. -/
structure FieldAt (W : World) (b o : Nat) (a n : Int) (v : BitVec 64) : Prop where
  lt : b < W.heap.size
  c0 : W.cell? ⟨b, o, none⟩ = some (.int .i64 a)
  c1 : W.cell? ⟨b, o + 1, none⟩ = some (.int .i64 n)
  c2 : W.cell? ⟨b, o + 2, none⟩ = some (.int .u64 (u v))
  n1 : n ≤ 9223372036854775807
  n0 : -9223372036854775808 ≤ n
  a1 : a ≤ 9223372036854775807
  a0 : -9223372036854775808 ≤ a

theorem FieldAt.below {W w : World} {b o : Nat} {v : BitVec 64} {a n : Int} (h : FieldAt W b o a n v) (hb : Below W.heap.size W w) : FieldAt w b o a n v :=
  ⟨Nat.lt_of_lt_of_le h.lt hb.size, (hb.cell (p := ⟨b, o, none⟩) h.lt).trans h.c0, (hb.cell (p := ⟨b, o + 1, none⟩) h.lt).trans h.c1, (hb.cell (p := ⟨b, o + 2, none⟩) h.lt).trans h.c2, h.n1, h.n0, h.a1, h.a0⟩

theorem i64_bounds {n : Int} (h : (Lit.int .i64 n).wf = true) : n ≤ 9223372036854775807 ∧ -9223372036854775808 ≤ n := by
  have h1 : IntKind.i64.min = -9223372036854775808 := rfl
  have h2 : IntKind.i64.max = 9223372036854775807 := rfl
  simp only [Lit.wf, Bool.and_eq_true, decide_eq_true_eq] at h
  omega

theorem u64_word {n : Int} (h : (Lit.int .u64 n).wf = true) : ∃ x : BitVec 64, n = u x := by
  have h1 : IntKind.u64.min = 0 := rfl
  have h2 : IntKind.u64.max = 18446744073709551615 := rfl
  simp only [Lit.wf, Bool.and_eq_true, decide_eq_true_eq] at h
  exact u_of n (by omega) (by omega)

section
variable {H : Type} {enc : TypeId × Value → H} {w : World} {base : Nat} {held : Bool}

end
theorem fits_no (a n : Int) (w : World) (h : okB a n = false) :
    Calls Tryz.prog 98 #[.int .i64 a, .int .i64 n] w fun e w' => e = .returned (.bool false) ∧ w' = w :=
  (fits_any a n w).mono fun _ _ ⟨he, hw⟩ => ⟨by rw [he, h], hw.symm⟩

theorem fits_yes (a n : Int) (w : World) (h : okB a n = true) :
    Calls Tryz.prog 98 #[.int .i64 a, .int .i64 n] w fun e w' => e = .returned (.bool true) ∧ w' = w :=
  (fits_any a n w).mono fun _ _ ⟨he, hw⟩ => ⟨by rw [he, h], hw.symm⟩

theorem mask_same (n : Int) (w : World) (h0 : 0 ≤ n) :
    Calls Tryz.prog 82 #[.int .i64 n] w fun e w' => e = .returned (.int .u64 (u (msk n))) ∧ w' = w :=
  (mask_any n w h0).mono fun _ _ ⟨he, hw⟩ => ⟨he, hw.symm⟩

end
section
open Go.RowKit

section
variable {P : Program} {ops : Array Oper} {Q : Exit → Act → World → Prop} {md : Region.Mode} {S : World → Prop}
end
end
end Go.Proofs.YtbhnjaajkolklaaGreat
