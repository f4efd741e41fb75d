/- Descriptors, plainly: which may be, their words, and what a word is. Rows of fields of the call's own: made, appended to, read. -/
import Derived.Test.YtbhnjaajkolklaaGreatLy
import Derived.Laws.AppendOwn
import Derived.Laws.AppendOwnNone
import Derived.Laws.OwnMore
import Derived.Deep.AppendLies
set_option linter.all false
namespace Go.Proofs.YtbhnjaajkolklaaGreat
section
open Go.ChangeShapes Go.WideShapes Go.ChangeAt Go.RowKit Go.Deep

/-- A descriptor. -/
structure Dsc where
  k : Int
  f : Int
  r : Bool
  w : Bool
  x : Bool
  a : Bool
  n : Bool
  s : Int
  o : Int
deriving DecidableEq

def dz : Dsc := ⟨0, 0, false, false, false, false, false, 0, 0⟩
def eqD (a b : Dsc) : Bool := decide (a = b)
theorem eqD_self (a : Dsc) : eqD a a = true := by simp [eqD]
theorem eqD_iff {a b : Dsc} : eqD a b = true ↔ a = b := by simp [eqD]
def numB (n m : Int) : Bool := decide (0 ≤ n ∧ n ≤ m)
def placeB (st lv : Int) : Bool := decide ((st = 1 ∨ st = 2) ∧ 0 ≤ lv ∧ lv ≤ 3)
theorem numB_iff {n m : Int} : numB n m = true ↔ 0 ≤ n ∧ n ≤ m := by simp [numB]
theorem numB_no {n m : Int} : numB n m = false ↔ ¬ (0 ≤ n ∧ n ≤ m) := by simp [numB]
theorem placeB_iff {st lv : Int} : placeB st lv = true ↔ (st = 1 ∨ st = 2) ∧ 0 ≤ lv ∧ lv ≤ 3 := by simp [placeB]
theorem placeB_no {st lv : Int} : placeB st lv = false ↔ ¬ ((st = 1 ∨ st = 2) ∧ 0 ≤ lv ∧ lv ≤ 3) := by simp [placeB]

def cov (lv : Int) : Int := if lv = 0 then 512 else if lv = 1 then 64 else if lv = 2 then 8 else 1
theorem cov_pos (lv : Int) : 1 ≤ cov lv ∧ cov lv ≤ 512 := by unfold cov; split <;> (try split) <;> (try split) <;> omega

/-- May it be, of a stage and a level that are such? -/
def noneD (st : Int) (d : Dsc) : Bool := eqD d ⟨0, 0, false, false, false, false, false, 0, d.o⟩ && (decide (d.o = 0) || (decide (st = 2) && numB d.o 15))
def tableD (lv : Int) (d : Dsc) : Bool := eqD d ⟨1, d.f, false, false, false, false, false, 0, 0⟩ && (decide (lv ≠ 3) && numB d.f 4095)
def attrD (st : Int) (d : Dsc) : Bool := if st = 1 then d.r && decide (d.s = 0) else !d.n && numB d.s 15
def leafD (st lv : Int) (d : Dsc) : Bool := decide (lv ≠ 0) && (decide (d.o = 0) && (numB d.f 4095 && (decide (d.f.tmod (cov lv) = 0) && attrD st d)))
def mayD (st lv : Int) (d : Dsc) : Bool := if d.k = 0 then noneD st d else if d.k = 1 then tableD lv d else if d.k = 2 then leafD st lv d else false
def mayE (st lv : Int) (d : Dsc) : Bool := placeB st lv && mayD st lv d

def bitFl (at' : Int) (b : Bool) : Fld := ⟨at', 1, if b then 1#64 else 0#64⟩
def numFl (at' n v : Int) : Fld := ⟨at', n, BitVec.ofInt 64 v⟩
def headL (lv : Int) (d : Dsc) : List Fld := [bitFl 0 true, bitFl 1 (!decide (d.k = 2) || decide (lv = 3)), numFl 12 12 d.f]
def baseL (d : Dsc) : List Fld := [bitFl 10 d.a, bitFl 54 (!d.x)]
def oneL (d : Dsc) : List Fld := [bitFl 7 (!d.w), bitFl 11 d.n]
def twoL (d : Dsc) : List Fld := [bitFl 6 d.r, bitFl 7 d.w, numFl 55 4 d.s]
def attrL (st : Int) (d : Dsc) : List Fld := if st = 1 then baseL d ++ oneL d else baseL d ++ twoL d
def fieldsL (st lv : Int) (d : Dsc) : List Fld := if d.k = 0 then [numFl 4 4 d.o] else if d.k = 2 then headL lv d ++ attrL st d else headL lv d
def nth (L : List Fld) (j : Nat) : Fld := L.getD j default
def joinL (L : List Fld) : BitVec 64 × BitVec 64 × Int := layR (nth L) L.length
def wordD (st lv : Int) (d : Dsc) : BitVec 64 := (joinL (fieldsL st lv d)).2.1

def getN (v : BitVec 64) (a n : Int) : Int := u (v >>> a.toNat &&& msk n)
def flagW (v : BitVec 64) (a : Int) : Bool := decide (getN v a 1 = 1)
def kindD (lv : Int) (v : BitVec 64) : Int := if flagW v 0 = false then 0 else if flagW v 1 = true ∧ lv ≠ 3 then 1 else 2
def readD (st lv : Int) (v : BitVec 64) : Dsc :=
  if kindD lv v = 0 then ⟨0, 0, false, false, false, false, false, 0, getN v 4 4⟩
  else if kindD lv v = 1 then ⟨1, getN v 12 12, false, false, false, false, false, 0, 0⟩
  else if st = 1 then ⟨2, getN v 12 12, true, !flagW v 7, !flagW v 54, flagW v 10, flagW v 11, 0, 0⟩
  else ⟨2, getN v 12 12, flagW v 6, flagW v 7, !flagW v 54, flagW v 10, false, getN v 55 4, 0⟩
def ofD (st lv : Int) (v : BitVec 64) : Dsc := if mayD st lv (readD st lv v) = true ∧ wordD st lv (readD st lv v) = v then readD st lv v else dz

/-! What was joined is got. -/
theorem nth_get {L : List Fld} {j : Nat} {x : Fld} (h : L[j]? = some x) : nth L j = x := by
  unfold nth; rw [List.getD_eq_getElem?_getD, h]; rfl

theorem u_int {v : Int} (h0 : 0 ≤ v) (h1 : v < 9223372036854775808) : u (BitVec.ofInt 64 v) = v := by
  unfold u
  rw [BitVec.toNat_ofInt]
  have : v % ((2 ^ 64 : Nat) : Int) = v := Int.emod_eq_of_lt h0 (by omega)
  rw [this]; omega
theorem u_conv (v : Int) : IntKind.u64.wrap v = u (BitVec.ofInt 64 v) := by
  unfold u
  rw [BitVec.toNat_ofInt, IntKind.wrap_u64]
  have := Int.emod_nonneg v (show (18446744073709551616 : Int) ≠ 0 from by decide)
  show v % 18446744073709551616 = ((v % 18446744073709551616).toNat : Int)
  omega
theorem ok_num (p n v : Int) (h0 : 0 ≤ p) (hn : 1 ≤ n) (h1 : p + n ≤ 64) (h2 : 0 ≤ v) (h3 : v < 4096) (h4 : v ≤ u (msk n)) : okF (numFl p n v) = true := by
  unfold okF numFl okB
  simp only [Bool.and_eq_true, decide_eq_true_eq]
  refine ⟨by omega, ?_⟩
  rw [u_int h2 (by omega)]; exact h4
/-- What a word is read as may be, and has that word, if it is not the empty one. -/
theorem of_cases (st lv : Int) (v : BitVec 64) : ofD st lv v = dz ∨ (mayD st lv (ofD st lv v) = true ∧ wordD st lv (ofD st lv v) = v) := by
  unfold ofD
  split
  · rename_i h; exact .inr h
  · exact .inl rfl
end
section
open Go.ChangeShapes Go.WideShapes Go.ChangeAt Go.RowKit Go.Deep

def cellsL : List Fld → List Value
  | [] => []
  | x :: L => .int .i64 x.a :: .int .i64 x.n :: .int .u64 (u x.v) :: cellsL L
theorem cellsL_length (L : List Fld) : (cellsL L).length = L.length * 3 := by
  induction L with
  | nil => rfl
  | cons x L ih => simp only [cellsL, List.length_cons, ih]; omega
/-- A row of fields of the call's own. -/
def OwnL (w : World) (base : Nat) (v : Value) (L : List Fld) : Prop := w.ownsRow base 110 3 v L.length (cellsL L)

theorem OwnL.lt {w : World} {base g n c : Nat} {L : List Fld} (h : OwnL w base (.slice (some ⟨g, 0, none⟩) n c) L) : base ≤ g ∧ g < w.heap.size := World.ownsRow.lt h g rfl
theorem OwnL.blk {w : World} {base : Nat} {v : Value} {L : List Fld} (h : OwnL w base v L) : ∀ k, v.ownBlock = some k → base ≤ k := fun k hk => (World.ownsRow.lt h k hk).1
theorem OwnL.below {w w' : World} {base : Nat} {v : Value} {L : List Fld} (h : OwnL w base v L) (hb : Below w.heap.size w w') : OwnL w' base v L := by
  obtain ⟨h0, h1⟩ := h
  refine ⟨h0, ?_⟩
  rcases h1 with h1 | ⟨g, cap, cur, e, hg, hh, h2⟩
  · exact .inl h1
  · exact .inr ⟨g, cap, cur, e, hg, (hb.block g (Array.getElem?_eq_some_iff.1 hh).1).trans hh, h2⟩
theorem OwnL.made (w : World) (base n : Nat) (L : List Fld) (cs : Array Value) (hb : base ≤ w.heap.size) (hn : L.length = n) (hl : n ≤ 100) (hc : cs.toList = cellsL L) : OwnL (w.alloc (.cells cs 110)) base (.slice (some ⟨w.heap.size, 0, none⟩) n n) L := by
  have hsz : cs.size = n * 3 := by rw [← Array.length_toList, hc, cellsL_length, hn]
  refine ⟨cellsL_length L, .inr ⟨w.heap.size, n, cs, by rw [hn], hb, ?_, by omega, by unfold maxLen; omega, hsz, ?_⟩⟩
  · exact heap_alloc_new w _
  · rw [hc, List.take_of_length_le (by rw [cellsL_length]; omega)]

def SmallL (L : List Fld) : Prop := ∀ x ∈ L, -100 ≤ x.a ∧ x.a ≤ 100 ∧ -100 ≤ x.n ∧ x.n ≤ 100
end
end Go.Proofs.YtbhnjaajkolklaaGreat
