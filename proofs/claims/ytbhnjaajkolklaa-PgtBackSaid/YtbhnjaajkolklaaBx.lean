/- Blocks of cells; small lemmas that several layers use. -/
import Derived.Test.YtbhnjaajkolklaaOwnL
import Derived.Laws.StructEq
import Derived.IntWalk
import Derived.Deep.CutBlock
set_option linter.all false
namespace Go.Proofs.Ytbhnjaajkolklaa
open Go.ChangeShapes Go.WideShapes Go.ChangeAt Go.RowKit Go.Deep

/-- A block of cells. -/
structure BoxAt (w : World) (b : Nat) (cs : Array Value) (t : TypeId) : Prop where
  h : w.heap[b]? = some (.cells cs t)
theorem BoxAt.lt {w : World} {b : Nat} {cs : Array Value} {t : TypeId} (h : BoxAt w b cs t) : b < w.heap.size := (Array.getElem?_eq_some_iff.1 h.h).1
theorem BoxAt.below {w w' : World} {b : Nat} {cs : Array Value} {t : TypeId} (h : BoxAt w b cs t) (hb : Below w.heap.size w w') : BoxAt w' b cs t := ⟨(hb.block b h.lt).trans h.h⟩
theorem BoxAt.alloc {w : World} {b : Nat} {cs : Array Value} {t : TypeId} (h : BoxAt w b cs t) (o : Obj) : BoxAt (w.alloc o) b cs t := ⟨(Below.heap_alloc w o b h.lt).trans h.h⟩
theorem BoxAt.drew {w : World} {b : Nat} {cs : Array Value} {t : TypeId} (h : BoxAt w b cs t) : BoxAt w.drew b cs t := ⟨h.h⟩
theorem BoxAt.new (w : World) (cs : Array Value) (t : TypeId) : BoxAt (w.alloc (.cells cs t)) w.heap.size cs t := ⟨heap_alloc_new w _⟩
theorem BoxAt.cell {w : World} {b : Nat} {cs : Array Value} {t : TypeId} (h : BoxAt w b cs t) (i : Nat) : w.cell? ⟨b, i, none⟩ = cs[i]? := by
  unfold World.cell?
  rw [h.h]
  rfl
theorem BoxAt.free {w : World} {b : Nat} {cs : Array Value} {t : TypeId} (h : BoxAt w b cs t) (i : Nat) : w.frozen? ⟨b, i, none⟩ = false := by
  unfold World.frozen?
  rw [h.h]
  simp
theorem BoxAt.get {w : World} {b : Nat} {cs : Array Value} {t : TypeId} (h : BoxAt w b cs t) (i : Nat) (v : Value) (hv : cs[i]? = some v) : w.cell? ⟨b, i, none⟩ = some v := (h.cell i).trans hv
theorem BoxAt.set {w : World} {b : Nat} {cs : Array Value} {t : TypeId} (h : BoxAt w b cs t) (i : Nat) (v : Value) (cs' : Array Value) (hc : cs.setIfInBounds i v = cs') : BoxAt (w.setCell ⟨b, i, none⟩ v) b cs' t := by
  refine ⟨?_⟩
  unfold World.setCell
  simp only [Array.getElem?_modify, h.h, Option.map_some, if_true]
  simp [hc]
theorem BoxAt.other {w : World} {b : Nat} {cs : Array Value} {t : TypeId} (h : BoxAt w b cs t) (p : Addr) (v : Value) (hne : b ≠ p.block) : BoxAt (w.setCell p v) b cs t :=
  ⟨(Below.heap_setCell w p v b hne).trans h.h⟩
theorem same {f : Nat} {l : Array Value} {w : World} {v : Ending} (h : Calls Try.prog f l w fun e w' => e = v ∧ w = w') : Calls Try.prog f l w fun e w' => e = v ∧ w' = w :=
  h.mono fun _ _ h => ⟨h.1, h.2.symm⟩
theorem beq_int (m j : Int) : (m == j) = decide (m = j) := by rw [Bool.eq_iff_iff]; simp
theorem small_bit (p : Int) (b : Bool) (h0 : -100 ≤ p) (h1 : p ≤ 100) : -100 ≤ (bitFl p b).a ∧ (bitFl p b).a ≤ 100 ∧ -100 ≤ (bitFl p b).n ∧ (bitFl p b).n ≤ 100 :=
  ⟨h0, h1, show (-100 : Int) ≤ 1 from by decide, show (1 : Int) ≤ 100 from by decide⟩
theorem small_num (p m v : Int) (h0 : -100 ≤ p) (h1 : p ≤ 100) (h2 : -100 ≤ m) (h3 : m ≤ 100) : -100 ≤ (numFl p m v).a ∧ (numFl p m v).a ≤ 100 ∧ -100 ≤ (numFl p m v).n ∧ (numFl p m v).n ≤ 100 :=
  ⟨h0, h1, h2, h3⟩
theorem getN_bd (v : BitVec 64) (p m : Int) (h0 : 0 ≤ m) (h1 : m ≤ 12) : 0 ≤ getN v p m ∧ getN v p m ≤ 4095 := by
  refine ⟨u_lo _, ?_⟩
  unfold getN u
  rw [BitVec.toNat_and, msk_nat m h0 (by omega)]
  have h2 : (v >>> p.toNat).toNat &&& (2 ^ m.toNat - 1) ≤ 2 ^ m.toNat - 1 := Nat.and_le_right
  have h3 : 2 ^ m.toNat ≤ 2 ^ 12 := Nat.pow_le_pow_right (by omega) (by omega)
  have h4 : (2 : Nat) ^ 12 = 4096 := by decide
  omega
section
variable {H : Type} {enc : TypeId × Value → H} {w : World} {base : Nat} {held : Bool}
theorem part_of {t : TypeId} {fs : Array Field} {n : Nat} {cs : List Value} {y : DataW H × List MemPlace} (he : Try.prog.underlying t = some (.struct fs)) (h : DataW.trod enc Try.prog w base (fun _ => true) held n t cs = some y) (j off c : Nat) (ty : TypeId) (hf : ∃ f, fs[j]? = some f ∧ f.type = ty ∧ f.offset = off) (hc : Try.prog.cellsOf ty = c) :
    ∃ (z : DataW H × List MemPlace) (m : Nat), DataW.trod enc Try.prog w base (fun _ => true) held m ty ((cs.drop off).take c) = some z := by
  obtain ⟨f, hj, rfl, rfl⟩ := hf
  subst hc
  obtain ⟨xs, m, _, _, _, hl, hf⟩ := DataW.trod_struct he h
  have hjl : j < fs.size := (Array.getElem?_eq_some_iff.1 hj).1
  exact ⟨_, m, (hf j f hj).trans (List.getElem?_eq_getElem (by omega))⟩
theorem int_cells {n : Nat} {cs : List Value} {y : DataW H × List MemPlace} (h : DataW.trod enc Try.prog w base (fun _ => true) held n 3 cs = some y) :
    ∃ a : Int, cs = [.int .i64 a] ∧ a ≤ 9223372036854775807 ∧ -9223372036854775808 ≤ a := by
  obtain ⟨a, hc, _, hw⟩ := DataW.trod_int Try.underlying3 h
  exact ⟨a, hc, i64_bounds hw⟩
theorem word_cells {n : Nat} {cs : List Value} {y : DataW H × List MemPlace} (h : DataW.trod enc Try.prog w base (fun _ => true) held n 45 cs = some y) :
    ∃ x : BitVec 64, cs = [.int .u64 (u x)] := by
  obtain ⟨a, hc, _, hw⟩ := DataW.trod_int Try.underlying45 h
  obtain ⟨x, rfl⟩ := u64_word hw
  exact ⟨x, hc⟩
theorem bool_cells {n : Nat} {cs : List Value} {y : DataW H × List MemPlace} (h : DataW.trod enc Try.prog w base (fun _ => true) held n 4 cs = some y) :
    ∃ b : Bool, cs = [.bool b] := by
  obtain ⟨b, hc, _⟩ := DataW.trod_bool Try.underlying4 h
  exact ⟨b, hc⟩
theorem c_int : Try.prog.cellsOf 3 = 1 := by kernel_rfl
theorem c_bool : Try.prog.cellsOf 4 = 1 := by kernel_rfl
end
end Go.Proofs.Ytbhnjaajkolklaa
