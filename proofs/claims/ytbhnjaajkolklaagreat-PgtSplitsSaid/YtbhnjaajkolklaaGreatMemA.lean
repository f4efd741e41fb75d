/- Blocks of cells; small lemmas that several layers use. The reference's small functions that several layers use: Num, Page, bit, set, Get. Small contracts that later stages use too: a number within a bound; cells that stay. Contracts of the small functions of package mem and of its reference. -/
import Derived.Test.YtbhnjaajkolklaaGreatOwnL
import Derived.Laws.StructEq
import Derived.IntWalk
import Derived.Deep.CutBlock
import Derived.ProofKit
import Derived.OpenShut
set_option linter.all false
namespace Go.Proofs.YtbhnjaajkolklaaGreat
section
open Go.ChangeShapes Go.WideShapes Go.ChangeAt Go.RowKit Go.Deep

/-- A block of cells. -/
structure BoxAt (w : World) (b : Nat) (cs : Array Value) (t : TypeId) : Prop where
  h : w.heap[b]? = some (.cells cs t)
theorem BoxAt.lt {w : World} {b : Nat} {cs : Array Value} {t : TypeId} (h : BoxAt w b cs t) : b < w.heap.size := (Array.getElem?_eq_some_iff.1 h.h).1
theorem BoxAt.below {w w' : World} {b : Nat} {cs : Array Value} {t : TypeId} (h : BoxAt w b cs t) (hb : Below w.heap.size w w') : BoxAt w' b cs t := ⟨(hb.block b h.lt).trans h.h⟩
theorem BoxAt.alloc {w : World} {b : Nat} {cs : Array Value} {t : TypeId} (h : BoxAt w b cs t) (o : Obj) : BoxAt (w.alloc o) b cs t := ⟨(Below.heap_alloc w o b h.lt).trans h.h⟩
theorem BoxAt.drew {w : World} {b : Nat} {cs : Array Value} {t : TypeId} (h : BoxAt w b cs t) : BoxAt w.drew b cs t := ⟨h.h⟩
theorem BoxAt.new (w : World) (cs : Array Value) (t : TypeId) : BoxAt (w.alloc (.cells cs t)) w.heap.size cs t := ⟨heap_alloc_new w _⟩
theorem BoxAt.cell {w : World} {b : Nat} {cs : Array Value} {t : TypeId} (h : BoxAt w b cs t) (i : Nat) : w.cell? ⟨b, i, none⟩ = cs[i]? := by
  unfold World.cell?
  rw [h.h]
  rfl
theorem BoxAt.free {w : World} {b : Nat} {cs : Array Value} {t : TypeId} (h : BoxAt w b cs t) (i : Nat) : w.frozen? ⟨b, i, none⟩ = false := by
  unfold World.frozen?
  rw [h.h]
  simp
theorem BoxAt.get {w : World} {b : Nat} {cs : Array Value} {t : TypeId} (h : BoxAt w b cs t) (i : Nat) (v : Value) (hv : cs[i]? = some v) : w.cell? ⟨b, i, none⟩ = some v := (h.cell i).trans hv
theorem BoxAt.set {w : World} {b : Nat} {cs : Array Value} {t : TypeId} (h : BoxAt w b cs t) (i : Nat) (v : Value) (cs' : Array Value) (hc : cs.setIfInBounds i v = cs') : BoxAt (w.setCell ⟨b, i, none⟩ v) b cs' t := by
  refine ⟨?_⟩
  unfold World.setCell
  simp only [Array.getElem?_modify, h.h, Option.map_some, if_true]
  simp [hc]
theorem BoxAt.other {w : World} {b : Nat} {cs : Array Value} {t : TypeId} (h : BoxAt w b cs t) (p : Addr) (v : Value) (hne : b ≠ p.block) : BoxAt (w.setCell p v) b cs t :=
  ⟨(Below.heap_setCell w p v b hne).trans h.h⟩
theorem same {f : Nat} {l : Array Value} {w : World} {v : Ending} (h : Calls Tryz.prog f l w fun e w' => e = v ∧ w = w') : Calls Tryz.prog f l w fun e w' => e = v ∧ w' = w :=
  h.mono fun _ _ h => ⟨h.1, h.2.symm⟩
theorem beq_int (m j : Int) : (m == j) = decide (m = j) := by rw [Bool.eq_iff_iff]; simp
theorem small_bit (p : Int) (b : Bool) (h0 : -100 ≤ p) (h1 : p ≤ 100) : -100 ≤ (bitFl p b).a ∧ (bitFl p b).a ≤ 100 ∧ -100 ≤ (bitFl p b).n ∧ (bitFl p b).n ≤ 100 :=
  ⟨h0, h1, show (-100 : Int) ≤ 1 from by decide, show (1 : Int) ≤ 100 from by decide⟩
theorem small_num (p m v : Int) (h0 : -100 ≤ p) (h1 : p ≤ 100) (h2 : -100 ≤ m) (h3 : m ≤ 100) : -100 ≤ (numFl p m v).a ∧ (numFl p m v).a ≤ 100 ∧ -100 ≤ (numFl p m v).n ∧ (numFl p m v).n ≤ 100 :=
  ⟨h0, h1, h2, h3⟩
theorem getN_bd (v : BitVec 64) (p m : Int) (h0 : 0 ≤ m) (h1 : m ≤ 12) : 0 ≤ getN v p m ∧ getN v p m ≤ 4095 := by
  refine ⟨u_lo _, ?_⟩
  unfold getN u
  rw [BitVec.toNat_and, msk_nat m h0 (by omega)]
  have h2 : (v >>> p.toNat).toNat &&& (2 ^ m.toNat - 1) ≤ 2 ^ m.toNat - 1 := Nat.and_le_right
  have h3 : 2 ^ m.toNat ≤ 2 ^ 12 := Nat.pow_le_pow_right (by omega) (by omega)
  have h4 : (2 : Nat) ^ 12 = 4096 := by decide
  omega
section
variable {H : Type} {enc : TypeId × Value → H} {w : World} {base : Nat} {held : Bool}
theorem part_of {t : TypeId} {fs : Array Field} {n : Nat} {cs : List Value} {y : DataW H × List MemPlace} (he : Tryz.prog.underlying t = some (.struct fs)) (h : DataW.trod enc Tryz.prog w base (fun _ => true) held n t cs = some y) (j off c : Nat) (ty : TypeId) (hf : ∃ f, fs[j]? = some f ∧ f.type = ty ∧ f.offset = off) (hc : Tryz.prog.cellsOf ty = c) :
    ∃ (z : DataW H × List MemPlace) (m : Nat), DataW.trod enc Tryz.prog w base (fun _ => true) held m ty ((cs.drop off).take c) = some z := by
  obtain ⟨f, hj, rfl, rfl⟩ := hf
  subst hc
  obtain ⟨xs, m, _, _, _, hl, hf⟩ := DataW.trod_struct he h
  have hjl : j < fs.size := (Array.getElem?_eq_some_iff.1 hj).1
  exact ⟨_, m, (hf j f hj).trans (List.getElem?_eq_getElem (by omega))⟩
theorem int_cells {n : Nat} {cs : List Value} {y : DataW H × List MemPlace} (h : DataW.trod enc Tryz.prog w base (fun _ => true) held n 3 cs = some y) :
    ∃ a : Int, cs = [.int .i64 a] ∧ a ≤ 9223372036854775807 ∧ -9223372036854775808 ≤ a := by
  obtain ⟨a, hc, _, hw⟩ := DataW.trod_int Tryz.underlying3 h
  exact ⟨a, hc, i64_bounds hw⟩
theorem word_cells {n : Nat} {cs : List Value} {y : DataW H × List MemPlace} (h : DataW.trod enc Tryz.prog w base (fun _ => true) held n 75 cs = some y) :
    ∃ x : BitVec 64, cs = [.int .u64 (u x)] := by
  obtain ⟨a, hc, _, hw⟩ := DataW.trod_int Tryz.underlying75 h
  obtain ⟨x, rfl⟩ := u64_word hw
  exact ⟨x, hc⟩
theorem bool_cells {n : Nat} {cs : List Value} {y : DataW H × List MemPlace} (h : DataW.trod enc Tryz.prog w base (fun _ => true) held n 4 cs = some y) :
    ∃ b : Bool, cs = [.bool b] := by
  obtain ⟨b, hc, _⟩ := DataW.trod_bool Tryz.underlying4 h
  exact ⟨b, hc⟩
theorem c_int : Tryz.prog.cellsOf 3 = 1 := by kernel_rfl
theorem c_bool : Tryz.prog.cellsOf 4 = 1 := by kernel_rfl
end
end
section
open Go.ChangeShapes Go.WideShapes Go.ChangeAt Go.RowKit Go.Deep

theorem bit_any (p : Int) (b : Bool) (w : World) :
    Calls Tryz.prog 62 #[.int .i64 p, .bool b] w fun e w' => e = .returned (.agg #[.int .i64 p, .int .i64 1, .int .u64 (u (bitFl p b).v)]) ∧ Below w.heap.size w w' := by
  have h1 : u (bitFl p true).v = 1 := by show u 1#64 = 1; decide
  have h0 : u (bitFl p false).v = 0 := by show u 0#64 = 0; decide
  cases b
  · rw [h0]
    clear h1 h0
    go_enter Tryz.func62, Tryz.ntmps62
    go_wp2
    go_returns
    exact ⟨rfl, by go_grown⟩
  · rw [h1]
    clear h1 h0
    go_enter Tryz.func62, Tryz.ntmps62
    go_wp2
    go_returns
    exact ⟨rfl, by go_grown⟩
theorem set_any (v : BitVec 64) (p : Int) (w : World) (h0 : 0 ≤ p) (h1 : p ≤ 63) :
    Calls Tryz.prog 79 #[.int .u64 (u v), .int .i64 p] w fun e w' => e = .returned (.bool (flagW v p)) ∧ w = w' := by
  have hf : flagW v p = (u (v >>> p.toNat &&& 1#64) == 1) := (beq_int _ _).symm
  have hb : bits .and .u64 (u (v >>> p.toNat)) 1 = u (v >>> p.toNat &&& 1#64) := by rw [show (1 : Int) = u 1#64 from by decide, u_and]
  rw [hf]
  clear hf
  go_enter Tryz.func79, Tryz.ntmps79
  go_wp2
  go_ret
  exact ⟨rfl, rfl⟩
theorem rnumber_any (v : BitVec 64) (p m : Int) (w : World) (h0 : 0 ≤ p) (h2 : p ≤ 64) (h1 : 0 ≤ m) :
    Calls Tryz.prog 80 #[.int .u64 (u v), .int .i64 p, .int .i64 m] w fun e w' => e = .returned (.int .u64 (getN v p m)) ∧ Below w.heap.size w w' := by
  refine (rget_any v p m w h0 h2 h1).mono fun e w' h => ?_
  obtain ⟨he, j, hj⟩ := h
  exact ⟨he, by rw [hj]; exact below_drewN (Below.refl _ _) j⟩
theorem num_any (p m : Int) (w : World) :
    Calls Tryz.prog 21 #[.int .i64 p, .int .i64 m] w fun e w' => e = .returned (.bool (numB p m)) ∧ w = w' := by
  go_enter Tryz.func21, Tryz.ntmps21
  go_wp2
  all_goals
    go_ret
    refine ⟨ret_bool ?_, rfl⟩
    unfold numB
    rw [Bool.eq_iff_iff]
    simp
    omega
theorem page_any (p : Int) (w : World) :
    Calls Tryz.prog 11 #[.int .i64 p] w fun e w' => e = .returned (.bool (numB p 4095)) ∧ w = w' := by
  go_enter Tryz.func11, Tryz.ntmps11
  go_wp2_with (go_at_call 21; refine (num_any _ _ _).mono ?_; rintro e w' ⟨rfl, rfl⟩)
  go_ret
  exact ⟨rfl, rfl⟩
end
section
open Go.ChangeShapes Go.WideShapes Go.ChangeAt Go.RowKit

theorem keepc {w w' : World} (hb : Below w.heap.size w w') {b o : Nat} {x : Value} (hc : w.cell? ⟨b, o, none⟩ = some x) : w'.cell? ⟨b, o, none⟩ = some x :=
  (hb.cell (p := ⟨b, o, none⟩) (cell_block hc)).trans hc

end
section
open Go.ChangeShapes Go.WideShapes Go.ChangeAt Go.RowKit

/-- May a memory of so many words be? -/
def okM (l : Nat) : Bool := decide (8 ≤ l ∧ l ≤ 512 ∧ l % 8 = 0)
theorem okM_true {l : Nat} (h : okM l = true) : 8 ≤ l ∧ l ≤ 512 ∧ l % 8 = 0 := of_decide_eq_true h
/-- May a size be? -/
def okS (s : Int) : Bool := decide (s = 1 ∨ s = 2 ∨ s = 4 ∨ s = 8)
theorem okS_true {s : Int} (h : okS s = true) : s = 1 ∨ s = 2 ∨ s = 4 ∨ s = 8 := of_decide_eq_true h
/-- The error of a place. -/
def mayM (l : Nat) (a s : Int) : Int := if okS s = false then 1 else if a < 0 ∨ 8 * (l : Int) ≤ a then 2 else if a % s ≠ 0 then 8 else 0

theorem rnum_any (n m : Int) (w : World) :
    Calls Tryz.prog 21 #[.int .i64 n, .int .i64 m] w fun e w' => e = .returned (.bool (decide (0 ≤ n ∧ n ≤ m))) ∧ w' = w := by
  go_enter Tryz.func21, Tryz.ntmps21
  go_wp2
  all_goals
    go_ret
    refine ⟨ret_bool ?_, rfl⟩
    rw [Bool.eq_iff_iff]
    simp
    omega

theorem rmem_any (f : Option Addr) (l c : Nat) (w : World) :
    Calls Tryz.prog 10 #[.agg #[.slice f l c]] w fun e w' => e = .returned (.bool (okM l)) ∧ w' = w.alloc (.cells #[.slice f l c] 24) := by
  go_enter Tryz.func10, Tryz.ntmps10
  go_wp2
  all_goals
    go_ret
    refine ⟨ret_bool ?_, rfl⟩
    unfold okM
    rw [Bool.eq_iff_iff]
    simp
    omega

theorem bmay_any (f : Option Addr) (l c : Nat) (w : World) :
    Calls Tryz.prog 109 #[.agg #[.slice f l c]] w fun e w' => e = .returned (.bool (okM l)) ∧ w' = w.alloc (.cells #[.slice f l c] 140) := by
  go_enter Tryz.func109, Tryz.ntmps109
  go_wp2
  all_goals
    go_ret
    refine ⟨ret_bool ?_, rfl⟩
    unfold okM
    rw [Bool.eq_iff_iff]
    simp
    omega

theorem rframes_any (f : Option Addr) (l c : Nat) (w : World) (hl : l ≤ 1000000000000000) :
    Calls Tryz.prog 60 #[.agg #[.slice f l c]] w fun e w' => e = .returned (.int .i64 ((l : Int) / 8)) ∧ w' = w.alloc (.cells #[.slice f l c] 24) := by
  go_enter Tryz.func60, Tryz.ntmps60
  go_wp2
  go_ret
  exact ⟨rfl, rfl⟩

theorem bframes_any (f : Option Addr) (l c : Nat) (w : World) (hl : l ≤ 1000000000000000) :
    Calls Tryz.prog 108 #[.agg #[.slice f l c]] w fun e w' => e = .returned (.int .i64 ((l : Int) / 8)) ∧ w' = w.alloc (.cells #[.slice f l c] 140) := by
  go_enter Tryz.func108, Tryz.ntmps108
  go_wp2
  go_ret
  exact ⟨rfl, rfl⟩

theorem bbytes_any (f : Option Addr) (l c : Nat) (w : World) (hl : l ≤ 1000000000) :
    Calls Tryz.prog 128 #[.agg #[.slice f l c]] w fun e w' => e = .returned (.int .i64 ((l : Int) * 8)) ∧ w' = w.alloc (.cells #[.slice f l c] 140) := by
  go_enter Tryz.func128, Tryz.ntmps128
  go_wp2
  go_ret
  exact ⟨rfl, rfl⟩

theorem pmay_any (a s : Int) (w : World) :
    Calls Tryz.prog 127 #[.agg #[.int .i64 a, .int .i64 s]] w fun e w' => e = .returned (.bool (okS s)) ∧ w' = w.alloc (.cells #[.int .i64 a, .int .i64 s] 165) := by
  by_cases hs : okS s = true
  · rcases okS_true hs with rfl | rfl | rfl | rfl
    all_goals
      go_enter Tryz.func127, Tryz.ntmps127
      go_wp2
      go_ret
      exact ⟨rfl, rfl⟩
  · have hn : s ≠ 1 ∧ s ≠ 2 ∧ s ≠ 4 ∧ s ≠ 8 := by
      unfold okS at hs; simp at hs; omega
    obtain ⟨n1, n2, n3, n4⟩ := hn
    have e : okS s = false := by simpa using hs
    rw [e]
    clear e hs
    go_enter Tryz.func127, Tryz.ntmps127
    go_wp2
    go_ret
    refine ⟨ret_bool ?_, rfl⟩
    simp [n1, n2, n3, n4]

theorem pword_any (a s : Int) (w : World) (h0 : 0 ≤ a) (h1 : a ≤ 1000000000000) :
    Calls Tryz.prog 129 #[.agg #[.int .i64 a, .int .i64 s]] w fun e w' => e = .returned (.int .i64 (a / 8)) ∧ w' = w.alloc (.cells #[.int .i64 a, .int .i64 s] 165) := by
  go_enter Tryz.func129, Tryz.ntmps129
  go_wp2
  go_ret
  exact ⟨rfl, rfl⟩

theorem plow_any (a s : Int) (w : World) (h0 : 0 ≤ a) (h1 : a ≤ 1000000000000) :
    Calls Tryz.prog 131 #[.agg #[.int .i64 a, .int .i64 s]] w fun e w' => e = .returned (.int .i64 (a % 8 * 8)) ∧ w' = w.alloc (.cells #[.int .i64 a, .int .i64 s] 165) := by
  go_enter Tryz.func131, Tryz.ntmps131
  go_wp2
  go_ret
  exact ⟨rfl, rfl⟩

theorem pones_any (a s : Int) (w : World) (h0 : 1 ≤ s) (h1 : s ≤ 8) :
    Calls Tryz.prog 130 #[.agg #[.int .i64 a, .int .i64 s]] w fun e w' => e = .returned (.int .u64 (u (msk (8 * s)))) ∧ w' = w.alloc (.cells #[.int .i64 a, .int .i64 s] 165) := by
  go_enter Tryz.func130, Tryz.ntmps130
  go_wp2
  go_ret
  refine ⟨ret_int ?_, rfl⟩
  rw [← msk_ones]
  congr 2
  omega

end
end Go.Proofs.YtbhnjaajkolklaaGreat
