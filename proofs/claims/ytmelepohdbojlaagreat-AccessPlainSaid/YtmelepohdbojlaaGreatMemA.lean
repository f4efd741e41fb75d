/- Descriptors, plainly: which may be, their words, and what a word is. Rows of fields of the call's own: made, appended to, read. Blocks of cells; small lemmas that several layers use. What a call leaves alone that writes one block of its caller's. Small contracts that later stages use too: a number within a bound; cells that stay. Contracts of the small functions of package mem and of its reference. -/
import Derived.Test.YtmelepohdbojlaaGreatRj
import Derived.Laws.AppendOwn
import Derived.Laws.AppendOwnNone
import Derived.Laws.OwnMore
import Derived.Deep.AppendLies
import Derived.Laws.StructEq
import Derived.IntWalk
import Derived.Deep.CutBlock
import Derived.ProofKit
import Derived.OpenShut
set_option linter.all false
namespace Go.Proofs.YtmelepohdbojlaaGreat
section
open Go.ChangeShapes Go.WideShapes Go.ChangeAt Go.RowKit Go.Deep
structure Dsc where
 k : Int
 f : Int
 r : Bool
 w : Bool
 x : Bool
 a : Bool
 n : Bool
 s : Int
 o : Int
deriving DecidableEq
def dz : Dsc := ⟨0, 0, false, false, false, false, false, 0, 0⟩
def eqD (a b : Dsc) : Bool := decide (a = b)
theorem eqD_iff {a b : Dsc} : eqD a b = true ↔ a = b := by simp [eqD]
def numB (n m : Int) : Bool := decide (0 ≤ n ∧ n ≤ m)
def placeB (st lv : Int) : Bool := decide ((st = 1 ∨ st = 2) ∧ 0 ≤ lv ∧ lv ≤ 3)
theorem numB_iff {n m : Int} : numB n m = true ↔ 0 ≤ n ∧ n ≤ m := by simp [numB]
theorem numB_no {n m : Int} : numB n m = false ↔ ¬ (0 ≤ n ∧ n ≤ m) := by simp [numB]
theorem placeB_iff {st lv : Int} : placeB st lv = true ↔ (st = 1 ∨ st = 2) ∧ 0 ≤ lv ∧ lv ≤ 3 := by simp [placeB]
theorem placeB_no {st lv : Int} : placeB st lv = false ↔ ¬ ((st = 1 ∨ st = 2) ∧ 0 ≤ lv ∧ lv ≤ 3) := by simp [placeB]
def cov (lv : Int) : Int := if lv = 0 then 512 else if lv = 1 then 64 else if lv = 2 then 8 else 1
theorem cov_pos (lv : Int) : 1 ≤ cov lv ∧ cov lv ≤ 512 := by unfold cov; split <;> (try split) <;> (try split) <;> omega
def noneD (st : Int) (d : Dsc) : Bool := eqD d ⟨0, 0, false, false, false, false, false, 0, d.o⟩ && (decide (d.o = 0) || (decide (st = 2) && numB d.o 15))
def tableD (lv : Int) (d : Dsc) : Bool := eqD d ⟨1, d.f, false, false, false, false, false, 0, 0⟩ && (decide (lv ≠ 3) && numB d.f 4095)
def attrD (st : Int) (d : Dsc) : Bool := if st = 1 then d.r && decide (d.s = 0) else !d.n && numB d.s 15
def leafD (st lv : Int) (d : Dsc) : Bool := decide (lv ≠ 0) && (decide (d.o = 0) && (numB d.f 4095 && (decide (d.f.tmod (cov lv) = 0) && attrD st d)))
def mayD (st lv : Int) (d : Dsc) : Bool := if d.k = 0 then noneD st d else if d.k = 1 then tableD lv d else if d.k = 2 then leafD st lv d else false
def mayE (st lv : Int) (d : Dsc) : Bool := placeB st lv && mayD st lv d
def bitFl (at' : Int) (b : Bool) : Fld := ⟨at', 1, if b then 1#64 else 0#64⟩
def numFl (at' n v : Int) : Fld := ⟨at', n, BitVec.ofInt 64 v⟩
def headL (lv : Int) (d : Dsc) : List Fld := [bitFl 0 true, bitFl 1 (!decide (d.k = 2) || decide (lv = 3)), numFl 12 12 d.f]
def baseL (d : Dsc) : List Fld := [bitFl 10 d.a, bitFl 54 (!d.x)]
def oneL (d : Dsc) : List Fld := [bitFl 7 (!d.w), bitFl 11 d.n]
def twoL (d : Dsc) : List Fld := [bitFl 6 d.r, bitFl 7 d.w, numFl 55 4 d.s]
def attrL (st : Int) (d : Dsc) : List Fld := if st = 1 then baseL d ++ oneL d else baseL d ++ twoL d
def fieldsL (st lv : Int) (d : Dsc) : List Fld := if d.k = 0 then [numFl 4 4 d.o] else if d.k = 2 then headL lv d ++ attrL st d else headL lv d
def nth (L : List Fld) (j : Nat) : Fld := L.getD j default
def joinL (L : List Fld) : BitVec 64 × BitVec 64 × Int := layR (nth L) L.length
def wordD (st lv : Int) (d : Dsc) : BitVec 64 := (joinL (fieldsL st lv d)).2.1
def getN (v : BitVec 64) (a n : Int) : Int := u (v >>> a.toNat &&& msk n)
def flagW (v : BitVec 64) (a : Int) : Bool := decide (getN v a 1 = 1)
def kindD (lv : Int) (v : BitVec 64) : Int := if flagW v 0 = false then 0 else if flagW v 1 = true ∧ lv ≠ 3 then 1 else 2
def readD (st lv : Int) (v : BitVec 64) : Dsc :=
 if kindD lv v = 0 then ⟨0, 0, false, false, false, false, false, 0, getN v 4 4⟩
 else if kindD lv v = 1 then ⟨1, getN v 12 12, false, false, false, false, false, 0, 0⟩
 else if st = 1 then ⟨2, getN v 12 12, true, !flagW v 7, !flagW v 54, flagW v 10, flagW v 11, 0, 0⟩
 else ⟨2, getN v 12 12, flagW v 6, flagW v 7, !flagW v 54, flagW v 10, false, getN v 55 4, 0⟩
def ofD (st lv : Int) (v : BitVec 64) : Dsc := if mayD st lv (readD st lv v) = true ∧ wordD st lv (readD st lv v) = v then readD st lv v else dz
theorem nth_get {L : List Fld} {j : Nat} {x : Fld} (h : L[j]? = some x) : nth L j = x := by
 unfold nth; rw [List.getD_eq_getElem?_getD, h]; rfl
theorem u_int {v : Int} (h0 : 0 ≤ v) (h1 : v < 9223372036854775808) : u (BitVec.ofInt 64 v) = v := by
 unfold u
 rw [BitVec.toNat_ofInt]
 have : v % ((2 ^ 64 : Nat) : Int) = v := Int.emod_eq_of_lt h0 (by omega)
 rw [this]; omega
theorem u_conv (v : Int) : IntKind.u64.wrap v = u (BitVec.ofInt 64 v) := by
 unfold u
 rw [BitVec.toNat_ofInt, IntKind.wrap_u64]
 have := Int.emod_nonneg v (show (18446744073709551616 : Int) ≠ 0 from by decide)
 show v % 18446744073709551616 = ((v % 18446744073709551616).toNat : Int)
 omega
theorem ok_num (p n v : Int) (h0 : 0 ≤ p) (hn : 1 ≤ n) (h1 : p + n ≤ 64) (h2 : 0 ≤ v) (h3 : v < 4096) (h4 : v ≤ u (msk n)) : okF (numFl p n v) = true := by
 unfold okF numFl okB
 simp only [Bool.and_eq_true, decide_eq_true_eq]
 refine ⟨by omega, ?_⟩
 rw [u_int h2 (by omega)]; exact h4
theorem of_cases (st lv : Int) (v : BitVec 64) : ofD st lv v = dz ∨ (mayD st lv (ofD st lv v) = true ∧ wordD st lv (ofD st lv v) = v) := by
 unfold ofD
 split
 ·rename_i h; exact .inr h
 ·exact .inl rfl
end
section
open Go.ChangeShapes Go.WideShapes Go.ChangeAt Go.RowKit Go.Deep
def cellsL : List Fld → List Value
 | [] => []
 | x :: L => .int .i64 x.a :: .int .i64 x.n :: .int .u64 (u x.v) :: cellsL L
theorem cellsL_append (L M : List Fld) : cellsL (L ++ M) = cellsL L ++ cellsL M := by
 induction L with
 | nil => rfl
 | cons x L ih => simp only [List.cons_append, cellsL, ih]
theorem cellsL_length (L : List Fld) : (cellsL L).length = L.length * 3 := by
 induction L with
 | nil => rfl
 | cons x L ih => simp only [cellsL, List.length_cons, ih]; omega
theorem cellsL_one (L : List Fld) : ∀ v ∈ cellsL L, v.oneCell' = true := by
 induction L with
 | nil => intro v hv; cases hv
 | cons x L ih =>
  intro v hv
  simp only [cellsL, List.mem_cons] at hv
  rcases hv with rfl | rfl | rfl | hv
  ·rfl
  ·rfl
  ·rfl
  ·exact ih v hv
theorem cellsL_get (L : List Fld) (j : Nat) (hj : j < L.length) : (cellsL L)[j * 3]? = some (.int .i64 (nth L j).a) ∧ (cellsL L)[j * 3 + 1]? = some (.int .i64 (nth L j).n) ∧ (cellsL L)[j * 3 + 2]? = some (.int .u64 (u (nth L j).v)) := by
 induction L generalizing j with
 | nil => cases hj
 | cons x L ih =>
  cases j with
  | zero => exact ⟨rfl, rfl, rfl⟩
  | succ j =>
   have := ih j (by simpa using hj)
   rw [show (j + 1) * 3 = j * 3 + 3 from by omega]
   exact this
theorem infoF : (Tryz.prog.info? 182).map (fun i => (i.zero, i.size, i.bytes)) = some (some (.agg #[.int .i64 0, .int .i64 0, .int .u64 0]), 3, 24) := by kernel_rfl
def OwnL (w : World) (base : Nat) (v : Value) (L : List Fld) : Prop := w.ownsRow base 182 3 v L.length (cellsL L)
theorem OwnL.lt {w : World} {base g n c : Nat} {L : List Fld} (h : OwnL w base (.slice (some ⟨g, 0, none⟩) n c) L) : base ≤ g ∧ g < w.heap.size := World.ownsRow.lt h g rfl
theorem OwnL.blk {w : World} {base : Nat} {v : Value} {L : List Fld} (h : OwnL w base v L) : ∀ k, v.ownBlock = some k → base ≤ k := fun k hk => (World.ownsRow.lt h k hk).1
theorem OwnL.below {w w' : World} {base : Nat} {v : Value} {L : List Fld} (h : OwnL w base v L) (hb : Below w.heap.size w w') : OwnL w' base v L := by
 obtain ⟨h0, h1⟩ := h
 refine ⟨h0, ?_⟩
 rcases h1 with h1 | ⟨g, cap, cur, e, hg, hh, h2⟩
 ·exact .inl h1
 ·exact .inr ⟨g, cap, cur, e, hg, (hb.block g (Array.getElem?_eq_some_iff.1 hh).1).trans hh, h2⟩
theorem OwnL.base {w : World} {b b' : Nat} {v : Value} {L : List Fld} (h : OwnL w b v L) (hb : b' ≤ b) : OwnL w b' v L := by
 obtain ⟨h0, h1⟩ := h
 refine ⟨h0, ?_⟩
 rcases h1 with h1 | ⟨g, cap, cur, e, hg, hh, h2⟩
 ·exact .inl h1
 ·exact .inr ⟨g, cap, cur, e, by omega, hh, h2⟩
theorem OwnL.made (w : World) (base n : Nat) (L : List Fld) (cs : Array Value) (hb : base ≤ w.heap.size) (hn : L.length = n) (hl : n ≤ 100) (hc : cs.toList = cellsL L) : OwnL (w.alloc (.cells cs 182)) base (.slice (some ⟨w.heap.size, 0, none⟩) n n) L := by
 have hsz : cs.size = n * 3 := by rw [← Array.length_toList, hc, cellsL_length, hn]
 refine ⟨cellsL_length L, .inr ⟨w.heap.size, n, cs, by rw [hn], hb, ?_, by omega, by unfold maxLen; omega, hsz, ?_⟩⟩
 ·exact heap_alloc_new w _
 ·rw [hc, List.take_of_length_le (by rw [cellsL_length]; omega)]
def SmallL (L : List Fld) : Prop := ∀ x ∈ L, -100 ≤ x.a ∧ x.a ≤ 100 ∧ -100 ≤ x.n ∧ x.n ≤ 100
theorem OwnL.flds {w : World} {base g c : Nat} {L : List Fld} (h : OwnL w base (.slice (some ⟨g, 0, none⟩) L.length c) L) (hs : SmallL L) : FldsAt w (some ⟨g, 0, none⟩) L.length (nth L) := by
 intro j hj
 obtain ⟨h1, h2, h3⟩ := cellsL_get L j hj
 have hm : nth L j ∈ L := by rw [nth_get (List.getElem?_eq_getElem hj)]; exact List.getElem_mem hj
 obtain ⟨b1, b2, b3, b4⟩ := hs _ hm
 have e : ∀ t, 0 + j * 3 + t = j * 3 + t := fun t => by omega
 refine ⟨g, 0, rfl, h.lt.2, ?_, ?_, ?_, by omega, by omega, by omega, by omega⟩
 ·rw [show 0 + j * 3 = j * 3 from by omega]; exact (World.ownsRow.cellAt h (j * 3) (by omega)).trans h1
 ·rw [e]; exact (World.ownsRow.cellAt h (j * 3 + 1) (by omega)).trans h2
 ·rw [e]; exact (World.ownsRow.cellAt h (j * 3 + 2) (by omega)).trans h3
theorem OwnL.news {w : World} {base g c : Nat} {L : List Fld} (h : OwnL w base (.slice (some ⟨g, 0, none⟩) L.length c) L) : ∀ j v, (cellsL L)[j]? = some v → w.cell? ((Addr.mk g 0 none).add j) = some v := by
 intro j v hv
 have hj : j < L.length * 3 := by
  have := (List.getElem?_eq_some_iff.1 hv).1
  rwa [cellsL_length] at this
 rw [add_none, Nat.zero_add]
 exact (World.ownsRow.cellAt h j (by omega)).trans hv
theorem step_appL {w : World} {ops : Array Oper} {o : Oper} {a : Act} {K : Act → World → Prop} {Q : Exit → Act → World → Prop} {E : Prop} (hgd : o.guard = none) (s x : Operand)
  (ho : o.op = .call { callee := .builtin .append, args := #[s, x], argTypes := #[184, 184] })
  (base g0 n0 c0 g1 n1 c1 : Nat) (L M : List Fld) (hs : a.eval s = .slice (some ⟨g0, 0, none⟩) n0 c0) (hx : a.eval x = .slice (some ⟨g1, 0, none⟩) n1 c1) (hn0 : L.length = n0) (hn1 : M.length = n1)
  (hL : OwnL w base (.slice (some ⟨g0, 0, none⟩) n0 c0) L) (hM : OwnL w base (.slice (some ⟨g1, 0, none⟩) n1 c1) M) (hm : 0 < n1) (hl : n0 + n1 ≤ 1000) (hbase : base ≤ w.heap.size)
  (h : ∀ g cap w', OwnL w' base (.slice (some ⟨g, 0, none⟩) (n0 + n1) cap) (L ++ M) → Below base w w' → (∀ b, b < w.heap.size → b ≠ g0 → w'.heap[b]? = w.heap[b]?) → K (a.put o.dst (.slice (some ⟨g, 0, none⟩) (n0 + n1) cap)) w') :
  if Region.wanted o (yielded ops a.tmps) = true then Oper.wp Tryz.prog o a w K Q else E := by
 subst hn0 hn1
 obtain ⟨i0, hi, hz0, hz1, hz2⟩ := info_parts infoF
 refine step_append_lies _ hgd s x 184 ho base 182 i0 _ 3 24 Tryz.underlying184 hi hz0 hz1 hz2 rfl (by decide) _ L.length (cellsL L) hs hL ⟨g1, 0, none⟩ M.length c1 (cellsL M) hx (cellsL_length M) hM.news (cellsL_one M) hm
  (by unfold maxLen; omega) (by omega) hbase _ rfl (fun g cap w' hown hgrow _ _ => ?_)
 refine h g cap w' ?_ ((Below.refl base w).grown hgrow hbase hL.blk) (fun b hb hne => hgrow.block b hb (fun e => hne (Option.some.inj e)))
 unfold OwnL
 rw [cellsL_append, List.length_append]
 exact hown
theorem wpList_appL {w : World} {ops : Array Oper} {rest : List Oper} {o : Oper} {a : Act} {Q : Exit → Act → World → Prop} (hgd : o.guard = none) (s x : Operand)
  (ho : o.op = .call { callee := .builtin .append, args := #[s, x], argTypes := #[184, 184] })
  (base g0 n0 c0 g1 n1 c1 : Nat) (L M : List Fld) (hs : a.eval s = .slice (some ⟨g0, 0, none⟩) n0 c0) (hx : a.eval x = .slice (some ⟨g1, 0, none⟩) n1 c1) (hn0 : L.length = n0) (hn1 : M.length = n1)
  (hL : OwnL w base (.slice (some ⟨g0, 0, none⟩) n0 c0) L) (hM : OwnL w base (.slice (some ⟨g1, 0, none⟩) n1 c1) M) (hm : 0 < n1) (hl : n0 + n1 ≤ 1000) (hbase : base ≤ w.heap.size)
  (h : ∀ g cap w', OwnL w' base (.slice (some ⟨g, 0, none⟩) (n0 + n1) cap) (L ++ M) → Below base w w' → wpList Tryz.prog ops Q rest (a.put o.dst (.slice (some ⟨g, 0, none⟩) (n0 + n1) cap)) w') : wpList Tryz.prog ops Q (o :: rest) a w := by
 subst hn0 hn1
 obtain ⟨i0, hi, hz0, hz1, hz2⟩ := info_parts infoF
 refine wpList_append_own _ hgd s x 184 ho base 182 i0 _ 3 24 Tryz.underlying184 hi hz0 hz1 hz2 rfl (by decide) _ L.length (cellsL L) hs hL ⟨g1, 0, none⟩ M.length c1 (cellsL M) hx (cellsL_length M) hM.news (cellsL_one M)
  (by unfold maxLen; omega) (by omega) hbase (fun v' w' hown hgrow hiff => ?_)
 rcases hown.2 with ⟨h0, h1⟩ | ⟨g, cap, cur, rfl, _⟩
 ·omega
 ·refine h g cap w' ?_ ((Below.refl base w).grown hgrow hbase hL.blk)
  unfold OwnL
  rw [cellsL_append, List.length_append]
  exact hown
def EndL (w : World) (L : List Fld) (e : Ending) (w' : World) : Prop :=
 ∃ g c, e = .returned (.slice (some ⟨g, 0, none⟩) L.length c) ∧ OwnL w' w.heap.size (.slice (some ⟨g, 0, none⟩) L.length c) L ∧ Below w.heap.size w w'
end
section
open Go.ChangeShapes Go.WideShapes Go.ChangeAt Go.RowKit Go.Deep
structure BoxAt (w : World) (b : Nat) (cs : Array Value) (t : TypeId) : Prop where
 h : w.heap[b]? = some (.cells cs t)
theorem BoxAt.lt {w : World} {b : Nat} {cs : Array Value} {t : TypeId} (h : BoxAt w b cs t) : b < w.heap.size := (Array.getElem?_eq_some_iff.1 h.h).1
theorem BoxAt.below {w w' : World} {b : Nat} {cs : Array Value} {t : TypeId} (h : BoxAt w b cs t) (hb : Below w.heap.size w w') : BoxAt w' b cs t := ⟨(hb.block b h.lt).trans h.h⟩
theorem BoxAt.alloc {w : World} {b : Nat} {cs : Array Value} {t : TypeId} (h : BoxAt w b cs t) (o : Obj) : BoxAt (w.alloc o) b cs t := ⟨(Below.heap_alloc w o b h.lt).trans h.h⟩
theorem BoxAt.drew {w : World} {b : Nat} {cs : Array Value} {t : TypeId} (h : BoxAt w b cs t) : BoxAt w.drew b cs t := ⟨h.h⟩
theorem BoxAt.new (w : World) (cs : Array Value) (t : TypeId) : BoxAt (w.alloc (.cells cs t)) w.heap.size cs t := ⟨heap_alloc_new w _⟩
theorem BoxAt.cell {w : World} {b : Nat} {cs : Array Value} {t : TypeId} (h : BoxAt w b cs t) (i : Nat) : w.cell? ⟨b, i, none⟩ = cs[i]? := by
 unfold World.cell?
 rw [h.h]
 rfl
theorem BoxAt.free {w : World} {b : Nat} {cs : Array Value} {t : TypeId} (h : BoxAt w b cs t) (i : Nat) : w.frozen? ⟨b, i, none⟩ = false := by
 unfold World.frozen?
 rw [h.h]
 simp
theorem BoxAt.get {w : World} {b : Nat} {cs : Array Value} {t : TypeId} (h : BoxAt w b cs t) (i : Nat) (v : Value) (hv : cs[i]? = some v) : w.cell? ⟨b, i, none⟩ = some v := (h.cell i).trans hv
theorem BoxAt.set {w : World} {b : Nat} {cs : Array Value} {t : TypeId} (h : BoxAt w b cs t) (i : Nat) (v : Value) (cs' : Array Value) (hc : cs.setIfInBounds i v = cs') : BoxAt (w.setCell ⟨b, i, none⟩ v) b cs' t := by
 refine ⟨?_⟩
 unfold World.setCell
 simp only [Array.getElem?_modify, h.h, Option.map_some, if_true]
 simp [hc]
theorem BoxAt.other {w : World} {b : Nat} {cs : Array Value} {t : TypeId} (h : BoxAt w b cs t) (p : Addr) (v : Value) (hne : b ≠ p.block) : BoxAt (w.setCell p v) b cs t :=
 ⟨(Below.heap_setCell w p v b hne).trans h.h⟩
theorem same {f : Nat} {l : Array Value} {w : World} {v : Ending} (h : Calls Tryz.prog f l w fun e w' => e = v ∧ w = w') : Calls Tryz.prog f l w fun e w' => e = v ∧ w' = w :=
 h.mono fun _ _ h => ⟨h.1, h.2.symm⟩
theorem beq_int (m j : Int) : (m == j) = decide (m = j) := by rw [Bool.eq_iff_iff]; simp
theorem small_bit (p : Int) (b : Bool) (h0 : -100 ≤ p) (h1 : p ≤ 100) : -100 ≤ (bitFl p b).a ∧ (bitFl p b).a ≤ 100 ∧ -100 ≤ (bitFl p b).n ∧ (bitFl p b).n ≤ 100 :=
 ⟨h0, h1, show (-100 : Int) ≤ 1 from by decide, show (1 : Int) ≤ 100 from by decide⟩
theorem small_num (p m v : Int) (h0 : -100 ≤ p) (h1 : p ≤ 100) (h2 : -100 ≤ m) (h3 : m ≤ 100) : -100 ≤ (numFl p m v).a ∧ (numFl p m v).a ≤ 100 ∧ -100 ≤ (numFl p m v).n ∧ (numFl p m v).n ≤ 100 :=
 ⟨h0, h1, h2, h3⟩
theorem getN_bd (v : BitVec 64) (p m : Int) (h0 : 0 ≤ m) (h1 : m ≤ 12) : 0 ≤ getN v p m ∧ getN v p m ≤ 4095 := by
 refine ⟨u_lo _, ?_⟩
 unfold getN u
 rw [BitVec.toNat_and, msk_nat m h0 (by omega)]
 have h2 : (v >>> p.toNat).toNat &&& (2 ^ m.toNat - 1) ≤ 2 ^ m.toNat - 1 := Nat.and_le_right
 have h3 : 2 ^ m.toNat ≤ 2 ^ 12 := Nat.pow_le_pow_right (by omega) (by omega)
 have h4 : (2 : Nat) ^ 12 = 4096 := by decide
 omega
section
variable {H : Type} {enc : TypeId × Value → H} {w : World} {base : Nat} {held : Bool}
theorem part_of {t : TypeId} {fs : Array Field} {n : Nat} {cs : List Value} {y : DataW H × List MemPlace} (he : Tryz.prog.underlying t = some (.struct fs)) (h : DataW.trod enc Tryz.prog w base (fun _ => true) held n t cs = some y) (j off c : Nat) (ty : TypeId) (hf : ∃ f, fs[j]? = some f ∧ f.type = ty ∧ f.offset = off) (hc : Tryz.prog.cellsOf ty = c) :
  ∃ (z : DataW H × List MemPlace) (m : Nat), DataW.trod enc Tryz.prog w base (fun _ => true) held m ty ((cs.drop off).take c) = some z := by
 obtain ⟨f, hj, rfl, rfl⟩ := hf
 subst hc
 obtain ⟨xs, m, _, _, _, hl, hf⟩ := DataW.trod_struct he h
 have hjl : j < fs.size := (Array.getElem?_eq_some_iff.1 hj).1
 exact ⟨_, m, (hf j f hj).trans (List.getElem?_eq_getElem (by omega))⟩
theorem int_cells {n : Nat} {cs : List Value} {y : DataW H × List MemPlace} (h : DataW.trod enc Tryz.prog w base (fun _ => true) held n 3 cs = some y) :
  ∃ a : Int, cs = [.int .i64 a] ∧ a ≤ 9223372036854775807 ∧ -9223372036854775808 ≤ a := by
 obtain ⟨a, hc, _, hw⟩ := DataW.trod_int Tryz.underlying3 h
 exact ⟨a, hc, i64_bounds hw⟩
theorem word_cells {n : Nat} {cs : List Value} {y : DataW H × List MemPlace} (h : DataW.trod enc Tryz.prog w base (fun _ => true) held n 130 cs = some y) :
  ∃ x : BitVec 64, cs = [.int .u64 (u x)] := by
 obtain ⟨a, hc, _, hw⟩ := DataW.trod_int Tryz.underlying130 h
 obtain ⟨x, rfl⟩ := u64_word hw
 exact ⟨x, hc⟩
theorem bool_cells {n : Nat} {cs : List Value} {y : DataW H × List MemPlace} (h : DataW.trod enc Tryz.prog w base (fun _ => true) held n 4 cs = some y) :
  ∃ b : Bool, cs = [.bool b] := by
 obtain ⟨b, hc, _⟩ := DataW.trod_bool Tryz.underlying4 h
 exact ⟨b, hc⟩
theorem c_int : Tryz.prog.cellsOf 3 = 1 := by kernel_rfl
theorem c_bool : Tryz.prog.cellsOf 4 = 1 := by kernel_rfl
end
end
section
open Go.ChangeShapes Go.WideShapes Go.ChangeAt Go.RowKit Go.Deep
structure Kept (tb B : Nat) (w w' : World) : Prop where
 below : Below tb w w'
 block : ∀ k, k < B → k ≠ tb → w'.heap[k]? = w.heap[k]?
theorem Kept.of {tb B : Nat} {w w' : World} (h : Below B w w') (hb : tb ≤ B) : Kept tb B w w' := ⟨h.mono hb, fun k hk _ => h.block k hk⟩
theorem Kept.trans {tb B : Nat} {a b c : World} (h : Kept tb B a b) (k : Kept tb B b c) : Kept tb B a c :=
 ⟨h.below.trans k.below, fun i hi hn => (k.block i hi hn).trans (h.block i hi hn)⟩
theorem Kept.mono {tb B B' : Nat} {a b : World} (h : Kept tb B a b) (hb : B' ≤ B) : Kept tb B' a b := ⟨h.below, fun i hi hn => h.block i (by omega) hn⟩
theorem Kept.set {tb B : Nat} {a b : World} (h : Kept tb B a b) (o : Nat) (v : Value) : Kept tb B a (b.setCell ⟨tb, o, none⟩ v) :=
 ⟨h.below.setCell (Nat.le_refl _) v, fun i hi hn => (Below.heap_setCell b ⟨tb, o, none⟩ v i hn).trans (h.block i hi hn)⟩
theorem Kept.high {tb B : Nat} {a b : World} (h : Kept tb B a b) (p : Addr) (v : Value) (hB : B ≤ p.block) (ht : tb ≤ p.block) : Kept tb B a (b.setCell p v) :=
 ⟨h.below.setCell ht v, fun i hi hn => (Below.heap_setCell b p v i (by omega)).trans (h.block i hi hn)⟩
theorem Kept.box {tb B : Nat} {a b : World} (h : Kept tb B a b) {k : Nat} {cs : Array Value} {t : TypeId} (hx : BoxAt a k cs t) (hk : k < B) (hn : k ≠ tb) : BoxAt b k cs t := ⟨(h.block k hk hn).trans hx.h⟩
theorem Kept.under {tb B b0 : Nat} {w0 a b : World} (h : Kept tb B a b) (hx : Below b0 w0 a) (hb : b0 ≤ tb) : Below b0 w0 b := hx.trans (h.below.mono hb)
end
section
open Go.ChangeShapes Go.WideShapes Go.ChangeAt Go.RowKit
theorem keepc {w w' : World} (hb : Below w.heap.size w w') {b o : Nat} {x : Value} (hc : w.cell? ⟨b, o, none⟩ = some x) : w'.cell? ⟨b, o, none⟩ = some x :=
 (hb.cell (p := ⟨b, o, none⟩) (cell_block hc)).trans hc
end
section
open Go.ChangeShapes Go.WideShapes Go.ChangeAt Go.RowKit
def okM (l : Nat) : Bool := decide (8 ≤ l ∧ l ≤ 512 ∧ l % 8 = 0)
theorem okM_true {l : Nat} (h : okM l = true) : 8 ≤ l ∧ l ≤ 512 ∧ l % 8 = 0 := of_decide_eq_true h
def okS (s : Int) : Bool := decide (s = 1 ∨ s = 2 ∨ s = 4 ∨ s = 8)
theorem okS_true {s : Int} (h : okS s = true) : s = 1 ∨ s = 2 ∨ s = 4 ∨ s = 8 := of_decide_eq_true h
def mayM (l : Nat) (a s : Int) : Int := if okS s = false then 1 else if a < 0 ∨ 8 * (l : Int) ≤ a then 2 else if a % s ≠ 0 then 8 else 0
theorem rmem_any (f : Option Addr) (l c : Nat) (w : World) :
  Calls Tryz.prog 19 #[.agg #[.slice f l c]] w fun e w' => e = .returned (.bool (okM l)) ∧ w' = w.alloc (.cells #[.slice f l c] 24) := by
 go_enter Tryz.func19, Tryz.ntmps19
 go_wp2
 all_goals
  go_ret
  refine ⟨ret_bool ?_, rfl⟩
  unfold okM
  rw [Bool.eq_iff_iff]
  simp
  omega
theorem bmay_any (f : Option Addr) (l c : Nat) (w : World) :
  Calls Tryz.prog 97 #[.agg #[.slice f l c]] w fun e w' => e = .returned (.bool (okM l)) ∧ w' = w.alloc (.cells #[.slice f l c] 155) := by
 go_enter Tryz.func97, Tryz.ntmps97
 go_wp2
 all_goals
  go_ret
  refine ⟨ret_bool ?_, rfl⟩
  unfold okM
  rw [Bool.eq_iff_iff]
  simp
  omega
theorem rframes_any (f : Option Addr) (l c : Nat) (w : World) (hl : l ≤ 1000000000000000) :
  Calls Tryz.prog 63 #[.agg #[.slice f l c]] w fun e w' => e = .returned (.int .i64 ((l : Int) / 8)) ∧ w' = w.alloc (.cells #[.slice f l c] 24) := by
 go_enter Tryz.func63, Tryz.ntmps63
 go_wp2
 go_ret
 exact ⟨rfl, rfl⟩
theorem bframes_any (f : Option Addr) (l c : Nat) (w : World) (hl : l ≤ 1000000000000000) :
  Calls Tryz.prog 121 #[.agg #[.slice f l c]] w fun e w' => e = .returned (.int .i64 ((l : Int) / 8)) ∧ w' = w.alloc (.cells #[.slice f l c] 155) := by
 go_enter Tryz.func121, Tryz.ntmps121
 go_wp2
 go_ret
 exact ⟨rfl, rfl⟩
theorem bbytes_any (f : Option Addr) (l c : Nat) (w : World) (hl : l ≤ 1000000000) :
  Calls Tryz.prog 181 #[.agg #[.slice f l c]] w fun e w' => e = .returned (.int .i64 ((l : Int) * 8)) ∧ w' = w.alloc (.cells #[.slice f l c] 155) := by
 go_enter Tryz.func181, Tryz.ntmps181
 go_wp2
 go_ret
 exact ⟨rfl, rfl⟩
theorem pmay_any (a s : Int) (w : World) :
  Calls Tryz.prog 180 #[.agg #[.int .i64 a, .int .i64 s]] w fun e w' => e = .returned (.bool (okS s)) ∧ w' = w.alloc (.cells #[.int .i64 a, .int .i64 s] 217) := by
 by_cases hs : okS s = true
 ·rcases okS_true hs with rfl | rfl | rfl | rfl
  all_goals
   go_enter Tryz.func180, Tryz.ntmps180
   go_wp2
   go_ret
   exact ⟨rfl, rfl⟩
 ·have hn : s ≠ 1 ∧ s ≠ 2 ∧ s ≠ 4 ∧ s ≠ 8 := by
   unfold okS at hs; simp at hs; omega
  obtain ⟨n1, n2, n3, n4⟩ := hn
  have e : okS s = false := by simpa using hs
  rw [e]
  clear e hs
  go_enter Tryz.func180, Tryz.ntmps180
  go_wp2
  go_ret
  refine ⟨ret_bool ?_, rfl⟩
  simp [n1, n2, n3, n4]
theorem pword_any (a s : Int) (w : World) (h0 : 0 ≤ a) (h1 : a ≤ 1000000000000) :
  Calls Tryz.prog 168 #[.agg #[.int .i64 a, .int .i64 s]] w fun e w' => e = .returned (.int .i64 (a / 8)) ∧ w' = w.alloc (.cells #[.int .i64 a, .int .i64 s] 217) := by
 go_enter Tryz.func168, Tryz.ntmps168
 go_wp2
 go_ret
 exact ⟨rfl, rfl⟩
theorem plow_any (a s : Int) (w : World) (h0 : 0 ≤ a) (h1 : a ≤ 1000000000000) :
  Calls Tryz.prog 169 #[.agg #[.int .i64 a, .int .i64 s]] w fun e w' => e = .returned (.int .i64 (a % 8 * 8)) ∧ w' = w.alloc (.cells #[.int .i64 a, .int .i64 s] 217) := by
 go_enter Tryz.func169, Tryz.ntmps169
 go_wp2
 go_ret
 exact ⟨rfl, rfl⟩
theorem pones_any (a s : Int) (w : World) (h0 : 1 ≤ s) (h1 : s ≤ 8) :
  Calls Tryz.prog 170 #[.agg #[.int .i64 a, .int .i64 s]] w fun e w' => e = .returned (.int .u64 (u (msk (8 * s)))) ∧ w' = w.alloc (.cells #[.int .i64 a, .int .i64 s] 217) := by
 go_enter Tryz.func170, Tryz.ntmps170
 go_wp2
 go_ret
 refine ⟨ret_int ?_, rfl⟩
 rw [← msk_ones]
 congr 2
 omega
end
end Go.Proofs.YtmelepohdbojlaaGreat
