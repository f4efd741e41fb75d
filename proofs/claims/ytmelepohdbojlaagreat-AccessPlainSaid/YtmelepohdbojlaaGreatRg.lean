/- Slices of words: read, owned, appended to, copied. Contracts: bulwarkref0.CopyWords, EqWords; bulwarklaw0.Words; slices.Clone of words. Contracts: CopyMem, EqMem of the reference; draftOf, frame, allows, hasAll of package mem; the law's there. Contracts: allows, hasAll, Check, Frames of package mem; the law's there. Slices of numbers: owned, appended to, compared, written over. Whole structs stored and loaded in one step: boxes of cells behind 'setRow'. One's own slice of numbers lies in no block of structs. Plain walking: a region that draws its order and holds one call and new variables, by a table of what each operation leaves: all orders at once. -/
import Derived.Test.YtmelepohdbojlaaGreatMemA
import Derived.Laws.AppendOwn
import Derived.Laws.AppendOwnNone
import Derived.Laws.OwnMore
import Derived.Laws.CopyOwn
import Derived.Deep.AppendLies
import Derived.LoopTactic
import Derived.Laws.Rows
import Derived.Deep.MidRow
import Derived.OrdersHeld
import Derived.StillTail
set_option linter.all false
namespace Go.Proofs.YtmelepohdbojlaaGreat
section
open Go.ChangeShapes Go.WideShapes Go.ChangeAt Go.RowKit Go.Deep
def wcells (X : Nat → BitVec 64) (n : Nat) : List Value := (List.range n).map fun j => .int .u64 (u (X j))
theorem wcells_get (X : Nat → BitVec 64) (n j : Nat) (h : j < n) : (wcells X n)[j]? = some (.int .u64 (u (X j))) := by simp [wcells, h]
theorem wcells_none (X : Nat → BitVec 64) (n j : Nat) (h : n ≤ j) : (wcells X n)[j]? = none := by simp [wcells, h]
theorem wcells_congr {X Y : Nat → BitVec 64} {n : Nat} (h : ∀ j, j < n → X j = Y j) : wcells X n = wcells Y n := by
 apply List.ext_getElem?
 intro j
 by_cases hj : j < n
 ·rw [wcells_get X n j hj, wcells_get Y n j hj, h j hj]
 ·rw [wcells_none X n j (by omega), wcells_none Y n j (by omega)]
theorem cell_new (w : World) (cs : Array Value) (t : TypeId) (j : Nat) : (w.alloc (.cells cs t)).cell? ⟨w.heap.size, j, none⟩ = cs[j]? := by
 rw [cell_of_row _ w.heap.size j cs t (0, 0) (heap_alloc_new w _)]
structure Loc (w : World) (b o : Nat) (x : Value) : Prop where
 cell : w.cell? ⟨b, o, none⟩ = some x
 free : w.frozen? ⟨b, o, none⟩ = false
theorem Loc.lt {w : World} {b o : Nat} {x : Value} (h : Loc w b o x) : b < w.heap.size := cell_block h.cell
theorem Loc.below {w w' : World} {b o : Nat} {x : Value} (h : Loc w b o x) (hb : Below w.heap.size w w') : Loc w' b o x :=
 ⟨keepc hb h.cell, (hb.frozen (p := ⟨b, o, none⟩) h.lt).trans h.free⟩
theorem Loc.under {B : Nat} {w w' : World} {b o : Nat} {x : Value} (h : Loc w b o x) (hb : Below B w w') (hB : b < B) : Loc w' b o x :=
 ⟨(hb.cell (p := ⟨b, o, none⟩) hB).trans h.cell, (hb.frozen (p := ⟨b, o, none⟩) hB).trans h.free⟩
theorem Loc.alloc {w : World} {b o : Nat} {x : Value} (h : Loc w b o x) (ob : Obj) : Loc (w.alloc ob) b o x := h.below (bel_alloc (Below.refl _ _) ob)
theorem Loc.new (w : World) (cs : Array Value) (t : TypeId) (b j : Nat) (x : Value) (hb : b = w.heap.size) (hx : cs[j]? = some x) : Loc (w.alloc (.cells cs t)) b j x := by
 subst hb
 exact ⟨(cell_new w cs t j).trans hx, World.frozen?_alloc_new w cs t j⟩
theorem Loc.set {w : World} {b o : Nat} {x : Value} (h : Loc w b o x) (b' o' : Nat) (y : Value) (hne : b ≠ b') : Loc (w.setCell ⟨b', o', none⟩ y) b o x :=
 ⟨(World.cell?_of_block (Below.heap_setCell w ⟨b', o', none⟩ y b hne)).trans h.cell, (World.frozen?_of_block (Below.heap_setCell w ⟨b', o', none⟩ y b hne)).trans h.free⟩
theorem Loc.drewN {w : World} {b o : Nat} {x : Value} (h : Loc w b o x) (m : Nat) : Loc (w.drewN m) b o x := ⟨h.cell, h.free⟩
theorem Loc.put {w : World} {b o : Nat} {x : Value} (h : Loc w b o x) (y : Value) : Loc (w.setCell ⟨b, o, none⟩ y) b o y :=
 ⟨World.cell?_setCell_same _ _ _ h.cell, by rw [World.frozen?_setCell]; exact h.free⟩
theorem cell_keep {w : World} {b o : Nat} {x : Value} (h : w.cell? ⟨b, o, none⟩ = some x) (ob : Obj) : (w.alloc ob).cell? ⟨b, o, none⟩ = some x := keepc (bel_alloc (Below.refl _ _) ob) h
theorem cell_drew {w : World} {b o : Nat} {x : Value} (h : w.cell? ⟨b, o, none⟩ = some x) : w.drew.cell? ⟨b, o, none⟩ = some x := h
def Open1 (w : World) (b o : Nat) : Prop := ∃ x, Loc w b o x
theorem Open1.alloc {w : World} {b o : Nat} (h : Open1 w b o) (ob : Obj) : Open1 (w.alloc ob) b o := by
 obtain ⟨x, hx⟩ := h
 exact ⟨x, hx.alloc ob⟩
theorem Open1.drew {w : World} {b o : Nat} (h : Open1 w b o) : Open1 w.drew b o := by
 obtain ⟨x, hx⟩ := h
 exact ⟨x, hx.cell, hx.free⟩
theorem cell_set {w : World} {b o b' o' : Nat} {x : Value} (y : Value) (hne : b ≠ b') (h : w.cell? ⟨b, o, none⟩ = some x) : (w.setCell ⟨b', o', none⟩ y).cell? ⟨b, o, none⟩ = some x :=
 (World.cell?_of_block (Below.heap_setCell w ⟨b', o', none⟩ y b hne)).trans h
theorem Loc.setCells {b o : Nat} {x : Value} (g : Nat) (hne : b ≠ g) : ∀ (vs : List Value) (o' : Nat) (w : World), Loc w b o x → Loc (w.setCells g o' vs) b o x
 | [], _, _, h => h
 | v :: r, o', _, h => Loc.setCells g hne r (o' + 1) _ (h.set g o' v hne)
theorem Loc.same {w w' : World} {b o : Nat} {x : Value} (h : Loc w b o x) (he : w'.heap[b]? = w.heap[b]?) : Loc w' b o x :=
 ⟨(World.cell?_of_block (a := ⟨b, o, none⟩) he).trans h.cell, (World.frozen?_of_block (a := ⟨b, o, none⟩) he).trans h.free⟩
def CellsAt (w : World) (f : Option Addr) (l : Nat) (C : Nat → Value) : Prop := ∀ j, j < l → ∃ b o, f = some ⟨b, o, none⟩ ∧ w.cell? ⟨b, o + j, none⟩ = some (C j)
abbrev WordsAt (w : World) (f : Option Addr) (l : Nat) (X : Nat → BitVec 64) : Prop := CellsAt w f l fun j => .int .u64 (u (X j))
abbrev NumsAt (w : World) (f : Option Addr) (l : Nat) (N : Nat → Int) : Prop := CellsAt w f l fun j => .int .i64 (N j)
theorem CellsAt.below {w w' : World} {f : Option Addr} {l : Nat} {C : Nat → Value} (h : CellsAt w f l C) (hb : Below w.heap.size w w') : CellsAt w' f l C := by
 intro j hj
 obtain ⟨b, o, hf, hc⟩ := h j hj
 exact ⟨b, o, hf, keepc hb hc⟩
theorem CellsAt.pos {w : World} {f : Option Addr} {l : Nat} {C : Nat → Value} (h : CellsAt w f l C) (h0 : 0 < l) : ∃ b o, f = some ⟨b, o, none⟩ ∧ b < w.heap.size ∧ ∀ j, j < l → w.cell? ⟨b, o + j, none⟩ = some (C j) := by
 obtain ⟨b, o, hf, hc⟩ := h 0 h0
 refine ⟨b, o, hf, cell_block hc, fun j hj => ?_⟩
 obtain ⟨b', o', hf', hc'⟩ := h j hj
 rw [hf] at hf'
 simp at hf'
 obtain ⟨rfl, rfl⟩ := hf'
 exact hc'
theorem CellsAt.empty (w : World) (f : Option Addr) (C : Nat → Value) : CellsAt w f 0 C := fun j hj => absurd hj (by omega)
theorem CellsAt.congr {w : World} {f : Option Addr} {l : Nat} {C D : Nat → Value} (h : CellsAt w f l C) (hc : ∀ j, j < l → C j = D j) : CellsAt w f l D := by
 intro j hj
 rw [← hc j hj]
 exact h j hj
def OwnW (w : World) (base : Nat) (v : Value) (n : Nat) (X : Nat → BitVec 64) : Prop := w.ownsRow base 130 1 v n (wcells X n)
theorem OwnW.nil (w : World) (base : Nat) (X : Nat → BitVec 64) : OwnW w base (.slice none 0 0) 0 X := World.ownsRow_nil w base 130 1
theorem OwnW.congr {w : World} {base : Nat} {v : Value} {n : Nat} {X Y : Nat → BitVec 64} (h : OwnW w base v n X) (hc : ∀ j, j < n → X j = Y j) : OwnW w base v n Y := by
 unfold OwnW at h ⊢
 rw [← wcells_congr hc]
 exact h
theorem OwnW.below {w w' : World} {base : Nat} {v : Value} {n : Nat} {X : Nat → BitVec 64} (h : OwnW w base v n X) (hb : Below w.heap.size w w') : OwnW w' base v n X := by
 refine ⟨h.1, ?_⟩
 rcases h.2 with hn | ⟨g, cap, cur, rfl, hbg, hgg, rest⟩
 ·exact .inl hn
 ·exact .inr ⟨g, cap, cur, rfl, hbg, (hb.block g (Array.getElem?_eq_some_iff.1 hgg).1).trans hgg, rest⟩
theorem OwnW.mono {w : World} {base base' : Nat} {v : Value} {n : Nat} {X : Nat → BitVec 64} (h : OwnW w base v n X) (hb : base' ≤ base) : OwnW w base' v n X := by
 refine ⟨h.1, ?_⟩
 rcases h.2 with hn | ⟨g, cap, cur, rfl, hbg, rest⟩
 ·exact .inl hn
 ·exact .inr ⟨g, cap, cur, rfl, by omega, rest⟩
theorem OwnW.form {w : World} {base : Nat} {v : Value} {n : Nat} {X : Nat → BitVec 64} (h : OwnW w base v n X) : ∃ f c, v = .slice f n c ∧ WordsAt w f n X := by
 rcases h.2 with ⟨rfl, rfl⟩ | ⟨g, cap, cur, rfl, hbg, hgg, _⟩
 ·exact ⟨none, 0, rfl, CellsAt.empty _ _ _⟩
 ·refine ⟨_, cap, rfl, fun j hj => ⟨g, 0, rfl, ?_⟩⟩
  have := World.ownsRow.cellAt h j (by omega)
  rw [wcells_get X n j hj] at this
  rw [Nat.zero_add]
  exact this
theorem OwnW.words {w : World} {base : Nat} {f : Option Addr} {n c : Nat} {X : Nat → BitVec 64} (h : OwnW w base (.slice f n c) n X) : WordsAt w f n X := by
 obtain ⟨f', c', hv, hw⟩ := h.form
 simp at hv
 obtain ⟨rfl, rfl⟩ := hv
 exact hw
theorem OwnW.pos {w : World} {base : Nat} {v : Value} {n : Nat} {X : Nat → BitVec 64} (h : OwnW w base v n X) (h0 : 0 < n) : ∃ g c, v = .slice (some ⟨g, 0, none⟩) n c ∧ base ≤ g ∧ g < w.heap.size ∧ n ≤ c ∧ ∀ j, j < n → w.cell? ⟨g, j, none⟩ = some (.int .u64 (u (X j))) := by
 rcases h.2 with ⟨rfl, rfl⟩ | ⟨g, cap, cur, rfl, hbg, hgg, hnc, _⟩
 ·omega
 ·refine ⟨g, cap, rfl, hbg, (Array.getElem?_eq_some_iff.1 hgg).1, hnc, fun j hj => ?_⟩
  have := World.ownsRow.cellAt h j (by omega)
  rwa [wcells_get X n j hj] at this
theorem OwnW.frozen {w : World} {base g n c : Nat} {X : Nat → BitVec 64} (h : OwnW w base (.slice (some ⟨g, 0, none⟩) n c) n X) (j : Nat) : w.frozen? ⟨g, j, none⟩ = false := World.ownsRow.frozenAt h j
theorem OwnW.other {w : World} {base : Nat} {v : Value} {n : Nat} {X : Nat → BitVec 64} (h : OwnW w base v n X) (b o : Nat) (y : Value) (hb : b < base) : OwnW (w.setCell ⟨b, o, none⟩ y) base v n X := by
 refine ⟨h.1, ?_⟩
 rcases h.2 with hn | ⟨g, cap, cur, rfl, hbg, hgg, rest⟩
 ·exact .inl hn
 ·exact .inr ⟨g, cap, cur, rfl, hbg, (Below.heap_setCell w ⟨b, o, none⟩ y g (by simp only; omega)).trans hgg, rest⟩
theorem OwnW.apart {w : World} {base g n c : Nat} {X : Nat → BitVec 64} (h : OwnW w base (.slice (some ⟨g, 0, none⟩) n c) n X) (b o : Nat) (y : Value) (hb : g ≠ b) : OwnW (w.setCell ⟨b, o, none⟩ y) base (.slice (some ⟨g, 0, none⟩) n c) n X := by
 refine ⟨h.1, ?_⟩
 rcases h.2 with hn | ⟨g3, cap, cur, hv, hb3, hgg, rest⟩
 ·exact .inl hn
 ·simp only [Value.slice.injEq, Option.some.injEq, Addr.mk.injEq, and_true, true_and] at hv
  obtain ⟨rfl, rfl⟩ := hv
  exact .inr ⟨g, c, cur, rfl, hb3, (Below.heap_setCell w ⟨b, o, none⟩ y g (by simp only; omega)).trans hgg, rest⟩
theorem OwnW.drew {w : World} {base : Nat} {v : Value} {n : Nat} {X : Nat → BitVec 64} (h : OwnW w base v n X) : OwnW w.drew base v n X := h.below (Below.drew (Below.refl _ _))
theorem OwnW.base {w : World} {base g n c : Nat} {X : Nat → BitVec 64} (h : OwnW w base (.slice (some ⟨g, 0, none⟩) n c) n X) : base ≤ g := (World.ownsRow.lt h g rfl).1
theorem OwnW.lt {w : World} {base g n c : Nat} {X : Nat → BitVec 64} (h : OwnW w base (.slice (some ⟨g, 0, none⟩) n c) n X) : g < w.heap.size := (World.ownsRow.lt h g rfl).2
theorem OwnW.blk {w : World} {base : Nat} {v : Value} {n : Nat} {X : Nat → BitVec 64} (h : OwnW w base v n X) : ∀ k, v.ownBlock = some k → base ≤ k := fun k hk => (World.ownsRow.lt h k hk).1
theorem infoW : (Tryz.prog.info? 130).map (fun i => (i.zero, i.size, i.bytes)) = some (some (.int .u64 0), 1, 8) := by kernel_rfl
end
section
open Go.ChangeShapes Go.WideShapes Go.ChangeAt Go.RowKit Go.Deep
end
section
open Go.ChangeShapes Go.WideShapes Go.ChangeAt Go.RowKit Go.Deep
end
section
open Go.ChangeShapes Go.WideShapes Go.ChangeAt Go.RowKit Go.Deep
theorem allows_noM (f : Option Addr) (l c : Nat) (a s : Int) (w : World) (h : okM l = false) :
  Calls Tryz.prog 167 #[.agg #[.slice f l c], .agg #[.int .i64 a, .int .i64 s]] w fun e w' => e = .returned (.int .i64 1) ∧ Below w.heap.size w w' := by
 go_enter Tryz.func167, Tryz.ntmps167
 go_wp2_with (go_at_call 97; refine (bmay_any _ _ _ _).mono ?_; rintro e w' ⟨rfl, rfl⟩)
 go_ret
 exact ⟨rfl, by go_grown⟩
theorem allows_noS (f : Option Addr) (l c : Nat) (a s : Int) (w : World) (h : okM l = true) (hs : okS s = false) :
  Calls Tryz.prog 167 #[.agg #[.slice f l c], .agg #[.int .i64 a, .int .i64 s]] w fun e w' => e = .returned (.int .i64 1) ∧ Below w.heap.size w w' := by
 go_enter Tryz.func167, Tryz.ntmps167
 go_wp2_with (first
  | (go_at_call 97; refine (bmay_any _ _ _ _).mono ?_; rintro e w' ⟨rfl, rfl⟩)
  | (go_at_call 180; refine (pmay_any _ _ _).mono ?_; rintro e w' ⟨rfl, rfl⟩))
 go_ret
 exact ⟨rfl, by go_grown⟩
theorem allows_neg (f : Option Addr) (l c : Nat) (a s : Int) (w : World) (h : okM l = true) (hs : okS s = true) (ha : a < 0) :
  Calls Tryz.prog 167 #[.agg #[.slice f l c], .agg #[.int .i64 a, .int .i64 s]] w fun e w' => e = .returned (.int .i64 2) ∧ Below w.heap.size w w' := by
 have hd : decide (a < 0) = true := decide_eq_true ha
 go_enter Tryz.func167, Tryz.ntmps167
 go_wp2_with (first
  | (go_at_call 97; refine (bmay_any _ _ _ _).mono ?_; rintro e w' ⟨rfl, rfl⟩)
  | (go_at_call 180; refine (pmay_any _ _ _).mono ?_; rintro e w' ⟨rfl, rfl⟩))
 first | (go_region_with (first | fail)) | skip
 go_wp2
 all_goals
  go_ret
  exact ⟨rfl, by go_grown⟩
theorem allows_pos (f : Option Addr) (l c : Nat) (a s : Int) (w : World) (h : okM l = true) (hs : okS s = true) (ha : 0 ≤ a) :
  Calls Tryz.prog 167 #[.agg #[.slice f l c], .agg #[.int .i64 a, .int .i64 s]] w fun e w' => e = .returned (.int .i64 (mayM l a s)) ∧ Below w.heap.size w w' := by
 have hd : decide (a < 0) = false := decide_eq_false (by omega)
 obtain ⟨l1, l2, l3⟩ := okM_true h
 go_enter Tryz.func167, Tryz.ntmps167
 go_wp2_with (go_at_call 97; refine (bmay_any _ _ _ _).mono ?_; rintro e w' ⟨rfl, rfl⟩)
 refine (pmay_any _ _ _).mono ?_
 rintro e w2 ⟨rfl, hw2⟩
 have L0 : Loc w2 w.heap.size 0 (.slice f l c) := by rw [hw2]; exact (((Loc.new w _ _ _ 0 _ rfl rfl).alloc _).alloc _).alloc _
 have L1 : Loc w2 (w.heap.size + 1) 0 (.int .i64 a) := by rw [hw2]; exact ((Loc.new _ _ _ _ 0 _ (by simp) rfl).alloc _).alloc _
 have L2 : Loc w2 (w.heap.size + 1) 1 (.int .i64 s) := by rw [hw2]; exact ((Loc.new _ _ _ _ 1 _ (by simp) rfl).alloc _).alloc _
 have hB : Below w.heap.size w w2 := by rw [hw2]; go_grown
 have c0 := L0.cell
 have c1 := L1.cell
 have c2 := L2.cell
 have HB := Lib.hid hB
 clear hw2 L0 L1 L2 hB
 go_wp2_with fail
 go_region_held3 (fun w' => w'.cell? ⟨w.heap.size, 0, none⟩ = some (.slice f l c) ∧ w'.cell? ⟨w.heap.size + 1, 0, none⟩ = some (.int .i64 a) ∧ w'.cell? ⟨w.heap.size + 1, 1, none⟩ = some (.int .i64 s)) (go_keep)
  (first | (go_at_call 181; refine (bbytes_any _ _ _ _ (by omega)).mono ?_; rintro e w' ⟨rfl, rfl⟩))
 rename_i hHeld
 obtain ⟨k0, k1, k2⟩ := hHeld
 have HB3 := Lib.hid (Below.drew (bel_alloc HB.out (.cells #[.slice f l c] 155)))
 by_cases hb : (l : Int) * 8 ≤ a
 ·have E : Hid (mayM l a s = 2) := by unfold mayM; rw [if_neg (by simp [hs]), if_pos (.inr (by omega))]; rfl
  go_wp2
  go_ret
  exact ⟨ret_int E.out.symm, HB3.out⟩
 ·by_cases hq : a % s = 0
  ·have hq' : (a % s != 0) = false := by simpa using hq
   have E : Hid (mayM l a s = 0) := by unfold mayM; rw [if_neg (by simp [hs]), if_neg (by omega), if_neg (fun h => h hq)]; rfl
   rcases okS_true hs with rfl | rfl | rfl | rfl
   all_goals
    clear hq hs
    go_wp2
    go_ret
    exact ⟨ret_int E.out.symm, HB3.out⟩
  ·have hq' : (a % s != 0) = true := by simpa using hq
   have E : Hid (mayM l a s = 8) := by unfold mayM; rw [if_neg (by simp [hs]), if_neg (by omega), if_pos hq]; rfl
   rcases okS_true hs with rfl | rfl | rfl | rfl
   ·omega
   all_goals
    clear hq hs
    go_wp2
    go_ret
    exact ⟨ret_int E.out.symm, HB3.out⟩
theorem allows_any (f : Option Addr) (l c : Nat) (a s : Int) (w : World) :
  Calls Tryz.prog 167 #[.agg #[.slice f l c], .agg #[.int .i64 a, .int .i64 s]] w fun e w' => e = .returned (.int .i64 (if okM l = true then mayM l a s else 1)) ∧ Below w.heap.size w w' := by
 by_cases h : okM l = true
 ·rw [if_pos h]
  by_cases hs : okS s = true
  ·by_cases ha : a < 0
   ·have e : mayM l a s = 2 := by unfold mayM; rw [if_neg (by simp [hs]), if_pos (.inl ha)]
    rw [e]
    exact allows_neg f l c a s w h hs ha
   ·exact allows_pos f l c a s w h hs (by omega)
  ·have hs' : okS s = false := by simpa using hs
   have e : mayM l a s = 1 := by unfold mayM; rw [if_pos hs']
   rw [e]
   exact allows_noS f l c a s w h hs'
 ·rw [if_neg h]
  exact allows_noM f l c a s w (by simpa using h)
theorem mcheck_any (f : Option Addr) (l c : Nat) (w : World) :
  Calls Tryz.prog 78 #[.agg #[.slice f l c]] w fun e w' => e = .returned (.int .i64 (if okM l = true then 0 else 1)) ∧ Below w.heap.size w w' := by
 cases h : okM l
 all_goals
  go_enter Tryz.func78, Tryz.ntmps78
  go_wp2_with (go_at_call 97; refine (bmay_any _ _ _ _).mono ?_; rintro e w' ⟨rfl, rfl⟩)
  go_ret
  exact ⟨rfl, by go_grown⟩
theorem frames_any (f : Option Addr) (l c : Nat) (w : World) :
  Calls Tryz.prog 99 #[.agg #[.slice f l c]] w fun e w' => e = .returned (if okM l = true then .tuple #[.int .i64 ((l : Int) / 8), .int .i64 0] else .tuple #[.int .i64 0, .int .i64 1]) ∧ Below w.heap.size w w' := by
 have L0 : Loc (w.alloc (.cells #[.slice f l c] 24)) w.heap.size 0 (.slice f l c) := Loc.new w _ _ _ 0 _ rfl rfl
 have hb1 : Below w.heap.size w (w.alloc (.cells #[.slice f l c] 24)) := bel_alloc (Below.refl _ _) _
 have HL := Lib.hid L0
 have HB := Lib.hid hb1
 clear L0 hb1
 cases h : okM l
 ·go_enter Tryz.func99, Tryz.ntmps99
  go_wp2_with fail
  refine (mcheck_any _ _ _ _).mono ?_
  rw [h]
  rintro e w1 ⟨rfl, hb⟩
  go_wp2
  go_ret2
  exact ⟨rfl, bel_trans HB.out hb⟩
 ·obtain ⟨l1, l2, l3⟩ := okM_true h
  go_enter Tryz.func99, Tryz.ntmps99
  go_wp2_with fail
  refine (mcheck_any _ _ _ _).mono ?_
  rw [h]
  rintro e w1 ⟨rfl, hb⟩
  have c1 := (HL.out.below hb).cell
  go_wp2_with (go_at_call 121; refine (bframes_any _ _ _ _ (by omega)).mono ?_; rintro e w2 ⟨rfl, rfl⟩)
  go_ret2
  exact ⟨rfl, bel_alloc (bel_trans HB.out hb) _⟩
end
section
open Go.ChangeShapes Go.WideShapes Go.ChangeAt Go.RowKit Go.Deep
theorem BoxAt.newAt (w : World) (cs : Array Value) (t : TypeId) (b : Nat) (hb : w.heap.size = b) : BoxAt (w.alloc (.cells cs t)) b cs t := by
 subst hb
 exact BoxAt.new w cs t
theorem BoxAt.under {B : Nat} {w w' : World} {b : Nat} {cs : Array Value} {t : TypeId} (h : BoxAt w b cs t) (hb : Below B w w') (hB : b < B) : BoxAt w' b cs t := ⟨(hb.block b hB).trans h.h⟩
def icells (L : List Int) : List Value := L.map fun a => .int .i64 a
theorem icells_length (L : List Int) : (icells L).length = L.length := by simp [icells]
theorem icells_append (L M : List Int) : icells (L ++ M) = icells L ++ icells M := by simp [icells]
theorem icells_one (L : List Int) : ∀ v ∈ icells L, v.oneCell' = true := by
 intro v hv
 simp only [icells, List.mem_map] at hv
 obtain ⟨t, _, rfl⟩ := hv
 rfl
theorem icells_get (L : List Int) (j : Nat) (h : j < L.length) : (icells L)[j]? = some (.int .i64 (L.getD j 0)) := by
 simp [icells, h]
def IntsAt (w : World) (f : Option Addr) (L : List Int) : Prop := NumsAt w f L.length (fun j => L.getD j 0)
def OwnI (w : World) (base : Nat) (v : Value) (L : List Int) : Prop := w.ownsRow base 3 1 v L.length (icells L)
theorem OwnI.nil (w : World) (base : Nat) : OwnI w base (.slice none 0 0) [] := World.ownsRow_nil w base 3 1
theorem OwnI.below {w w' : World} {base : Nat} {v : Value} {L : List Int} (h : OwnI w base v L) (hb : Below w.heap.size w w') : OwnI w' base v L := by
 refine ⟨h.1, ?_⟩
 rcases h.2 with hn | ⟨g, cap, cur, rfl, hbg, hgg, rest⟩
 ·exact .inl hn
 ·exact .inr ⟨g, cap, cur, rfl, hbg, (hb.block g (Array.getElem?_eq_some_iff.1 hgg).1).trans hgg, rest⟩
theorem OwnI.mono {w : World} {base base' : Nat} {v : Value} {L : List Int} (h : OwnI w base v L) (hb : base' ≤ base) : OwnI w base' v L := by
 refine ⟨h.1, ?_⟩
 rcases h.2 with hn | ⟨g, cap, cur, rfl, hbg, rest⟩
 ·exact .inl hn
 ·exact .inr ⟨g, cap, cur, rfl, by omega, rest⟩
theorem OwnI.form {w : World} {base : Nat} {v : Value} {L : List Int} (h : OwnI w base v L) : ∃ f c, v = .slice f L.length c ∧ IntsAt w f L := by
 rcases h.2 with ⟨rfl, hz⟩ | ⟨g, cap, cur, rfl, hbg, hgg, _⟩
 ·have hl : L.length = 0 := hz
  refine ⟨none, 0, by rw [hl], ?_⟩
  unfold IntsAt
  rw [hl]
  exact CellsAt.empty _ _ _
 ·refine ⟨_, cap, rfl, fun j hj => ⟨g, 0, rfl, ?_⟩⟩
  have := World.ownsRow.cellAt h j (by omega)
  rw [icells_get L j hj] at this
  rw [Nat.zero_add]
  exact this
theorem OwnI.ints {w : World} {base : Nat} {f : Option Addr} {n c : Nat} {L : List Int} (h : OwnI w base (.slice f n c) L) : n = L.length ∧ IntsAt w f L := by
 obtain ⟨f', c', hv, hw⟩ := h.form
 simp at hv
 obtain ⟨rfl, rfl, rfl⟩ := hv
 exact ⟨rfl, hw⟩
theorem OwnI.other {w : World} {base : Nat} {v : Value} {L : List Int} (h : OwnI w base v L) (p : Addr) (y : Value) (hb : p.block < base) : OwnI (w.setCell p y) base v L := by
 refine ⟨h.1, ?_⟩
 rcases h.2 with hn | ⟨g, cap, cur, rfl, hbg, hgg, rest⟩
 ·exact .inl hn
 ·exact .inr ⟨g, cap, cur, rfl, hbg, (Below.heap_setCell w p y g (by omega)).trans hgg, rest⟩
theorem OwnI.drew {w : World} {base : Nat} {v : Value} {L : List Int} (h : OwnI w base v L) : OwnI w.drew base v L := h.below (Below.drew (Below.refl _ _))
theorem OwnI.drewN {w : World} {base : Nat} {v : Value} {L : List Int} (h : OwnI w base v L) (n : Nat) : OwnI (w.drewN n) base v L := h.below (below_drewN (Below.refl _ _) n)
theorem OwnI.alloc {w : World} {base : Nat} {v : Value} {L : List Int} (h : OwnI w base v L) (o : Obj) : OwnI (w.alloc o) base v L := h.below (bel_alloc (Below.refl _ _) o)
theorem OwnI.blk {w : World} {base : Nat} {v : Value} {L : List Int} (h : OwnI w base v L) : ∀ k, v.ownBlock = some k → base ≤ k := fun k hk => (World.ownsRow.lt h k hk).1
theorem OwnI.lt {w : World} {base g n c : Nat} {L : List Int} (h : OwnI w base (.slice (some ⟨g, 0, none⟩) n c) L) : base ≤ g ∧ g < w.heap.size := World.ownsRow.lt h g rfl
theorem OwnI.made (w : World) (base : Nat) (L : List Int) (cs : Array Value) (n : Nat) (hb : base ≤ w.heap.size) (hn : n = L.length) (hl : L.length ≤ 1000000) (hc : cs.toList = icells L) : OwnI (w.alloc (.cells cs 3)) base (.slice (some ⟨w.heap.size, 0, none⟩) n n) L := by
 subst hn
 have hsz : cs.size = L.length := by rw [← Array.length_toList, hc, icells_length]
 refine ⟨by rw [icells_length]; omega, .inr ⟨w.heap.size, L.length, cs, rfl, hb, ?_, by omega, by unfold maxLen; omega, by omega, ?_⟩⟩
 ·exact heap_alloc_new w _
 ·rw [hc, List.take_of_length_le (by rw [icells_length]; omega)]
theorem IntsAt.below {w w' : World} {f : Option Addr} {L : List Int} (h : IntsAt w f L) (hb : Below w.heap.size w w') : IntsAt w' f L := CellsAt.below h hb
theorem IntsAt.get {w : World} {f : Option Addr} {L : List Int} (h : IntsAt w f L) (j : Nat) (hj : j < L.length) : ∃ b o, f = some ⟨b, o, none⟩ ∧ w.cell? ⟨b, o + j, none⟩ = some (.int .i64 (L.getD j 0)) := h j hj
set_option maxRecDepth 100000 in
theorem eqI_any (f g : Option Addr) (n m c d : Nat) (L : List Int) (w : World) (hl : L.length ≤ 1000000) (hn : n = L.length) (hm : m = L.length) (h1 : IntsAt w f L) (h2 : IntsAt w g L) :
  Calls Tryz.prog 16 #[.slice f n c, .slice g m d] w fun e w' => e = .returned (.bool true) ∧ ∃ m, w' = w.drewN m := by
 subst hn hm
 have H1 := Lib.hid h1
 have H2 := Lib.hid h2
 clear h1 h2
 obtain ⟨l, hL⟩ : ∃ l, l = L.length := ⟨_, rfl⟩
 have HL := Lib.hid hL
 rw [← hL] at hl ⊢
 clear hL
 go_enter Tryz.func16, Tryz.ntmps16
 go_wp2
 go_loopw [5] (fun i wr => ∃ (k m : Nat), k ≤ l ∧ i = .int .i64 k ∧ wr = w.drewN m) (fun i _ => l - (intOf i).toNat)
 case atStart => exact ⟨0, 0, Nat.zero_le _, rfl, rfl⟩
 case round =>
  obtain ⟨k, m, hk, rfl, rfl⟩ := hrel
  by_cases hlt : k < l
  ·obtain ⟨b, o, rfl, hc⟩ := H1.out.get k (by rw [← HL.out]; exact hlt)
   obtain ⟨b', o', rfl, hc'⟩ := H2.out.get k (by rw [← HL.out]; exact hlt)
   have i1 : (0 : Int) ≤ (k : Int) := by omega
   have i2 : (k : Int) < (l : Int) := by omega
   generalize L.getD k 0 = z at hc hc'
   go_wp2_with fail
   go_quiet (fail)
   go_wp2
   go_roundw
   case rel => exact ⟨k + 1, m + _, by omega, by go_num, rfl⟩
   case measure => simp [intOf]; omega
  ·go_wp2
   go_ret
   exact ⟨rfl, _, rfl⟩
theorem OwnI.pos {w : World} {base : Nat} {f : Option Addr} {n c : Nat} {L : List Int} (h : OwnI w base (.slice f n c) L) (h0 : 0 < L.length) : ∃ g, f = some ⟨g, 0, none⟩ ∧ base ≤ g ∧ ∀ j, j < L.length → w.cell? ⟨g, j, none⟩ = some (.int .i64 (L.getD j 0)) ∧ w.frozen? ⟨g, j, none⟩ = false := by
 have h' := h
 rcases h.2 with ⟨hv, hz⟩ | ⟨g, cap, cur, hv, hbg, hgg, hnc, _⟩
 ·omega
 ·simp at hv
  obtain ⟨rfl, rfl, rfl⟩ := hv
  refine ⟨g, rfl, hbg, fun j hj => ⟨?_, World.ownsRow.frozenAt h' j⟩⟩
  have := World.ownsRow.cellAt h' j (by omega)
  rwa [icells_get L j hj] at this
end
section
open Go.ChangeShapes Go.WideShapes Go.ChangeAt Go.RowKit Go.Deep
theorem BoxAt.put {w : World} {b : Nat} {cs cs' : Array Value} {t : TypeId} (h : BoxAt w b cs t) : BoxAt (w.setRow b cs') b cs' t := ⟨setRow_heap w b cs cs' t (0, 0) h.h⟩
theorem BoxAt.row {w : World} {b g : Nat} {cs cs' : Array Value} {t : TypeId} (h : BoxAt w b cs t) (hne : b ≠ g) : BoxAt (w.setRow g cs') b cs t := ⟨(setRow_other w g b cs' hne).trans h.h⟩
theorem Below.rowB {B g : Nat} {w0 w : World} {cs : Array Value} (hb : Below B w0 w) (hBg : B ≤ g) : Below B w0 (w.setRow g cs) := below_setRow hb hBg cs
theorem OwnI.row {w : World} {base g : Nat} {v : Value} {L : List Int} {cs : Array Value} (h : OwnI w base v L) (hb : g < base) : OwnI (w.setRow g cs) base v L := by
 refine ⟨h.1, ?_⟩
 rcases h.2 with hn | ⟨g', cap, cur, rfl, hbg, hgg, rest⟩
 ·exact .inl hn
 ·exact .inr ⟨g', cap, cur, rfl, hbg, (setRow_other w g g' cs (by omega)).trans hgg, rest⟩
theorem OwnI.rowN {w : World} {base g : Nat} {v : Value} {L : List Int} {cs : Array Value} (h : OwnI w base v L) (hb : v.ownBlock ≠ some g) : OwnI (w.setRow g cs) base v L := by
 refine ⟨h.1, ?_⟩
 rcases h.2 with hn | ⟨g', cap, cur, rfl, hbg, hgg, rest⟩
 ·exact .inl hn
 ·refine .inr ⟨g', cap, cur, rfl, hbg, (setRow_other w g g' cs ?_).trans hgg, rest⟩
  rintro rfl
  exact hb rfl
theorem OwnI.under {B : Nat} {w w' : World} {base : Nat} {v : Value} {L : List Int} (h : OwnI w base v L) (hb : Below B w w') (hlt : ∀ k, v.ownBlock = some k → k < B) : OwnI w' base v L := by
 refine ⟨h.1, ?_⟩
 rcases h.2 with hn | ⟨g', cap, cur, rfl, hbg, hgg, rest⟩
 ·exact .inl hn
 ·exact .inr ⟨g', cap, cur, rfl, hbg, (hb.block g' (hlt g' rfl)).trans hgg, rest⟩
theorem OwnI.blt {w : World} {base : Nat} {v : Value} {L : List Int} (h : OwnI w base v L) : ∀ k, v.ownBlock = some k → k < w.heap.size := fun k hk => (World.ownsRow.lt h k hk).2
theorem wpList_storeB {w : World} {ops : Array Oper} {rest : List Oper} {o : Oper} {a : Act} {Q : Exit → Act → World → Prop} (hgd : o.guard = none) (ty : TypeId) (x y : Operand) (ho : o.op = .store ty x y)
  (g : Nat) (cells old : Array Value) (t : TypeId) (hx : a.eval x = .pointer (some ⟨g, 0, none⟩)) (hy : a.eval y = .agg cells) (hi : (Tryz.prog.info? ty).map (·.size) = some cells.size) (hold : old.size = cells.size) (h1 : cells.all (·.oneCell') = true)
  (hB : BoxAt w g old t) (h : wpList Tryz.prog ops Q rest (a.put o.dst undef) (w.setRow g cells)) : wpList Tryz.prog ops Q (o :: rest) a w :=
 wpList_store_row hgd ty x y ho g cells hx hy t old hB.h hi hold h1 h
end
section
open Go.ChangeShapes Go.WideShapes Go.ChangeAt Go.RowKit Go.Deep
theorem OwnI.ne_box {w : World} {base b : Nat} {v : Value} {L : List Int} {cs : Array Value} {t : TypeId} (h : OwnI w base v L) (hx : BoxAt w b cs t) (ht : t ≠ 3) : v.ownBlock ≠ some b := by
 rcases h.2 with hn | ⟨g, cap, cur, rfl, hbg, hgg, rest⟩
 ·rw [hn.1]; simp [Value.ownBlock]
 ·intro he
  have he : g = b := by simpa [Value.ownBlock] using he
  subst he
  have h2 := hgg.symm.trans hx.h
  simp at h2
  exact ht h2.2.symm
theorem OwnI.otherN {w : World} {base : Nat} {v : Value} {L : List Int} (h : OwnI w base v L) (p : Addr) (y : Value) (hb : v.ownBlock ≠ some p.block) : OwnI (w.setCell p y) base v L := by
 refine ⟨h.1, ?_⟩
 rcases h.2 with hn | ⟨g, cap, cur, rfl, hbg, hgg, rest⟩
 ·exact .inl hn
 ·refine .inr ⟨g, cap, cur, rfl, hbg, (Below.heap_setCell w p y g ?_).trans hgg, rest⟩
  rintro rfl
  exact hb rfl
theorem BoxAt.grown {w w' : World} {b : Nat} {cs : Array Value} {t : TypeId} {row : Option Nat} (h : BoxAt w b cs t) (hg : w.grownBy w' row) (hr : row ≠ some b) : BoxAt w' b cs t :=
 ⟨(hg.block b h.lt (fun e => hr e.symm)).trans h.h⟩
end
section
open Go.ChangeShapes Go.WideShapes Go.ChangeAt Go.RowKit Go.Deep
inductive Knd (X : Type) where
 | con (v : Value)
 | ld (v : Value)
 | res (f : X → Value)
 | new (t : TypeId) (z : Array Value)
 | sto (j : Nat) (cs : X → Array Value)
 | cal (V : X → Value)
structure Ent (X : Type) where
 d : Option Nat
 k : Knd X
section
variable {P : Program} {ops : Array Oper} {Q : Exit → Act → World → Prop} {X : Type}
def Knd.val (i : Nat) (x : X) (β : Nat → Nat) : Knd X → Value
 | .con v => v
 | .ld v => v
 | .res f => f x
 | .new _ _ => .pointer (some ⟨β i, 0, none⟩)
 | .sto _ _ => undef
 | .cal V => V x
def waitsOn (ops : Array Oper) (i : Nat) : List Nat := match ops[i]? with
 | some o => (o.after.toList.filter (fun e => Region.binds .any e)).map (·.on)
 | none => []
def rgOp (ops : Array Oper) (i : Nat) : Oper := ops.getD i ⟨none, .move (.const undef), 0, "", #[], none⟩
def Knd.obl (P : Program) (ops : Array Oper) (I0 : World → Prop) (A : X → (Nat → Nat) → Act) (U : List (Ent X)) (i : Nat) : Knd X → Prop
 | .con v => ∀ x β w, (execOp (A x β).eval (rgOp ops i)).run P w = .ok (.value v) w
 | .ld v => ∀ x β w, I0 w → (execOp (A x β).eval (rgOp ops i)).run P w = .ok (.value v) w
 | .res f => ∀ x β w, (execOp (A x β).eval (rgOp ops i)).run P w = .ok (.value (f x)) w
 | .new t z => ∀ x β w, (execOp (A x β).eval (rgOp ops i)).run P w = .ok (.value (.pointer (some ⟨w.heap.size, 0, none⟩))) (w.alloc (.cells z t))
 | .sto j cs => ∃ t z d, U[j]? = some ⟨d, .new t z⟩ ∧ ∀ x β w, BoxAt w (β j) z t → (execOp (A x β).eval (rgOp ops i)).run P w = .ok .skip (w.setRow (β j) (cs x))
 | .cal _ => True
structure NewOk (U : List (Ent X)) (lo : Nat) (D : Nat → Bool) (x : X) (β : Nat → Nat) (w : World) : Prop where
 box : ∀ i t z d, U[i]? = some ⟨d, .new t z⟩ → D i = true → lo ≤ β i ∧ ((∃ k cs d', U[k]? = some ⟨d', .sto i cs⟩ ∧ D k = true ∧ BoxAt w (β i) (cs x) t) ∨ ((∀ k cs d', U[k]? = some ⟨d', .sto i cs⟩ → D k = false) ∧ BoxAt w (β i) z t))
 ne : ∀ i j t z d t' z' d', U[i]? = some ⟨d, .new t z⟩ → U[j]? = some ⟨d', .new t' z'⟩ → D i = true → D j = true → i ≠ j → β i ≠ β j
theorem NewOk.lt {U : List (Ent X)} {lo : Nat} {D : Nat → Bool} {x : X} {β : Nat → Nat} {w : World} (h : NewOk U lo D x β w) {i : Nat} {t : TypeId} {z : Array Value} {d : Option Nat} (hi : U[i]? = some ⟨d, .new t z⟩) (hD : D i = true) : β i < w.heap.size := by
 rcases (h.box i t z d hi hD).2 with ⟨k, cs, d', _, _, hb⟩ | ⟨_, hb⟩ <;> exact hb.lt
theorem NewOk.same {U : List (Ent X)} {lo : Nat} {D D' : Nat → Bool} {x : X} {β : Nat → Nat} {w : World} (h : NewOk U lo D x β w) (hD : ∀ k, (∃ t z d, U[k]? = some ⟨d, .new t z⟩) ∨ (∃ j cs d, U[k]? = some ⟨d, .sto j cs⟩) → D' k = D k) : NewOk U lo D' x β w := by
 refine ⟨fun i t z d hi hd => ?_, fun i j t z d t' z' d' hi hj h1 h2 hne => ?_⟩
 ·rw [hD i (.inl ⟨t, z, d, hi⟩)] at hd
  refine ⟨(h.box i t z d hi hd).1, (h.box i t z d hi hd).2.imp ?_ ?_⟩
  ·rintro ⟨k, cs, d', hk, hk2, hb⟩
   exact ⟨k, cs, d', hk, (hD k (.inr ⟨i, cs, d', hk⟩)).trans hk2, hb⟩
  ·rintro ⟨hk, hb⟩
   exact ⟨fun k cs d' hk' => (hD k (.inr ⟨i, cs, d', hk'⟩)).trans (hk k cs d' hk'), hb⟩
 ·rw [hD i (.inl ⟨t, z, d, hi⟩)] at h1
  rw [hD j (.inl ⟨t', z', d', hj⟩)] at h2
  exact h.ne i j t z d t' z' d' hi hj h1 h2 hne
structure TabSpec (ops : Array Oper) (U : List (Ent X)) : Prop where
 len : U.length = ops.size
 guard : ∀ (i : Nat) (o : Oper), ops[i]? = some o → o.guard = none
 dst : ∀ (i : Nat) (o : Oper) (e : Ent X), ops[i]? = some o → U[i]? = some e → o.dst = e.d
 back : ∀ i k, k ∈ waitsOn ops i → k < i
 sel : ∀ (i : Nat) (o : Oper), ops[i]? = some o → ∀ cs b, o.op ≠ .select cs b
 look : ∀ (i : Nat) (o : Oper) (k : Nat) (e : Ent X) (s : Nat), ops[i]? = some o → U[k]? = some e → e.d = some s → s ∈ o.looksAt ops → k ∈ waitsOn ops i
 uniq : ∀ (p q : Nat) (e e' : Ent X) (s : Nat), U[p]? = some e → U[q]? = some e' → e.d = some s → e'.d = some s → p = q
end
end
end Go.Proofs.YtmelepohdbojlaaGreat
