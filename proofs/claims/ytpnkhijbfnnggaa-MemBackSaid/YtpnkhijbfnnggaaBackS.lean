/- What MemBack keeps in memory. -/
import Derived.Test.YtpnkhijbfnnggaaBytes
import Derived.Test.YtpnkhijbfnnggaaHeavy
import Derived.Deep.DeepCutAuto
import Derived.Deep.CutBlock
namespace Go.Proofs.Ytpnkhijbfnnggaa
open Go.ChangeShapes Go.WideShapes Go.ChangeAt Go.RowKit Go.Deep

/-- 192 noughts. -/
def zb : Array Value := Array.replicate 192 (.int .u8 0)
theorem zb_get (j : Nat) (h : j < 192) : zb[j]? = some (.int .u8 0) := by unfold zb; simp [h]
theorem zero_arr (w : World) : (zeroValue 60).run Try.prog w = .ok (.agg zb) w := by kernel_rfl

structure Bk (W w0 : World) (bm bb : Nat) (p1 vm : Value) (C : Nat → Int) : Prop where
  below : Below w0.heap.size w0 W
  lo : w0.heap.size < bm
  hi : bm < bb
  p1 : Loc W w0.heap.size 1 p1
  m : Loc W bm 0 vm
  bys : ∀ j, j < 192 → Loc W bb j (.int .u8 (C j))
section
variable {W W' w0 : World} {bm bb : Nat} {p1 vm : Value} {C : Nat → Int}
theorem Bk.call (h : Bk W w0 bm bb p1 vm C) (hb : Below W.heap.size W W') : Bk W' w0 bm bb p1 vm C :=
  ⟨bel_trans h.below hb, h.lo, h.hi, h.p1.below hb, h.m.below hb, fun j hj => (h.bys j hj).below hb⟩
theorem Bk.setM (h : Bk W w0 bm bb p1 vm C) (v : Value) : Bk (W.setCell ⟨bm, 0, none⟩ v) w0 bm bb p1 v C := by
  have h1 := h.lo
  have h2 := h.hi
  exact ⟨h.below.setCell (by simp only; omega) v, h.lo, h.hi, h.p1.set _ _ _ (by omega), h.m.put _, fun j hj => (h.bys j hj).set _ _ _ (by omega)⟩
theorem Bk.setB (h : Bk W w0 bm bb p1 vm C) (i : Nat) (hi : i < 192) (y : Int) : Bk (W.setCell ⟨bb, i, none⟩ (.int .u8 y)) w0 bm bb p1 vm (fun j => if j = i then y else C j) := by
  have h1 := h.lo
  have h2 := h.hi
  refine ⟨h.below.setCell (by simp only; omega) _, h.lo, h.hi, h.p1.set _ _ _ (by omega), h.m.set _ _ _ (by omega), fun j hj => ?_⟩
  by_cases hji : j = i
  · subst hji
    rw [if_pos rfl]
    exact (h.bys j hj).put _
  · rw [if_neg hji]
    have hb := h.bys j hj
    exact ⟨(World.cell?_setCell_other W ⟨bb, i, none⟩ ⟨bb, j, none⟩ _ (fun e => hji (by injection e with e1 e2; exact e2.symm))).trans hb.cell, by rw [World.frozen?_setCell]; exact hb.free⟩
theorem Bk.congr {D : Nat → Int} (h : Bk W w0 bm bb p1 vm C) (hc : ∀ j, j < 192 → C j = D j) : Bk W w0 bm bb p1 vm D :=
  ⟨h.below, h.lo, h.hi, h.p1, h.m, fun j hj => by rw [← hc j hj]; exact h.bys j hj⟩
end
theorem CellsAt.set {w : World} {f : Option Addr} {l : Nat} {C : Nat → Value} (h : CellsAt w f l C) (b o : Nat) (y : Value) (hne : ∀ a, f = some a → a.block ≠ b) : CellsAt (w.setCell ⟨b, o, none⟩ y) f l C := by
  intro j hj
  obtain ⟨b', o', hf, hc⟩ := h j hj
  exact ⟨b', o', hf, cell_set y (show b' ≠ b from hne ⟨b', o', none⟩ hf) hc⟩
theorem mayE_ok (b s : Int) (hs : s = 1 ∨ s = 2 ∨ s = 4 ∨ s = 8) (h0 : 0 ≤ b) (h1 : b + s ≤ 192) (hm : b % s = 0) : mayE 24 b s = 0 := by
  have e : okS s = true := decide_eq_true hs
  unfold mayE
  rw [if_neg (by simp [e]), if_neg (by omega), if_neg (fun h => h hm)]
/-- A memory's bytes. -/
def bysV (M : Nat → BitVec 64) : Nat → Int := fun j => u (rdV M (j : Int) 1)
/-- The bytes while a number is written. -/
def midB (M : Nat → BitVec 64) (a : Int) (v : BitVec 64) (k : Nat) : Nat → Int := fun j => if a ≤ j ∧ (j : Int) < a + k then u (byV v (j - a.toNat)) else u (rdV M j 1)
theorem midB_zero (M : Nat → BitVec 64) (a : Int) (v : BitVec 64) : midB M a v 0 = bysV M := by
  funext j; unfold midB bysV; rw [if_neg (by omega)]
theorem midB_succ (M : Nat → BitVec 64) (a : Int) (v : BitVec 64) (k : Nat) (ha : 0 ≤ a) : (fun j => if j = a.toNat + k then u (byV v k) else midB M a v k j) = midB M a v (k + 1) := by
  funext j
  unfold midB
  by_cases h : j = a.toNat + k
  · rw [if_pos h, if_pos (by omega), show j - a.toNat = k from by omega]
  · rw [if_neg h]
    by_cases h2 : a ≤ j ∧ (j : Int) < a + k
    · rw [if_pos h2, if_pos (by omega)]
    · rw [if_neg h2, if_neg (by omega)]
theorem midB_done (M : Nat → BitVec 64) (a s : Int) (v : BitVec 64) (ha : 0 ≤ a) (hs : okS s = true) (hm : a % s = 0) : midB M a v s.toNat = bysV (wrV M a s v) := by
  have hs1 := okS_true hs
  funext j
  unfold midB bysV
  rw [rd_wr M a s v j ha hs hm]
  by_cases h : a ≤ j ∧ (j : Int) < a + s
  · rw [if_pos h, if_pos (by omega)]
  · rw [if_neg h, if_neg (by omega)]
end Go.Proofs.Ytpnkhijbfnnggaa
