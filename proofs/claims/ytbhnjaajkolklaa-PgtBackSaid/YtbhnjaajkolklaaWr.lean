/- Walks, plainly: hits, faults, what one stage makes of a page. The engine: a function with a loop behind which more follows that hangs on where it stood. The engine: a rest; small lemmas of walks. The reference's Table and Walk: contracts. -/
import Derived.Test.YtbhnjaajkolklaaOwnL
import Derived.Test.YtbhnjaajkolklaaEw
import Derived.Test.YtbhnjaajkolklaaEo
import Derived.Test.YtbhnjaajkolklaaDg
import Derived.Test.YtbhnjaajkolklaaOwn
import Derived.Test.YtbhnjaajkolklaaDj
import Derived.Test.YtbhnjaajkolklaaDy
import Derived.Test.YtbhnjaajkolklaaSt
import Derived.Test.YtbhnjaajkolklaaMemA
import Derived.Test.YtbhnjaajkolklaaEj
import Derived.Test.YtbhnjaajkolklaaEt
set_option linter.all false
namespace Go.Proofs.Ytbhnjaajkolklaa
section
open Go.RowKit

/-- What may be done. -/
structure Atr where
  r : Bool
  w : Bool
  x : Bool
  a : Bool
  n : Bool
  s : Int
deriving DecidableEq
/-- A page that was translated. -/
structure Hit where
  f : Int
  m : Int
  t : Atr
  l : Int
deriving DecidableEq
def atr0 : Atr := ⟨false, false, false, false, false, 0⟩
def hit0 : Hit := ⟨0, 0, atr0, 0⟩
def hitV (h : Hit) : Value := .agg #[.int .i64 h.f, .int .i64 h.m, .bool h.t.r, .bool h.t.w, .bool h.t.x, .bool h.t.a, .bool h.t.n, .int .i64 h.t.s, .int .i64 h.l]
def eqA (a b : Atr) : Bool := decide (a = b)
def idxI (lv p : Int) : Int := p / cov lv % 8
/-- The descriptor of a page, in a table that is there. -/
def tblD (X : Nat → BitVec 64) (st lv fr pg : Int) : Dsc := ofD st lv (X (fr * 8 + idxI lv pg).toNat)
/-- What descriptors are: kinds, frames. -/
theorem of_kind (st lv : Int) (v : BitVec 64) : (ofD st lv v).k = 0 ∨ ((ofD st lv v).k = 1 ∧ lv ≠ 3) ∨ (ofD st lv v).k = 2 := by
  unfold ofD
  split
  · rename_i h
    have hm := h.1
    unfold mayD at hm
    by_cases h0 : (readD st lv v).k = 0
    · exact .inl h0
    · rw [if_neg h0] at hm
      by_cases h1 : (readD st lv v).k = 1
      · rw [if_pos h1] at hm
        refine .inr (.inl ⟨h1, ?_⟩)
        unfold tableD at hm
        simp only [Bool.and_eq_true, decide_eq_true_eq] at hm
        exact hm.2.1
      · rw [if_neg h1] at hm
        by_cases h2 : (readD st lv v).k = 2
        · exact .inr (.inr h2)
        · rw [if_neg h2] at hm; cases hm
  · exact .inl rfl
theorem of_frame (st lv : Int) (v : BitVec 64) : 0 ≤ (ofD st lv v).f ∧ (ofD st lv v).f ≤ 4095 := by
  have hk := of_cases st lv v
  rcases hk with h | ⟨h, _⟩
  · rw [h]; exact ⟨by decide, by decide⟩
  · generalize ofD st lv v = d at h
    unfold mayD at h
    by_cases h0 : d.k = 0
    · rw [if_pos h0] at h
      unfold noneD at h
      simp only [Bool.and_eq_true, eqD_iff] at h
      rw [h.1]
      exact ⟨Int.le_refl 0, show (0 : Int) ≤ 4095 by decide⟩
    · rw [if_neg h0] at h
      by_cases h1 : d.k = 1
      · rw [if_pos h1] at h
        unfold tableD at h
        simp only [Bool.and_eq_true, numB_iff] at h
        exact h.2.2
      · rw [if_neg h1] at h
        by_cases h2 : d.k = 2
        · rw [if_pos h2] at h
          unfold leafD at h
          simp only [Bool.and_eq_true, numB_iff] at h
          exact h.2.2.1
        · rw [if_neg h2] at h; cases h
theorem idx_lo (lv p : Int) : 0 ≤ idxI lv p ∧ idxI lv p ≤ 7 := by unfold idxI; omega
theorem tbl_kind (X : Nat → BitVec 64) (st lv fr pg : Int) : (tblD X st lv fr pg).k = 0 ∨ ((tblD X st lv fr pg).k = 1 ∧ lv ≠ 3) ∨ (tblD X st lv fr pg).k = 2 := of_kind _ _ _
theorem tbl_frame (X : Nat → BitVec 64) (st lv fr pg : Int) : 0 ≤ (tblD X st lv fr pg).f ∧ (tblD X st lv fr pg).f ≤ 4095 := of_frame _ _ _
section
variable {N : Int} {T : Int → Int → Dsc} {st pg : Int} {n : Nat} {lv fr : Int} {R : List Int}
end
end
section
open Go.ChangeShapes Go.WideShapes Go.ChangeAt Go.RowKit Go.Deep

/-- What is left to be done, by its text. -/
theorem wpI_ex {P : Program} (hm : P.follows .mixedOrders = true) {n : Nat} (fn : Func) (k : List Itm) {a : Act} {w w0 : World} {R : Ending → World → Prop} {J Q : Exit → Act → World → Prop} {ft : List Nat} (T0 : Sl) (h0 : List Bx) (hs : Hs)
    (hT : Has n T0 a) (hF : Fits ft w0 h0 w) (hh : hs.Ok n P fn ft w0 R J) (hQr : ∀ a w, bodyPost P fn R .ret a w → Q .ret a w) (hQj : ∀ e a w, J (exitOf e) a w → Q (exitOf e) a w)
    (hg : ∀ E : Sup, fstC (exRun n P fn false E 1000 k T0 h0 h0.length hs) = sndC (exRun n P fn false E 1000 k T0 h0 h0.length hs)) : wpI P Q k .normal a w :=
  exRun_sound hm (top := false) hQr (fun h => by cases h) hQj 1000 k h0.length (fun _ => (0, none)) hs a w (fun E _ => ⟨T0, h0, hT, hF, Goods.of (hg E)⟩) hh
def popD (id : Nat) (k : List Itm) : List Itm := (popTo id k).getD []
/-- A loop, and what is left to be done behind it. -/
theorem wp_lp {P : Program} {B : Code} {ks : List Itm} {X : Type} {Q : Exit → Act → World → Prop} {a : Act} {w : World} (I : X → Act → World → Prop) (μ : X → Nat) (x0 : X) (h0 : I x0 a w)
    (round : ∀ x a w, I x a w → B.wp P (fun e a' w' => match e with | .normal => ∃ x', I x' a' w' ∧ μ x' < μ x | e => wpI P Q ks e a' w') a w) : wpI P Q (.code (.loop B) :: ks) .normal a w :=
  wp_loop_ex I μ x0 h0 fun x a w hI => wp_mono (round x a w hI) fun e a w h => by cases e <;> exact h
end
section
open Go.ChangeShapes Go.WideShapes Go.ChangeAt Go.RowKit Go.Deep

def dscC (d : Dsc) : List Value := [.int .i64 d.k, .int .i64 d.f, .bool d.r, .bool d.w, .bool d.x, .bool d.a, .bool d.n, .int .i64 d.s, .int .i64 d.o]
theorem CellsAt.keep0 {w W : World} {f : Option Addr} {l : Nat} {V : Nat → Value} (h : CellsAt w f l V) (hk : Keep [] w W) : CellsAt W f l V := fun j hj => by
  obtain ⟨b1, o1, rfl, hc⟩ := h j hj
  exact ⟨b1, o1, rfl, (World.cell?_of_block (w := w) (a := ⟨b1, o1 + j, none⟩) (hk.block b1 (cell_block hc) (by simp))).trans hc⟩
end
section
open Go.ChangeShapes Go.WideShapes Go.ChangeAt Go.RowKit Go.Deep

end
end Go.Proofs.Ytbhnjaajkolklaa
