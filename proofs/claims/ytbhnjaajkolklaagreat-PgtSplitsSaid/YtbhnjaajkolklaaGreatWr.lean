/- Walks, plainly: hits, faults, what one stage makes of a page. The engine: a rest; small lemmas of walks. The engine: a function with a loop behind which more follows that hangs on where it stood. The reference's Table and Walk: contracts. -/
import Derived.Test.YtbhnjaajkolklaaGreatOwnL
import Derived.Test.YtbhnjaajkolklaaGreatEo
import Derived.Test.YtbhnjaajkolklaaGreatDg
import Derived.Test.YtbhnjaajkolklaaGreatOwn
import Derived.Test.YtbhnjaajkolklaaGreatEw
import Derived.Test.YtbhnjaajkolklaaGreatDj
import Derived.Test.YtbhnjaajkolklaaGreatDy
import Derived.Test.YtbhnjaajkolklaaGreatSt
import Derived.Test.YtbhnjaajkolklaaGreatMemA
import Derived.Test.YtbhnjaajkolklaaGreatEj
import Derived.Test.YtbhnjaajkolklaaGreatFb
set_option linter.all false
namespace Go.Proofs.YtbhnjaajkolklaaGreat
section
open Go.RowKit

/-- What may be done. -/
structure Atr where
  r : Bool
  w : Bool
  x : Bool
  a : Bool
  n : Bool
  s : Int
deriving DecidableEq
/-- A page that was translated. -/
structure Hit where
  f : Int
  m : Int
  t : Atr
  l : Int
deriving DecidableEq
def atr0 : Atr := ⟨false, false, false, false, false, 0⟩
def hit0 : Hit := ⟨0, 0, atr0, 0⟩
def hitV (h : Hit) : Value := .agg #[.int .i64 h.f, .int .i64 h.m, .bool h.t.r, .bool h.t.w, .bool h.t.x, .bool h.t.a, .bool h.t.n, .int .i64 h.t.s, .int .i64 h.l]
def eqA (a b : Atr) : Bool := decide (a = b)
def idxI (lv p : Int) : Int := p / cov lv % 8
/-- The descriptor of a page, in a table that is there. -/
def tblD (X : Nat → BitVec 64) (st lv fr pg : Int) : Dsc := ofD st lv (X (fr * 8 + idxI lv pg).toNat)
/-- What descriptors are: kinds, frames. -/
theorem of_kind (st lv : Int) (v : BitVec 64) : (ofD st lv v).k = 0 ∨ ((ofD st lv v).k = 1 ∧ lv ≠ 3) ∨ (ofD st lv v).k = 2 := by
  unfold ofD
  split
  · rename_i h
    have hm := h.1
    unfold mayD at hm
    by_cases h0 : (readD st lv v).k = 0
    · exact .inl h0
    · rw [if_neg h0] at hm
      by_cases h1 : (readD st lv v).k = 1
      · rw [if_pos h1] at hm
        refine .inr (.inl ⟨h1, ?_⟩)
        unfold tableD at hm
        simp only [Bool.and_eq_true, decide_eq_true_eq] at hm
        exact hm.2.1
      · rw [if_neg h1] at hm
        by_cases h2 : (readD st lv v).k = 2
        · exact .inr (.inr h2)
        · rw [if_neg h2] at hm; cases hm
  · exact .inl rfl
theorem of_frame (st lv : Int) (v : BitVec 64) : 0 ≤ (ofD st lv v).f ∧ (ofD st lv v).f ≤ 4095 := by
  have hk := of_cases st lv v
  rcases hk with h | ⟨h, _⟩
  · rw [h]; exact ⟨by decide, by decide⟩
  · generalize ofD st lv v = d at h
    unfold mayD at h
    by_cases h0 : d.k = 0
    · rw [if_pos h0] at h
      unfold noneD at h
      simp only [Bool.and_eq_true, eqD_iff] at h
      rw [h.1]
      exact ⟨Int.le_refl 0, show (0 : Int) ≤ 4095 by decide⟩
    · rw [if_neg h0] at h
      by_cases h1 : d.k = 1
      · rw [if_pos h1] at h
        unfold tableD at h
        simp only [Bool.and_eq_true, numB_iff] at h
        exact h.2.2
      · rw [if_neg h1] at h
        by_cases h2 : d.k = 2
        · rw [if_pos h2] at h
          unfold leafD at h
          simp only [Bool.and_eq_true, numB_iff] at h
          exact h.2.2.1
        · rw [if_neg h2] at h; cases h
theorem idx_lo (lv p : Int) : 0 ≤ idxI lv p ∧ idxI lv p ≤ 7 := by unfold idxI; omega
theorem tbl_kind (X : Nat → BitVec 64) (st lv fr pg : Int) : (tblD X st lv fr pg).k = 0 ∨ ((tblD X st lv fr pg).k = 1 ∧ lv ≠ 3) ∨ (tblD X st lv fr pg).k = 2 := of_kind _ _ _
theorem tbl_frame (X : Nat → BitVec 64) (st lv fr pg : Int) : 0 ≤ (tblD X st lv fr pg).f ∧ (tblD X st lv fr pg).f ≤ 4095 := of_frame _ _ _
section
variable {N : Int} {T : Int → Int → Dsc} {st pg : Int} {n : Nat} {lv fr : Int} {R : List Int}
end
end
section
open Go.ChangeShapes Go.WideShapes Go.ChangeAt Go.RowKit Go.Deep

def dscC (d : Dsc) : List Value := [.int .i64 d.k, .int .i64 d.f, .bool d.r, .bool d.w, .bool d.x, .bool d.a, .bool d.n, .int .i64 d.s, .int .i64 d.o]
theorem CellsAt.keep0 {w W : World} {f : Option Addr} {l : Nat} {V : Nat → Value} (h : CellsAt w f l V) (hk : Keep [] w W) : CellsAt W f l V := fun j hj => by
  obtain ⟨b1, o1, rfl, hc⟩ := h j hj
  exact ⟨b1, o1, rfl, (World.cell?_of_block (w := w) (a := ⟨b1, o1 + j, none⟩) (hk.block b1 (cell_block hc) (by simp))).trans hc⟩
end
section
open Go.ChangeShapes Go.WideShapes Go.ChangeAt Go.RowKit Go.Deep

/-- What is left to be done, by its text. -/
theorem wpI_ex {P : Program} (hm : P.follows .mixedOrders = true) {n : Nat} (fn : Func) (k : List Itm) {a : Act} {w w0 : World} {R : Ending → World → Prop} {J Q : Exit → Act → World → Prop} {ft : List Nat} (T0 : Sl) (h0 : List Bx) (hs : Hs)
    (hT : Has n T0 a) (hF : Fits ft w0 h0 w) (hh : hs.Ok n P fn ft w0 R J) (hQr : ∀ a w, bodyPost P fn R .ret a w → Q .ret a w) (hQj : ∀ e a w, J (exitOf e) a w → Q (exitOf e) a w)
    (hg : ∀ E : Sup, fstC (exRun n P fn false E 1000 k T0 h0 h0.length hs) = sndC (exRun n P fn false E 1000 k T0 h0 h0.length hs)) : wpI P Q k .normal a w :=
  exRun_sound hm (top := false) hQr (fun h => by cases h) hQj 1000 k h0.length (fun _ => (0, none)) hs a w (fun E _ => ⟨T0, h0, hT, hF, Goods.of (hg E)⟩) hh
def popD (id : Nat) (k : List Itm) : List Itm := (popTo id k).getD []
/-- A loop, and what is left to be done behind it. -/
theorem wp_lp {P : Program} {B : Code} {ks : List Itm} {X : Type} {Q : Exit → Act → World → Prop} {a : Act} {w : World} (I : X → Act → World → Prop) (μ : X → Nat) (x0 : X) (h0 : I x0 a w)
    (round : ∀ x a w, I x a w → B.wp P (fun e a' w' => match e with | .normal => ∃ x', I x' a' w' ∧ μ x' < μ x | e => wpI P Q ks e a' w') a w) : wpI P Q (.code (.loop B) :: ks) .normal a w :=
  wp_loop_ex I μ x0 h0 fun x a w hI => wp_mono (round x a w hI) fun e a w h => by cases e <;> exact h
end
section
open Go.ChangeShapes Go.WideShapes Go.ChangeAt Go.RowKit Go.Deep

set_option maxRecDepth 100000 in
set_option maxHeartbeats 800000 in
theorem tblR_any (f : Option Addr) (l c : Nat) (X : Nat → BitVec 64) (st lv fr pg : Int) (w : World) (hX : WordsAt w f l X) (hl : l ≤ 100000) (hp : placeB st lv = true) (p0 : 0 ≤ pg) (p1 : pg ≤ 4095) (f0 : 0 ≤ fr) (f1 : fr * 8 + 8 ≤ l) :
    Calls Tryz.prog 35 #[.agg #[.slice f l c], .int .i64 st, .int .i64 lv, .int .i64 fr, .int .i64 pg] w fun e w' => e = .returned (dscV (tblD X st lv fr pg)) ∧ Below w.heap.size w w' := by
  have hlv := (placeB_iff.1 hp).2
  have HI := Lib.hid (fun W => rindex_any lv pg W hlv.1 hlv.2 p0 p1)
  have HO := Lib.hid (fun v W => rof_any st lv v W hp)
  have hg : 0 ≤ idx lv pg ∧ idx lv pg ≤ 7 := idx_lo lv pg
  have ht : tblD X st lv fr pg = ofD st lv (X (fr * 8 + idx lv pg).toNat) := rfl
  rw [ht]
  clear ht hp hlv
  obtain ⟨b, o, rfl, hc0⟩ := hX (fr * 8 + idx lv pg).toNat (by omega)
  have hc : w.cell? ⟨b, o + (fr * 8 + idx lv pg).toNat, none⟩ = some (.int .u64 (u (X (fr * 8 + idx lv pg).toNat))) := hc0
  clear hc0
  have HV := Lib.hid (fun W => HO.out (X (fr * 8 + idx lv pg).toNat) W)
  clear HO
  generalize X (fr * 8 + idx lv pg).toNat = v at *
  generalize ofD st lv v = d at *
  generalize idx lv pg = g at *
  obtain ⟨g0, g1⟩ := hg
  have i1 : IntKind.i64.wrap (fr * 8) = fr * 8 := IntWalk.i64_in _ (by omega)
  have i2 : IntKind.i64.wrap (fr * 8 + g) = fr * 8 + g := IntWalk.i64_in _ (by omega)
  have i3 : 0 ≤ fr * 8 + g := by omega
  have i4 : fr * 8 + g < (l : Int) := by omega
  have j0 : 0 ≤ fr * 8 := by omega
  obtain ⟨j, hj⟩ : ∃ j, j = (fr * 8 + g).toNat := ⟨_, rfl⟩
  have i5 : (fr * 8 + g).toNat = j := hj.symm
  rw [i5] at hc
  clear hj p0 p1 f1 hX
  have hblt : b < w.heap.size := cell_block hc
  have hne : b ≠ w.heap.size + 1 := by omega
  have X0 := (BoxAt.new w #[.slice (some ⟨b, o, none⟩) l c] 24).alloc (.cells z9 37)
  have x0 := X0.get 0 (.slice (some ⟨b, o, none⟩) l c) rfl
  clear X0
  have Z0 := Lib.hid (BoxAt.drew (BoxAt.new (w.alloc (.cells #[.slice (some ⟨b, o, none⟩) l c] 24)) z9 37))
  rw [show (w.alloc (.cells #[.slice (some ⟨b, o, none⟩) l c] 24)).heap.size = w.heap.size + 1 from by simp] at Z0
  have hc1 := keepc (bel_alloc (bel_alloc (Below.refl w.heap.size w) (.cells #[.slice (some ⟨b, o, none⟩) l c] 24)) (.cells z9 37)) hc
  have B0 := Lib.hid (Below.drew (bel_alloc (bel_alloc (Below.refl w.heap.size w) (.cells #[.slice (some ⟨b, o, none⟩) l c] 24)) (.cells z9 37)))
  clear hc
  go_enter Tryz.func35, Tryz.ntmps35
  go_wp2
  go_region_held3 (fun w' => w'.cell? ⟨w.heap.size, 0, none⟩ = some (.slice (some ⟨b, o, none⟩) l c) ∧ w'.cell? ⟨b, o + j, none⟩ = some (.int .u64 (u v)))
    (refine ⟨?_, ?_⟩ <;> (repeat (first | with_reducible assumption | with_reducible refine cell_keep ?_ _ | with_reducible refine cell_drew ?_ | with_reducible refine cell_set _ hne ?_ | with_reducible refine cell_set _ (by omega) ?_ | (refine keepc hb2 ?_) | (refine keepc hb1 ?_))))
    (first
      | (go_at_call 38; refine (HI.out _).mono ?_; rintro e w1 ⟨rfl, hb1⟩; have Z1 := Lib.hid (Z0.out.below hb1); have B1 := Lib.hid (bel_trans B0.out hb1))
      | (go_at_call 61; refine (HV.out _).mono ?_; rintro e w2 ⟨rfl, hb2⟩; have Z2 := Z1.out.below hb2; have B2 := Lib.hid (bel_trans B1.out hb2);
          have z0 := Z2.get 0 (.int .i64 0) rfl; have z1 := Z2.get 1 (.int .i64 0) rfl; have z2 := Z2.get 2 (.bool false) rfl; have z3 := Z2.get 3 (.bool false) rfl; have z4 := Z2.get 4 (.bool false) rfl; have z5 := Z2.get 5 (.bool false) rfl; have z6 := Z2.get 6 (.bool false) rfl; have z7 := Z2.get 7 (.int .i64 0) rfl; have z8 := Z2.get 8 (.int .i64 0) rfl;
          have y0 := Z2.free 0; have y1 := Z2.free 1; have y2 := Z2.free 2; have y3 := Z2.free 3; have y4 := Z2.free 4; have y5 := Z2.free 5; have y6 := Z2.free 6; have y7 := Z2.free 7; have y8 := Z2.free 8; clear Z2; unfold dscV))
  go_wp2
  refine bodyPost_ret (v := .agg #[.int .i64 d.k, .int .i64 d.f, .bool d.r, .bool d.w, .bool d.x, .bool d.a, .bool d.n, .int .i64 d.s, .int .i64 d.o]) (by simp [results, Tryz.results35, go_sem, z0, z1, z2, z3, z4, z5, z6, z7, z8]) rfl ⟨rfl, ?_⟩
  repeat' (first | with_reducible exact B2.out | with_reducible refine Below.setCell ?_ (by first | (simp; done) | (simp; omega)) _)

theorem rframesB (f : Option Addr) (l c : Nat) (w : World) (hl : l ≤ 1000000000000000) :
    Calls Tryz.prog 60 #[.agg #[.slice f l c]] w fun e w' => e = .returned (.int .i64 ((l : Int) / 8)) ∧ Below w.heap.size w w' :=
  (rframes_any f l c w hl).mono fun _ _ h => ⟨h.1, by rw [h.2]; exact bel_alloc (Below.refl _ _) _⟩

end
end Go.Proofs.YtbhnjaajkolklaaGreat
