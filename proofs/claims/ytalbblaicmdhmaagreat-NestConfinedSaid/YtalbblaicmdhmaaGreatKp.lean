/- What a call leaves alone that writes one block of its caller's. -/
import Derived.Test.YtalbblaicmdhmaaGreatBx
set_option linter.all false
namespace Go.Proofs.YtalbblaicmdhmaaGreat
open Go.ChangeShapes Go.WideShapes Go.ChangeAt Go.RowKit Go.Deep

/-- What a call leaves alone that writes one block of its caller's and makes memory. -/
structure Kept (tb B : Nat) (w w' : World) : Prop where
  below : Below tb w w'
  block : ∀ k, k < B → k ≠ tb → w'.heap[k]? = w.heap[k]?
theorem Kept.of {tb B : Nat} {w w' : World} (h : Below B w w') (hb : tb ≤ B) : Kept tb B w w' := ⟨h.mono hb, fun k hk _ => h.block k hk⟩
theorem Kept.trans {tb B : Nat} {a b c : World} (h : Kept tb B a b) (k : Kept tb B b c) : Kept tb B a c :=
  ⟨h.below.trans k.below, fun i hi hn => (k.block i hi hn).trans (h.block i hi hn)⟩
theorem Kept.mono {tb B B' : Nat} {a b : World} (h : Kept tb B a b) (hb : B' ≤ B) : Kept tb B' a b := ⟨h.below, fun i hi hn => h.block i (by omega) hn⟩
theorem Kept.step {tb B : Nat} {a b c : World} (h : Kept tb B a b) (k : Below b.heap.size b c) (hb : B ≤ b.heap.size) (ht : tb ≤ b.heap.size) : Kept tb B a c :=
  ⟨h.below.trans (k.mono ht), fun i hi hn => (k.block i (by omega)).trans (h.block i hi hn)⟩
theorem Kept.set {tb B : Nat} {a b : World} (h : Kept tb B a b) (o : Nat) (v : Value) : Kept tb B a (b.setCell ⟨tb, o, none⟩ v) :=
  ⟨h.below.setCell (Nat.le_refl _) v, fun i hi hn => (Below.heap_setCell b ⟨tb, o, none⟩ v i hn).trans (h.block i hi hn)⟩
theorem Kept.high {tb B : Nat} {a b : World} (h : Kept tb B a b) (p : Addr) (v : Value) (hB : B ≤ p.block) (ht : tb ≤ p.block) : Kept tb B a (b.setCell p v) :=
  ⟨h.below.setCell ht v, fun i hi hn => (Below.heap_setCell b p v i (by omega)).trans (h.block i hi hn)⟩
theorem Kept.box {tb B : Nat} {a b : World} (h : Kept tb B a b) {k : Nat} {cs : Array Value} {t : TypeId} (hx : BoxAt a k cs t) (hk : k < B) (hn : k ≠ tb) : BoxAt b k cs t := ⟨(h.block k hk hn).trans hx.h⟩
theorem Kept.under {tb B b0 : Nat} {w0 a b : World} (h : Kept tb B a b) (hx : Below b0 w0 a) (hb : b0 ≤ tb) : Below b0 w0 b := hx.trans (h.below.mono hb)
end Go.Proofs.YtalbblaicmdhmaaGreat
