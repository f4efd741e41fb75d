/- Package root and its reference: contracts. -/
import Derived.Test.YtpelolokdmfbdaaRc
namespace Go.Proofs.Ytpelolokdmfbdaa
open Go.ChangeShapes Go.WideShapes Go.ChangeAt Go.RowKit Go.Deep

theorem kc_below {w w' : World} (hb : Below w.heap.size w w') {b o : Nat} {x : Value} (hc : w.cell? ⟨b, o, none⟩ = some x) : w'.cell? ⟨b, o, none⟩ = some x :=
  (hb.cell (p := ⟨b, o, none⟩) (cell_block hc)).trans hc
theorem kc_alloc {w : World} {b o : Nat} {x : Value} (h : w.cell? ⟨b, o, none⟩ = some x) (ob : Obj) : (w.alloc ob).cell? ⟨b, o, none⟩ = some x := kc_below (bel_alloc (Below.refl _ _) ob) h
theorem kc_drew {w : World} {b o : Nat} {x : Value} (h : w.cell? ⟨b, o, none⟩ = some x) : w.drew.cell? ⟨b, o, none⟩ = some x := h

/-- Join, of a row that was just made. -/
theorem join_new (L : List Fld) (n : Nat) (cs : Array Value) (W : World) (hn : L.length = n) (hl : n ≤ 100) (hc : cs.toList = cellsL L) (hs : SmallL L) (q : BitVec 64) (hq : (joinL L).2.1 = q) (z : Int) (hz : (joinL L).2.2 = z) :
    Calls Try.prog 24 #[.slice (some ⟨W.heap.size, 0, none⟩) n n] (W.alloc (.cells cs 50)) fun e w' => e = .returned (.tuple #[.int .u64 (u q), .int .i64 z]) ∧ Below W.heap.size W w' := by
  subst hq hz hn
  refine (join_any (some ⟨W.heap.size, 0, none⟩) L.length L.length (nth L) _ (by omega) ((OwnL.made W W.heap.size L.length L cs (Nat.le_refl _) rfl hl hc).flds hs)).mono ?_
  rintro e w' ⟨rfl, hb⟩
  exact ⟨rfl, bel_trans (bel_alloc (Below.refl _ _) _) hb⟩
theorem rjoin_new (L : List Fld) (n : Nat) (cs : Array Value) (W : World) (hn : L.length = n) (hl : n ≤ 100) (hc : cs.toList = cellsL L) (hs : SmallL L) (q : BitVec 64 × BitVec 64 × Int) (hq : joinL L = q) :
    Calls Try.prog 17 #[.slice (some ⟨W.heap.size, 0, none⟩) n n] (W.alloc (.cells cs 50)) fun e w' => e = .returned (.tuple #[.int .u64 (u q.2.1), .int .u64 (u q.1), .int .i64 q.2.2]) ∧ Below W.heap.size W w' := by
  subst hq hn
  refine (rjoin_any (some ⟨W.heap.size, 0, none⟩) L.length L.length (nth L) _ (by omega) ((OwnL.made W W.heap.size L.length L cs (Nat.le_refl _) rfl hl hc).flds hs)).mono ?_
  rintro e w' ⟨rfl, hb⟩
  exact ⟨rfl, bel_trans (bel_alloc (Below.refl _ _) _) hb⟩

end Go.Proofs.Ytpelolokdmfbdaa
