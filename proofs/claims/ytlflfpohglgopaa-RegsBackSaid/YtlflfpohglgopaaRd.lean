/- Package root and its reference: contracts. -/
import Derived.Test.YtlflfpohglgopaaRc
set_option linter.all false
namespace Go.Proofs.Ytlflfpohglgopaa
open Go.ChangeShapes Go.WideShapes Go.ChangeAt Go.RowKit Go.Deep

theorem kc_below {w w' : World} (hb : Below w.heap.size w w') {b o : Nat} {x : Value} (hc : w.cell? ⟨b, o, none⟩ = some x) : w'.cell? ⟨b, o, none⟩ = some x :=
  (hb.cell (p := ⟨b, o, none⟩) (cell_block hc)).trans hc
theorem kc_alloc {w : World} {b o : Nat} {x : Value} (h : w.cell? ⟨b, o, none⟩ = some x) (ob : Obj) : (w.alloc ob).cell? ⟨b, o, none⟩ = some x := kc_below (bel_alloc (Below.refl _ _) ob) h
theorem kc_drew {w : World} {b o : Nat} {x : Value} (h : w.cell? ⟨b, o, none⟩ = some x) : w.drew.cell? ⟨b, o, none⟩ = some x := h

/-- Join, of a row that was just made. -/
theorem join_new (L : List Fld) (n : Nat) (cs : Array Value) (W : World) (hn : L.length = n) (hl : n ≤ 100) (hc : cs.toList = cellsL L) (hs : SmallL L) (q : BitVec 64) (hq : (joinL L).2.1 = q) (z : Int) (hz : (joinL L).2.2 = z) :
    Calls Try.prog 53 #[.slice (some ⟨W.heap.size, 0, none⟩) n n] (W.alloc (.cells cs 72)) fun e w' => e = .returned (.tuple #[.int .u64 (u q), .int .i64 z]) ∧ Below W.heap.size W w' := by
  subst hq hz hn
  refine (join_any (some ⟨W.heap.size, 0, none⟩) L.length L.length (nth L) _ (by omega) ((OwnL.made W W.heap.size L.length L cs (Nat.le_refl _) rfl hl hc).flds hs)).mono ?_
  rintro e w' ⟨rfl, hb⟩
  exact ⟨rfl, bel_trans (bel_alloc (Below.refl _ _) _) hb⟩
theorem rjoin_new (L : List Fld) (n : Nat) (cs : Array Value) (W : World) (hn : L.length = n) (hl : n ≤ 100) (hc : cs.toList = cellsL L) (hs : SmallL L) (q : BitVec 64 × BitVec 64 × Int) (hq : joinL L = q) :
    Calls Try.prog 32 #[.slice (some ⟨W.heap.size, 0, none⟩) n n] (W.alloc (.cells cs 72)) fun e w' => e = .returned (.tuple #[.int .u64 (u q.2.1), .int .u64 (u q.1), .int .i64 q.2.2]) ∧ Below W.heap.size W w' := by
  subst hq hn
  refine (rjoin_any (some ⟨W.heap.size, 0, none⟩) L.length L.length (nth L) _ (by omega) ((OwnL.made W W.heap.size L.length L cs (Nat.le_refl _) rfl hl hc).flds hs)).mono ?_
  rintro e w' ⟨rfl, hb⟩
  exact ⟨rfl, bel_trans (bel_alloc (Below.refl _ _) _) hb⟩

set_option maxRecDepth 100000 in
theorem swordR_any (o : Bool) (f t : Int) (w : World) :
    Calls Try.prog 52 #[.agg #[.bool o, .int .i64 f, .int .i64 t]] w fun e w' => e = .returned (.int .u64 (u (wordT ⟨o, f, t⟩))) ∧ Below w.heap.size w w' := by
  have HS := Lib.hid (rootL_small ⟨o, f, t⟩)
  have hq : (joinL (rootL ⟨o, f, t⟩)).2.1 = wordT ⟨o, f, t⟩ := rfl
  have HQ := Lib.hid hq
  clear hq
  generalize wordT ⟨o, f, t⟩ = q at *
  have hv : IntKind.u64.wrap f = u (numFl 12 12 f).v := u_conv f
  have hv2 : IntKind.u64.wrap t = u (numFl 48 4 t).v := u_conv t
  have X0 := BoxAt.new w #[.bool o, .int .i64 f, .int .i64 t] 90
  have x0 := X0.get 0 (.bool o) rfl
  have x1 := X0.get 1 (.int .i64 f) rfl
  have x2 := X0.get 2 (.int .i64 t) rfl
  clear X0
  go_enter Try.func52, Try.ntmps52
  go_wp2
  go_region_held3 (fun w' => w'.cell? ⟨w.heap.size, 0, none⟩ = some (.bool o) ∧ w'.cell? ⟨w.heap.size, 1, none⟩ = some (.int .i64 f) ∧ w'.cell? ⟨w.heap.size, 2, none⟩ = some (.int .i64 t))
    (first | go_keep | (refine ⟨?_, ?_, ?_⟩ <;> (repeat (first | with_reducible assumption | with_reducible refine kc_alloc ?_ _ | with_reducible refine kc_drew ?_ | (refine kc_below (by assumption) ?_)))))
    (first
      | (go_at_call 54; refine (on_any o f t _).mono ?_; rintro e w1 ⟨rfl, hb1⟩)
      | (go_at_call 53; refine (join_new (rootL ⟨o, f, t⟩) 3 _ _ rfl (by decide) rfl HS.out q HQ.out _ rfl).mono ?_; rintro e w2 ⟨rfl, hb2⟩))
  go_wp2
  go_ret
  exact ⟨rfl, bel_trans (bel_trans (Below.drew (bel_alloc (Below.refl w.heap.size w) _)) hb1) hb2⟩
set_option maxRecDepth 100000 in
theorem rrootWord_any (o : Bool) (f t : Int) (w : World) :
    Calls Try.prog 21 #[.agg #[.bool o, .int .i64 f, .int .i64 t]] w fun e w' => e = .returned (.int .u64 (u (wordT ⟨o, f, t⟩))) ∧ Below w.heap.size w w' := by
  have HS := Lib.hid (rootL_small ⟨o, f, t⟩)
  have hq : (joinL (rootL ⟨o, f, t⟩)).2.1 = wordT ⟨o, f, t⟩ := rfl
  rw [← hq]
  clear hq
  obtain ⟨q, hq⟩ : ∃ q, joinL (rootL ⟨o, f, t⟩) = q := ⟨_, rfl⟩
  rw [hq]
  have HQ := Lib.hid hq
  clear hq
  have hv : IntKind.u64.wrap f = u (numFl 12 12 f).v := u_conv f
  have hv2 : IntKind.u64.wrap t = u (numFl 48 4 t).v := u_conv t
  have X0 := BoxAt.new w #[.bool o, .int .i64 f, .int .i64 t] 42
  have x0 := X0.get 0 (.bool o) rfl
  have x1 := X0.get 1 (.int .i64 f) rfl
  have x2 := X0.get 2 (.int .i64 t) rfl
  clear X0
  go_enter Try.func21, Try.ntmps21
  go_wp2
  go_region_held3 (fun w' => w'.cell? ⟨w.heap.size, 0, none⟩ = some (.bool o) ∧ w'.cell? ⟨w.heap.size, 1, none⟩ = some (.int .i64 f) ∧ w'.cell? ⟨w.heap.size, 2, none⟩ = some (.int .i64 t))
    (first | go_keep | (refine ⟨?_, ?_, ?_⟩ <;> (repeat (first | with_reducible assumption | with_reducible refine kc_alloc ?_ _ | with_reducible refine kc_drew ?_ | (refine kc_below (by assumption) ?_)))))
    (first
      | (go_at_call 33; refine (bit_any _ o _).mono ?_; rintro e w1 ⟨rfl, hb1⟩)
      | (go_at_call 32; refine (rjoin_new (rootL ⟨o, f, t⟩) 3 _ _ rfl (by decide) rfl HS.out q HQ.out).mono ?_; rintro e w2 ⟨rfl, hb2⟩))
  go_wp2
  go_ret
  exact ⟨rfl, bel_trans (bel_trans (Below.drew (bel_alloc (Below.refl w.heap.size w) _)) hb1) hb2⟩

set_option maxRecDepth 100000 in
theorem wholeR_any (o : Bool) (f t : Int) (v : BitVec 64) (w : World) :
    Calls Try.prog 45 #[.agg #[.bool o, .int .i64 f, .int .i64 t, .int .u64 (u v)]] w fun e w' => e = .returned (.bool (decide (wordT ⟨o, f, t⟩ = v))) ∧ Below w.heap.size w w' := by
  have HW := Lib.hid (fun W => swordR_any o f t W)
  generalize wordT ⟨o, f, t⟩ = q at *
  rw [← u_beq]
  have X0 := BoxAt.new w #[.bool o, .int .i64 f, .int .i64 t, .int .u64 (u v)] 92
  have x0 := X0.get 0 (.bool o) rfl
  have x1 := X0.get 1 (.int .i64 f) rfl
  have x2 := X0.get 2 (.int .i64 t) rfl
  have x3 := X0.get 3 (.int .u64 (u v)) rfl
  clear X0
  go_enter Try.func45, Try.ntmps45
  go_wp2
  go_region_held3 (fun w' => w'.cell? ⟨w.heap.size, 0, none⟩ = some (.bool o) ∧ w'.cell? ⟨w.heap.size, 1, none⟩ = some (.int .i64 f) ∧ w'.cell? ⟨w.heap.size, 2, none⟩ = some (.int .i64 t) ∧ w'.cell? ⟨w.heap.size, 3, none⟩ = some (.int .u64 (u v)))
    (first | go_keep | (refine ⟨?_, ?_, ?_, ?_⟩ <;> (repeat (first | with_reducible assumption | with_reducible refine kc_alloc ?_ _ | with_reducible refine kc_drew ?_ | (refine kc_below (by assumption) ?_)))))
    ((go_at_call 52; refine (HW.out _).mono ?_; rintro e w1 ⟨rfl, hb1⟩))
  go_wp2
  go_ret
  exact ⟨rfl, bel_trans (Below.drew (bel_alloc (Below.refl w.heap.size w) _)) hb1⟩

end Go.Proofs.Ytlflfpohglgopaa
