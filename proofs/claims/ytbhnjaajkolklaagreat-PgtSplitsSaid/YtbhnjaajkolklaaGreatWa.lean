/- Contracts: Read, New, Frame of package mem; Read of the reference. '==' of hits, faults and attributes. Stage 5: what the program's calls are held against; the law's small calls; its argument, opened. -/
import Derived.Test.YtbhnjaajkolklaaGreatMemC
import Derived.Test.YtbhnjaajkolklaaGreatWr
import Derived.Test.YtbhnjaajkolklaaGreatTk
import Derived.Laws.StructEq
import Derived.Test.YtbhnjaajkolklaaGreatSq
set_option linter.all false
namespace Go.Proofs.YtbhnjaajkolklaaGreat
section
open Go.ChangeShapes Go.WideShapes Go.ChangeAt Go.RowKit Go.Deep

theorem mayE_zero {l : Nat} {a s : Int} (h : mayM l a s = 0) : okS s = true ∧ 0 ≤ a ∧ a < 8 * (l : Int) ∧ a % s = 0 := by
  unfold mayM at h
  split at h
  · omega
  · split at h
    · omega
    · split at h
      · omega
      · rename_i h1 h2 h3
        refine ⟨by simpa using h1, by omega, by omega, by simpa using h3⟩

/-- The number at a place. -/
def rdV (X : Nat → BitVec 64) (a s : Int) : BitVec 64 := X (a / 8).toNat >>> (a % 8 * 8).toNat &&& msk (8 * s)

theorem read_ok (f : Option Addr) (l c : Nat) (X : Nat → BitVec 64) (a s : Int) (w : World) (hX : WordsAt w f l X) (hM : okM l = true) (hE : mayM l a s = 0) :
    Calls Tryz.prog 119 #[.agg #[.slice f l c], .int .i64 a, .int .i64 s] w fun e w' => e = .returned (.tuple #[.int .u64 (u (rdV X a s)), .int .i64 0]) ∧ Below w.heap.size w w' := by
  obtain ⟨hs, a0, a1, a2⟩ := mayE_zero hE
  obtain ⟨l1, l2, l3⟩ := okM_true hM
  have hs1 := okS_true hs
  obtain ⟨W, hW⟩ : ∃ W, W = ((w.alloc (.cells #[.slice f l c] 24)).alloc (.cells #[.slice f l c] 140)).alloc (.cells #[.int .i64 a, .int .i64 s] 165) := ⟨_, rfl⟩
  have hb1 : Below w.heap.size w W := by rw [hW]; exact bel_alloc (bel_alloc (bel_alloc (Below.refl w.heap.size w) _) _) _
  have L1 : Loc W (w.heap.size + 1) 0 (.slice f l c) := by rw [hW]; exact (Loc.new _ _ _ _ 0 _ (by simp) rfl).alloc _
  have L2 : Loc W (w.heap.size + 1 + 1) 0 (.int .i64 a) := by rw [hW]; exact Loc.new _ _ _ _ 0 _ (by simp) rfl
  have L3 : Loc W (w.heap.size + 1 + 1) 1 (.int .i64 s) := by rw [hW]; exact Loc.new _ _ _ _ 1 _ (by simp) rfl
  have H := allows_any f l c a s W
  rw [if_pos hM, hE] at H
  have HH := Lib.hid H
  have HX := Lib.hid (hX.below hb1)
  clear H hX
  go_enter Tryz.func119, Tryz.ntmps119
  go_wp2_with fail
  rw [← hW]
  refine HH.out.mono ?_
  rintro e w1 ⟨rfl, hb⟩
  have c1 := (L1.below hb).cell
  have c2 := (L2.below hb).cell
  have c3 := (L3.below hb).cell
  obtain ⟨b, o, rfl, hc⟩ := HX.out (a / 8).toNat (by omega)
  have c4 := keepc hb hc
  simp only at c4
  have HB := Lib.hid (bel_trans hb1 hb)
  have i1 : 0 ≤ a / 8 := by omega
  have i2 : a / 8 < (l : Int) := by omega
  clear hW hb hb1 L1 L2 L3 hc HH HX
  go_wp2_with fail
  go_region_held3 (fun w' => w'.cell? ⟨w.heap.size + 1, 0, none⟩ = some (.slice (some ⟨b, o, none⟩) l c) ∧ w'.cell? ⟨w.heap.size + 1 + 1, 0, none⟩ = some (.int .i64 a) ∧ w'.cell? ⟨w.heap.size + 1 + 1, 1, none⟩ = some (.int .i64 s) ∧ w'.cell? ⟨b, o + (a / 8).toNat, none⟩ = some (.int .u64 (u (X (a / 8).toNat)))) (refine ⟨?_, ?_, ?_, ?_⟩ <;> (repeat (first | assumption | refine cell_keep ?_ _ | refine cell_drew ?_)))
    (first
      | (go_at_call 129; refine (pword_any _ _ _ a0 (by omega)).mono ?_; rintro e w' ⟨rfl, rfl⟩)
      | (go_at_call 131; refine (plow_any _ _ _ a0 (by omega)).mono ?_; rintro e w' ⟨rfl, rfl⟩)
      | (go_at_call 130; refine (pones_any _ _ _ (by omega) (by omega)).mono ?_; rintro e w' ⟨rfl, rfl⟩))
  go_wp2
  go_ret2
  exact ⟨rfl, Below.drew (bel_alloc (bel_alloc (bel_alloc HB.out _) _) _)⟩

theorem zeros_cells (n : Nat) : (madeCells #[.int .u64 0] n).toList = wcells (fun _ => 0#64) n := by
  rw [toList_madeCells_one]
  apply List.ext_getElem?
  intro j
  by_cases hj : j < n
  · rw [wcells_get _ n j hj]; simp [hj]; decide
  · rw [wcells_none _ n j (by omega)]; simp; omega

end
section
open Go.ChangeShapes Go.WideShapes Go.ChangeAt Go.RowKit Go.Deep

theorem eq_atr (r wr x a n : Bool) (s : Int) (r' wr' x' a' n' : Bool) (s' : Int) (w : World) :
    (Op.equalIn 10000 35 (.agg #[.bool r, .bool wr, .bool x, .bool a, .bool n, .int .i64 s]) (.agg #[.bool r', .bool wr', .bool x', .bool a', .bool n', .int .i64 s'])).run Tryz.prog w = .ok (eqA ⟨r, wr, x, a, n, s⟩ ⟨r', wr', x', a', n', s'⟩) w := by
  rw [run_equalIn_agg w 9999 _ _ _ (by kernel_rfl) (by kernel_rfl)]
  simp only [Program.fieldsOf, Tryz.underlying35]
  simp [go_sem, eqA]
  by_cases h0 : r = r'
  rotate_left
  · simp [h0]
  by_cases h1 : wr = wr'
  rotate_left
  · simp [h0, h1]
  by_cases h2 : x = x'
  rotate_left
  · simp [h0, h1, h2]
  by_cases h3 : a = a'
  rotate_left
  · simp [h0, h1, h2, h3]
  by_cases h4 : n = n'
  rotate_left
  · simp [h0, h1, h2, h3, h4]
  by_cases h5 : s = s'
  rotate_left
  · simp [h0, h1, h2, h3, h4, h5]
  simp [h0, h1, h2, h3, h4, h5]
@[go_sem high] theorem eql_atr (r wr x a n : Bool) (s : Int) (r' wr' x' a' n' : Bool) (s' : Int) (w : World) :
    (binOp .eql 35 (.agg #[.bool r, .bool wr, .bool x, .bool a, .bool n, .int .i64 s]) (.agg #[.bool r', .bool wr', .bool x', .bool a', .bool n', .int .i64 s'])).run Tryz.prog w = .ok (.bool (eqA ⟨r, wr, x, a, n, s⟩ ⟨r', wr', x', a', n', s'⟩)) w := by
  rw [run_eql_struct, eq_atr]; rfl
@[go_sem high] theorem neq_atr (r wr x a n : Bool) (s : Int) (r' wr' x' a' n' : Bool) (s' : Int) (w : World) :
    (binOp .neq 35 (.agg #[.bool r, .bool wr, .bool x, .bool a, .bool n, .int .i64 s]) (.agg #[.bool r', .bool wr', .bool x', .bool a', .bool n', .int .i64 s'])).run Tryz.prog w = .ok (.bool (!eqA ⟨r, wr, x, a, n, s⟩ ⟨r', wr', x', a', n', s'⟩)) w := by
  rw [run_neq_struct, eq_atr]; rfl
end
section
open Go.ChangeShapes Go.WideShapes Go.ChangeAt Go.RowKit Go.Deep

/-- One descriptor: the answer, or the error. -/
def tableA (l : Nat) (X : Nat → BitVec 64) (st lv fr pg : Int) : Dsc × Int :=
  if okM l && (placeB st lv && numB pg 4095) then (if numB fr ((l : Int) / 8 - 1) then (tblD X st lv fr pg, 0) else (dz, 2)) else (dz, 1)
def TableC : Prop := ∀ (f : Option Addr) (l c : Nat) (X : Nat → BitVec 64) (st lv fr pg : Int) (w : World), l ≤ 1000000 → l ≤ c → WordsAt w f l X →
  Calls Tryz.prog 83 #[.agg #[.slice f l c], .int .i64 st, .int .i64 lv, .int .i64 fr, .int .i64 pg] w fun e w' => e = .returned (.tuple #[dscV (tableA l X st lv fr pg).1, .int .i64 (tableA l X st lv fr pg).2]) ∧ Below w.heap.size w w'
theorem rmemB (f : Option Addr) (l c : Nat) (w : World) :
    Calls Tryz.prog 10 #[.agg #[.slice f l c]] w fun e w' => e = .returned (.bool (okM l)) ∧ Below w.heap.size w w' :=
  (rmem_any f l c w).mono fun _ _ h => ⟨h.1, by rw [h.2]; exact bel_alloc (Below.refl _ _) _⟩

/-- What is asked of stage 5's laws. -/
structure Q5 where
  f : Option Addr
  l : Nat
  c : Nat
  X : Nat → BitVec 64
  fr : Int
  g : Option Addr
  n : Nat
  d : Nat
  P : Nat → Int
/-- What memory has of it. -/
structure Ok5 (W : World) (q : Q5) : Prop where
  words : WordsAt W q.f q.l q.X
  nums : NumsAt W q.g q.n q.P
  l1 : q.l ≤ 1000000000000000
  n1 : q.n ≤ 1000000000000000
  lc : q.l ≤ q.c
  nd : q.n ≤ q.d
  fr1 : InI q.fr
theorem Ok5.below {W w : World} {q : Q5} (h : Ok5 W q) (hb : Below W.heap.size W w) : Ok5 w q := ⟨h.words.below hb, h.nums.below hb, h.l1, h.n1, h.lc, h.nd, h.fr1⟩
section
variable {H : Type} {enc : TypeId × Value → H} {w : World} {base : Nat} {held : Bool}
end
end
end Go.Proofs.YtbhnjaajkolklaaGreat
