/- Contracts: Read, New, Frame of package mem; Read of the reference. -/
import Derived.Test.YtalbblaicmdhmaaGreatMemC
set_option linter.all false
namespace Go.Proofs.YtalbblaicmdhmaaGreat
open Go.ChangeShapes Go.WideShapes Go.ChangeAt Go.RowKit Go.Deep

theorem mayE_zero {l : Nat} {a s : Int} (h : mayM l a s = 0) : okS s = true ∧ 0 ≤ a ∧ a < 8 * (l : Int) ∧ a % s = 0 := by
  unfold mayM at h
  split at h
  · omega
  · split at h
    · omega
    · split at h
      · omega
      · rename_i h1 h2 h3
        refine ⟨by simpa using h1, by omega, by omega, by simpa using h3⟩

/-- The number at a place. -/
def rdV (X : Nat → BitVec 64) (a s : Int) : BitVec 64 := X (a / 8).toNat >>> (a % 8 * 8).toNat &&& msk (8 * s)

theorem read_ok (f : Option Addr) (l c : Nat) (X : Nat → BitVec 64) (a s : Int) (w : World) (hX : WordsAt w f l X) (hM : okM l = true) (hE : mayM l a s = 0) :
    Calls Tryz.prog 80 #[.agg #[.slice f l c], .int .i64 a, .int .i64 s] w fun e w' => e = .returned (.tuple #[.int .u64 (u (rdV X a s)), .int .i64 0]) ∧ Below w.heap.size w w' := by
  obtain ⟨hs, a0, a1, a2⟩ := mayE_zero hE
  obtain ⟨l1, l2, l3⟩ := okM_true hM
  have hs1 := okS_true hs
  obtain ⟨W, hW⟩ : ∃ W, W = ((w.alloc (.cells #[.slice f l c] 24)).alloc (.cells #[.slice f l c] 106)).alloc (.cells #[.int .i64 a, .int .i64 s] 141) := ⟨_, rfl⟩
  have hb1 : Below w.heap.size w W := by rw [hW]; exact bel_alloc (bel_alloc (bel_alloc (Below.refl w.heap.size w) _) _) _
  have L1 : Loc W (w.heap.size + 1) 0 (.slice f l c) := by rw [hW]; exact (Loc.new _ _ _ _ 0 _ (by simp) rfl).alloc _
  have L2 : Loc W (w.heap.size + 1 + 1) 0 (.int .i64 a) := by rw [hW]; exact Loc.new _ _ _ _ 0 _ (by simp) rfl
  have L3 : Loc W (w.heap.size + 1 + 1) 1 (.int .i64 s) := by rw [hW]; exact Loc.new _ _ _ _ 1 _ (by simp) rfl
  have H := allows_any f l c a s W
  rw [if_pos hM, hE] at H
  have HH := Lib.hid H
  have HX := Lib.hid (hX.below hb1)
  clear H hX
  go_enter Tryz.func80, Tryz.ntmps80
  go_wp2_with fail
  rw [← hW]
  refine HH.out.mono ?_
  rintro e w1 ⟨rfl, hb⟩
  have c1 := (L1.below hb).cell
  have c2 := (L2.below hb).cell
  have c3 := (L3.below hb).cell
  obtain ⟨b, o, rfl, hc⟩ := HX.out (a / 8).toNat (by omega)
  have c4 := keepc hb hc
  simp only at c4
  have HB := Lib.hid (bel_trans hb1 hb)
  have i1 : 0 ≤ a / 8 := by omega
  have i2 : a / 8 < (l : Int) := by omega
  clear hW hb hb1 L1 L2 L3 hc HH HX
  go_wp2_with fail
  go_region_held3 (fun w' => w'.cell? ⟨w.heap.size + 1, 0, none⟩ = some (.slice (some ⟨b, o, none⟩) l c) ∧ w'.cell? ⟨w.heap.size + 1 + 1, 0, none⟩ = some (.int .i64 a) ∧ w'.cell? ⟨w.heap.size + 1 + 1, 1, none⟩ = some (.int .i64 s) ∧ w'.cell? ⟨b, o + (a / 8).toNat, none⟩ = some (.int .u64 (u (X (a / 8).toNat)))) (refine ⟨?_, ?_, ?_, ?_⟩ <;> (repeat (first | assumption | refine cell_keep ?_ _ | refine cell_drew ?_)))
    (first
      | (go_at_call 91; refine (pword_any _ _ _ a0 (by omega)).mono ?_; rintro e w' ⟨rfl, rfl⟩)
      | (go_at_call 92; refine (plow_any _ _ _ a0 (by omega)).mono ?_; rintro e w' ⟨rfl, rfl⟩)
      | (go_at_call 93; refine (pones_any _ _ _ (by omega) (by omega)).mono ?_; rintro e w' ⟨rfl, rfl⟩))
  go_wp2
  go_ret2
  exact ⟨rfl, Below.drew (bel_alloc (bel_alloc (bel_alloc HB.out _) _) _)⟩

theorem read_err (f : Option Addr) (l c : Nat) (a s k : Int) (w : World) (hE : (if okM l = true then mayM l a s else 1) = k) (hk : k ≠ 0) :
    Calls Tryz.prog 80 #[.agg #[.slice f l c], .int .i64 a, .int .i64 s] w fun e w' => e = .returned (.tuple #[.int .u64 0, .int .i64 k]) ∧ Below w.heap.size w w' := by
  obtain ⟨W, hW⟩ : ∃ W, W = ((w.alloc (.cells #[.slice f l c] 24)).alloc (.cells #[.slice f l c] 106)).alloc (.cells #[.int .i64 a, .int .i64 s] 141) := ⟨_, rfl⟩
  have hb1 : Below w.heap.size w W := by rw [hW]; exact bel_alloc (bel_alloc (bel_alloc (Below.refl w.heap.size w) _) _) _
  have H := allows_any f l c a s W
  rw [hE] at H
  have HH := Lib.hid H
  have hk' : (k != 0) = true := by simpa using hk
  clear H hE hk
  go_enter Tryz.func80, Tryz.ntmps80
  go_wp2_with fail
  rw [← hW]
  refine HH.out.mono ?_
  rintro e w1 ⟨rfl, hb⟩
  have HB := Lib.hid (bel_trans hb1 hb)
  clear hW hb hb1 HH
  go_wp2
  go_ret2
  exact ⟨rfl, HB.out⟩

theorem zeros_cells (n : Nat) : (madeCells #[.int .u64 0] n).toList = wcells (fun _ => 0#64) n := by
  rw [toList_madeCells_one]
  apply List.ext_getElem?
  intro j
  by_cases hj : j < n
  · rw [wcells_get _ n j hj]; simp [hj]; decide
  · rw [wcells_none _ n j (by omega)]; simp; omega

/-- A frame's words. -/
def frV (X : Nat → BitVec 64) (k : Int) : Nat → BitVec 64 := fun j => X ((k * 8).toNat + j)

theorem nums1 (w : World) (x : Int) : NumsAt (w.alloc (.cells #[.int .i64 x] 3)) (some ⟨w.heap.size, 0, none⟩) 1 (fun _ => x) := by
  intro j hj
  obtain rfl : j = 0 := by omega
  exact ⟨_, _, rfl, cell_new w _ _ 0⟩
theorem nums2 (w : World) (x y : Int) : NumsAt (w.alloc (.cells #[.int .i64 x, .int .i64 y] 3)) (some ⟨w.heap.size, 0, none⟩) 2 (fun j => if j = 0 then x else y) := by
  intro j hj
  by_cases h : j = 0
  · subst h; exact ⟨_, _, rfl, cell_new w _ _ 0⟩
  · obtain rfl : j = 1 := by omega
    exact ⟨_, _, rfl, cell_new w _ _ 1⟩

end Go.Proofs.YtalbblaicmdhmaaGreat
