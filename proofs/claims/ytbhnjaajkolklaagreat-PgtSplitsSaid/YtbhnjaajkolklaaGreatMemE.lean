/- Contracts: put, Write of package mem; Put, Write of the reference. -/
import Derived.Test.YtbhnjaajkolklaaGreatWa
import Derived.Test.YtbhnjaajkolklaaGreatLt
set_option linter.all false
namespace Go.Proofs.YtbhnjaajkolklaaGreat
open Go.ChangeShapes Go.WideShapes Go.ChangeAt Go.RowKit Go.Deep

/-- A word with a number at some of its bits. -/
def pwV (x : BitVec 64) (k : Nat) (s : Int) (v : BitVec 64) : BitVec 64 := (x &&& ~~~(msk (8 * s) <<< k)) ||| ((v &&& msk (8 * s)) <<< k)
/-- The words with a number at a place. -/
def wrV (X : Nat → BitVec 64) (a s : Int) (v : BitVec 64) : Nat → BitVec 64 := upd X (a / 8).toNat (pwV (X (a / 8).toNat) (a % 8 * 8).toNat s v)

set_option linter.unusedSimpArgs false in
set_option maxHeartbeats 1600000 in
set_option maxRecDepth 100000 in
theorem put_ok (base : Nat) (f : Option Addr) (l c : Nat) (X : Nat → BitVec 64) (a s : Int) (v : BitVec 64) (w : World) (hO : OwnW w base (.slice f l c) l X) (hbase : base ≤ w.heap.size) (hM : okM l = true) (hE : mayM l a s = 0) :
    Calls Tryz.prog 115 #[.agg #[.slice f l c], .agg #[.int .i64 a, .int .i64 s], .int .u64 (u v)] w fun e w' => e = .returned (.tuple #[]) ∧ OwnW w' base (.slice f l c) l (wrV X a s v) ∧ Below base w w' ∧ ∀ g', f = some ⟨g', 0, none⟩ → ∀ k, k < w.heap.size → k ≠ g' → w'.heap[k]? = w.heap[k]? := by
  obtain ⟨hs, a0, a1, a2⟩ := mayE_zero hE
  obtain ⟨l1, l2, l3⟩ := okM_true hM
  have hs1 := okS_true hs
  obtain ⟨g, c', hv, hg, hgl, hlc, hc⟩ := hO.pos (by omega)
  simp at hv
  obtain ⟨rfl, rfl⟩ := hv
  obtain ⟨W, hW⟩ : ∃ W, W = (w.alloc (.cells #[.slice (some ⟨g, 0, none⟩) l c] 143)).alloc (.cells #[.int .i64 a, .int .i64 s] 165) := ⟨_, rfl⟩
  have hb1 : Below w.heap.size w W := by rw [hW]; exact bel_alloc (bel_alloc (Below.refl w.heap.size w) _) _
  have L1 : Loc W w.heap.size 0 (.slice (some ⟨g, 0, none⟩) l c) := by rw [hW]; exact (Loc.new _ _ _ _ 0 _ (by simp) rfl).alloc _
  have L2 : Loc W (w.heap.size + 1) 0 (.int .i64 a) := by rw [hW]; exact Loc.new _ _ _ _ 0 _ (by simp) rfl
  have L3 : Loc W (w.heap.size + 1) 1 (.int .i64 s) := by rw [hW]; exact Loc.new _ _ _ _ 1 _ (by simp) rfl
  have L4 : Loc W g (a / 8).toNat (.int .u64 (u (X (a / 8).toNat))) := (Loc.mk (hc (a / 8).toNat (by omega)) (hO.frozen _)).below hb1
  have hO1 := hO.below hb1
  obtain ⟨c1, _⟩ := L1
  obtain ⟨c2, _⟩ := L2
  obtain ⟨c3, _⟩ := L3
  have hgW := L4.lt
  obtain ⟨c4, q4⟩ := L4
  have i1 : 0 ≤ a / 8 := by omega
  have i2 : a / 8 < (l : Int) := by omega
  go_enter Tryz.func115, Tryz.ntmps115
  go_wp2_with fail
  rw [← hW]
  have HB := Lib.hid hb1
  have HO1 := Lib.hid hO1
  clear hb1 hO1 hW hO hc
  go_region_held3 (fun w' => w'.cell? ⟨w.heap.size, 0, none⟩ = some (.slice (some ⟨g, 0, none⟩) l c) ∧ w'.cell? ⟨w.heap.size + 1, 0, none⟩ = some (.int .i64 a) ∧ w'.cell? ⟨w.heap.size + 1, 1, none⟩ = some (.int .i64 s)) (refine ⟨?_, ?_, ?_⟩ <;> (repeat (first | assumption | refine cell_keep ?_ _ | refine cell_drew ?_)))
    (first
      | (go_at_call 129; refine (pword_any _ _ _ a0 (by omega)).mono ?_; rintro e w' ⟨rfl, rfl⟩))
  rename_i hHeld
  obtain ⟨_, d2, d3⟩ := hHeld
  have d4 := cell_drew (cell_keep c4 (.cells #[.int .i64 a, .int .i64 s] 165))
  have q5 := frozen_drew (frozen_keep hgW q4 (.cells #[.int .i64 a, .int .i64 s] 165))
  have HB2 := Lib.hid (Below.drew (bel_alloc HB.out (.cells #[.int .i64 a, .int .i64 s] 165)))
  have HO2 : Hid (OwnW (W.alloc (.cells #[.int .i64 a, .int .i64 s] 165)).drew base (.slice (some ⟨g, 0, none⟩) l c) l X) := HO1.out.below (Below.drew (bel_alloc (Below.refl _ _) _))
  have hgW2 : g < (W.alloc (.cells #[.int .i64 a, .int .i64 s] 165)).drew.heap.size := cell_block d4
  generalize (W.alloc (.cells #[.int .i64 a, .int .i64 s] 165)).drew = W2 at *
  clear c1 c2 c3 c4 q4 HB HO1 hgW
  go_wp2_with fail
  have hne : w.heap.size + 1 ≠ g := by omega
  have HA4 := Lib.hid (bel_alloc (bel_alloc (bel_alloc (bel_alloc (Below.refl W2.heap.size W2) (.cells #[.int .i64 a, .int .i64 s] 165)) (.cells #[.int .i64 a, .int .i64 s] 165)) (.cells #[.int .i64 a, .int .i64 s] 165)) (.cells #[.int .i64 a, .int .i64 s] 165))
  have HOF := Lib.hid ((HO2.out.below HA4.out).stored (a / 8).toNat (pwV (X (a / 8).toNat) (a % 8 * 8).toNat s v)).drew
  have HBF := Lib.hid (Below.drew (((HB2.out.mono hbase).trans (HA4.out.mono (Nat.le_trans hbase HB2.out.size))).setCell (p := ⟨g, (a / 8).toNat, none⟩) hg (.int .u64 (u (pwV (X (a / 8).toNat) (a % 8 * 8).toNat s v)))))
  have HKF := Lib.hid (fun (k : Nat) (hk : k < w.heap.size) (hkg : k ≠ g) => (Below.heap_setCell _ ⟨g, (a / 8).toNat, none⟩ (.int .u64 (u (pwV (X (a / 8).toNat) (a % 8 * 8).toNat s v))) k hkg).trans ((bel_trans HB2.out HA4.out).block k hk))
  have L0 : Loc W2 g (a / 8).toNat (.int .u64 (u (X (a / 8).toNat))) := ⟨d4, q5⟩
  have L1 := L0.alloc (.cells #[.int .i64 a, .int .i64 s] 165)
  have L2 := L1.alloc (.cells #[.int .i64 a, .int .i64 s] 165)
  have L3 := L2.alloc (.cells #[.int .i64 a, .int .i64 s] 165)
  have L4 := L3.alloc (.cells #[.int .i64 a, .int .i64 s] 165)
  have e4 := cell_drew L4.cell
  have f4 := frozen_drew L4.free
  clear L0 L1 L2 L3 L4
  refine wp_region_late 19 (fun w' => w'.cell? ⟨w.heap.size + 1, 0, none⟩ = some (.int .i64 a) ∧ w'.cell? ⟨w.heap.size + 1, 1, none⟩ = some (.int .i64 s) ∧ w'.cell? ⟨g, (a / 8).toNat, none⟩ = some (.int .u64 (u (X (a / 8).toNat)))) (by kernel_rfl) ?_
  have hS : W2.drew.cell? ⟨w.heap.size + 1, 0, none⟩ = some (.int .i64 a) ∧ W2.drew.cell? ⟨w.heap.size + 1, 1, none⟩ = some (.int .i64 s) ∧ W2.drew.cell? ⟨g, (a / 8).toNat, none⟩ = some (.int .u64 (u (X (a / 8).toNat))) := ⟨d2, d3, d4⟩
  refine late_take 0 (v := ?_) rfl (by kernel_rfl) (by kernel_rfl) (by kernel_rfl) (by kernel_rfl) (fun _ _ _ h => h) hS (Or.inl ⟨by rfl, ?_⟩) ?_
  rotate_left
  · intro w' hSw
    obtain ⟨s1, s2, s3⟩ := hSw
    go_simp
    try with_reducible rfl
  simp only [Act.put, List.setIfInBounds_toArray, List.set_cons_zero, List.set_cons_succ]
  refine late_take 1 (v := ?_) rfl (by kernel_rfl) (by kernel_rfl) (by kernel_rfl) (by kernel_rfl) (fun _ _ _ h => h) hS (Or.inl ⟨by rfl, ?_⟩) ?_
  rotate_left
  · intro w' hSw
    obtain ⟨s1, s2, s3⟩ := hSw
    go_simp
    try with_reducible rfl
  simp only [Act.put, List.setIfInBounds_toArray, List.set_cons_zero, List.set_cons_succ]
  refine late_take 2 (v := ?_) rfl (by kernel_rfl) (by kernel_rfl) (by kernel_rfl) (by kernel_rfl) (fun _ _ _ h => h) hS (Or.inl ⟨by rfl, ?_⟩) ?_
  rotate_left
  · intro w' hSw
    obtain ⟨s1, s2, s3⟩ := hSw
    go_simp
    try with_reducible rfl
  simp only [Act.put, List.setIfInBounds_toArray, List.set_cons_zero, List.set_cons_succ]
  refine late_take 3 (v := ?_) rfl (by kernel_rfl) (by kernel_rfl) (by kernel_rfl) (by kernel_rfl) (fun _ _ _ h => h) hS (Or.inl ⟨by rfl, ?_⟩) ?_
  rotate_left
  · intro w' hSw
    obtain ⟨s1, s2, s3⟩ := hSw
    go_simp
    try with_reducible rfl
  simp only [Act.put, List.setIfInBounds_toArray, List.set_cons_zero, List.set_cons_succ]
  refine late_take 4 (v := ?_) rfl (by kernel_rfl) (by kernel_rfl) (by kernel_rfl) (by kernel_rfl) (fun _ _ _ h => h) hS (Or.inl ⟨by rfl, ?_⟩) ?_
  rotate_left
  · intro w' hSw
    obtain ⟨s1, s2, s3⟩ := hSw
    go_simp
    try with_reducible rfl
  simp only [Act.put, List.setIfInBounds_toArray, List.set_cons_zero, List.set_cons_succ]
  refine late_take 6 (v := ?_) rfl (by kernel_rfl) (by kernel_rfl) (by kernel_rfl) (by kernel_rfl) (fun _ _ _ h => h) hS (Or.inl ⟨by rfl, ?_⟩) ?_
  rotate_left
  · intro w' hSw
    obtain ⟨s1, s2, s3⟩ := hSw
    go_simp
    try with_reducible rfl
  simp only [Act.put, List.setIfInBounds_toArray, List.set_cons_zero, List.set_cons_succ]
  refine late_take 10 (v := ?_) rfl (by kernel_rfl) (by kernel_rfl) (by kernel_rfl) (by kernel_rfl) (fun _ _ _ h => h) hS (Or.inl ⟨by rfl, ?_⟩) ?_
  rotate_left
  · intro w' hSw
    obtain ⟨s1, s2, s3⟩ := hSw
    go_simp
    try with_reducible rfl
  simp only [Act.put, List.setIfInBounds_toArray, List.set_cons_zero, List.set_cons_succ]
  refine late_take 11 (v := ?_) rfl (by kernel_rfl) (by kernel_rfl) (by kernel_rfl) (by kernel_rfl) (fun _ _ _ h => h) hS (Or.inl ⟨by rfl, ?_⟩) ?_
  rotate_left
  · intro w' hSw
    obtain ⟨s1, s2, s3⟩ := hSw
    go_simp
    try with_reducible rfl
  simp only [Act.put, List.setIfInBounds_toArray, List.set_cons_zero, List.set_cons_succ]
  refine late_take 14 (v := ?_) rfl (by kernel_rfl) (by kernel_rfl) (by kernel_rfl) (by kernel_rfl) (fun _ _ _ h => h) hS (Or.inl ⟨by rfl, ?_⟩) ?_
  rotate_left
  · intro w' hSw
    obtain ⟨s1, s2, s3⟩ := hSw
    go_simp
    try with_reducible rfl
  simp only [Act.put, List.setIfInBounds_toArray, List.set_cons_zero, List.set_cons_succ]
  refine late_one 5 (by kernel_rfl) rfl (fun K hK => ?_)
  go_simp
  refine (pones_any _ _ _ (by omega) (by omega)).mono ?_
  rintro e w' ⟨rfl, rfl⟩
  refine hK.out _ _ ?_ (fun hS' => ?_)
  · obtain ⟨s1, s2, s3⟩ := hS
    refine ⟨?_, ?_, ?_⟩ <;> (repeat (first | with_reducible assumption | with_reducible refine cell_keep ?_ _ | with_reducible refine cell_drew ?_))
  clear hK K hS
  have hS := hS'
  clear hS'
  try simp only [Act.put, List.setIfInBounds_toArray, List.set_cons_zero, List.set_cons_succ]
  refine late_one 7 (by kernel_rfl) rfl (fun K hK => ?_)
  go_simp
  refine (plow_any _ _ _ a0 (by omega)).mono ?_
  rintro e w' ⟨rfl, rfl⟩
  refine hK.out _ _ ?_ (fun hS' => ?_)
  · obtain ⟨s1, s2, s3⟩ := hS
    refine ⟨?_, ?_, ?_⟩ <;> (repeat (first | with_reducible assumption | with_reducible refine cell_keep ?_ _ | with_reducible refine cell_drew ?_))
  clear hK K hS
  have hS := hS'
  clear hS'
  try simp only [Act.put, List.setIfInBounds_toArray, List.set_cons_zero, List.set_cons_succ]
  refine late_take 8 (v := ?_) rfl (by kernel_rfl) (by kernel_rfl) (by kernel_rfl) (by kernel_rfl) (fun _ _ _ h => h) hS (Or.inl ⟨by rfl, ?_⟩) ?_
  rotate_left
  · intro w' hSw
    obtain ⟨s1, s2, s3⟩ := hSw
    go_simp
    try with_reducible rfl
  simp only [Act.put, List.setIfInBounds_toArray, List.set_cons_zero, List.set_cons_succ]
  refine late_take 9 (v := ?_) rfl (by kernel_rfl) (by kernel_rfl) (by kernel_rfl) (by kernel_rfl) (fun _ _ _ h => h) hS (Or.inl ⟨by rfl, ?_⟩) ?_
  rotate_left
  · intro w' hSw
    obtain ⟨s1, s2, s3⟩ := hSw
    go_simp
    try with_reducible rfl
  simp only [Act.put, List.setIfInBounds_toArray, List.set_cons_zero, List.set_cons_succ]
  refine late_one 12 (by kernel_rfl) rfl (fun K hK => ?_)
  go_simp
  refine (pones_any _ _ _ (by omega) (by omega)).mono ?_
  rintro e w' ⟨rfl, rfl⟩
  refine hK.out _ _ ?_ (fun hS' => ?_)
  · obtain ⟨s1, s2, s3⟩ := hS
    refine ⟨?_, ?_, ?_⟩ <;> (repeat (first | with_reducible assumption | with_reducible refine cell_keep ?_ _ | with_reducible refine cell_drew ?_))
  clear hK K hS
  have hS := hS'
  clear hS'
  try simp only [Act.put, List.setIfInBounds_toArray, List.set_cons_zero, List.set_cons_succ]
  refine late_take 13 (v := ?_) rfl (by kernel_rfl) (by kernel_rfl) (by kernel_rfl) (by kernel_rfl) (fun _ _ _ h => h) hS (Or.inl ⟨by rfl, ?_⟩) ?_
  rotate_left
  · intro w' hSw
    obtain ⟨s1, s2, s3⟩ := hSw
    go_simp
    try with_reducible rfl
  simp only [Act.put, List.setIfInBounds_toArray, List.set_cons_zero, List.set_cons_succ]
  refine late_one 15 (by kernel_rfl) rfl (fun K hK => ?_)
  go_simp
  refine (plow_any _ _ _ a0 (by omega)).mono ?_
  rintro e w' ⟨rfl, rfl⟩
  refine hK.out _ _ ?_ (fun hS' => ?_)
  · obtain ⟨s1, s2, s3⟩ := hS
    refine ⟨?_, ?_, ?_⟩ <;> (repeat (first | with_reducible assumption | with_reducible refine cell_keep ?_ _ | with_reducible refine cell_drew ?_))
  clear hK K hS
  have hS := hS'
  clear hS'
  try simp only [Act.put, List.setIfInBounds_toArray, List.set_cons_zero, List.set_cons_succ]
  refine late_take 16 (v := ?_) rfl (by kernel_rfl) (by kernel_rfl) (by kernel_rfl) (by kernel_rfl) (fun _ _ _ h => h) hS (Or.inl ⟨by rfl, ?_⟩) ?_
  rotate_left
  · intro w' hSw
    obtain ⟨s1, s2, s3⟩ := hSw
    go_simp
    try with_reducible rfl
  simp only [Act.put, List.setIfInBounds_toArray, List.set_cons_zero, List.set_cons_succ]
  refine late_take 17 (v := ?_) rfl (by kernel_rfl) (by kernel_rfl) (by kernel_rfl) (by kernel_rfl) (fun _ _ _ h => h) hS (Or.inl ⟨by rfl, ?_⟩) ?_
  rotate_left
  · intro w' hSw
    obtain ⟨s1, s2, s3⟩ := hSw
    go_simp
    try with_reducible rfl
  simp only [Act.put, List.setIfInBounds_toArray, List.set_cons_zero, List.set_cons_succ]
  refine late_take 18 (v := ?_) rfl (by kernel_rfl) (by kernel_rfl) (by kernel_rfl) (by kernel_rfl) (fun _ _ _ h => h) hS (Or.inl ⟨by rfl, ?_⟩) ?_
  rotate_left
  · intro w' hSw
    obtain ⟨s1, s2, s3⟩ := hSw
    go_simp
    try with_reducible rfl
  simp only [Act.put, List.setIfInBounds_toArray, List.set_cons_zero, List.set_cons_succ]
  refine late_last (by kernel_rfl) (by kernel_rfl) rfl (fun K hK => ?_)
  go_simp
  refine hK.out _ _ ?_
  go_returns
  exact ⟨rfl, HOF.out, HBF.out, fun g' hg' k hk hkg => HKF.out k hk (fun e => hkg (by rw [e]; injection hg' with h1; injection h1))⟩
end Go.Proofs.YtbhnjaajkolklaaGreat
