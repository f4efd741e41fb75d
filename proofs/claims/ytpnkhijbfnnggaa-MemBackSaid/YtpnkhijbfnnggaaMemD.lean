/- Contracts: Read, New, Frame of package mem; Read of the reference. -/
import Derived.Test.YtpnkhijbfnnggaaMemC
namespace Go.Proofs.Ytpnkhijbfnnggaa
open Go.ChangeShapes Go.WideShapes Go.ChangeAt Go.RowKit Go.Deep

theorem mayE_zero {l : Nat} {a s : Int} (h : mayE l a s = 0) : okS s = true ∧ 0 ≤ a ∧ a < 8 * (l : Int) ∧ a % s = 0 := by
  unfold mayE at h
  split at h
  · omega
  · split at h
    · omega
    · split at h
      · omega
      · rename_i h1 h2 h3
        refine ⟨by simpa using h1, by omega, by omega, by simpa using h3⟩

/-- The number at a place. -/
def rdV (X : Nat → BitVec 64) (a s : Int) : BitVec 64 := X (a / 8).toNat >>> (a % 8 * 8).toNat &&& msk (8 * s)

theorem read_ok (f : Option Addr) (l c : Nat) (X : Nat → BitVec 64) (a s : Int) (w : World) (hX : WordsAt w f l X) (hM : okM l = true) (hE : mayE l a s = 0) :
    Calls Try.prog 18 #[.agg #[.slice f l c], .int .i64 a, .int .i64 s] w fun e w' => e = .returned (.tuple #[.int .u64 (u (rdV X a s)), .int .i64 0]) ∧ Below w.heap.size w w' := by
  obtain ⟨hs, a0, a1, a2⟩ := mayE_zero hE
  obtain ⟨l1, l2, l3⟩ := okM_true hM
  have hs1 := okS_true hs
  obtain ⟨W, hW⟩ : ∃ W, W = ((w.alloc (.cells #[.slice f l c] 24)).alloc (.cells #[.slice f l c] 65)).alloc (.cells #[.int .i64 a, .int .i64 s] 69) := ⟨_, rfl⟩
  have hb1 : Below w.heap.size w W := by rw [hW]; exact bel_alloc (bel_alloc (bel_alloc (Below.refl w.heap.size w) _) _) _
  have L1 : Loc W (w.heap.size + 1) 0 (.slice f l c) := by rw [hW]; exact (Loc.new _ _ _ _ 0 _ (by simp) rfl).alloc _
  have L2 : Loc W (w.heap.size + 1 + 1) 0 (.int .i64 a) := by rw [hW]; exact Loc.new _ _ _ _ 0 _ (by simp) rfl
  have L3 : Loc W (w.heap.size + 1 + 1) 1 (.int .i64 s) := by rw [hW]; exact Loc.new _ _ _ _ 1 _ (by simp) rfl
  have H := allows_any f l c a s W
  rw [if_pos hM, hE] at H
  have HH := Lib.hid H
  have HX := Lib.hid (hX.below hb1)
  clear H hX
  go_enter Try.func18, Try.ntmps18
  go_wp2_with fail
  rw [← hW]
  refine HH.out.mono ?_
  rintro e w1 ⟨rfl, hb⟩
  have c1 := (L1.below hb).cell
  have c2 := (L2.below hb).cell
  have c3 := (L3.below hb).cell
  obtain ⟨b, o, rfl, hc⟩ := HX.out (a / 8).toNat (by omega)
  have c4 := keepc hb hc
  simp only at c4
  have HB := Lib.hid (bel_trans hb1 hb)
  have i1 : 0 ≤ a / 8 := by omega
  have i2 : a / 8 < (l : Int) := by omega
  clear hW hb hb1 L1 L2 L3 hc HH HX
  go_wp2_with fail
  go_region_held3 (fun w' => w'.cell? ⟨w.heap.size + 1, 0, none⟩ = some (.slice (some ⟨b, o, none⟩) l c) ∧ w'.cell? ⟨w.heap.size + 1 + 1, 0, none⟩ = some (.int .i64 a) ∧ w'.cell? ⟨w.heap.size + 1 + 1, 1, none⟩ = some (.int .i64 s) ∧ w'.cell? ⟨b, o + (a / 8).toNat, none⟩ = some (.int .u64 (u (X (a / 8).toNat)))) (refine ⟨?_, ?_, ?_, ?_⟩ <;> (repeat (first | assumption | refine cell_keep ?_ _ | refine cell_drew ?_)))
    (first
      | (go_at_call 39; refine (pword_any _ _ _ a0 (by omega)).mono ?_; rintro e w' ⟨rfl, rfl⟩)
      | (go_at_call 40; refine (plow_any _ _ _ a0 (by omega)).mono ?_; rintro e w' ⟨rfl, rfl⟩)
      | (go_at_call 41; refine (pones_any _ _ _ (by omega) (by omega)).mono ?_; rintro e w' ⟨rfl, rfl⟩))
  go_wp2
  go_ret2
  exact ⟨rfl, Below.drew (bel_alloc (bel_alloc (bel_alloc HB.out _) _) _)⟩

theorem read_err (f : Option Addr) (l c : Nat) (a s k : Int) (w : World) (hE : (if okM l = true then mayE l a s else 1) = k) (hk : k ≠ 0) :
    Calls Try.prog 18 #[.agg #[.slice f l c], .int .i64 a, .int .i64 s] w fun e w' => e = .returned (.tuple #[.int .u64 0, .int .i64 k]) ∧ Below w.heap.size w w' := by
  obtain ⟨W, hW⟩ : ∃ W, W = ((w.alloc (.cells #[.slice f l c] 24)).alloc (.cells #[.slice f l c] 65)).alloc (.cells #[.int .i64 a, .int .i64 s] 69) := ⟨_, rfl⟩
  have hb1 : Below w.heap.size w W := by rw [hW]; exact bel_alloc (bel_alloc (bel_alloc (Below.refl w.heap.size w) _) _) _
  have H := allows_any f l c a s W
  rw [hE] at H
  have HH := Lib.hid H
  have hk' : (k != 0) = true := by simpa using hk
  clear H hE hk
  go_enter Try.func18, Try.ntmps18
  go_wp2_with fail
  rw [← hW]
  refine HH.out.mono ?_
  rintro e w1 ⟨rfl, hb⟩
  have HB := Lib.hid (bel_trans hb1 hb)
  clear hW hb hb1 HH
  go_wp2
  go_ret2
  exact ⟨rfl, HB.out⟩

theorem rread_ok (f : Option Addr) (l c : Nat) (X : Nat → BitVec 64) (a s : Int) (w : World) (hX : WordsAt w f l X) (hM : okM l = true) (hE : mayE l a s = 0) :
    Calls Try.prog 20 #[.agg #[.slice f l c], .int .i64 a, .int .i64 s] w fun e w' => e = .returned (.int .u64 (u (rdV X a s))) ∧ Below w.heap.size w w' := by
  obtain ⟨hs, a0, a1, a2⟩ := mayE_zero hE
  obtain ⟨l1, l2, l3⟩ := okM_true hM
  have hs1 := okS_true hs
  obtain ⟨b, o, rfl, hc⟩ := hX (a / 8).toNat (by omega)
  have i1 : 0 ≤ a / 8 := by omega
  have i2 : a / 8 < (l : Int) := by omega
  have c1 := cell_keep hc (.cells #[.slice (some ⟨b, o, none⟩) l c] 24)
  go_enter Try.func20, Try.ntmps20
  go_wp2_with (go_at_call 42; refine (rget_any _ _ _ _ (by omega) (by omega) (by omega)).mono ?_; rintro e w1 ⟨rfl, m, rfl⟩)
  go_ret
  exact ⟨rfl, below_drewN (bel_alloc (Below.refl _ _) _) _⟩

theorem new_no (n : Int) (w : World) (h : n < 1 ∨ 64 < n) :
    Calls Try.prog 32 #[.int .i64 n] w fun e w' => e = .returned (.tuple #[.agg #[.slice none 0 0], .int .i64 1]) ∧ Below w.heap.size w w' := by
  have hz := (Loc.new w #[.slice none 0 0] 24 _ 0 _ rfl rfl).cell
  rcases h with h | h
  all_goals
    go_enter Try.func32, Try.ntmps32
    go_wp2
    refine bodyPost_ret (v := .tuple #[.agg #[.slice none 0 0], .int .i64 1]) (by simp [results, Try.results32, go_sem, hz]) rfl ?_
    exact ⟨rfl, bel_alloc (Below.refl _ _) _⟩

theorem zeros_cells (n : Nat) : (madeCells #[.int .u64 0] n).toList = wcells (fun _ => 0#64) n := by
  rw [toList_madeCells_one]
  apply List.ext_getElem?
  intro j
  by_cases hj : j < n
  · rw [wcells_get _ n j hj]; simp [hj]; decide
  · rw [wcells_none _ n j (by omega)]; simp; omega

theorem new_ok (n : Nat) (w : World) (h0 : 1 ≤ n) (h1 : n ≤ 64) :
    Calls Try.prog 32 #[.int .i64 n] w fun e w' => ∃ f' c', e = .returned (.tuple #[.agg #[.slice f' (n * 8) c'], .int .i64 0]) ∧ OwnW w' w.heap.size (.slice f' (n * 8) c') (n * 8) (fun _ => 0#64) ∧ Below w.heap.size w w' := by
  obtain ⟨W, hW⟩ : ∃ W, W = w.alloc (.cells #[.slice none 0 0] 24) := ⟨_, rfl⟩
  have hs : W.heap.size = w.heap.size + 1 := by rw [hW]; simp
  have hb1 : Below w.heap.size w W := by rw [hW]; exact bel_alloc (Below.refl w.heap.size w) _
  have L1 : Loc W w.heap.size 0 (.slice none 0 0) := by rw [hW]; exact Loc.new _ _ _ _ 0 _ rfl rfl
  obtain ⟨i0, hi, hz0, hz1, hz2⟩ := info_parts infoW
  obtain ⟨W2, hrun, hown, hgr⟩ := run_make_full (P := Try.prog) W W.heap.size 22 30 i0 _ 1 Try.underlying22 hi hz0 hz1 .i64 .i64 (n * 8) (by rw [hz2]; omega) (by unfold maxLen; omega) (Nat.le_refl _)
  have hO : OwnW W2 W.heap.size (.slice (some ⟨W.heap.size, 0, none⟩) (n * 8) (n * 8)) (n * 8) (fun _ => 0#64) := by
    unfold OwnW
    rw [← zeros_cells]
    rw [Nat.mul_one] at hown
    exact hown
  have hB2 : Below W.heap.size W W2 := (Below.refl W.heap.size W).grown hgr (Nat.le_refl _) (by simp)
  rw [hs] at hO
  have L2 := L1.below hB2
  obtain ⟨p1, q1⟩ := L2
  have hz := (L1.below hB2).put (.slice (some ⟨w.heap.size + 1, 0, none⟩) (n * 8) (n * 8))
  have hzc := hz.cell
  have R1 := Lib.hid ((hO.other w.heap.size 0 (.slice (some ⟨w.heap.size + 1, 0, none⟩) (n * 8) (n * 8)) (by omega)).mono (show w.heap.size ≤ _ by omega))
  have R2 := Lib.hid ((bel_trans hb1 hB2).setCell (p := ⟨w.heap.size, 0, none⟩) (by simp only; omega) (.slice (some ⟨w.heap.size + 1, 0, none⟩) (n * 8) (n * 8)))
  rw [hs, hW] at hrun
  have hcast : ((n * 8 : Nat) : Int) = (n : Int) * 8 := by omega
  rw [hcast] at hrun
  clear hs hW hb1 hown hgr hB2 L1 hO hz hi hz0 hz1 hz2 hcast
  go_enter Try.func32, Try.ntmps32
  go_wp2
  refine bodyPost_ret (v := .tuple #[.agg #[.slice (some ⟨w.heap.size + 1, 0, none⟩) (n * 8) (n * 8)], .int .i64 0]) (by simp [results, Try.results32, go_sem, hzc]) rfl ?_
  exact ⟨_, _, rfl, R1.out, R2.out⟩

/-- A frame's words. -/
def frV (X : Nat → BitVec 64) (k : Int) : Nat → BitVec 64 := fun j => X ((k * 8).toNat + j)

theorem nums1 (w : World) (x : Int) : NumsAt (w.alloc (.cells #[.int .i64 x] 3)) (some ⟨w.heap.size, 0, none⟩) 1 (fun _ => x) := by
  intro j hj
  obtain rfl : j = 0 := by omega
  exact ⟨_, _, rfl, cell_new w _ _ 0⟩
theorem nums2 (w : World) (x y : Int) : NumsAt (w.alloc (.cells #[.int .i64 x, .int .i64 y] 3)) (some ⟨w.heap.size, 0, none⟩) 2 (fun j => if j = 0 then x else y) := by
  intro j hj
  by_cases h : j = 0
  · subst h; exact ⟨_, _, rfl, cell_new w _ _ 0⟩
  · obtain rfl : j = 1 := by omega
    exact ⟨_, _, rfl, cell_new w _ _ 1⟩

theorem frame_ok (f : Option Addr) (l c : Nat) (X : Nat → BitVec 64) (k : Int) (w : World) (hX : WordsAt w f l X) (hc : l ≤ c) (hM : okM l = true) (h0 : 0 ≤ k) (h1 : k < (l : Int) / 8) :
    Calls Try.prog 25 #[.agg #[.slice f l c], .int .i64 k] w fun e w' => ∃ f' c', e = .returned (.tuple #[.slice f' 8 c', .int .i64 0]) ∧ OwnW w' w.heap.size (.slice f' 8 c') 8 (frV X k) ∧ Below w.heap.size w w' := by
  obtain ⟨l1, l2, l3⟩ := okM_true hM
  obtain ⟨b, o, rfl, hlt, hX'⟩ := hX.pos (by omega)
  clear hX'
  obtain ⟨W, hW⟩ : ∃ W, W = ((w.alloc (.cells #[.slice (some ⟨b, o, none⟩) l c] 24)).alloc (.cells #[.slice (some ⟨b, o, none⟩) l c] 65)).alloc (.cells #[.int .i64 k] 3) := ⟨_, rfl⟩
  have hb1 : Below w.heap.size w W := by rw [hW]; exact bel_alloc (bel_alloc (bel_alloc (Below.refl w.heap.size w) _) _) _
  have L1 : Loc W (w.heap.size + 1) 0 (.slice (some ⟨b, o, none⟩) l c) := by rw [hW]; exact (Loc.new _ _ _ _ 0 _ (by simp) rfl).alloc _
  have hN : NumsAt W (some ⟨w.heap.size + 1 + 1, 0, none⟩) 1 (fun _ => k) := by
    have := nums1 ((w.alloc (.cells #[.slice (some ⟨b, o, none⟩) l c] 24)).alloc (.cells #[.slice (some ⟨b, o, none⟩) l c] 65)) k
    rw [size_alloc, size_alloc, ← hW] at this
    exact this
  have HH := Lib.hid (hasAll_any (some ⟨b, o, none⟩) _ l c 1 1 _ W hN (by omega))
  have HX := Lib.hid (hX.below hb1)
  clear hN hX
  go_enter Try.func25, Try.ntmps25
  go_wp2_with fail
  rw [← hW]
  refine HH.out.mono ?_
  rintro e w1 ⟨⟨r, rfl, _, hr, _⟩, hb⟩
  obtain rfl := hr hM (fun j _ => ⟨h0, h1⟩)
  have c1 := (L1.below hb).cell
  have HX1 := Lib.hid (HX.out.below hb)
  have HB := Lib.hid (bel_trans hb1 hb)
  clear hr hW hb hb1 L1 HH HX
  go_wp2_with (go_at_call 46; refine (frame_any _ _ _ _ _ _ h0 (by omega) hc (by omega)).mono ?_; rintro e w2 ⟨rfl, rfl⟩)
  have hwf : WordsAt (w1.alloc (.cells #[.slice (some ⟨b, o, none⟩) l c] 65)) (some ⟨b, o + (k * 8).toNat, none⟩) 8 (frV X k) := by
    intro j hj
    obtain ⟨b', o', hf, hcc⟩ := HX1.out ((k * 8).toNat + j) (by omega)
    simp at hf
    obtain ⟨rfl, rfl⟩ := hf
    refine ⟨b, _, rfl, ?_⟩
    rw [Nat.add_assoc]
    exact cell_keep hcc _
  refine (clone_any _ _ _ _ _ _ (by omega) hwf).mono ?_
  rintro e w3 ⟨f3, c3, rfl, hO3, hb3⟩
  have hB1 := bel_alloc HB.out (.cells #[.slice (some ⟨b, o, none⟩) l c] 65)
  have HO3 := Lib.hid (hO3.mono hB1.size)
  have HB3 := Lib.hid (bel_trans hB1 hb3)
  clear hwf hO3 hb3 hB1
  go_wp2
  go_ret2
  exact ⟨f3, c3, rfl, HO3.out, HB3.out⟩

theorem frame_err (f : Option Addr) (l c : Nat) (k q : Int) (w : World) (hq : q = if okM l = true then 2 else 1) (h : okM l = true → ¬ (0 ≤ k ∧ k < (l : Int) / 8)) :
    Calls Try.prog 25 #[.agg #[.slice f l c], .int .i64 k] w fun e w' => e = .returned (.tuple #[.slice none 0 0, .int .i64 q]) ∧ Below w.heap.size w w' := by
  obtain ⟨W, hW⟩ : ∃ W, W = ((w.alloc (.cells #[.slice f l c] 24)).alloc (.cells #[.slice f l c] 65)).alloc (.cells #[.int .i64 k] 3) := ⟨_, rfl⟩
  have hb1 : Below w.heap.size w W := by rw [hW]; exact bel_alloc (bel_alloc (bel_alloc (Below.refl w.heap.size w) _) _) _
  have hN : NumsAt W (some ⟨w.heap.size + 1 + 1, 0, none⟩) 1 (fun _ => k) := by
    have := nums1 ((w.alloc (.cells #[.slice f l c] 24)).alloc (.cells #[.slice f l c] 65)) k
    rw [size_alloc, size_alloc, ← hW] at this
    exact this
  have HH := Lib.hid (hasAll_any f _ l c 1 1 _ W hN (by omega))
  have hq0 : (q != 0) = true := by subst hq; split <;> rfl
  clear hN
  go_enter Try.func25, Try.ntmps25
  go_wp2_with fail
  rw [← hW]
  refine HH.out.mono ?_
  rintro e w1 ⟨⟨r, rfl, h1, _, h2⟩, hb⟩
  obtain rfl : r = q := by
    cases hM : okM l
    · rw [hM] at hq; exact (h1 hM).trans hq.symm
    · rw [hM] at hq
      exact (h2 hM (fun hA => h hM (hA 0 (by omega)))).trans hq.symm
  have HB := Lib.hid (bel_trans hb1 hb)
  clear h1 h2 hW hb hb1 HH h hq
  go_wp2
  go_ret2
  exact ⟨rfl, HB.out⟩
end Go.Proofs.Ytpnkhijbfnnggaa
