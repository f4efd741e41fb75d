/- Contracts of the small functions of package mem and of its reference. Contracts: CopyMem, EqMem of the reference; draftOf, frame, allows, hasAll of package mem; the law's there. Contracts: allows, hasAll, Check, Frames of package mem; the law's there. Contracts: Read, New, Frame of package mem; Read of the reference. -/
import Derived.Test.YtpelolokdmfbdaaGreatRefs
import Derived.Test.YtpelolokdmfbdaaGreatWords
namespace Go.Proofs.YtpelolokdmfbdaaGreat
section
open Go.ChangeShapes Go.WideShapes Go.ChangeAt Go.RowKit

/-- May a memory of so many words be? -/
def okM (l : Nat) : Bool := decide (8 ≤ l ∧ l ≤ 512 ∧ l % 8 = 0)
theorem okM_true {l : Nat} (h : okM l = true) : 8 ≤ l ∧ l ≤ 512 ∧ l % 8 = 0 := of_decide_eq_true h
/-- May a size be? -/
def okS (s : Int) : Bool := decide (s = 1 ∨ s = 2 ∨ s = 4 ∨ s = 8)
theorem okS_true {s : Int} (h : okS s = true) : s = 1 ∨ s = 2 ∨ s = 4 ∨ s = 8 := of_decide_eq_true h
/-- The error of a place. -/
def mayM (l : Nat) (a s : Int) : Int := if okS s = false then 1 else if a < 0 ∨ 8 * (l : Int) ≤ a then 2 else if a % s ≠ 0 then 8 else 0

theorem rnum_any (n m : Int) (w : World) :
    Calls Tryz.prog 34 #[.int .i64 n, .int .i64 m] w fun e w' => e = .returned (.bool (decide (0 ≤ n ∧ n ≤ m))) ∧ w' = w := by
  go_enter Tryz.func34, Tryz.ntmps34
  go_wp2
  all_goals
    go_ret
    refine ⟨ret_bool ?_, rfl⟩
    rw [Bool.eq_iff_iff]
    simp
    omega

theorem rmem_any (f : Option Addr) (l c : Nat) (w : World) :
    Calls Tryz.prog 26 #[.agg #[.slice f l c]] w fun e w' => e = .returned (.bool (okM l)) ∧ w' = w.alloc (.cells #[.slice f l c] 24) := by
  go_enter Tryz.func26, Tryz.ntmps26
  go_wp2
  all_goals
    go_ret
    refine ⟨ret_bool ?_, rfl⟩
    unfold okM
    rw [Bool.eq_iff_iff]
    simp
    omega

theorem bmay_any (f : Option Addr) (l c : Nat) (w : World) :
    Calls Tryz.prog 65 #[.agg #[.slice f l c]] w fun e w' => e = .returned (.bool (okM l)) ∧ w' = w.alloc (.cells #[.slice f l c] 109) := by
  go_enter Tryz.func65, Tryz.ntmps65
  go_wp2
  all_goals
    go_ret
    refine ⟨ret_bool ?_, rfl⟩
    unfold okM
    rw [Bool.eq_iff_iff]
    simp
    omega

theorem rframes_any (f : Option Addr) (l c : Nat) (w : World) (hl : l ≤ 1000000000000000) :
    Calls Tryz.prog 28 #[.agg #[.slice f l c]] w fun e w' => e = .returned (.int .i64 ((l : Int) / 8)) ∧ w' = w.alloc (.cells #[.slice f l c] 24) := by
  go_enter Tryz.func28, Tryz.ntmps28
  go_wp2
  go_ret
  exact ⟨rfl, rfl⟩

theorem bframes_any (f : Option Addr) (l c : Nat) (w : World) (hl : l ≤ 1000000000000000) :
    Calls Tryz.prog 84 #[.agg #[.slice f l c]] w fun e w' => e = .returned (.int .i64 ((l : Int) / 8)) ∧ w' = w.alloc (.cells #[.slice f l c] 109) := by
  go_enter Tryz.func84, Tryz.ntmps84
  go_wp2
  go_ret
  exact ⟨rfl, rfl⟩

theorem bbytes_any (f : Option Addr) (l c : Nat) (w : World) (hl : l ≤ 1000000000) :
    Calls Tryz.prog 113 #[.agg #[.slice f l c]] w fun e w' => e = .returned (.int .i64 ((l : Int) * 8)) ∧ w' = w.alloc (.cells #[.slice f l c] 109) := by
  go_enter Tryz.func113, Tryz.ntmps113
  go_wp2
  go_ret
  exact ⟨rfl, rfl⟩

theorem pmay_any (a s : Int) (w : World) :
    Calls Tryz.prog 112 #[.agg #[.int .i64 a, .int .i64 s]] w fun e w' => e = .returned (.bool (okS s)) ∧ w' = w.alloc (.cells #[.int .i64 a, .int .i64 s] 146) := by
  by_cases hs : okS s = true
  · rcases okS_true hs with rfl | rfl | rfl | rfl
    all_goals
      go_enter Tryz.func112, Tryz.ntmps112
      go_wp2
      go_ret
      exact ⟨rfl, rfl⟩
  · have hn : s ≠ 1 ∧ s ≠ 2 ∧ s ≠ 4 ∧ s ≠ 8 := by
      unfold okS at hs; simp at hs; omega
    obtain ⟨n1, n2, n3, n4⟩ := hn
    have e : okS s = false := by simpa using hs
    rw [e]
    clear e hs
    go_enter Tryz.func112, Tryz.ntmps112
    go_wp2
    go_ret
    refine ⟨ret_bool ?_, rfl⟩
    simp [n1, n2, n3, n4]

theorem pword_any (a s : Int) (w : World) (h0 : 0 ≤ a) (h1 : a ≤ 1000000000000) :
    Calls Tryz.prog 104 #[.agg #[.int .i64 a, .int .i64 s]] w fun e w' => e = .returned (.int .i64 (a / 8)) ∧ w' = w.alloc (.cells #[.int .i64 a, .int .i64 s] 146) := by
  go_enter Tryz.func104, Tryz.ntmps104
  go_wp2
  go_ret
  exact ⟨rfl, rfl⟩

theorem plow_any (a s : Int) (w : World) (h0 : 0 ≤ a) (h1 : a ≤ 1000000000000) :
    Calls Tryz.prog 105 #[.agg #[.int .i64 a, .int .i64 s]] w fun e w' => e = .returned (.int .i64 (a % 8 * 8)) ∧ w' = w.alloc (.cells #[.int .i64 a, .int .i64 s] 146) := by
  go_enter Tryz.func105, Tryz.ntmps105
  go_wp2
  go_ret
  exact ⟨rfl, rfl⟩

theorem pones_any (a s : Int) (w : World) (h0 : 1 ≤ s) (h1 : s ≤ 8) :
    Calls Tryz.prog 106 #[.agg #[.int .i64 a, .int .i64 s]] w fun e w' => e = .returned (.int .u64 (u (msk (8 * s)))) ∧ w' = w.alloc (.cells #[.int .i64 a, .int .i64 s] 146) := by
  go_enter Tryz.func106, Tryz.ntmps106
  go_wp2
  go_ret
  refine ⟨ret_int ?_, rfl⟩
  rw [← msk_ones]
  congr 2
  omega

end
section
open Go.ChangeShapes Go.WideShapes Go.ChangeAt Go.RowKit Go.Deep

end
section
open Go.ChangeShapes Go.WideShapes Go.ChangeAt Go.RowKit Go.Deep

theorem allows_noM (f : Option Addr) (l c : Nat) (a s : Int) (w : World) (h : okM l = false) :
    Calls Tryz.prog 103 #[.agg #[.slice f l c], .agg #[.int .i64 a, .int .i64 s]] w fun e w' => e = .returned (.int .i64 1) ∧ Below w.heap.size w w' := by
  go_enter Tryz.func103, Tryz.ntmps103
  go_wp2_with (go_at_call 65; refine (bmay_any _ _ _ _).mono ?_; rintro e w' ⟨rfl, rfl⟩)
  go_ret
  exact ⟨rfl, by go_grown⟩

theorem allows_noS (f : Option Addr) (l c : Nat) (a s : Int) (w : World) (h : okM l = true) (hs : okS s = false) :
    Calls Tryz.prog 103 #[.agg #[.slice f l c], .agg #[.int .i64 a, .int .i64 s]] w fun e w' => e = .returned (.int .i64 1) ∧ Below w.heap.size w w' := by
  go_enter Tryz.func103, Tryz.ntmps103
  go_wp2_with (first
    | (go_at_call 65; refine (bmay_any _ _ _ _).mono ?_; rintro e w' ⟨rfl, rfl⟩)
    | (go_at_call 112; refine (pmay_any _ _ _).mono ?_; rintro e w' ⟨rfl, rfl⟩))
  go_ret
  exact ⟨rfl, by go_grown⟩

theorem allows_neg (f : Option Addr) (l c : Nat) (a s : Int) (w : World) (h : okM l = true) (hs : okS s = true) (ha : a < 0) :
    Calls Tryz.prog 103 #[.agg #[.slice f l c], .agg #[.int .i64 a, .int .i64 s]] w fun e w' => e = .returned (.int .i64 2) ∧ Below w.heap.size w w' := by
  have hd : decide (a < 0) = true := decide_eq_true ha
  go_enter Tryz.func103, Tryz.ntmps103
  go_wp2_with (first
    | (go_at_call 65; refine (bmay_any _ _ _ _).mono ?_; rintro e w' ⟨rfl, rfl⟩)
    | (go_at_call 112; refine (pmay_any _ _ _).mono ?_; rintro e w' ⟨rfl, rfl⟩))
  first | (go_region_with (first | fail)) | skip
  go_wp2
  all_goals
    go_ret
    exact ⟨rfl, by go_grown⟩

theorem allows_pos (f : Option Addr) (l c : Nat) (a s : Int) (w : World) (h : okM l = true) (hs : okS s = true) (ha : 0 ≤ a) :
    Calls Tryz.prog 103 #[.agg #[.slice f l c], .agg #[.int .i64 a, .int .i64 s]] w fun e w' => e = .returned (.int .i64 (mayM l a s)) ∧ Below w.heap.size w w' := by
  have hd : decide (a < 0) = false := decide_eq_false (by omega)
  obtain ⟨l1, l2, l3⟩ := okM_true h
  go_enter Tryz.func103, Tryz.ntmps103
  go_wp2_with (go_at_call 65; refine (bmay_any _ _ _ _).mono ?_; rintro e w' ⟨rfl, rfl⟩)
  refine (pmay_any _ _ _).mono ?_
  rintro e w2 ⟨rfl, hw2⟩
  have L0 : Loc w2 w.heap.size 0 (.slice f l c) := by rw [hw2]; exact (((Loc.new w _ _ _ 0 _ rfl rfl).alloc _).alloc _).alloc _
  have L1 : Loc w2 (w.heap.size + 1) 0 (.int .i64 a) := by rw [hw2]; exact ((Loc.new _ _ _ _ 0 _ (by simp) rfl).alloc _).alloc _
  have L2 : Loc w2 (w.heap.size + 1) 1 (.int .i64 s) := by rw [hw2]; exact ((Loc.new _ _ _ _ 1 _ (by simp) rfl).alloc _).alloc _
  have hB : Below w.heap.size w w2 := by rw [hw2]; go_grown
  have c0 := L0.cell
  have c1 := L1.cell
  have c2 := L2.cell
  have HB := Lib.hid hB
  clear hw2 L0 L1 L2 hB
  go_wp2_with fail
  go_region_held3 (fun w' => w'.cell? ⟨w.heap.size, 0, none⟩ = some (.slice f l c) ∧ w'.cell? ⟨w.heap.size + 1, 0, none⟩ = some (.int .i64 a) ∧ w'.cell? ⟨w.heap.size + 1, 1, none⟩ = some (.int .i64 s)) (go_keep)
    (first | (go_at_call 113; refine (bbytes_any _ _ _ _ (by omega)).mono ?_; rintro e w' ⟨rfl, rfl⟩))
  rename_i hHeld
  obtain ⟨k0, k1, k2⟩ := hHeld
  have HB3 := Lib.hid (Below.drew (bel_alloc HB.out (.cells #[.slice f l c] 109)))
  by_cases hb : (l : Int) * 8 ≤ a
  · have E : Hid (mayM l a s = 2) := by unfold mayM; rw [if_neg (by simp [hs]), if_pos (.inr (by omega))]; rfl
    go_wp2
    go_ret
    exact ⟨ret_int E.out.symm, HB3.out⟩
  · by_cases hq : a % s = 0
    · have hq' : (a % s != 0) = false := by simpa using hq
      have E : Hid (mayM l a s = 0) := by unfold mayM; rw [if_neg (by simp [hs]), if_neg (by omega), if_neg (fun h => h hq)]; rfl
      rcases okS_true hs with rfl | rfl | rfl | rfl
      all_goals
        clear hq hs
        go_wp2
        go_ret
        exact ⟨ret_int E.out.symm, HB3.out⟩
    · have hq' : (a % s != 0) = true := by simpa using hq
      have E : Hid (mayM l a s = 8) := by unfold mayM; rw [if_neg (by simp [hs]), if_neg (by omega), if_pos hq]; rfl
      rcases okS_true hs with rfl | rfl | rfl | rfl
      · omega
      all_goals
        clear hq hs
        go_wp2
        go_ret
        exact ⟨ret_int E.out.symm, HB3.out⟩

theorem allows_any (f : Option Addr) (l c : Nat) (a s : Int) (w : World) :
    Calls Tryz.prog 103 #[.agg #[.slice f l c], .agg #[.int .i64 a, .int .i64 s]] w fun e w' => e = .returned (.int .i64 (if okM l = true then mayM l a s else 1)) ∧ Below w.heap.size w w' := by
  by_cases h : okM l = true
  · rw [if_pos h]
    by_cases hs : okS s = true
    · by_cases ha : a < 0
      · have e : mayM l a s = 2 := by unfold mayM; rw [if_neg (by simp [hs]), if_pos (.inl ha)]
        rw [e]
        exact allows_neg f l c a s w h hs ha
      · exact allows_pos f l c a s w h hs (by omega)
    · have hs' : okS s = false := by simpa using hs
      have e : mayM l a s = 1 := by unfold mayM; rw [if_pos hs']
      rw [e]
      exact allows_noS f l c a s w h hs'
  · rw [if_neg h]
    exact allows_noM f l c a s w (by simpa using h)

theorem mcheck_any (f : Option Addr) (l c : Nat) (w : World) :
    Calls Tryz.prog 50 #[.agg #[.slice f l c]] w fun e w' => e = .returned (.int .i64 (if okM l = true then 0 else 1)) ∧ Below w.heap.size w w' := by
  cases h : okM l
  all_goals
    go_enter Tryz.func50, Tryz.ntmps50
    go_wp2_with (go_at_call 65; refine (bmay_any _ _ _ _).mono ?_; rintro e w' ⟨rfl, rfl⟩)
    go_ret
    exact ⟨rfl, by go_grown⟩

theorem frames_any (f : Option Addr) (l c : Nat) (w : World) :
    Calls Tryz.prog 71 #[.agg #[.slice f l c]] w fun e w' => e = .returned (if okM l = true then .tuple #[.int .i64 ((l : Int) / 8), .int .i64 0] else .tuple #[.int .i64 0, .int .i64 1]) ∧ Below w.heap.size w w' := by
  have L0 : Loc (w.alloc (.cells #[.slice f l c] 24)) w.heap.size 0 (.slice f l c) := Loc.new w _ _ _ 0 _ rfl rfl
  have hb1 : Below w.heap.size w (w.alloc (.cells #[.slice f l c] 24)) := bel_alloc (Below.refl _ _) _
  have HL := Lib.hid L0
  have HB := Lib.hid hb1
  clear L0 hb1
  cases h : okM l
  · go_enter Tryz.func71, Tryz.ntmps71
    go_wp2_with fail
    refine (mcheck_any _ _ _ _).mono ?_
    rw [h]
    rintro e w1 ⟨rfl, hb⟩
    go_wp2
    go_ret2
    exact ⟨rfl, bel_trans HB.out hb⟩
  · obtain ⟨l1, l2, l3⟩ := okM_true h
    go_enter Tryz.func71, Tryz.ntmps71
    go_wp2_with fail
    refine (mcheck_any _ _ _ _).mono ?_
    rw [h]
    rintro e w1 ⟨rfl, hb⟩
    have c1 := (HL.out.below hb).cell
    go_wp2_with (go_at_call 84; refine (bframes_any _ _ _ _ (by omega)).mono ?_; rintro e w2 ⟨rfl, rfl⟩)
    go_ret2
    exact ⟨rfl, bel_alloc (bel_trans HB.out hb) _⟩

/-- Are the numbers of a row frames of a memory of so many words? -/
def allF (l : Nat) (N : Nat → Int) (n : Nat) : Prop := ∀ j, j < n → 0 ≤ N j ∧ N j < (l : Int) / 8

end
section
open Go.ChangeShapes Go.WideShapes Go.ChangeAt Go.RowKit Go.Deep

theorem mayE_zero {l : Nat} {a s : Int} (h : mayM l a s = 0) : okS s = true ∧ 0 ≤ a ∧ a < 8 * (l : Int) ∧ a % s = 0 := by
  unfold mayM at h
  split at h
  · omega
  · split at h
    · omega
    · split at h
      · omega
      · rename_i h1 h2 h3
        refine ⟨by simpa using h1, by omega, by omega, by simpa using h3⟩

/-- The number at a place. -/
def rdV (X : Nat → BitVec 64) (a s : Int) : BitVec 64 := X (a / 8).toNat >>> (a % 8 * 8).toNat &&& msk (8 * s)

theorem read_ok (f : Option Addr) (l c : Nat) (X : Nat → BitVec 64) (a s : Int) (w : World) (hX : WordsAt w f l X) (hM : okM l = true) (hE : mayM l a s = 0) :
    Calls Tryz.prog 98 #[.agg #[.slice f l c], .int .i64 a, .int .i64 s] w fun e w' => e = .returned (.tuple #[.int .u64 (u (rdV X a s)), .int .i64 0]) ∧ Below w.heap.size w w' := by
  obtain ⟨hs, a0, a1, a2⟩ := mayE_zero hE
  obtain ⟨l1, l2, l3⟩ := okM_true hM
  have hs1 := okS_true hs
  obtain ⟨W, hW⟩ : ∃ W, W = ((w.alloc (.cells #[.slice f l c] 24)).alloc (.cells #[.slice f l c] 109)).alloc (.cells #[.int .i64 a, .int .i64 s] 146) := ⟨_, rfl⟩
  have hb1 : Below w.heap.size w W := by rw [hW]; exact bel_alloc (bel_alloc (bel_alloc (Below.refl w.heap.size w) _) _) _
  have L1 : Loc W (w.heap.size + 1) 0 (.slice f l c) := by rw [hW]; exact (Loc.new _ _ _ _ 0 _ (by simp) rfl).alloc _
  have L2 : Loc W (w.heap.size + 1 + 1) 0 (.int .i64 a) := by rw [hW]; exact Loc.new _ _ _ _ 0 _ (by simp) rfl
  have L3 : Loc W (w.heap.size + 1 + 1) 1 (.int .i64 s) := by rw [hW]; exact Loc.new _ _ _ _ 1 _ (by simp) rfl
  have H := allows_any f l c a s W
  rw [if_pos hM, hE] at H
  have HH := Lib.hid H
  have HX := Lib.hid (hX.below hb1)
  clear H hX
  go_enter Tryz.func98, Tryz.ntmps98
  go_wp2_with fail
  rw [← hW]
  refine HH.out.mono ?_
  rintro e w1 ⟨rfl, hb⟩
  have c1 := (L1.below hb).cell
  have c2 := (L2.below hb).cell
  have c3 := (L3.below hb).cell
  obtain ⟨b, o, rfl, hc⟩ := HX.out (a / 8).toNat (by omega)
  have c4 := keepc hb hc
  simp only at c4
  have HB := Lib.hid (bel_trans hb1 hb)
  have i1 : 0 ≤ a / 8 := by omega
  have i2 : a / 8 < (l : Int) := by omega
  clear hW hb hb1 L1 L2 L3 hc HH HX
  go_wp2_with fail
  go_region_held3 (fun w' => w'.cell? ⟨w.heap.size + 1, 0, none⟩ = some (.slice (some ⟨b, o, none⟩) l c) ∧ w'.cell? ⟨w.heap.size + 1 + 1, 0, none⟩ = some (.int .i64 a) ∧ w'.cell? ⟨w.heap.size + 1 + 1, 1, none⟩ = some (.int .i64 s) ∧ w'.cell? ⟨b, o + (a / 8).toNat, none⟩ = some (.int .u64 (u (X (a / 8).toNat)))) (refine ⟨?_, ?_, ?_, ?_⟩ <;> (repeat (first | assumption | refine cell_keep ?_ _ | refine cell_drew ?_)))
    (first
      | (go_at_call 104; refine (pword_any _ _ _ a0 (by omega)).mono ?_; rintro e w' ⟨rfl, rfl⟩)
      | (go_at_call 105; refine (plow_any _ _ _ a0 (by omega)).mono ?_; rintro e w' ⟨rfl, rfl⟩)
      | (go_at_call 106; refine (pones_any _ _ _ (by omega) (by omega)).mono ?_; rintro e w' ⟨rfl, rfl⟩))
  go_wp2
  go_ret2
  exact ⟨rfl, Below.drew (bel_alloc (bel_alloc (bel_alloc HB.out _) _) _)⟩

theorem read_err (f : Option Addr) (l c : Nat) (a s k : Int) (w : World) (hE : (if okM l = true then mayM l a s else 1) = k) (hk : k ≠ 0) :
    Calls Tryz.prog 98 #[.agg #[.slice f l c], .int .i64 a, .int .i64 s] w fun e w' => e = .returned (.tuple #[.int .u64 0, .int .i64 k]) ∧ Below w.heap.size w w' := by
  obtain ⟨W, hW⟩ : ∃ W, W = ((w.alloc (.cells #[.slice f l c] 24)).alloc (.cells #[.slice f l c] 109)).alloc (.cells #[.int .i64 a, .int .i64 s] 146) := ⟨_, rfl⟩
  have hb1 : Below w.heap.size w W := by rw [hW]; exact bel_alloc (bel_alloc (bel_alloc (Below.refl w.heap.size w) _) _) _
  have H := allows_any f l c a s W
  rw [hE] at H
  have HH := Lib.hid H
  have hk' : (k != 0) = true := by simpa using hk
  clear H hE hk
  go_enter Tryz.func98, Tryz.ntmps98
  go_wp2_with fail
  rw [← hW]
  refine HH.out.mono ?_
  rintro e w1 ⟨rfl, hb⟩
  have HB := Lib.hid (bel_trans hb1 hb)
  clear hW hb hb1 HH
  go_wp2
  go_ret2
  exact ⟨rfl, HB.out⟩

theorem zeros_cells (n : Nat) : (madeCells #[.int .u64 0] n).toList = wcells (fun _ => 0#64) n := by
  rw [toList_madeCells_one]
  apply List.ext_getElem?
  intro j
  by_cases hj : j < n
  · rw [wcells_get _ n j hj]; simp [hj]; decide
  · rw [wcells_none _ n j (by omega)]; simp; omega

/-- A frame's words. -/
def frV (X : Nat → BitVec 64) (k : Int) : Nat → BitVec 64 := fun j => X ((k * 8).toNat + j)

theorem nums1 (w : World) (x : Int) : NumsAt (w.alloc (.cells #[.int .i64 x] 3)) (some ⟨w.heap.size, 0, none⟩) 1 (fun _ => x) := by
  intro j hj
  obtain rfl : j = 0 := by omega
  exact ⟨_, _, rfl, cell_new w _ _ 0⟩
theorem nums2 (w : World) (x y : Int) : NumsAt (w.alloc (.cells #[.int .i64 x, .int .i64 y] 3)) (some ⟨w.heap.size, 0, none⟩) 2 (fun j => if j = 0 then x else y) := by
  intro j hj
  by_cases h : j = 0
  · subst h; exact ⟨_, _, rfl, cell_new w _ _ 0⟩
  · obtain rfl : j = 1 := by omega
    exact ⟨_, _, rfl, cell_new w _ _ 1⟩

end
end Go.Proofs.YtpelolokdmfbdaaGreat
