/- Contracts: allows, hasAll, Check, Frames of package mem; the law's there. -/
import Derived.Test.YtbhnjaajkolklaaMemB
set_option linter.all false
namespace Go.Proofs.Ytbhnjaajkolklaa
open Go.ChangeShapes Go.WideShapes Go.ChangeAt Go.RowKit Go.Deep

theorem allows_noM (f : Option Addr) (l c : Nat) (a s : Int) (w : World) (h : okM l = false) :
    Calls Try.prog 60 #[.agg #[.slice f l c], .agg #[.int .i64 a, .int .i64 s]] w fun e w' => e = .returned (.int .i64 1) ∧ Below w.heap.size w w' := by
  go_enter Try.func60, Try.ntmps60
  go_wp2_with (go_at_call 64; refine (bmay_any _ _ _ _).mono ?_; rintro e w' ⟨rfl, rfl⟩)
  go_ret
  exact ⟨rfl, by go_grown⟩

theorem allows_noS (f : Option Addr) (l c : Nat) (a s : Int) (w : World) (h : okM l = true) (hs : okS s = false) :
    Calls Try.prog 60 #[.agg #[.slice f l c], .agg #[.int .i64 a, .int .i64 s]] w fun e w' => e = .returned (.int .i64 1) ∧ Below w.heap.size w w' := by
  go_enter Try.func60, Try.ntmps60
  go_wp2_with (first
    | (go_at_call 64; refine (bmay_any _ _ _ _).mono ?_; rintro e w' ⟨rfl, rfl⟩)
    | (go_at_call 76; refine (pmay_any _ _ _).mono ?_; rintro e w' ⟨rfl, rfl⟩))
  go_ret
  exact ⟨rfl, by go_grown⟩

theorem allows_neg (f : Option Addr) (l c : Nat) (a s : Int) (w : World) (h : okM l = true) (hs : okS s = true) (ha : a < 0) :
    Calls Try.prog 60 #[.agg #[.slice f l c], .agg #[.int .i64 a, .int .i64 s]] w fun e w' => e = .returned (.int .i64 2) ∧ Below w.heap.size w w' := by
  have hd : decide (a < 0) = true := decide_eq_true ha
  go_enter Try.func60, Try.ntmps60
  go_wp2_with (first
    | (go_at_call 64; refine (bmay_any _ _ _ _).mono ?_; rintro e w' ⟨rfl, rfl⟩)
    | (go_at_call 76; refine (pmay_any _ _ _).mono ?_; rintro e w' ⟨rfl, rfl⟩))
  first | (go_region_with (first | fail)) | skip
  go_wp2
  all_goals
    go_ret
    exact ⟨rfl, by go_grown⟩

theorem allows_pos (f : Option Addr) (l c : Nat) (a s : Int) (w : World) (h : okM l = true) (hs : okS s = true) (ha : 0 ≤ a) :
    Calls Try.prog 60 #[.agg #[.slice f l c], .agg #[.int .i64 a, .int .i64 s]] w fun e w' => e = .returned (.int .i64 (mayM l a s)) ∧ Below w.heap.size w w' := by
  have hd : decide (a < 0) = false := decide_eq_false (by omega)
  obtain ⟨l1, l2, l3⟩ := okM_true h
  go_enter Try.func60, Try.ntmps60
  go_wp2_with (go_at_call 64; refine (bmay_any _ _ _ _).mono ?_; rintro e w' ⟨rfl, rfl⟩)
  refine (pmay_any _ _ _).mono ?_
  rintro e w2 ⟨rfl, hw2⟩
  have L0 : Loc w2 w.heap.size 0 (.slice f l c) := by rw [hw2]; exact (((Loc.new w _ _ _ 0 _ rfl rfl).alloc _).alloc _).alloc _
  have L1 : Loc w2 (w.heap.size + 1) 0 (.int .i64 a) := by rw [hw2]; exact ((Loc.new _ _ _ _ 0 _ (by simp) rfl).alloc _).alloc _
  have L2 : Loc w2 (w.heap.size + 1) 1 (.int .i64 s) := by rw [hw2]; exact ((Loc.new _ _ _ _ 1 _ (by simp) rfl).alloc _).alloc _
  have hB : Below w.heap.size w w2 := by rw [hw2]; go_grown
  have c0 := L0.cell
  have c1 := L1.cell
  have c2 := L2.cell
  have HB := Lib.hid hB
  clear hw2 L0 L1 L2 hB
  go_wp2_with fail
  go_region_held3 (fun w' => w'.cell? ⟨w.heap.size, 0, none⟩ = some (.slice f l c) ∧ w'.cell? ⟨w.heap.size + 1, 0, none⟩ = some (.int .i64 a) ∧ w'.cell? ⟨w.heap.size + 1, 1, none⟩ = some (.int .i64 s)) (go_keep)
    (first | (go_at_call 77; refine (bbytes_any _ _ _ _ (by omega)).mono ?_; rintro e w' ⟨rfl, rfl⟩))
  rename_i hHeld
  obtain ⟨k0, k1, k2⟩ := hHeld
  have HB3 := Lib.hid (Below.drew (bel_alloc HB.out (.cells #[.slice f l c] 101)))
  by_cases hb : (l : Int) * 8 ≤ a
  · have E : Hid (mayM l a s = 2) := by unfold mayM; rw [if_neg (by simp [hs]), if_pos (.inr (by omega))]; rfl
    go_wp2
    go_ret
    exact ⟨ret_int E.out.symm, HB3.out⟩
  · by_cases hq : a % s = 0
    · have hq' : (a % s != 0) = false := by simpa using hq
      have E : Hid (mayM l a s = 0) := by unfold mayM; rw [if_neg (by simp [hs]), if_neg (by omega), if_neg (fun h => h hq)]; rfl
      rcases okS_true hs with rfl | rfl | rfl | rfl
      all_goals
        clear hq hs
        go_wp2
        go_ret
        exact ⟨ret_int E.out.symm, HB3.out⟩
    · have hq' : (a % s != 0) = true := by simpa using hq
      have E : Hid (mayM l a s = 8) := by unfold mayM; rw [if_neg (by simp [hs]), if_neg (by omega), if_pos hq]; rfl
      rcases okS_true hs with rfl | rfl | rfl | rfl
      · omega
      all_goals
        clear hq hs
        go_wp2
        go_ret
        exact ⟨ret_int E.out.symm, HB3.out⟩

theorem allows_any (f : Option Addr) (l c : Nat) (a s : Int) (w : World) :
    Calls Try.prog 60 #[.agg #[.slice f l c], .agg #[.int .i64 a, .int .i64 s]] w fun e w' => e = .returned (.int .i64 (if okM l = true then mayM l a s else 1)) ∧ Below w.heap.size w w' := by
  by_cases h : okM l = true
  · rw [if_pos h]
    by_cases hs : okS s = true
    · by_cases ha : a < 0
      · have e : mayM l a s = 2 := by unfold mayM; rw [if_neg (by simp [hs]), if_pos (.inl ha)]
        rw [e]
        exact allows_neg f l c a s w h hs ha
      · exact allows_pos f l c a s w h hs (by omega)
    · have hs' : okS s = false := by simpa using hs
      have e : mayM l a s = 1 := by unfold mayM; rw [if_pos hs']
      rw [e]
      exact allows_noS f l c a s w h hs'
  · rw [if_neg h]
    exact allows_noM f l c a s w (by simpa using h)

theorem mcheck_any (f : Option Addr) (l c : Nat) (w : World) :
    Calls Try.prog 62 #[.agg #[.slice f l c]] w fun e w' => e = .returned (.int .i64 (if okM l = true then 0 else 1)) ∧ Below w.heap.size w w' := by
  cases h : okM l
  all_goals
    go_enter Try.func62, Try.ntmps62
    go_wp2_with (go_at_call 64; refine (bmay_any _ _ _ _).mono ?_; rintro e w' ⟨rfl, rfl⟩)
    go_ret
    exact ⟨rfl, by go_grown⟩

theorem frames_any (f : Option Addr) (l c : Nat) (w : World) :
    Calls Try.prog 44 #[.agg #[.slice f l c]] w fun e w' => e = .returned (if okM l = true then .tuple #[.int .i64 ((l : Int) / 8), .int .i64 0] else .tuple #[.int .i64 0, .int .i64 1]) ∧ Below w.heap.size w w' := by
  have L0 : Loc (w.alloc (.cells #[.slice f l c] 24)) w.heap.size 0 (.slice f l c) := Loc.new w _ _ _ 0 _ rfl rfl
  have hb1 : Below w.heap.size w (w.alloc (.cells #[.slice f l c] 24)) := bel_alloc (Below.refl _ _) _
  have HL := Lib.hid L0
  have HB := Lib.hid hb1
  clear L0 hb1
  cases h : okM l
  · go_enter Try.func44, Try.ntmps44
    go_wp2_with fail
    refine (mcheck_any _ _ _ _).mono ?_
    rw [h]
    rintro e w1 ⟨rfl, hb⟩
    go_wp2
    go_ret2
    exact ⟨rfl, bel_trans HB.out hb⟩
  · obtain ⟨l1, l2, l3⟩ := okM_true h
    go_enter Try.func44, Try.ntmps44
    go_wp2_with fail
    refine (mcheck_any _ _ _ _).mono ?_
    rw [h]
    rintro e w1 ⟨rfl, hb⟩
    have c1 := (HL.out.below hb).cell
    go_wp2_with (go_at_call 63; refine (bframes_any _ _ _ _ (by omega)).mono ?_; rintro e w2 ⟨rfl, rfl⟩)
    go_ret2
    exact ⟨rfl, bel_alloc (bel_trans HB.out hb) _⟩

/-- Are the numbers of a row frames of a memory of so many words? -/
def allFm (l : Nat) (N : Nat → Int) (n : Nat) : Prop := ∀ j, j < n → 0 ≤ N j ∧ N j < (l : Int) / 8

set_option maxRecDepth 100000 in
theorem hasAll_any (f g : Option Addr) (l c n d : Nat) (N : Nat → Int) (w : World) (h : NumsAt w g n N) (hn : n ≤ 1000000000) :
    Calls Try.prog 46 #[.agg #[.slice f l c], .slice g n d] w fun e w' => (∃ k, e = .returned (.int .i64 k) ∧ (okM l = false → k = 1) ∧ (okM l = true → allFm l N n → k = 0) ∧ (okM l = true → ¬ allFm l N n → k = 2)) ∧ Below w.heap.size w w' := by
  have L0 : Loc (w.alloc (.cells #[.slice f l c] 101)) w.heap.size 0 (.slice f l c) := Loc.new w _ _ _ 0 _ rfl rfl
  have hb1 : Below w.heap.size w (w.alloc (.cells #[.slice f l c] 101)) := bel_alloc (Below.refl _ _) _
  have HL := Lib.hid L0
  have HB := Lib.hid hb1
  have HN := Lib.hid h
  clear L0 hb1 h
  cases h : okM l
  · go_enter Try.func46, Try.ntmps46
    go_wp2_with (go_at_call 64; refine (bmay_any _ _ _ _).mono ?_; rintro e w' ⟨rfl, rfl⟩)
    go_ret
    exact ⟨⟨1, rfl, fun _ => rfl, by simp, by simp⟩, bel_alloc HB.out _⟩
  · obtain ⟨l1, l2, l3⟩ := okM_true h
    go_enter Try.func46, Try.ntmps46
    go_wp2_with fail
    refine (bmay_any _ _ _ _).mono ?_
    rintro e w1 ⟨rfl, hw1⟩
    have HL1 : Hid (Loc w1 w.heap.size 0 (.slice f l c)) := by rw [hw1]; exact HL.out.alloc _
    have HB1 : Hid (Below w.heap.size w w1) := by rw [hw1]; exact bel_alloc HB.out _
    clear hw1 HL HB
    go_wp2
    go_loopw [12] (fun i wr => ∃ (k : Nat), k ≤ n ∧ i = .int .i64 k ∧ Below w1.heap.size w1 wr ∧ Hid (∀ j, j < k → 0 ≤ N j ∧ N j < (l : Int) / 8)) (fun i _ => n - (intOf i).toNat)
    case atStart => exact ⟨0, Nat.zero_le _, rfl, Below.refl _ _, fun j hj => absurd hj (by omega)⟩
    case round =>
      obtain ⟨k, hk, rfl, hb, HA⟩ := hrel
      by_cases hlt : k < n
      · have hbw := bel_trans HB1.out hb
        obtain ⟨b, o, rfl, hc⟩ := HN.out k hlt
        have hc1 := keepc hbw hc
        have hc0 := (HL1.out.below hb).cell
        simp only at hc1
        have HBW := Lib.hid hbw
        have HBR := Lib.hid hb
        generalize hNk : N k = nk at hc1
        have HNk := Lib.hid hNk
        have i1 : (0 : Int) ≤ (k : Int) := by omega
        have i2 : (k : Int) < (n : Int) := by omega
        clear hb hbw hc hNk
        by_cases hneg : nk < 0
        · have hd : decide (nk < 0) = true := decide_eq_true hneg
          go_wp2
          go_ret
          refine ⟨⟨2, rfl, by simp, fun _ hA => ?_, fun _ _ => rfl⟩, HBW.out⟩
          have := hA k hlt
          rw [HNk.out] at this
          omega
        · by_cases hbig : (l : Int) / 8 ≤ nk
          · go_wp2_with (go_at_call 63; refine (bframes_any _ _ _ _ (by omega)).mono ?_; rintro e w2 ⟨rfl, rfl⟩)
            go_ret
            refine ⟨⟨2, rfl, by simp, fun _ hA => ?_, fun _ _ => rfl⟩, bel_alloc HBW.out _⟩
            have := hA k hlt
            rw [HNk.out] at this
            omega
          · go_wp2_with (go_at_call 63; refine (bframes_any _ _ _ _ (by omega)).mono ?_; rintro e w2 ⟨rfl, rfl⟩)
            go_roundw
            case rel =>
              refine ⟨k + 1, by omega, by go_num, bel_alloc HBR.out _, fun j hj => ?_⟩
              by_cases hjk : j = k
              · rw [hjk, HNk.out]; omega
              · exact HA.out j (by omega)
            case measure => simp [intOf]; omega
      · go_wp2
        go_ret
        refine ⟨⟨0, rfl, by simp, fun _ _ => rfl, fun _ hA => absurd (fun j hj => HA.out j (by omega)) hA⟩, bel_trans HB1.out hb⟩
end Go.Proofs.Ytbhnjaajkolklaa
