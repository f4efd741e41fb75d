/- Reading words (package desc), and the reference's Of: contracts. Reading words (package desc): contracts. -/
import Derived.Test.YtbhnjaajkolklaaGreatDe
import Derived.Test.YtbhnjaajkolklaaGreatEo
set_option linter.all false
namespace Go.Proofs.YtbhnjaajkolklaaGreat
section
open Go.ChangeShapes Go.WideShapes Go.ChangeAt Go.RowKit Go.Deep

theorem number_any (v : BitVec 64) (p m : Int) (w : World) (h : okB p m = true) (hm : m ≤ 12) :
    Calls Tryz.prog 138 #[.int .u64 (u v), .int .i64 p, .int .i64 m] w fun e w' => e = .returned (.int .i64 (getN v p m)) ∧ Below w.heap.size w w' := by
  obtain ⟨h0, h1, h2⟩ := okB_true h
  have hb := getN_bd v p m (by omega) hm
  have HG := Lib.hid (get_yes v p m w h)
  have he : u (v >>> p.toNat &&& msk m) = getN v p m := rfl
  rw [he] at HG
  clear he h h0 h1 h2
  generalize getN v p m = g at *
  obtain ⟨hb0, hb1⟩ := hb
  go_enter Tryz.func138, Tryz.ntmps138
  go_wp2_with fail
  refine HG.out.mono ?_
  rintro e w' ⟨rfl, rfl⟩
  go_wp2
  go_ret
  exact ⟨rfl, by go_grown⟩

theorem flag_any (v : BitVec 64) (p : Int) (w : World) (h0 : 0 ≤ p) (h1 : p ≤ 63) :
    Calls Tryz.prog 144 #[.int .u64 (u v), .int .i64 p] w fun e w' => e = .returned (.bool (flagW v p)) ∧ Below w.heap.size w w' := by
  have HN := Lib.hid (number_any v p 1 w (by unfold okB; exact decide_eq_true ⟨h0, by omega, by omega⟩) (by omega))
  have hf : flagW v p = (getN v p 1 == 1) := (beq_int _ _).symm
  rw [hf]
  clear hf
  generalize getN v p 1 = g at *
  go_enter Tryz.func144, Tryz.ntmps144
  go_wp2_with fail
  refine HN.out.mono ?_
  rintro e w' ⟨rfl, hb⟩
  go_wp2
  go_ret
  exact ⟨rfl, hb⟩

theorem kind_any (st lv : Int) (v : BitVec 64) (w : World) :
    Calls Tryz.prog 137 #[.agg #[.int .i64 st, .int .i64 lv], .int .u64 (u v)] w fun e w' => e = .returned (.int .i64 (kindD lv v)) ∧ Below w.heap.size w w' := by
  have HF := Lib.hid (fun W => flag_any v 0 W (by decide) (by decide))
  have HG := Lib.hid (fun W => flag_any v 1 W (by decide) (by decide))
  have hk : kindD lv v = if flagW v 0 = false then 0 else if flagW v 1 = true ∧ lv ≠ 3 then 1 else 2 := rfl
  have HK := Lib.hid hk
  clear hk
  generalize kindD lv v = kk at *
  generalize flagW v 0 = f0 at *
  generalize flagW v 1 = f1 at *
  cases f0
  · have HK' := Lib.hid (HK.out.trans (if_pos rfl))
    clear HK HG
    go_enter Tryz.func137, Tryz.ntmps137
    go_wp2_with (go_at_call 144; refine (HF.out _).mono ?_; rintro e w' ⟨rfl, hb1⟩)
    go_ret
    rw [HK'.out]
    exact ⟨rfl, bel_trans (bel_alloc (Below.refl _ _) _) hb1⟩
  · have HK' := Lib.hid (HK.out.trans (if_neg (by decide)))
    clear HK
    have hBX := Lib.hid (BoxAt.new w #[.int .i64 st, .int .i64 lv] 134)
    cases f1
    · have HK2 := Lib.hid (HK'.out.trans (if_neg (fun h => by cases h.1)))
      clear HK'
      go_enter Tryz.func137, Tryz.ntmps137
      go_wp2_with fail
      refine (HF.out _).mono ?_
      rintro e w1 ⟨rfl, hb1⟩
      go_wp2_with (go_at_call 144; refine (HG.out _).mono ?_; rintro e w' ⟨rfl, hb2⟩)
      go_ret
      rw [HK2.out]
      exact ⟨rfl, bel_trans (bel_trans (bel_alloc (Below.refl _ _) _) hb1) hb2⟩
    · by_cases h3 : lv = 3
      · subst h3
        have HK2 := Lib.hid (HK'.out.trans (if_neg (fun h => h.2 rfl)))
        clear HK'
        go_enter Tryz.func137, Tryz.ntmps137
        go_wp2_with fail
        refine (HF.out _).mono ?_
        rintro e w1 ⟨rfl, hb1⟩
        have hX1 := Lib.hid (hBX.out.below hb1)
        go_wp2_with fail
        refine (HG.out _).mono ?_
        rintro e w2 ⟨rfl, hb2⟩
        have v1 := (hX1.out.below hb2).cell 1
        simp only [List.getElem?_toArray, List.getElem?_cons_zero, List.getElem?_cons_succ] at v1
        go_wp2
        go_ret
        rw [HK2.out]
        exact ⟨rfl, bel_trans (bel_trans (bel_alloc (Below.refl _ _) _) hb1) hb2⟩
      · have HK2 := Lib.hid (HK'.out.trans (if_pos ⟨rfl, h3⟩))
        have t3 : (lv != 3) = true := by simpa using h3
        clear HK' h3
        go_enter Tryz.func137, Tryz.ntmps137
        go_wp2_with fail
        refine (HF.out _).mono ?_
        rintro e w1 ⟨rfl, hb1⟩
        have hX1 := Lib.hid (hBX.out.below hb1)
        go_wp2_with fail
        refine (HG.out _).mono ?_
        rintro e w2 ⟨rfl, hb2⟩
        have v1 := (hX1.out.below hb2).cell 1
        simp only [List.getElem?_toArray, List.getElem?_cons_zero, List.getElem?_cons_succ] at v1
        go_wp2
        go_ret
        rw [HK2.out]
        exact ⟨rfl, bel_trans (bel_trans (bel_alloc (Below.refl _ _) _) hb1) hb2⟩
end
section
open Go.ChangeShapes Go.WideShapes Go.ChangeAt Go.RowKit Go.Deep

/-- The cells of an entry. -/
def dentV (st lv : Int) (d : Dsc) : Value := .agg #[.int .i64 st, .int .i64 lv, .int .i64 d.k, .int .i64 d.f, .bool d.r, .bool d.w, .bool d.x, .bool d.a, .bool d.n, .int .i64 d.s, .int .i64 d.o]
def dscV (d : Dsc) : Value := .agg #[.int .i64 d.k, .int .i64 d.f, .bool d.r, .bool d.w, .bool d.x, .bool d.a, .bool d.n, .int .i64 d.s, .int .i64 d.o]
theorem kind_cases (lv : Int) (v : BitVec 64) : kindD lv v = 0 ∨ kindD lv v = 1 ∨ kindD lv v = 2 := by
  unfold kindD
  split
  · exact .inl rfl
  · split
    · exact .inr (.inl rfl)
    · exact .inr (.inr rfl)
/-- What is read, of the kind and the attributes. -/
def readK (k : Int) (v : BitVec 64) (r w n : Bool) (s : Int) : Dsc := if k = 0 then ⟨0, 0, false, false, false, false, false, 0, getN v 4 4⟩ else if k = 2 then ⟨2, getN v 12 12, r, w, !flagW v 54, flagW v 10, n, s, 0⟩ else ⟨k, getN v 12 12, false, false, false, false, false, 0, 0⟩
theorem readD_one {st lv : Int} {v : BitVec 64} (h : (st == 1) = true) : readD st lv v = readK (kindD lv v) v true (!flagW v 7) (flagW v 11) 0 := by
  simp only [beq_iff_eq] at h
  unfold readD readK
  rcases kind_cases lv v with k | k | k <;> simp [k, h]
theorem readD_two {st lv : Int} {v : BitVec 64} (h : (st == 1) = false) : readD st lv v = readK (kindD lv v) v (flagW v 6) (flagW v 7) false (getN v 55 4) := by
  simp only [beq_eq_false_iff_ne, ne_eq] at h
  unfold readD readK
  rcases kind_cases lv v with k | k | k <;> simp [k, h]
theorem sattr_any (st lv : Int) (v : BitVec 64) (w : World) :
    Calls Tryz.prog 139 #[.agg #[.int .i64 st, .int .i64 lv], .int .u64 (u v)] w fun e w' => e = .returned (bif st == 1 then .agg #[.bool true, .bool (!flagW v 7), .bool (!flagW v 54), .bool (flagW v 10), .bool (flagW v 11), .int .i64 0] else .agg #[.bool (flagW v 6), .bool (flagW v 7), .bool (!flagW v 54), .bool (flagW v 10), .bool false, .int .i64 (getN v 55 4)]) ∧ Below w.heap.size w w' := by
  rcases Bool.eq_false_or_eq_true (st == 1) with t1 | t1
  ·  exact calls_ex mixedT [] (.r 1 [(1, .call 144 (fun _ => [.int .u64 (u v), .int .i64 54]) (fun _ => .bool (flagW v 54))), (4, .call 144 (fun _ => [.int .u64 (u v), .int .i64 10]) (fun _ => .bool (flagW v 10))), aN 7 2 0 6] (.r 2 [a1 1 0 0, (2, .rw (fun _ => .bool (st == 1)) (fun _ => .bool true))] (.r 3 [(1, .call 144 (fun _ => [.int .u64 (u v), .int .i64 7]) (fun _ => .bool (flagW v 7))), (4, .call 144 (fun _ => [.int .u64 (u v), .int .i64 11]) (fun _ => .bool (flagW v 11))), a1 6 2 0, a1 8 2 1, a1 10 2 4] (.r 4 [aN 0 2 0 6, aN 1 1 0 6] (.fin [(1, 0, 6)] (fun _ => .agg #[.bool true, .bool (!(flagW v 7)), .bool (!(flagW v 54)), .bool (flagW v 10), .bool (flagW v 11), .int .i64 0]) []))))) Tryz.func139 rfl (Fits.nil w) (⟨fun _ W _ => flag_any v 54 W (by decide) (by decide), fun _ W _ => flag_any v 10 W (by decide) (by decide), fun _ => congrArg Value.bool t1, fun _ W _ => flag_any v 7 W (by decide) (by decide), fun _ W _ => flag_any v 11 W (by decide) (by decide), fun _ _ h _ => ⟨by rw [t1]; rfl, h.below⟩⟩) rfl (fun _ => by kernel_rfl)
  ·  exact calls_ex mixedT [] (.r 1 [(1, .call 144 (fun _ => [.int .u64 (u v), .int .i64 54]) (fun _ => .bool (flagW v 54))), (4, .call 144 (fun _ => [.int .u64 (u v), .int .i64 10]) (fun _ => .bool (flagW v 10))), aN 7 2 0 6] (.r 2 [a1 1 0 0, (2, .rw (fun _ => .bool (st == 1)) (fun _ => .bool false))] (.r 5 [(1, .call 144 (fun _ => [.int .u64 (u v), .int .i64 6]) (fun _ => .bool (flagW v 6))), (3, .call 144 (fun _ => [.int .u64 (u v), .int .i64 7]) (fun _ => .bool (flagW v 7))), (5, .call 138 (fun _ => [.int .u64 (u v), .int .i64 55, .int .i64 4]) (fun _ => .int .i64 (getN v 55 4))), a1 7 2 0, a1 9 2 1, a1 11 2 5] (.r 6 [aN 0 2 0 6, aN 1 1 0 6] (.fin [(1, 0, 6)] (fun _ => .agg #[.bool (flagW v 6), .bool (flagW v 7), .bool (!(flagW v 54)), .bool (flagW v 10), .bool false, .int .i64 (getN v 55 4)]) []))))) Tryz.func139 rfl (Fits.nil w) (⟨fun _ W _ => flag_any v 54 W (by decide) (by decide), fun _ W _ => flag_any v 10 W (by decide) (by decide), fun _ => congrArg Value.bool t1, fun _ W _ => flag_any v 6 W (by decide) (by decide), fun _ W _ => flag_any v 7 W (by decide) (by decide), fun _ W _ => number_any v 55 4 W (by decide) (by decide), fun _ _ h _ => ⟨by rw [t1]; rfl, h.below⟩⟩) rfl (fun _ => by kernel_rfl)
theorem read_any (st lv : Int) (v : BitVec 64) (w : World) :
    Calls Tryz.prog 132 #[.agg #[.int .i64 st, .int .i64 lv], .int .u64 (u v)] w fun e w' => e = .returned (dentV st lv (readD st lv v)) ∧ Below w.heap.size w w' := by
  rcases Bool.eq_false_or_eq_true (st == 1) with t1 | t1
  ·exact calls_ex mixedT [] (.r 1 [aN 0 0 0 2, aN 4 2 0 11] (.r 2 [aN 0 0 0 2, (2, .call 137 (fun _ => [.agg #[.int .i64 st, .int .i64 lv], .int .u64 (u v)]) (fun _ => .int .i64 (kindD lv v))), a1 5 2 2] (.r 3 [a1 2 2 2] (.split ((kindD lv v) == 0) (.r 4 [(1, .call 138 (fun _ => [.int .u64 (u v), .int .i64 4, .int .i64 4]) (fun _ => .int .i64 (getN v 4 4))), a1 4 2 10] (.r 5 [aN 0 2 0 11, aN 1 1 0 11] (.fin [(1, 0, 11)] (fun _ => .agg #[.int .i64 st, .int .i64 lv, .int .i64 (kindD lv v), .int .i64 0, .bool false, .bool false, .bool false, .bool false, .bool false, .int .i64 0, .int .i64 (getN v 4 4)]) []))) (.r 6 [(1, .call 138 (fun _ => [.int .u64 (u v), .int .i64 12, .int .i64 12]) (fun _ => .int .i64 (getN v 12 12))), a1 4 2 3] (.r 7 [a1 2 2 2] (.split ((kindD lv v) == 2) (.r 8 [aN 0 0 0 2, (2, .call 139 (fun _ => [.agg #[.int .i64 st, .int .i64 lv], .int .u64 (u v)]) (fun _ => .agg #[.bool true, .bool (!flagW v 7), .bool (!flagW v 54), .bool (flagW v 10), .bool (flagW v 11), .int .i64 0])), aN 5 2 4 6] (.r 9 [aN 0 2 0 11, aN 1 1 0 11] (.fin [(1, 0, 11)] (fun _ => .agg #[.int .i64 st, .int .i64 lv, .int .i64 (kindD lv v), .int .i64 (getN v 12 12), .bool true, .bool (!flagW v 7), .bool (!flagW v 54), .bool (flagW v 10), .bool (flagW v 11), .int .i64 0, .int .i64 0]) []))) (.r 9 [aN 0 2 0 11, aN 1 1 0 11] (.fin [(1, 0, 11)] (fun _ => .agg #[.int .i64 st, .int .i64 lv, .int .i64 (kindD lv v), .int .i64 (getN v 12 12), .bool false, .bool false, .bool false, .bool false, .bool false, .int .i64 0, .int .i64 0]) []))))))))) Tryz.func132 rfl (Fits.nil w) (⟨fun _ W _ => kind_any st lv v W, fun hS1 => ⟨fun _ W _ => number_any v 4 4 W (by decide) (by decide), fun _ _ h _ => ⟨by rw [readD_one t1]; unfold readK; simp only [beq_iff_eq, beq_eq_false_iff_ne, ne_eq] at hS1; simp only [hS1, if_true, if_false]; rfl, h.below⟩⟩, fun hS1 => ⟨fun _ W _ => number_any v 12 12 W (by decide) (by decide), fun hS2 => ⟨fun _ W _ => by have := sattr_any st lv v W; rw [t1] at this; exact this, fun _ _ h _ => ⟨by rw [readD_one t1]; unfold readK; simp only [beq_iff_eq, beq_eq_false_iff_ne, ne_eq] at hS1 hS2; simp only [hS1, hS2, if_true, if_false]; rfl, h.below⟩⟩, fun hS2 => fun _ _ h _ => ⟨by rw [readD_one t1]; unfold readK; simp only [beq_iff_eq, beq_eq_false_iff_ne, ne_eq] at hS1 hS2; simp only [hS1, hS2, if_true, if_false]; rfl, h.below⟩⟩⟩) rfl (fun _ => by kernel_rfl)
  ·exact calls_ex mixedT [] (.r 1 [aN 0 0 0 2, aN 4 2 0 11] (.r 2 [aN 0 0 0 2, (2, .call 137 (fun _ => [.agg #[.int .i64 st, .int .i64 lv], .int .u64 (u v)]) (fun _ => .int .i64 (kindD lv v))), a1 5 2 2] (.r 3 [a1 2 2 2] (.split ((kindD lv v) == 0) (.r 4 [(1, .call 138 (fun _ => [.int .u64 (u v), .int .i64 4, .int .i64 4]) (fun _ => .int .i64 (getN v 4 4))), a1 4 2 10] (.r 5 [aN 0 2 0 11, aN 1 1 0 11] (.fin [(1, 0, 11)] (fun _ => .agg #[.int .i64 st, .int .i64 lv, .int .i64 (kindD lv v), .int .i64 0, .bool false, .bool false, .bool false, .bool false, .bool false, .int .i64 0, .int .i64 (getN v 4 4)]) []))) (.r 6 [(1, .call 138 (fun _ => [.int .u64 (u v), .int .i64 12, .int .i64 12]) (fun _ => .int .i64 (getN v 12 12))), a1 4 2 3] (.r 7 [a1 2 2 2] (.split ((kindD lv v) == 2) (.r 8 [aN 0 0 0 2, (2, .call 139 (fun _ => [.agg #[.int .i64 st, .int .i64 lv], .int .u64 (u v)]) (fun _ => .agg #[.bool (flagW v 6), .bool (flagW v 7), .bool (!flagW v 54), .bool (flagW v 10), .bool false, .int .i64 (getN v 55 4)])), aN 5 2 4 6] (.r 9 [aN 0 2 0 11, aN 1 1 0 11] (.fin [(1, 0, 11)] (fun _ => .agg #[.int .i64 st, .int .i64 lv, .int .i64 (kindD lv v), .int .i64 (getN v 12 12), .bool (flagW v 6), .bool (flagW v 7), .bool (!flagW v 54), .bool (flagW v 10), .bool false, .int .i64 (getN v 55 4), .int .i64 0]) []))) (.r 9 [aN 0 2 0 11, aN 1 1 0 11] (.fin [(1, 0, 11)] (fun _ => .agg #[.int .i64 st, .int .i64 lv, .int .i64 (kindD lv v), .int .i64 (getN v 12 12), .bool false, .bool false, .bool false, .bool false, .bool false, .int .i64 0, .int .i64 0]) []))))))))) Tryz.func132 rfl (Fits.nil w) (⟨fun _ W _ => kind_any st lv v W, fun hS1 => ⟨fun _ W _ => number_any v 4 4 W (by decide) (by decide), fun _ _ h _ => ⟨by rw [readD_two t1]; unfold readK; simp only [beq_iff_eq, beq_eq_false_iff_ne, ne_eq] at hS1; simp only [hS1, if_true, if_false]; rfl, h.below⟩⟩, fun hS1 => ⟨fun _ W _ => number_any v 12 12 W (by decide) (by decide), fun hS2 => ⟨fun _ W _ => by have := sattr_any st lv v W; rw [t1] at this; exact this, fun _ _ h _ => ⟨by rw [readD_two t1]; unfold readK; simp only [beq_iff_eq, beq_eq_false_iff_ne, ne_eq] at hS1 hS2; simp only [hS1, hS2, if_true, if_false]; rfl, h.below⟩⟩, fun hS2 => fun _ _ h _ => ⟨by rw [readD_two t1]; unfold readK; simp only [beq_iff_eq, beq_eq_false_iff_ne, ne_eq] at hS1 hS2; simp only [hS1, hS2, if_true, if_false]; rfl, h.below⟩⟩⟩) rfl (fun _ => by kernel_rfl)
end
end Go.Proofs.YtbhnjaajkolklaaGreat
