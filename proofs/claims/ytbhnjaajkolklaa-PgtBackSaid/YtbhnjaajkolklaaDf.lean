/- The contract of the reference's Join. The reference's Word: contracts. Reading words (package desc), and the reference's Of: contracts. -/
import Derived.Test.YtbhnjaajkolklaaLy
import Derived.Test.YtbhnjaajkolklaaDd
set_option linter.all false
namespace Go.Proofs.Ytbhnjaajkolklaa
section
open Go.ChangeShapes Go.WideShapes Go.ChangeAt Go.RowKit Go.Deep

end
section
open Go.ChangeShapes Go.WideShapes Go.ChangeAt Go.RowKit Go.Deep

end
section
open Go.ChangeShapes Go.WideShapes Go.ChangeAt Go.RowKit Go.Deep

theorem number_any (v : BitVec 64) (p m : Int) (w : World) (h : okB p m = true) (hm : m ≤ 12) :
    Calls Try.prog 96 #[.int .u64 (u v), .int .i64 p, .int .i64 m] w fun e w' => e = .returned (.int .i64 (getN v p m)) ∧ Below w.heap.size w w' := by
  obtain ⟨h0, h1, h2⟩ := okB_true h
  have hb := getN_bd v p m (by omega) hm
  have HG := Lib.hid (get_yes v p m w h)
  have he : u (v >>> p.toNat &&& msk m) = getN v p m := rfl
  rw [he] at HG
  clear he h h0 h1 h2
  generalize getN v p m = g at *
  obtain ⟨hb0, hb1⟩ := hb
  go_enter Try.func96, Try.ntmps96
  go_wp2_with fail
  refine HG.out.mono ?_
  rintro e w' ⟨rfl, rfl⟩
  go_wp2
  go_ret
  exact ⟨rfl, by go_grown⟩

theorem flag_any (v : BitVec 64) (p : Int) (w : World) (h0 : 0 ≤ p) (h1 : p ≤ 63) :
    Calls Try.prog 98 #[.int .u64 (u v), .int .i64 p] w fun e w' => e = .returned (.bool (flagW v p)) ∧ Below w.heap.size w w' := by
  have HN := Lib.hid (number_any v p 1 w (by unfold okB; exact decide_eq_true ⟨h0, by omega, by omega⟩) (by omega))
  have hf : flagW v p = (getN v p 1 == 1) := (beq_int _ _).symm
  rw [hf]
  clear hf
  generalize getN v p 1 = g at *
  go_enter Try.func98, Try.ntmps98
  go_wp2_with fail
  refine HN.out.mono ?_
  rintro e w' ⟨rfl, hb⟩
  go_wp2
  go_ret
  exact ⟨rfl, hb⟩

theorem kind_any (st lv : Int) (v : BitVec 64) (w : World) :
    Calls Try.prog 95 #[.agg #[.int .i64 st, .int .i64 lv], .int .u64 (u v)] w fun e w' => e = .returned (.int .i64 (kindD lv v)) ∧ Below w.heap.size w w' := by
  have HF := Lib.hid (fun W => flag_any v 0 W (by decide) (by decide))
  have HG := Lib.hid (fun W => flag_any v 1 W (by decide) (by decide))
  have hk : kindD lv v = if flagW v 0 = false then 0 else if flagW v 1 = true ∧ lv ≠ 3 then 1 else 2 := rfl
  have HK := Lib.hid hk
  clear hk
  generalize kindD lv v = kk at *
  generalize flagW v 0 = f0 at *
  generalize flagW v 1 = f1 at *
  cases f0
  · have HK' := Lib.hid (HK.out.trans (if_pos rfl))
    clear HK HG
    go_enter Try.func95, Try.ntmps95
    go_wp2_with (go_at_call 98; refine (HF.out _).mono ?_; rintro e w' ⟨rfl, hb1⟩)
    go_ret
    rw [HK'.out]
    exact ⟨rfl, bel_trans (bel_alloc (Below.refl _ _) _) hb1⟩
  · have HK' := Lib.hid (HK.out.trans (if_neg (by decide)))
    clear HK
    have hBX := Lib.hid (BoxAt.new w #[.int .i64 st, .int .i64 lv] 87)
    cases f1
    · have HK2 := Lib.hid (HK'.out.trans (if_neg (fun h => by cases h.1)))
      clear HK'
      go_enter Try.func95, Try.ntmps95
      go_wp2_with fail
      refine (HF.out _).mono ?_
      rintro e w1 ⟨rfl, hb1⟩
      go_wp2_with (go_at_call 98; refine (HG.out _).mono ?_; rintro e w' ⟨rfl, hb2⟩)
      go_ret
      rw [HK2.out]
      exact ⟨rfl, bel_trans (bel_trans (bel_alloc (Below.refl _ _) _) hb1) hb2⟩
    · by_cases h3 : lv = 3
      · subst h3
        have HK2 := Lib.hid (HK'.out.trans (if_neg (fun h => h.2 rfl)))
        clear HK'
        go_enter Try.func95, Try.ntmps95
        go_wp2_with fail
        refine (HF.out _).mono ?_
        rintro e w1 ⟨rfl, hb1⟩
        have hX1 := Lib.hid (hBX.out.below hb1)
        go_wp2_with fail
        refine (HG.out _).mono ?_
        rintro e w2 ⟨rfl, hb2⟩
        have v1 := (hX1.out.below hb2).cell 1
        simp only [List.getElem?_toArray, List.getElem?_cons_zero, List.getElem?_cons_succ] at v1
        go_wp2
        go_ret
        rw [HK2.out]
        exact ⟨rfl, bel_trans (bel_trans (bel_alloc (Below.refl _ _) _) hb1) hb2⟩
      · have HK2 := Lib.hid (HK'.out.trans (if_pos ⟨rfl, h3⟩))
        have t3 : (lv != 3) = true := by simpa using h3
        clear HK' h3
        go_enter Try.func95, Try.ntmps95
        go_wp2_with fail
        refine (HF.out _).mono ?_
        rintro e w1 ⟨rfl, hb1⟩
        have hX1 := Lib.hid (hBX.out.below hb1)
        go_wp2_with fail
        refine (HG.out _).mono ?_
        rintro e w2 ⟨rfl, hb2⟩
        have v1 := (hX1.out.below hb2).cell 1
        simp only [List.getElem?_toArray, List.getElem?_cons_zero, List.getElem?_cons_succ] at v1
        go_wp2
        go_ret
        rw [HK2.out]
        exact ⟨rfl, bel_trans (bel_trans (bel_alloc (Below.refl _ _) _) hb1) hb2⟩
end
end Go.Proofs.Ytbhnjaajkolklaa
