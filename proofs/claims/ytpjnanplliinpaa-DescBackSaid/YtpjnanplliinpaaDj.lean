/- Package desc's own calls, and the reference's Of: contracts. -/
import Derived.Test.YtpjnanplliinpaaDi
namespace Go.Proofs.Ytpjnanplliinpaa
open Go.ChangeShapes Go.WideShapes Go.ChangeAt Go.RowKit Go.Deep

theorem rof_any (st lv : Int) (v : BitVec 64) (w : World) (hp : placeB st lv = true) :
    Calls Try.prog 28 #[.int .i64 st, .int .i64 lv, .int .u64 (u v)] w fun e w' => e = .returned (dscV (ofD st lv v)) ∧ Below w.heap.size w w' := by
  obtain ⟨hst, hl0, hl3⟩ := placeB_iff.1 hp
  have HF := fun p W h0 h1 => set_any v p W h0 h1
  have HG := fun p m W h0 h2 h1 => rnumber_any v p m W h0 h2 h1
  have Q1 := getN_bd v 4 4 (by decide) (by decide)
  have Q2 := getN_bd v 12 12 (by decide) (by decide)
  have Q3 := getN_bd v 55 4 (by decide) (by decide)
  cases f0 : flagW v 0
  · have hk : kindD lv v = 0 := by simp [kindD, f0]
    have hd : readD st lv v = ⟨0, 0, false, false, false, false, false, 0, getN v 4 4⟩ := by simp [readD, hk]
    unfold ofD
    rw [hd]
    have HM := fun W => rdesc_any st lv 0 0 false false false false false 0 (getN v 4 4) W hp
    cases hm : mayD st lv (Dsc.mk 0 0 false false false false false 0 (getN v 4 4))
    · rw [hm] at HM
      rw [if_neg (by simp)]
      exact rof_none_bad st lv v _ w  (Lib.hid (fun W => by have := HF 0 W (by decide) (by decide); rw [f0] at this; exact this)) (Lib.hid (fun W => HG 4 4 W (by decide) (by decide) (by decide))) Q1 (Lib.hid HM)
    · have HW := fun W => rword_any st lv 0 0 false false false false false 0 (getN v 4 4) W hm
      rw [hm] at HM
      by_cases hw : wordD st lv (Dsc.mk 0 0 false false false false false 0 (getN v 4 4)) = v
      · rw [if_pos ⟨rfl, hw⟩]
        exact rof_none_yes st lv v _ _ w  (Lib.hid (fun W => by have := HF 0 W (by decide) (by decide); rw [f0] at this; exact this)) (Lib.hid (fun W => HG 4 4 W (by decide) (by decide) (by decide))) Q1 (Lib.hid HM) (Lib.hid HW) (by rw [u_bne]; simpa using hw)
      · rw [if_neg (fun h => hw h.2)]
        exact rof_none_other st lv v _ _ w  (Lib.hid (fun W => by have := HF 0 W (by decide) (by decide); rw [f0] at this; exact this)) (Lib.hid (fun W => HG 4 4 W (by decide) (by decide) (by decide))) Q1 (Lib.hid HM) (Lib.hid HW) (by rw [u_bne]; simpa using hw)
  · cases f1 : flagW v 1
    · have hk : kindD lv v = 2 := by simp [kindD, f0, f1]
      by_cases h1 : st = 1
      · subst h1
        have hd : readD 1 lv v = ⟨2, getN v 12 12, true, !flagW v 7, !flagW v 54, flagW v 10, flagW v 11, 0, 0⟩ := by simp [readD, hk]
        unfold ofD
        rw [hd]
        have HM := fun W => rdesc_any 1 lv 2 (getN v 12 12) true (!flagW v 7) (!flagW v 54) (flagW v 10) (flagW v 11) 0 0 W hp
        cases hm : mayD 1 lv (Dsc.mk 2 (getN v 12 12) true (!flagW v 7) (!flagW v 54) (flagW v 10) (flagW v 11) 0 0)
        · rw [hm] at HM
          rw [if_neg (by simp)]
          exact rof_leaff1_bad lv v _ _ _ _ _ w  (Lib.hid (fun W => by have := HF 0 W (by decide) (by decide); rw [f0] at this; exact this)) (Lib.hid (fun W => by have := HF 1 W (by decide) (by decide); rw [f1] at this; exact this)) (Lib.hid (fun W => HG 12 12 W (by decide) (by decide) (by decide))) Q2 (Lib.hid (fun W => HF 10 W (by decide) (by decide))) (Lib.hid (fun W => HF 54 W (by decide) (by decide))) (Lib.hid (fun W => HF 7 W (by decide) (by decide))) (Lib.hid (fun W => HF 11 W (by decide) (by decide))) (Lib.hid HM)
        · have HW := fun W => rword_any 1 lv 2 (getN v 12 12) true (!flagW v 7) (!flagW v 54) (flagW v 10) (flagW v 11) 0 0 W hm
          rw [hm] at HM
          by_cases hw : wordD 1 lv (Dsc.mk 2 (getN v 12 12) true (!flagW v 7) (!flagW v 54) (flagW v 10) (flagW v 11) 0 0) = v
          · rw [if_pos ⟨rfl, hw⟩]
            exact rof_leaff1_yes lv v _ _ _ _ _ _ w  (Lib.hid (fun W => by have := HF 0 W (by decide) (by decide); rw [f0] at this; exact this)) (Lib.hid (fun W => by have := HF 1 W (by decide) (by decide); rw [f1] at this; exact this)) (Lib.hid (fun W => HG 12 12 W (by decide) (by decide) (by decide))) Q2 (Lib.hid (fun W => HF 10 W (by decide) (by decide))) (Lib.hid (fun W => HF 54 W (by decide) (by decide))) (Lib.hid (fun W => HF 7 W (by decide) (by decide))) (Lib.hid (fun W => HF 11 W (by decide) (by decide))) (Lib.hid HM) (Lib.hid HW) (by rw [u_bne]; simpa using hw)
          · rw [if_neg (fun h => hw h.2)]
            exact rof_leaff1_other lv v _ _ _ _ _ _ w  (Lib.hid (fun W => by have := HF 0 W (by decide) (by decide); rw [f0] at this; exact this)) (Lib.hid (fun W => by have := HF 1 W (by decide) (by decide); rw [f1] at this; exact this)) (Lib.hid (fun W => HG 12 12 W (by decide) (by decide) (by decide))) Q2 (Lib.hid (fun W => HF 10 W (by decide) (by decide))) (Lib.hid (fun W => HF 54 W (by decide) (by decide))) (Lib.hid (fun W => HF 7 W (by decide) (by decide))) (Lib.hid (fun W => HF 11 W (by decide) (by decide))) (Lib.hid HM) (Lib.hid HW) (by rw [u_bne]; simpa using hw)
      · have hd : readD st lv v = ⟨2, getN v 12 12, flagW v 6, flagW v 7, !flagW v 54, flagW v 10, false, getN v 55 4, 0⟩ := by simp [readD, hk, h1]
        unfold ofD
        rw [hd]
        have HM := fun W => rdesc_any st lv 2 (getN v 12 12) (flagW v 6) (flagW v 7) (!flagW v 54) (flagW v 10) false (getN v 55 4) 0 W hp
        cases hm : mayD st lv (Dsc.mk 2 (getN v 12 12) (flagW v 6) (flagW v 7) (!flagW v 54) (flagW v 10) false (getN v 55 4) 0)
        · rw [hm] at HM
          rw [if_neg (by simp)]
          exact rof_leaff2_bad st lv v _ _ _ _ _ _ w (by simpa using h1) (Lib.hid (fun W => by have := HF 0 W (by decide) (by decide); rw [f0] at this; exact this)) (Lib.hid (fun W => by have := HF 1 W (by decide) (by decide); rw [f1] at this; exact this)) (Lib.hid (fun W => HG 12 12 W (by decide) (by decide) (by decide))) Q2 (Lib.hid (fun W => HF 10 W (by decide) (by decide))) (Lib.hid (fun W => HF 54 W (by decide) (by decide))) (Lib.hid (fun W => HF 7 W (by decide) (by decide))) (Lib.hid (fun W => HF 6 W (by decide) (by decide))) (Lib.hid (fun W => HG 55 4 W (by decide) (by decide) (by decide))) Q3 (Lib.hid HM)
        · have HW := fun W => rword_any st lv 2 (getN v 12 12) (flagW v 6) (flagW v 7) (!flagW v 54) (flagW v 10) false (getN v 55 4) 0 W hm
          rw [hm] at HM
          by_cases hw : wordD st lv (Dsc.mk 2 (getN v 12 12) (flagW v 6) (flagW v 7) (!flagW v 54) (flagW v 10) false (getN v 55 4) 0) = v
          · rw [if_pos ⟨rfl, hw⟩]
            exact rof_leaff2_yes st lv v _ _ _ _ _ _ _ w (by simpa using h1) (Lib.hid (fun W => by have := HF 0 W (by decide) (by decide); rw [f0] at this; exact this)) (Lib.hid (fun W => by have := HF 1 W (by decide) (by decide); rw [f1] at this; exact this)) (Lib.hid (fun W => HG 12 12 W (by decide) (by decide) (by decide))) Q2 (Lib.hid (fun W => HF 10 W (by decide) (by decide))) (Lib.hid (fun W => HF 54 W (by decide) (by decide))) (Lib.hid (fun W => HF 7 W (by decide) (by decide))) (Lib.hid (fun W => HF 6 W (by decide) (by decide))) (Lib.hid (fun W => HG 55 4 W (by decide) (by decide) (by decide))) Q3 (Lib.hid HM) (Lib.hid HW) (by rw [u_bne]; simpa using hw)
          · rw [if_neg (fun h => hw h.2)]
            exact rof_leaff2_other st lv v _ _ _ _ _ _ _ w (by simpa using h1) (Lib.hid (fun W => by have := HF 0 W (by decide) (by decide); rw [f0] at this; exact this)) (Lib.hid (fun W => by have := HF 1 W (by decide) (by decide); rw [f1] at this; exact this)) (Lib.hid (fun W => HG 12 12 W (by decide) (by decide) (by decide))) Q2 (Lib.hid (fun W => HF 10 W (by decide) (by decide))) (Lib.hid (fun W => HF 54 W (by decide) (by decide))) (Lib.hid (fun W => HF 7 W (by decide) (by decide))) (Lib.hid (fun W => HF 6 W (by decide) (by decide))) (Lib.hid (fun W => HG 55 4 W (by decide) (by decide) (by decide))) Q3 (Lib.hid HM) (Lib.hid HW) (by rw [u_bne]; simpa using hw)
    · by_cases h3 : lv = 3
      · subst h3
        have hk : kindD 3 v = 2 := by simp [kindD, f0, f1]
        by_cases h1 : st = 1
        · subst h1
          have hd : readD 1 3 v = ⟨2, getN v 12 12, true, !flagW v 7, !flagW v 54, flagW v 10, flagW v 11, 0, 0⟩ := by simp [readD, hk]
          unfold ofD
          rw [hd]
          have HM := fun W => rdesc_any 1 3 2 (getN v 12 12) true (!flagW v 7) (!flagW v 54) (flagW v 10) (flagW v 11) 0 0 W hp
          cases hm : mayD 1 3 (Dsc.mk 2 (getN v 12 12) true (!flagW v 7) (!flagW v 54) (flagW v 10) (flagW v 11) 0 0)
          · rw [hm] at HM
            rw [if_neg (by simp)]
            exact rof_leaft1_bad v _ _ _ _ _ w  (Lib.hid (fun W => by have := HF 0 W (by decide) (by decide); rw [f0] at this; exact this)) (Lib.hid (fun W => by have := HF 1 W (by decide) (by decide); rw [f1] at this; exact this)) (Lib.hid (fun W => HG 12 12 W (by decide) (by decide) (by decide))) Q2 (Lib.hid (fun W => HF 10 W (by decide) (by decide))) (Lib.hid (fun W => HF 54 W (by decide) (by decide))) (Lib.hid (fun W => HF 7 W (by decide) (by decide))) (Lib.hid (fun W => HF 11 W (by decide) (by decide))) (Lib.hid HM)
          · have HW := fun W => rword_any 1 3 2 (getN v 12 12) true (!flagW v 7) (!flagW v 54) (flagW v 10) (flagW v 11) 0 0 W hm
            rw [hm] at HM
            by_cases hw : wordD 1 3 (Dsc.mk 2 (getN v 12 12) true (!flagW v 7) (!flagW v 54) (flagW v 10) (flagW v 11) 0 0) = v
            · rw [if_pos ⟨rfl, hw⟩]
              exact rof_leaft1_yes v _ _ _ _ _ _ w  (Lib.hid (fun W => by have := HF 0 W (by decide) (by decide); rw [f0] at this; exact this)) (Lib.hid (fun W => by have := HF 1 W (by decide) (by decide); rw [f1] at this; exact this)) (Lib.hid (fun W => HG 12 12 W (by decide) (by decide) (by decide))) Q2 (Lib.hid (fun W => HF 10 W (by decide) (by decide))) (Lib.hid (fun W => HF 54 W (by decide) (by decide))) (Lib.hid (fun W => HF 7 W (by decide) (by decide))) (Lib.hid (fun W => HF 11 W (by decide) (by decide))) (Lib.hid HM) (Lib.hid HW) (by rw [u_bne]; simpa using hw)
            · rw [if_neg (fun h => hw h.2)]
              exact rof_leaft1_other v _ _ _ _ _ _ w  (Lib.hid (fun W => by have := HF 0 W (by decide) (by decide); rw [f0] at this; exact this)) (Lib.hid (fun W => by have := HF 1 W (by decide) (by decide); rw [f1] at this; exact this)) (Lib.hid (fun W => HG 12 12 W (by decide) (by decide) (by decide))) Q2 (Lib.hid (fun W => HF 10 W (by decide) (by decide))) (Lib.hid (fun W => HF 54 W (by decide) (by decide))) (Lib.hid (fun W => HF 7 W (by decide) (by decide))) (Lib.hid (fun W => HF 11 W (by decide) (by decide))) (Lib.hid HM) (Lib.hid HW) (by rw [u_bne]; simpa using hw)
        · have hd : readD st 3 v = ⟨2, getN v 12 12, flagW v 6, flagW v 7, !flagW v 54, flagW v 10, false, getN v 55 4, 0⟩ := by simp [readD, hk, h1]
          unfold ofD
          rw [hd]
          have HM := fun W => rdesc_any st 3 2 (getN v 12 12) (flagW v 6) (flagW v 7) (!flagW v 54) (flagW v 10) false (getN v 55 4) 0 W hp
          cases hm : mayD st 3 (Dsc.mk 2 (getN v 12 12) (flagW v 6) (flagW v 7) (!flagW v 54) (flagW v 10) false (getN v 55 4) 0)
          · rw [hm] at HM
            rw [if_neg (by simp)]
            exact rof_leaft2_bad st v _ _ _ _ _ _ w (by simpa using h1) (Lib.hid (fun W => by have := HF 0 W (by decide) (by decide); rw [f0] at this; exact this)) (Lib.hid (fun W => by have := HF 1 W (by decide) (by decide); rw [f1] at this; exact this)) (Lib.hid (fun W => HG 12 12 W (by decide) (by decide) (by decide))) Q2 (Lib.hid (fun W => HF 10 W (by decide) (by decide))) (Lib.hid (fun W => HF 54 W (by decide) (by decide))) (Lib.hid (fun W => HF 7 W (by decide) (by decide))) (Lib.hid (fun W => HF 6 W (by decide) (by decide))) (Lib.hid (fun W => HG 55 4 W (by decide) (by decide) (by decide))) Q3 (Lib.hid HM)
          · have HW := fun W => rword_any st 3 2 (getN v 12 12) (flagW v 6) (flagW v 7) (!flagW v 54) (flagW v 10) false (getN v 55 4) 0 W hm
            rw [hm] at HM
            by_cases hw : wordD st 3 (Dsc.mk 2 (getN v 12 12) (flagW v 6) (flagW v 7) (!flagW v 54) (flagW v 10) false (getN v 55 4) 0) = v
            · rw [if_pos ⟨rfl, hw⟩]
              exact rof_leaft2_yes st v _ _ _ _ _ _ _ w (by simpa using h1) (Lib.hid (fun W => by have := HF 0 W (by decide) (by decide); rw [f0] at this; exact this)) (Lib.hid (fun W => by have := HF 1 W (by decide) (by decide); rw [f1] at this; exact this)) (Lib.hid (fun W => HG 12 12 W (by decide) (by decide) (by decide))) Q2 (Lib.hid (fun W => HF 10 W (by decide) (by decide))) (Lib.hid (fun W => HF 54 W (by decide) (by decide))) (Lib.hid (fun W => HF 7 W (by decide) (by decide))) (Lib.hid (fun W => HF 6 W (by decide) (by decide))) (Lib.hid (fun W => HG 55 4 W (by decide) (by decide) (by decide))) Q3 (Lib.hid HM) (Lib.hid HW) (by rw [u_bne]; simpa using hw)
            · rw [if_neg (fun h => hw h.2)]
              exact rof_leaft2_other st v _ _ _ _ _ _ _ w (by simpa using h1) (Lib.hid (fun W => by have := HF 0 W (by decide) (by decide); rw [f0] at this; exact this)) (Lib.hid (fun W => by have := HF 1 W (by decide) (by decide); rw [f1] at this; exact this)) (Lib.hid (fun W => HG 12 12 W (by decide) (by decide) (by decide))) Q2 (Lib.hid (fun W => HF 10 W (by decide) (by decide))) (Lib.hid (fun W => HF 54 W (by decide) (by decide))) (Lib.hid (fun W => HF 7 W (by decide) (by decide))) (Lib.hid (fun W => HF 6 W (by decide) (by decide))) (Lib.hid (fun W => HG 55 4 W (by decide) (by decide) (by decide))) Q3 (Lib.hid HM) (Lib.hid HW) (by rw [u_bne]; simpa using hw)
      · have hk : kindD lv v = 1 := by simp [kindD, f0, f1, h3]
        have hd : readD st lv v = ⟨1, getN v 12 12, false, false, false, false, false, 0, 0⟩ := by simp [readD, hk]
        unfold ofD
        rw [hd]
        have HM := fun W => rdesc_any st lv 1 (getN v 12 12) false false false false false 0 0 W hp
        cases hm : mayD st lv (Dsc.mk 1 (getN v 12 12) false false false false false 0 0)
        · rw [hm] at HM
          rw [if_neg (by simp)]
          exact rof_table_bad st lv v _ w (by omega) (Lib.hid (fun W => by have := HF 0 W (by decide) (by decide); rw [f0] at this; exact this)) (Lib.hid (fun W => by have := HF 1 W (by decide) (by decide); rw [f1] at this; exact this)) (Lib.hid (fun W => HG 12 12 W (by decide) (by decide) (by decide))) Q2 (Lib.hid HM)
        · have HW := fun W => rword_any st lv 1 (getN v 12 12) false false false false false 0 0 W hm
          rw [hm] at HM
          by_cases hw : wordD st lv (Dsc.mk 1 (getN v 12 12) false false false false false 0 0) = v
          · rw [if_pos ⟨rfl, hw⟩]
            exact rof_table_yes st lv v _ _ w (by omega) (Lib.hid (fun W => by have := HF 0 W (by decide) (by decide); rw [f0] at this; exact this)) (Lib.hid (fun W => by have := HF 1 W (by decide) (by decide); rw [f1] at this; exact this)) (Lib.hid (fun W => HG 12 12 W (by decide) (by decide) (by decide))) Q2 (Lib.hid HM) (Lib.hid HW) (by rw [u_bne]; simpa using hw)
          · rw [if_neg (fun h => hw h.2)]
            exact rof_table_other st lv v _ _ w (by omega) (Lib.hid (fun W => by have := HF 0 W (by decide) (by decide); rw [f0] at this; exact this)) (Lib.hid (fun W => by have := HF 1 W (by decide) (by decide); rw [f1] at this; exact this)) (Lib.hid (fun W => HG 12 12 W (by decide) (by decide) (by decide))) Q2 (Lib.hid HM) (Lib.hid HW) (by rw [u_bne]; simpa using hw)

theorem check_any (st lv : Int) (k f : Int) (r wr x a n : Bool) (s o : Int) (w : World) (b : Bool) (hb : mayE st lv (Dsc.mk k f r wr x a n s o) = b) :
    Calls Try.prog 19 #[.int .i64 st, .int .i64 lv, .agg #[.int .i64 k, .int .i64 f, .bool r, .bool wr, .bool x, .bool a, .bool n, .int .i64 s, .int .i64 o]] w fun e w' => e = .returned (.int .i64 (if b then 0 else 1)) ∧ Below w.heap.size w w' := by
  have HM := Lib.hid (fun W => emayBe_any st lv k f r wr x a n s o W)
  rw [hb] at HM
  clear hb
  cases b
  all_goals
    go_enter Try.func19, Try.ntmps19
    go_wp2_with (first | (go_at_call 31; refine (entryOf_any _ _ _ _ _ _ _ _ _ _ _ _).mono ?_; rintro e w' ⟨rfl, rfl⟩) | (go_at_call 32; refine (HM.out _).mono ?_; rintro e w' ⟨rfl, hb1⟩))
    go_ret
    exact ⟨rfl, bel_trans (by repeat' (first | exact Below.refl _ _ | refine bel_alloc ?_ _)) hb1⟩

theorem dword_no (st lv : Int) (k f : Int) (r wr x a n : Bool) (s o : Int) (w : World) (hb : mayE st lv (Dsc.mk k f r wr x a n s o) = false) :
    Calls Try.prog 14 #[.int .i64 st, .int .i64 lv, .agg #[.int .i64 k, .int .i64 f, .bool r, .bool wr, .bool x, .bool a, .bool n, .int .i64 s, .int .i64 o]] w fun e w' => e = .returned (.tuple #[.int .u64 0, .int .i64 1]) ∧ Below w.heap.size w w' := by
  have HM := Lib.hid (fun W => emayBe_any st lv k f r wr x a n s o W)
  rw [hb] at HM
  clear hb
  go_enter Try.func14, Try.ntmps14
  go_wp2_with (first | (go_at_call 31; refine (entryOf_any _ _ _ _ _ _ _ _ _ _ _ _).mono ?_; rintro e w' ⟨rfl, rfl⟩) | (go_at_call 32; refine (HM.out _).mono ?_; rintro e w' ⟨rfl, hb1⟩))
  go_ret2
  exact ⟨rfl, bel_trans (by repeat' (first | exact Below.refl _ _ | refine bel_alloc ?_ _)) hb1⟩

theorem dword_yes (st lv : Int) (k f : Int) (r wr x a n : Bool) (s o : Int) (w : World) (hb : mayE st lv (Dsc.mk k f r wr x a n s o) = true) :
    Calls Try.prog 14 #[.int .i64 st, .int .i64 lv, .agg #[.int .i64 k, .int .i64 f, .bool r, .bool wr, .bool x, .bool a, .bool n, .int .i64 s, .int .i64 o]] w fun e w' => e = .returned (.tuple #[.int .u64 (u (wordD st lv (Dsc.mk k f r wr x a n s o))), .int .i64 0]) ∧ Below w.heap.size w w' := by
  have HM := Lib.hid (fun W => emayBe_any st lv k f r wr x a n s o W)
  rw [hb] at HM
  clear hb
  have HW := Lib.hid (fun W => eword_any st lv k f r wr x a n s o W)
  generalize wordD st lv (Dsc.mk k f r wr x a n s o) = wd at *
  go_enter Try.func14, Try.ntmps14
  go_wp2_with fail
  refine (entryOf_any _ _ _ _ _ _ _ _ _ _ _ _).mono ?_
  rintro e w1 ⟨rfl, rfl⟩
  go_wp2_with fail
  refine (HM.out _).mono ?_
  rintro e w2 ⟨rfl, hb2⟩
  have X2 := (BoxAt.new _ _ _).below hb2
  rw [show (((w.alloc (.cells #[.int .i64 k, .int .i64 f, .bool r, .bool wr, .bool x, .bool a, .bool n, .int .i64 s, .int .i64 o] 26)).alloc (.cells #[.int .i64 k, .int .i64 f, .bool r, .bool wr, .bool x, .bool a, .bool n, .int .i64 s, .int .i64 o] 26)).alloc (.cells #[.int .i64 st, .int .i64 lv, .int .i64 k, .int .i64 f, .bool r, .bool wr, .bool x, .bool a, .bool n, .int .i64 s, .int .i64 o] 53)).heap.size = w.heap.size + 1 + 1 + 1 from by simp] at X2
  have v0 := X2.cell 0
  have v1 := X2.cell 1
  have v2 := X2.cell 2
  have v3 := X2.cell 3
  have v4 := X2.cell 4
  have v5 := X2.cell 5
  have v6 := X2.cell 6
  have v7 := X2.cell 7
  have v8 := X2.cell 8
  have v9 := X2.cell 9
  have v10 := X2.cell 10
  simp only [List.getElem?_toArray, List.getElem?_cons_zero, List.getElem?_cons_succ] at v0 v1 v2 v3 v4 v5 v6 v7 v8 v9 v10
  clear X2
  go_wp2_with (first | (go_at_call 33; refine (HW.out _).mono ?_; rintro e w' ⟨rfl, hb3⟩))
  go_ret2
  exact ⟨rfl, bel_trans (bel_trans (by repeat' (first | exact Below.refl _ _ | refine bel_alloc ?_ _)) hb2) hb3⟩
end Go.Proofs.Ytpjnanplliinpaa
