/- Package desc's own calls, and the reference's Of: contracts. -/
import Derived.Test.YtkpckfmnjebjaaaDi
namespace Go.Proofs.Ytkpckfmnjebjaaa
open Go.ChangeShapes Go.WideShapes Go.ChangeAt Go.RowKit Go.Deep

theorem rof_any (st lv : Int) (v : BitVec 64) (w : World) (hp : placeB st lv = true) :
    Calls Try.prog 25 #[.int .i64 st, .int .i64 lv, .int .u64 (u v)] w fun e w' => e = .returned (dscV (ofD st lv v)) ∧ Below w.heap.size w w' := by
  obtain ⟨hst, hl0, hl3⟩ := placeB_iff.1 hp
  have HF := fun p W h0 h1 => set_any v p W h0 h1
  have HG := fun p m W h0 h2 h1 => rnumber_any v p m W h0 h2 h1
  have Q1 := getN_bd v 4 4 (by decide) (by decide)
  have Q2 := getN_bd v 12 12 (by decide) (by decide)
  have Q3 := getN_bd v 55 4 (by decide) (by decide)
  cases f0 : flagW v 0
  · have hk : kindD lv v = 0 := by simp [kindD, f0]
    have hd : readD st lv v = ⟨0, 0, false, false, false, false, false, 0, getN v 4 4⟩ := by simp [readD, hk]
    unfold ofD
    rw [hd]
    have HM := fun W => rdesc_any st lv 0 0 false false false false false 0 (getN v 4 4) W hp
    cases hm : mayD st lv (Dsc.mk 0 0 false false false false false 0 (getN v 4 4))
    · rw [hm] at HM
      rw [if_neg (by simp)]
      exact rof_none_bad st lv v _ w  (Lib.hid (fun W => by have := HF 0 W (by decide) (by decide); rw [f0] at this; exact this)) (Lib.hid (fun W => HG 4 4 W (by decide) (by decide) (by decide))) Q1 (Lib.hid HM)
    · have HW := fun W => rword_any st lv 0 0 false false false false false 0 (getN v 4 4) W hm
      rw [hm] at HM
      by_cases hw : wordD st lv (Dsc.mk 0 0 false false false false false 0 (getN v 4 4)) = v
      · rw [if_pos ⟨rfl, hw⟩]
        exact rof_none_yes st lv v _ _ w  (Lib.hid (fun W => by have := HF 0 W (by decide) (by decide); rw [f0] at this; exact this)) (Lib.hid (fun W => HG 4 4 W (by decide) (by decide) (by decide))) Q1 (Lib.hid HM) (Lib.hid HW) (by rw [u_bne]; simpa using hw)
      · rw [if_neg (fun h => hw h.2)]
        exact rof_none_other st lv v _ _ w  (Lib.hid (fun W => by have := HF 0 W (by decide) (by decide); rw [f0] at this; exact this)) (Lib.hid (fun W => HG 4 4 W (by decide) (by decide) (by decide))) Q1 (Lib.hid HM) (Lib.hid HW) (by rw [u_bne]; simpa using hw)
  · cases f1 : flagW v 1
    · have hk : kindD lv v = 2 := by simp [kindD, f0, f1]
      by_cases h1 : st = 1
      · subst h1
        have hd : readD 1 lv v = ⟨2, getN v 12 12, true, !flagW v 7, !flagW v 54, flagW v 10, flagW v 11, 0, 0⟩ := by simp [readD, hk]
        unfold ofD
        rw [hd]
        have HM := fun W => rdesc_any 1 lv 2 (getN v 12 12) true (!flagW v 7) (!flagW v 54) (flagW v 10) (flagW v 11) 0 0 W hp
        cases hm : mayD 1 lv (Dsc.mk 2 (getN v 12 12) true (!flagW v 7) (!flagW v 54) (flagW v 10) (flagW v 11) 0 0)
        · rw [hm] at HM
          rw [if_neg (by simp)]
          exact rof_leaff1_bad lv v _ _ _ _ _ w  (Lib.hid (fun W => by have := HF 0 W (by decide) (by decide); rw [f0] at this; exact this)) (Lib.hid (fun W => by have := HF 1 W (by decide) (by decide); rw [f1] at this; exact this)) (Lib.hid (fun W => HG 12 12 W (by decide) (by decide) (by decide))) Q2 (Lib.hid (fun W => HF 10 W (by decide) (by decide))) (Lib.hid (fun W => HF 54 W (by decide) (by decide))) (Lib.hid (fun W => HF 7 W (by decide) (by decide))) (Lib.hid (fun W => HF 11 W (by decide) (by decide))) (Lib.hid HM)
        · have HW := fun W => rword_any 1 lv 2 (getN v 12 12) true (!flagW v 7) (!flagW v 54) (flagW v 10) (flagW v 11) 0 0 W hm
          rw [hm] at HM
          by_cases hw : wordD 1 lv (Dsc.mk 2 (getN v 12 12) true (!flagW v 7) (!flagW v 54) (flagW v 10) (flagW v 11) 0 0) = v
          · rw [if_pos ⟨rfl, hw⟩]
            exact rof_leaff1_yes lv v _ _ _ _ _ _ w  (Lib.hid (fun W => by have := HF 0 W (by decide) (by decide); rw [f0] at this; exact this)) (Lib.hid (fun W => by have := HF 1 W (by decide) (by decide); rw [f1] at this; exact this)) (Lib.hid (fun W => HG 12 12 W (by decide) (by decide) (by decide))) Q2 (Lib.hid (fun W => HF 10 W (by decide) (by decide))) (Lib.hid (fun W => HF 54 W (by decide) (by decide))) (Lib.hid (fun W => HF 7 W (by decide) (by decide))) (Lib.hid (fun W => HF 11 W (by decide) (by decide))) (Lib.hid HM) (Lib.hid HW) (by rw [u_bne]; simpa using hw)
          · rw [if_neg (fun h => hw h.2)]
            exact rof_leaff1_other lv v _ _ _ _ _ _ w  (Lib.hid (fun W => by have := HF 0 W (by decide) (by decide); rw [f0] at this; exact this)) (Lib.hid (fun W => by have := HF 1 W (by decide) (by decide); rw [f1] at this; exact this)) (Lib.hid (fun W => HG 12 12 W (by decide) (by decide) (by decide))) Q2 (Lib.hid (fun W => HF 10 W (by decide) (by decide))) (Lib.hid (fun W => HF 54 W (by decide) (by decide))) (Lib.hid (fun W => HF 7 W (by decide) (by decide))) (Lib.hid (fun W => HF 11 W (by decide) (by decide))) (Lib.hid HM) (Lib.hid HW) (by rw [u_bne]; simpa using hw)
      · have hd : readD st lv v = ⟨2, getN v 12 12, flagW v 6, flagW v 7, !flagW v 54, flagW v 10, false, getN v 55 4, 0⟩ := by simp [readD, hk, h1]
        unfold ofD
        rw [hd]
        have HM := fun W => rdesc_any st lv 2 (getN v 12 12) (flagW v 6) (flagW v 7) (!flagW v 54) (flagW v 10) false (getN v 55 4) 0 W hp
        cases hm : mayD st lv (Dsc.mk 2 (getN v 12 12) (flagW v 6) (flagW v 7) (!flagW v 54) (flagW v 10) false (getN v 55 4) 0)
        · rw [hm] at HM
          rw [if_neg (by simp)]
          exact rof_leaff2_bad st lv v _ _ _ _ _ _ w (by simpa using h1) (Lib.hid (fun W => by have := HF 0 W (by decide) (by decide); rw [f0] at this; exact this)) (Lib.hid (fun W => by have := HF 1 W (by decide) (by decide); rw [f1] at this; exact this)) (Lib.hid (fun W => HG 12 12 W (by decide) (by decide) (by decide))) Q2 (Lib.hid (fun W => HF 10 W (by decide) (by decide))) (Lib.hid (fun W => HF 54 W (by decide) (by decide))) (Lib.hid (fun W => HF 7 W (by decide) (by decide))) (Lib.hid (fun W => HF 6 W (by decide) (by decide))) (Lib.hid (fun W => HG 55 4 W (by decide) (by decide) (by decide))) Q3 (Lib.hid HM)
        · have HW := fun W => rword_any st lv 2 (getN v 12 12) (flagW v 6) (flagW v 7) (!flagW v 54) (flagW v 10) false (getN v 55 4) 0 W hm
          rw [hm] at HM
          by_cases hw : wordD st lv (Dsc.mk 2 (getN v 12 12) (flagW v 6) (flagW v 7) (!flagW v 54) (flagW v 10) false (getN v 55 4) 0) = v
          · rw [if_pos ⟨rfl, hw⟩]
            exact rof_leaff2_yes st lv v _ _ _ _ _ _ _ w (by simpa using h1) (Lib.hid (fun W => by have := HF 0 W (by decide) (by decide); rw [f0] at this; exact this)) (Lib.hid (fun W => by have := HF 1 W (by decide) (by decide); rw [f1] at this; exact this)) (Lib.hid (fun W => HG 12 12 W (by decide) (by decide) (by decide))) Q2 (Lib.hid (fun W => HF 10 W (by decide) (by decide))) (Lib.hid (fun W => HF 54 W (by decide) (by decide))) (Lib.hid (fun W => HF 7 W (by decide) (by decide))) (Lib.hid (fun W => HF 6 W (by decide) (by decide))) (Lib.hid (fun W => HG 55 4 W (by decide) (by decide) (by decide))) Q3 (Lib.hid HM) (Lib.hid HW) (by rw [u_bne]; simpa using hw)
          · rw [if_neg (fun h => hw h.2)]
            exact rof_leaff2_other st lv v _ _ _ _ _ _ _ w (by simpa using h1) (Lib.hid (fun W => by have := HF 0 W (by decide) (by decide); rw [f0] at this; exact this)) (Lib.hid (fun W => by have := HF 1 W (by decide) (by decide); rw [f1] at this; exact this)) (Lib.hid (fun W => HG 12 12 W (by decide) (by decide) (by decide))) Q2 (Lib.hid (fun W => HF 10 W (by decide) (by decide))) (Lib.hid (fun W => HF 54 W (by decide) (by decide))) (Lib.hid (fun W => HF 7 W (by decide) (by decide))) (Lib.hid (fun W => HF 6 W (by decide) (by decide))) (Lib.hid (fun W => HG 55 4 W (by decide) (by decide) (by decide))) Q3 (Lib.hid HM) (Lib.hid HW) (by rw [u_bne]; simpa using hw)
    · by_cases h3 : lv = 3
      · subst h3
        have hk : kindD 3 v = 2 := by simp [kindD, f0, f1]
        by_cases h1 : st = 1
        · subst h1
          have hd : readD 1 3 v = ⟨2, getN v 12 12, true, !flagW v 7, !flagW v 54, flagW v 10, flagW v 11, 0, 0⟩ := by simp [readD, hk]
          unfold ofD
          rw [hd]
          have HM := fun W => rdesc_any 1 3 2 (getN v 12 12) true (!flagW v 7) (!flagW v 54) (flagW v 10) (flagW v 11) 0 0 W hp
          cases hm : mayD 1 3 (Dsc.mk 2 (getN v 12 12) true (!flagW v 7) (!flagW v 54) (flagW v 10) (flagW v 11) 0 0)
          · rw [hm] at HM
            rw [if_neg (by simp)]
            exact rof_leaft1_bad v _ _ _ _ _ w  (Lib.hid (fun W => by have := HF 0 W (by decide) (by decide); rw [f0] at this; exact this)) (Lib.hid (fun W => by have := HF 1 W (by decide) (by decide); rw [f1] at this; exact this)) (Lib.hid (fun W => HG 12 12 W (by decide) (by decide) (by decide))) Q2 (Lib.hid (fun W => HF 10 W (by decide) (by decide))) (Lib.hid (fun W => HF 54 W (by decide) (by decide))) (Lib.hid (fun W => HF 7 W (by decide) (by decide))) (Lib.hid (fun W => HF 11 W (by decide) (by decide))) (Lib.hid HM)
          · have HW := fun W => rword_any 1 3 2 (getN v 12 12) true (!flagW v 7) (!flagW v 54) (flagW v 10) (flagW v 11) 0 0 W hm
            rw [hm] at HM
            by_cases hw : wordD 1 3 (Dsc.mk 2 (getN v 12 12) true (!flagW v 7) (!flagW v 54) (flagW v 10) (flagW v 11) 0 0) = v
            · rw [if_pos ⟨rfl, hw⟩]
              exact rof_leaft1_yes v _ _ _ _ _ _ w  (Lib.hid (fun W => by have := HF 0 W (by decide) (by decide); rw [f0] at this; exact this)) (Lib.hid (fun W => by have := HF 1 W (by decide) (by decide); rw [f1] at this; exact this)) (Lib.hid (fun W => HG 12 12 W (by decide) (by decide) (by decide))) Q2 (Lib.hid (fun W => HF 10 W (by decide) (by decide))) (Lib.hid (fun W => HF 54 W (by decide) (by decide))) (Lib.hid (fun W => HF 7 W (by decide) (by decide))) (Lib.hid (fun W => HF 11 W (by decide) (by decide))) (Lib.hid HM) (Lib.hid HW) (by rw [u_bne]; simpa using hw)
            · rw [if_neg (fun h => hw h.2)]
              exact rof_leaft1_other v _ _ _ _ _ _ w  (Lib.hid (fun W => by have := HF 0 W (by decide) (by decide); rw [f0] at this; exact this)) (Lib.hid (fun W => by have := HF 1 W (by decide) (by decide); rw [f1] at this; exact this)) (Lib.hid (fun W => HG 12 12 W (by decide) (by decide) (by decide))) Q2 (Lib.hid (fun W => HF 10 W (by decide) (by decide))) (Lib.hid (fun W => HF 54 W (by decide) (by decide))) (Lib.hid (fun W => HF 7 W (by decide) (by decide))) (Lib.hid (fun W => HF 11 W (by decide) (by decide))) (Lib.hid HM) (Lib.hid HW) (by rw [u_bne]; simpa using hw)
        · have hd : readD st 3 v = ⟨2, getN v 12 12, flagW v 6, flagW v 7, !flagW v 54, flagW v 10, false, getN v 55 4, 0⟩ := by simp [readD, hk, h1]
          unfold ofD
          rw [hd]
          have HM := fun W => rdesc_any st 3 2 (getN v 12 12) (flagW v 6) (flagW v 7) (!flagW v 54) (flagW v 10) false (getN v 55 4) 0 W hp
          cases hm : mayD st 3 (Dsc.mk 2 (getN v 12 12) (flagW v 6) (flagW v 7) (!flagW v 54) (flagW v 10) false (getN v 55 4) 0)
          · rw [hm] at HM
            rw [if_neg (by simp)]
            exact rof_leaft2_bad st v _ _ _ _ _ _ w (by simpa using h1) (Lib.hid (fun W => by have := HF 0 W (by decide) (by decide); rw [f0] at this; exact this)) (Lib.hid (fun W => by have := HF 1 W (by decide) (by decide); rw [f1] at this; exact this)) (Lib.hid (fun W => HG 12 12 W (by decide) (by decide) (by decide))) Q2 (Lib.hid (fun W => HF 10 W (by decide) (by decide))) (Lib.hid (fun W => HF 54 W (by decide) (by decide))) (Lib.hid (fun W => HF 7 W (by decide) (by decide))) (Lib.hid (fun W => HF 6 W (by decide) (by decide))) (Lib.hid (fun W => HG 55 4 W (by decide) (by decide) (by decide))) Q3 (Lib.hid HM)
          · have HW := fun W => rword_any st 3 2 (getN v 12 12) (flagW v 6) (flagW v 7) (!flagW v 54) (flagW v 10) false (getN v 55 4) 0 W hm
            rw [hm] at HM
            by_cases hw : wordD st 3 (Dsc.mk 2 (getN v 12 12) (flagW v 6) (flagW v 7) (!flagW v 54) (flagW v 10) false (getN v 55 4) 0) = v
            · rw [if_pos ⟨rfl, hw⟩]
              exact rof_leaft2_yes st v _ _ _ _ _ _ _ w (by simpa using h1) (Lib.hid (fun W => by have := HF 0 W (by decide) (by decide); rw [f0] at this; exact this)) (Lib.hid (fun W => by have := HF 1 W (by decide) (by decide); rw [f1] at this; exact this)) (Lib.hid (fun W => HG 12 12 W (by decide) (by decide) (by decide))) Q2 (Lib.hid (fun W => HF 10 W (by decide) (by decide))) (Lib.hid (fun W => HF 54 W (by decide) (by decide))) (Lib.hid (fun W => HF 7 W (by decide) (by decide))) (Lib.hid (fun W => HF 6 W (by decide) (by decide))) (Lib.hid (fun W => HG 55 4 W (by decide) (by decide) (by decide))) Q3 (Lib.hid HM) (Lib.hid HW) (by rw [u_bne]; simpa using hw)
            · rw [if_neg (fun h => hw h.2)]
              exact rof_leaft2_other st v _ _ _ _ _ _ _ w (by simpa using h1) (Lib.hid (fun W => by have := HF 0 W (by decide) (by decide); rw [f0] at this; exact this)) (Lib.hid (fun W => by have := HF 1 W (by decide) (by decide); rw [f1] at this; exact this)) (Lib.hid (fun W => HG 12 12 W (by decide) (by decide) (by decide))) Q2 (Lib.hid (fun W => HF 10 W (by decide) (by decide))) (Lib.hid (fun W => HF 54 W (by decide) (by decide))) (Lib.hid (fun W => HF 7 W (by decide) (by decide))) (Lib.hid (fun W => HF 6 W (by decide) (by decide))) (Lib.hid (fun W => HG 55 4 W (by decide) (by decide) (by decide))) Q3 (Lib.hid HM) (Lib.hid HW) (by rw [u_bne]; simpa using hw)
      · have hk : kindD lv v = 1 := by simp [kindD, f0, f1, h3]
        have hd : readD st lv v = ⟨1, getN v 12 12, false, false, false, false, false, 0, 0⟩ := by simp [readD, hk]
        unfold ofD
        rw [hd]
        have HM := fun W => rdesc_any st lv 1 (getN v 12 12) false false false false false 0 0 W hp
        cases hm : mayD st lv (Dsc.mk 1 (getN v 12 12) false false false false false 0 0)
        · rw [hm] at HM
          rw [if_neg (by simp)]
          exact rof_table_bad st lv v _ w (by omega) (Lib.hid (fun W => by have := HF 0 W (by decide) (by decide); rw [f0] at this; exact this)) (Lib.hid (fun W => by have := HF 1 W (by decide) (by decide); rw [f1] at this; exact this)) (Lib.hid (fun W => HG 12 12 W (by decide) (by decide) (by decide))) Q2 (Lib.hid HM)
        · have HW := fun W => rword_any st lv 1 (getN v 12 12) false false false false false 0 0 W hm
          rw [hm] at HM
          by_cases hw : wordD st lv (Dsc.mk 1 (getN v 12 12) false false false false false 0 0) = v
          · rw [if_pos ⟨rfl, hw⟩]
            exact rof_table_yes st lv v _ _ w (by omega) (Lib.hid (fun W => by have := HF 0 W (by decide) (by decide); rw [f0] at this; exact this)) (Lib.hid (fun W => by have := HF 1 W (by decide) (by decide); rw [f1] at this; exact this)) (Lib.hid (fun W => HG 12 12 W (by decide) (by decide) (by decide))) Q2 (Lib.hid HM) (Lib.hid HW) (by rw [u_bne]; simpa using hw)
          · rw [if_neg (fun h => hw h.2)]
            exact rof_table_other st lv v _ _ w (by omega) (Lib.hid (fun W => by have := HF 0 W (by decide) (by decide); rw [f0] at this; exact this)) (Lib.hid (fun W => by have := HF 1 W (by decide) (by decide); rw [f1] at this; exact this)) (Lib.hid (fun W => HG 12 12 W (by decide) (by decide) (by decide))) Q2 (Lib.hid HM) (Lib.hid HW) (by rw [u_bne]; simpa using hw)

theorem check_any (st lv : Int) (k f : Int) (r wr x a n : Bool) (s o : Int) (w : World) (b : Bool) (hb : mayE st lv (Dsc.mk k f r wr x a n s o) = b) :
    Calls Try.prog 45 #[.int .i64 st, .int .i64 lv, .agg #[.int .i64 k, .int .i64 f, .bool r, .bool wr, .bool x, .bool a, .bool n, .int .i64 s, .int .i64 o]] w fun e w' => e = .returned (.int .i64 (if b then 0 else 1)) ∧ Below w.heap.size w w' := by
  have HM := Lib.hid (fun W => emayBe_any st lv k f r wr x a n s o W)
  rw [hb] at HM
  clear hb
  cases b
  all_goals
    go_enter Try.func45, Try.ntmps45
    go_wp2_with (first | (go_at_call 64; refine (entryOf_any _ _ _ _ _ _ _ _ _ _ _ _).mono ?_; rintro e w' ⟨rfl, rfl⟩) | (go_at_call 57; refine (HM.out _).mono ?_; rintro e w' ⟨rfl, hb1⟩))
    go_ret
    exact ⟨rfl, bel_trans (by repeat' (first | exact Below.refl _ _ | refine bel_alloc ?_ _)) hb1⟩

end Go.Proofs.Ytkpckfmnjebjaaa
