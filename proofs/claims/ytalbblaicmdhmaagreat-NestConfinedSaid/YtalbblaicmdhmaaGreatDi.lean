/- The reference's Of: contract. -/
import Derived.Test.YtalbblaicmdhmaaGreatDg
import Derived.Test.YtalbblaicmdhmaaGreatSt
import Derived.Deep.CutBlock
import Derived.Deep.DeepCutAuto
set_option linter.all false
namespace Go.Proofs.YtalbblaicmdhmaaGreat
open Go.ChangeShapes Go.WideShapes Go.ChangeAt Go.RowKit Go.Deep

set_option maxRecDepth 100000 in
set_option maxHeartbeats 6400000 in
theorem rof_any (st lv : Int) (v : BitVec 64) (w : World) (hp : placeB st lv = true) :
    Calls Tryz.prog 39 #[.int .i64 st, .int .i64 lv, .int .u64 (u v)] w fun e w' => e = .returned (dscV (ofD st lv v)) ∧ Below w.heap.size w w' := by
  obtain ⟨hst, hl0, hl3⟩ := placeB_iff.1 hp
  have HF := Lib.hid (fun p W h0 h1 => set_any v p W h0 h1)
  have HG := Lib.hid (fun p m W h0 h2 h1 => rnumber_any v p m W h0 h2 h1)
  have Q1 := Lib.hid (getN_bd v 4 4 (by decide) (by decide))
  have Q2 := Lib.hid (getN_bd v 12 12 (by decide) (by decide))
  have Q3 := Lib.hid (getN_bd v 55 4 (by decide) (by decide))
  have HMM := Lib.hid (fun k f r wr x a n s o W => rdesc_any st lv k f r wr x a n s o W hp)
  have HWW := Lib.hid (fun k f r wr x a n s o W hm => rword_any st lv k f r wr x a n s o W hm)
  have htw : w.heap.size ≤ w.heap.size := Nat.le_refl _
  have B0 := Lib.hid (Below.refl w.heap.size w)
  obtain ⟨d, hd⟩ : ∃ d, d = readD st lv v := ⟨_, rfl⟩
  obtain ⟨r, hr⟩ : ∃ r, r = ofD st lv v := ⟨_, rfl⟩
  rw [← hr]
  have hr2 : r = if mayD st lv d = true ∧ wordD st lv d = v then d else dz := by rw [hr, hd]; rfl
  have HR := Lib.hid hr2
  have HD := Lib.hid hd
  clear hr hr2 hp hst hd
  go_enter Tryz.func39, Tryz.ntmps39
  go_upto_region 1 with fail
  have R1 := Lib.hid ((BoxAt.newAt (w) z9 70 (w.heap.size) (by first | omega | (simp; done) | (simp; omega))))
  have B1 := Lib.hid ((bel_alloc B0.out (.cells z9 70)))
  obtain ⟨g1, hg1⟩ : ∃ g1, g1 = w.heap.size := ⟨_, rfl⟩
  obtain ⟨W1, hW1⟩ : ∃ W1, W1 = (w).alloc (.cells z9 70) := ⟨_, rfl⟩
  have hs1 : g1 + 1 ≤ W1.heap.size := by rw [hW1, hg1]; simp
  rw [← hW1] at R1 B1 ⊢
  have hb1 : w.heap.size ≤ g1 := by omega
  rw [← hg1] at R1 ⊢
  clear hg1
  clear hW1 B0
  go_upto_block 0 with fail
  have R2 := Lib.hid ((R1.out.alloc (.cells z9 70)))
  have D2 := Lib.hid ((BoxAt.newAt (W1) z9 70 (W1.heap.size) (by first | omega | (simp; done) | (simp; omega))))
  have B2 := Lib.hid ((bel_alloc B1.out (.cells z9 70)))
  obtain ⟨g2, hg2⟩ : ∃ g2, g2 = W1.heap.size := ⟨_, rfl⟩
  obtain ⟨W2, hW2⟩ : ∃ W2, W2 = (W1).alloc (.cells z9 70) := ⟨_, rfl⟩
  have hs2 : g2 + 1 ≤ W2.heap.size := by rw [hW2, hg2]; simp
  rw [← hW2] at R2 D2 B2 ⊢
  have hb2 : g1 + 1 ≤ g2 := by omega
  rw [← hg2] at D2 ⊢
  clear hg2
  clear hW2 R1 B1 hs1
  go_cut [] (fun wx => Hid (BoxAt wx (g2) #[.int .i64 d.k, .int .i64 d.f, .bool d.r, .bool d.w, .bool d.x, .bool d.a, .bool d.n, .int .i64 d.s, .int .i64 d.o] 70) ∧ Hid (BoxAt wx (g1) z9 70) ∧ Hid (Below w.heap.size w wx))
  case first =>
    cases f0 : flagW v 0
    · have hkd : kindD lv v = 0 := by simp [kindD, f0]
      have hrd : readD st lv v = ⟨0, 0, false, false, false, false, false, 0, getN v 4 4⟩ := by simp [readD, hkd]
      obtain ⟨n4, hn4⟩ : ∃ n, n = getN v 4 4 := ⟨_, rfl⟩
      have qn4 := Q1.out
      rw [← hn4] at hrd
      rw [← hn4] at qn4
      have gn4 := Lib.hid (fun W => by have := HG.out 4 4 W (by decide) (by decide) (by decide); rw [← hn4] at this; exact this)
      have F0 := Lib.hid (fun W => by have := HF.out 0 W (by decide) (by decide); rw [f0] at this; exact this)
      have HRD := Lib.hid hrd
      clear hrd hkd f0 hn4 HF HG Q1 Q2 Q3 HMM HWW
      obtain ⟨qn40, qn41⟩ := qn4
      go_wp2_with fail
      refine (F0.out _).mono ?_
      rintro e w3 ⟨rfl, rfl⟩
      go_wp2_with fail
      refine (gn4.out _).mono ?_
      rintro e w4 ⟨rfl, hb4⟩
      have hz4 := hb4.size
      have R4 := Lib.hid (R2.out.below hb4)
      have D4 := Lib.hid (D2.out.below hb4)
      have B4 := Lib.hid (bel_trans B2.out hb4)
      skip
      have hs4 : g2 + 1 ≤ w4.heap.size := by omega
      clear R2 D2 B2 hs2 hb4 hz4
      have Dc8 := D4.out.get 8 (.int .i64 0) rfl
      have Dz8 := D4.out.free 8
      go_wp2
      go_meet
      have hD := (D4.out.set 8 (.int .i64 n4) #[.int .i64 0, .int .i64 0, .bool false, .bool false, .bool false, .bool false, .bool false, .int .i64 0, .int .i64 n4] rfl)
      exact ⟨by rw [HD.out, HRD.out]; exact hD, (R4.out.other ⟨g2, 8, none⟩ (.int .i64 n4) (show g1 ≠ g2 by omega)), (Below.setCell B4.out (p := ⟨g2, 8, none⟩) (show w.heap.size ≤ g2 by omega) (.int .i64 n4))⟩
    · by_cases h1 : st = 1
      · subst h1
        cases f1 : flagW v 1
        · have hkd : kindD lv v = 2 := by simp [kindD, f0, f1]
          have hrd : readD 1 lv v = ⟨2, getN v 12 12, true, !flagW v 7, !flagW v 54, flagW v 10, flagW v 11, 0, 0⟩ := by simp [readD, hkd]
          obtain ⟨n12, hn12⟩ : ∃ n, n = getN v 12 12 := ⟨_, rfl⟩
          have qn12 := Q2.out
          obtain ⟨b7, hb7⟩ : ∃ b, b = flagW v 7 := ⟨_, rfl⟩
          obtain ⟨b54, hb54⟩ : ∃ b, b = flagW v 54 := ⟨_, rfl⟩
          obtain ⟨b10, hb10⟩ : ∃ b, b = flagW v 10 := ⟨_, rfl⟩
          obtain ⟨b11, hb11⟩ : ∃ b, b = flagW v 11 := ⟨_, rfl⟩
          rw [← hn12, ← hb7, ← hb54, ← hb10, ← hb11] at hrd
          rw [← hn12] at qn12
          have gn12 := Lib.hid (fun W => by have := HG.out 12 12 W (by decide) (by decide) (by decide); rw [← hn12] at this; exact this)
          have F7 := Lib.hid (fun W => by have := HF.out 7 W (by decide) (by decide); rw [← hb7] at this; exact this)
          have F54 := Lib.hid (fun W => by have := HF.out 54 W (by decide) (by decide); rw [← hb54] at this; exact this)
          have F10 := Lib.hid (fun W => by have := HF.out 10 W (by decide) (by decide); rw [← hb10] at this; exact this)
          have F11 := Lib.hid (fun W => by have := HF.out 11 W (by decide) (by decide); rw [← hb11] at this; exact this)
          have F0 := Lib.hid (fun W => by have := HF.out 0 W (by decide) (by decide); rw [f0] at this; exact this)
          have F1 := Lib.hid (fun W => by have := HF.out 1 W (by decide) (by decide); rw [f1] at this; exact this)
          have HRD := Lib.hid hrd
          clear hrd hkd f0 f1 hn12 hb7 hb54 hb10 hb11 HF HG Q1 Q2 Q3 HMM HWW
          obtain ⟨qn120, qn121⟩ := qn12
          go_wp2_with fail
          refine (F0.out _).mono ?_
          rintro e w3 ⟨rfl, rfl⟩
          go_wp2_with fail
          refine (F1.out _).mono ?_
          rintro e w4 ⟨rfl, rfl⟩
          go_wp2_with fail
          refine (gn12.out _).mono ?_
          rintro e w5 ⟨rfl, hb5⟩
          have hz5 := hb5.size
          have R5 := Lib.hid (R2.out.below hb5)
          have D5 := Lib.hid (D2.out.below hb5)
          have B5 := Lib.hid (bel_trans B2.out hb5)
          skip
          have hs5 : g2 + 1 ≤ w5.heap.size := by omega
          clear R2 D2 B2 hs2 hb5 hz5
          have Dc0 := D5.out.get 0 (.int .i64 0) rfl
          have Dz0 := D5.out.free 0
          have Dc1 := (D5.out.set 0 (.int .i64 2) #[.int .i64 2, .int .i64 0, .bool false, .bool false, .bool false, .bool false, .bool false, .int .i64 0, .int .i64 0] rfl).get 1 (.int .i64 0) rfl
          have Dz1 := (D5.out.set 0 (.int .i64 2) #[.int .i64 2, .int .i64 0, .bool false, .bool false, .bool false, .bool false, .bool false, .int .i64 0, .int .i64 0] rfl).free 1
          go_upto_region 3 with fail
          clear Dc0 Dz0 Dc1 Dz1
          have R6 := Lib.hid (((R5.out.other ⟨g2, 0, none⟩ (.int .i64 2) (show g1 ≠ g2 by omega)).other ⟨g2, 1, none⟩ (.int .i64 n12) (show g1 ≠ g2 by omega)))
          have D6 := Lib.hid (((D5.out.set 0 (.int .i64 2) #[.int .i64 2, .int .i64 0, .bool false, .bool false, .bool false, .bool false, .bool false, .int .i64 0, .int .i64 0] rfl).set 1 (.int .i64 n12) #[.int .i64 2, .int .i64 n12, .bool false, .bool false, .bool false, .bool false, .bool false, .int .i64 0, .int .i64 0] rfl))
          have B6 := Lib.hid ((Below.setCell (Below.setCell B5.out (p := ⟨g2, 0, none⟩) (show w.heap.size ≤ g2 by omega) (.int .i64 2)) (p := ⟨g2, 1, none⟩) (show w.heap.size ≤ g2 by omega) (.int .i64 n12)))
          obtain ⟨W6, hW6⟩ : ∃ W6, W6 = ((w5).setCell ⟨g2, 0, none⟩ (.int .i64 2)).setCell ⟨g2, 1, none⟩ (.int .i64 n12) := ⟨_, rfl⟩
          have hs6 : g2 + 1 ≤ W6.heap.size := by rw [hW6]; first | (simp [World.setCell]; omega) | (simp [World.setCell, World.setRow]; omega) | exact hs5
          rw [← hW6] at R6 D6 B6 ⊢
          clear hW6 R5 D5 B5 hs5
          go_wp2_with fail
          refine (F10.out _).mono ?_
          rintro e w7 ⟨rfl, rfl⟩
          go_wp2_with fail
          refine (F54.out _).mono ?_
          rintro e w8 ⟨rfl, rfl⟩
          have Dc5 := D6.out.get 5 (.bool false) rfl
          have Dz5 := D6.out.free 5
          have Dc4 := (D6.out.set 5 (.bool b10) #[.int .i64 2, .int .i64 n12, .bool false, .bool false, .bool false, .bool b10, .bool false, .int .i64 0, .int .i64 0] rfl).get 4 (.bool false) rfl
          have Dz4 := (D6.out.set 5 (.bool b10) #[.int .i64 2, .int .i64 n12, .bool false, .bool false, .bool false, .bool b10, .bool false, .int .i64 0, .int .i64 0] rfl).free 4
          go_upto_region 4 with fail
          clear Dc5 Dz5 Dc4 Dz4
          have R9 := Lib.hid (((R6.out.other ⟨g2, 5, none⟩ (.bool b10) (show g1 ≠ g2 by omega)).other ⟨g2, 4, none⟩ (.bool (!b54)) (show g1 ≠ g2 by omega)))
          have D9 := Lib.hid (((D6.out.set 5 (.bool b10) #[.int .i64 2, .int .i64 n12, .bool false, .bool false, .bool false, .bool b10, .bool false, .int .i64 0, .int .i64 0] rfl).set 4 (.bool (!b54)) #[.int .i64 2, .int .i64 n12, .bool false, .bool false, .bool (!b54), .bool b10, .bool false, .int .i64 0, .int .i64 0] rfl))
          have B9 := Lib.hid ((Below.setCell (Below.setCell B6.out (p := ⟨g2, 5, none⟩) (show w.heap.size ≤ g2 by omega) (.bool b10)) (p := ⟨g2, 4, none⟩) (show w.heap.size ≤ g2 by omega) (.bool (!b54))))
          obtain ⟨W9, hW9⟩ : ∃ W9, W9 = ((W6).setCell ⟨g2, 5, none⟩ (.bool b10)).setCell ⟨g2, 4, none⟩ (.bool (!b54)) := ⟨_, rfl⟩
          have hs9 : g2 + 1 ≤ W9.heap.size := by rw [hW9]; first | (simp [World.setCell]; omega) | (simp [World.setCell, World.setRow]; omega) | exact hs6
          rw [← hW9] at R9 D9 B9 ⊢
          clear hW9 R6 D6 B6 hs6
          go_wp2_with fail
          refine (F7.out _).mono ?_
          rintro e w10 ⟨rfl, rfl⟩
          go_wp2_with fail
          refine (F11.out _).mono ?_
          rintro e w11 ⟨rfl, rfl⟩
          have Dc2 := D9.out.get 2 (.bool false) rfl
          have Dz2 := D9.out.free 2
          have Dc3 := (D9.out.set 2 (.bool true) #[.int .i64 2, .int .i64 n12, .bool true, .bool false, .bool (!b54), .bool b10, .bool false, .int .i64 0, .int .i64 0] rfl).get 3 (.bool false) rfl
          have Dz3 := (D9.out.set 2 (.bool true) #[.int .i64 2, .int .i64 n12, .bool true, .bool false, .bool (!b54), .bool b10, .bool false, .int .i64 0, .int .i64 0] rfl).free 3
          have Dc6 := ((D9.out.set 2 (.bool true) #[.int .i64 2, .int .i64 n12, .bool true, .bool false, .bool (!b54), .bool b10, .bool false, .int .i64 0, .int .i64 0] rfl).set 3 (.bool (!b7)) #[.int .i64 2, .int .i64 n12, .bool true, .bool (!b7), .bool (!b54), .bool b10, .bool false, .int .i64 0, .int .i64 0] rfl).get 6 (.bool false) rfl
          have Dz6 := ((D9.out.set 2 (.bool true) #[.int .i64 2, .int .i64 n12, .bool true, .bool false, .bool (!b54), .bool b10, .bool false, .int .i64 0, .int .i64 0] rfl).set 3 (.bool (!b7)) #[.int .i64 2, .int .i64 n12, .bool true, .bool (!b7), .bool (!b54), .bool b10, .bool false, .int .i64 0, .int .i64 0] rfl).free 6
          go_wp2
          go_meet
          have hD := (((D9.out.set 2 (.bool true) #[.int .i64 2, .int .i64 n12, .bool true, .bool false, .bool (!b54), .bool b10, .bool false, .int .i64 0, .int .i64 0] rfl).set 3 (.bool (!b7)) #[.int .i64 2, .int .i64 n12, .bool true, .bool (!b7), .bool (!b54), .bool b10, .bool false, .int .i64 0, .int .i64 0] rfl).set 6 (.bool b11) #[.int .i64 2, .int .i64 n12, .bool true, .bool (!b7), .bool (!b54), .bool b10, .bool b11, .int .i64 0, .int .i64 0] rfl)
          exact ⟨by rw [HD.out, HRD.out]; exact hD, (((R9.out.other ⟨g2, 2, none⟩ (.bool true) (show g1 ≠ g2 by omega)).other ⟨g2, 3, none⟩ (.bool (!b7)) (show g1 ≠ g2 by omega)).other ⟨g2, 6, none⟩ (.bool b11) (show g1 ≠ g2 by omega)), (Below.setCell (Below.setCell (Below.setCell B9.out (p := ⟨g2, 2, none⟩) (show w.heap.size ≤ g2 by omega) (.bool true)) (p := ⟨g2, 3, none⟩) (show w.heap.size ≤ g2 by omega) (.bool (!b7))) (p := ⟨g2, 6, none⟩) (show w.heap.size ≤ g2 by omega) (.bool b11))⟩
        · by_cases h3 : lv < 3
          · have e3 : decide (lv < 3) = true := decide_eq_true h3
            have hkd : kindD lv v = 1 := by simp [kindD, f0, f1, h3]; omega
            have hrd : readD 1 lv v = ⟨1, getN v 12 12, false, false, false, false, false, 0, 0⟩ := by simp [readD, hkd]
            obtain ⟨n12, hn12⟩ : ∃ n, n = getN v 12 12 := ⟨_, rfl⟩
            have qn12 := Q2.out
            rw [← hn12] at hrd
            rw [← hn12] at qn12
            have gn12 := Lib.hid (fun W => by have := HG.out 12 12 W (by decide) (by decide) (by decide); rw [← hn12] at this; exact this)
            have F0 := Lib.hid (fun W => by have := HF.out 0 W (by decide) (by decide); rw [f0] at this; exact this)
            have F1 := Lib.hid (fun W => by have := HF.out 1 W (by decide) (by decide); rw [f1] at this; exact this)
            have HRD := Lib.hid hrd
            clear hrd hkd f0 f1 hn12 HF HG Q1 Q2 Q3 HMM HWW
            obtain ⟨qn120, qn121⟩ := qn12
            go_wp2_with fail
            refine (F0.out _).mono ?_
            rintro e w3 ⟨rfl, rfl⟩
            go_wp2_with fail
            refine (F1.out _).mono ?_
            rintro e w4 ⟨rfl, rfl⟩
            go_wp2_with fail
            refine (gn12.out _).mono ?_
            rintro e w5 ⟨rfl, hb5⟩
            have hz5 := hb5.size
            have R5 := Lib.hid (R2.out.below hb5)
            have D5 := Lib.hid (D2.out.below hb5)
            have B5 := Lib.hid (bel_trans B2.out hb5)
            skip
            have hs5 : g2 + 1 ≤ w5.heap.size := by omega
            clear R2 D2 B2 hs2 hb5 hz5
            have Dc0 := D5.out.get 0 (.int .i64 0) rfl
            have Dz0 := D5.out.free 0
            have Dc1 := (D5.out.set 0 (.int .i64 1) #[.int .i64 1, .int .i64 0, .bool false, .bool false, .bool false, .bool false, .bool false, .int .i64 0, .int .i64 0] rfl).get 1 (.int .i64 0) rfl
            have Dz1 := (D5.out.set 0 (.int .i64 1) #[.int .i64 1, .int .i64 0, .bool false, .bool false, .bool false, .bool false, .bool false, .int .i64 0, .int .i64 0] rfl).free 1
            go_wp2
            go_meet
            have hD := ((D5.out.set 0 (.int .i64 1) #[.int .i64 1, .int .i64 0, .bool false, .bool false, .bool false, .bool false, .bool false, .int .i64 0, .int .i64 0] rfl).set 1 (.int .i64 n12) #[.int .i64 1, .int .i64 n12, .bool false, .bool false, .bool false, .bool false, .bool false, .int .i64 0, .int .i64 0] rfl)
            exact ⟨by rw [HD.out, HRD.out]; exact hD, ((R5.out.other ⟨g2, 0, none⟩ (.int .i64 1) (show g1 ≠ g2 by omega)).other ⟨g2, 1, none⟩ (.int .i64 n12) (show g1 ≠ g2 by omega)), (Below.setCell (Below.setCell B5.out (p := ⟨g2, 0, none⟩) (show w.heap.size ≤ g2 by omega) (.int .i64 1)) (p := ⟨g2, 1, none⟩) (show w.heap.size ≤ g2 by omega) (.int .i64 n12))⟩
          · obtain rfl : lv = 3 := by omega
            have hkd : kindD 3 v = 2 := by simp [kindD, f0, f1, h3]
            have hrd : readD 1 3 v = ⟨2, getN v 12 12, true, !flagW v 7, !flagW v 54, flagW v 10, flagW v 11, 0, 0⟩ := by simp [readD, hkd]
            obtain ⟨n12, hn12⟩ : ∃ n, n = getN v 12 12 := ⟨_, rfl⟩
            have qn12 := Q2.out
            obtain ⟨b7, hb7⟩ : ∃ b, b = flagW v 7 := ⟨_, rfl⟩
            obtain ⟨b54, hb54⟩ : ∃ b, b = flagW v 54 := ⟨_, rfl⟩
            obtain ⟨b10, hb10⟩ : ∃ b, b = flagW v 10 := ⟨_, rfl⟩
            obtain ⟨b11, hb11⟩ : ∃ b, b = flagW v 11 := ⟨_, rfl⟩
            rw [← hn12, ← hb7, ← hb54, ← hb10, ← hb11] at hrd
            rw [← hn12] at qn12
            have gn12 := Lib.hid (fun W => by have := HG.out 12 12 W (by decide) (by decide) (by decide); rw [← hn12] at this; exact this)
            have F7 := Lib.hid (fun W => by have := HF.out 7 W (by decide) (by decide); rw [← hb7] at this; exact this)
            have F54 := Lib.hid (fun W => by have := HF.out 54 W (by decide) (by decide); rw [← hb54] at this; exact this)
            have F10 := Lib.hid (fun W => by have := HF.out 10 W (by decide) (by decide); rw [← hb10] at this; exact this)
            have F11 := Lib.hid (fun W => by have := HF.out 11 W (by decide) (by decide); rw [← hb11] at this; exact this)
            have F0 := Lib.hid (fun W => by have := HF.out 0 W (by decide) (by decide); rw [f0] at this; exact this)
            have F1 := Lib.hid (fun W => by have := HF.out 1 W (by decide) (by decide); rw [f1] at this; exact this)
            have HRD := Lib.hid hrd
            clear hrd hkd f0 f1 hn12 hb7 hb54 hb10 hb11 HF HG Q1 Q2 Q3 HMM HWW
            obtain ⟨qn120, qn121⟩ := qn12
            go_wp2_with fail
            refine (F0.out _).mono ?_
            rintro e w3 ⟨rfl, rfl⟩
            go_wp2_with fail
            refine (F1.out _).mono ?_
            rintro e w4 ⟨rfl, rfl⟩
            go_wp2_with fail
            refine (gn12.out _).mono ?_
            rintro e w5 ⟨rfl, hb5⟩
            have hz5 := hb5.size
            have R5 := Lib.hid (R2.out.below hb5)
            have D5 := Lib.hid (D2.out.below hb5)
            have B5 := Lib.hid (bel_trans B2.out hb5)
            skip
            have hs5 : g2 + 1 ≤ w5.heap.size := by omega
            clear R2 D2 B2 hs2 hb5 hz5
            have Dc0 := D5.out.get 0 (.int .i64 0) rfl
            have Dz0 := D5.out.free 0
            have Dc1 := (D5.out.set 0 (.int .i64 2) #[.int .i64 2, .int .i64 0, .bool false, .bool false, .bool false, .bool false, .bool false, .int .i64 0, .int .i64 0] rfl).get 1 (.int .i64 0) rfl
            have Dz1 := (D5.out.set 0 (.int .i64 2) #[.int .i64 2, .int .i64 0, .bool false, .bool false, .bool false, .bool false, .bool false, .int .i64 0, .int .i64 0] rfl).free 1
            go_upto_region 3 with fail
            clear Dc0 Dz0 Dc1 Dz1
            have R6 := Lib.hid (((R5.out.other ⟨g2, 0, none⟩ (.int .i64 2) (show g1 ≠ g2 by omega)).other ⟨g2, 1, none⟩ (.int .i64 n12) (show g1 ≠ g2 by omega)))
            have D6 := Lib.hid (((D5.out.set 0 (.int .i64 2) #[.int .i64 2, .int .i64 0, .bool false, .bool false, .bool false, .bool false, .bool false, .int .i64 0, .int .i64 0] rfl).set 1 (.int .i64 n12) #[.int .i64 2, .int .i64 n12, .bool false, .bool false, .bool false, .bool false, .bool false, .int .i64 0, .int .i64 0] rfl))
            have B6 := Lib.hid ((Below.setCell (Below.setCell B5.out (p := ⟨g2, 0, none⟩) (show w.heap.size ≤ g2 by omega) (.int .i64 2)) (p := ⟨g2, 1, none⟩) (show w.heap.size ≤ g2 by omega) (.int .i64 n12)))
            obtain ⟨W6, hW6⟩ : ∃ W6, W6 = ((w5).setCell ⟨g2, 0, none⟩ (.int .i64 2)).setCell ⟨g2, 1, none⟩ (.int .i64 n12) := ⟨_, rfl⟩
            have hs6 : g2 + 1 ≤ W6.heap.size := by rw [hW6]; first | (simp [World.setCell]; omega) | (simp [World.setCell, World.setRow]; omega) | exact hs5
            rw [← hW6] at R6 D6 B6 ⊢
            clear hW6 R5 D5 B5 hs5
            go_wp2_with fail
            refine (F10.out _).mono ?_
            rintro e w7 ⟨rfl, rfl⟩
            go_wp2_with fail
            refine (F54.out _).mono ?_
            rintro e w8 ⟨rfl, rfl⟩
            have Dc5 := D6.out.get 5 (.bool false) rfl
            have Dz5 := D6.out.free 5
            have Dc4 := (D6.out.set 5 (.bool b10) #[.int .i64 2, .int .i64 n12, .bool false, .bool false, .bool false, .bool b10, .bool false, .int .i64 0, .int .i64 0] rfl).get 4 (.bool false) rfl
            have Dz4 := (D6.out.set 5 (.bool b10) #[.int .i64 2, .int .i64 n12, .bool false, .bool false, .bool false, .bool b10, .bool false, .int .i64 0, .int .i64 0] rfl).free 4
            go_upto_region 4 with fail
            clear Dc5 Dz5 Dc4 Dz4
            have R9 := Lib.hid (((R6.out.other ⟨g2, 5, none⟩ (.bool b10) (show g1 ≠ g2 by omega)).other ⟨g2, 4, none⟩ (.bool (!b54)) (show g1 ≠ g2 by omega)))
            have D9 := Lib.hid (((D6.out.set 5 (.bool b10) #[.int .i64 2, .int .i64 n12, .bool false, .bool false, .bool false, .bool b10, .bool false, .int .i64 0, .int .i64 0] rfl).set 4 (.bool (!b54)) #[.int .i64 2, .int .i64 n12, .bool false, .bool false, .bool (!b54), .bool b10, .bool false, .int .i64 0, .int .i64 0] rfl))
            have B9 := Lib.hid ((Below.setCell (Below.setCell B6.out (p := ⟨g2, 5, none⟩) (show w.heap.size ≤ g2 by omega) (.bool b10)) (p := ⟨g2, 4, none⟩) (show w.heap.size ≤ g2 by omega) (.bool (!b54))))
            obtain ⟨W9, hW9⟩ : ∃ W9, W9 = ((W6).setCell ⟨g2, 5, none⟩ (.bool b10)).setCell ⟨g2, 4, none⟩ (.bool (!b54)) := ⟨_, rfl⟩
            have hs9 : g2 + 1 ≤ W9.heap.size := by rw [hW9]; first | (simp [World.setCell]; omega) | (simp [World.setCell, World.setRow]; omega) | exact hs6
            rw [← hW9] at R9 D9 B9 ⊢
            clear hW9 R6 D6 B6 hs6
            go_wp2_with fail
            refine (F7.out _).mono ?_
            rintro e w10 ⟨rfl, rfl⟩
            go_wp2_with fail
            refine (F11.out _).mono ?_
            rintro e w11 ⟨rfl, rfl⟩
            have Dc2 := D9.out.get 2 (.bool false) rfl
            have Dz2 := D9.out.free 2
            have Dc3 := (D9.out.set 2 (.bool true) #[.int .i64 2, .int .i64 n12, .bool true, .bool false, .bool (!b54), .bool b10, .bool false, .int .i64 0, .int .i64 0] rfl).get 3 (.bool false) rfl
            have Dz3 := (D9.out.set 2 (.bool true) #[.int .i64 2, .int .i64 n12, .bool true, .bool false, .bool (!b54), .bool b10, .bool false, .int .i64 0, .int .i64 0] rfl).free 3
            have Dc6 := ((D9.out.set 2 (.bool true) #[.int .i64 2, .int .i64 n12, .bool true, .bool false, .bool (!b54), .bool b10, .bool false, .int .i64 0, .int .i64 0] rfl).set 3 (.bool (!b7)) #[.int .i64 2, .int .i64 n12, .bool true, .bool (!b7), .bool (!b54), .bool b10, .bool false, .int .i64 0, .int .i64 0] rfl).get 6 (.bool false) rfl
            have Dz6 := ((D9.out.set 2 (.bool true) #[.int .i64 2, .int .i64 n12, .bool true, .bool false, .bool (!b54), .bool b10, .bool false, .int .i64 0, .int .i64 0] rfl).set 3 (.bool (!b7)) #[.int .i64 2, .int .i64 n12, .bool true, .bool (!b7), .bool (!b54), .bool b10, .bool false, .int .i64 0, .int .i64 0] rfl).free 6
            go_wp2
            go_meet
            have hD := (((D9.out.set 2 (.bool true) #[.int .i64 2, .int .i64 n12, .bool true, .bool false, .bool (!b54), .bool b10, .bool false, .int .i64 0, .int .i64 0] rfl).set 3 (.bool (!b7)) #[.int .i64 2, .int .i64 n12, .bool true, .bool (!b7), .bool (!b54), .bool b10, .bool false, .int .i64 0, .int .i64 0] rfl).set 6 (.bool b11) #[.int .i64 2, .int .i64 n12, .bool true, .bool (!b7), .bool (!b54), .bool b10, .bool b11, .int .i64 0, .int .i64 0] rfl)
            exact ⟨by rw [HD.out, HRD.out]; exact hD, (((R9.out.other ⟨g2, 2, none⟩ (.bool true) (show g1 ≠ g2 by omega)).other ⟨g2, 3, none⟩ (.bool (!b7)) (show g1 ≠ g2 by omega)).other ⟨g2, 6, none⟩ (.bool b11) (show g1 ≠ g2 by omega)), (Below.setCell (Below.setCell (Below.setCell B9.out (p := ⟨g2, 2, none⟩) (show w.heap.size ≤ g2 by omega) (.bool true)) (p := ⟨g2, 3, none⟩) (show w.heap.size ≤ g2 by omega) (.bool (!b7))) (p := ⟨g2, 6, none⟩) (show w.heap.size ≤ g2 by omega) (.bool b11))⟩
      · have e1 : (st == 1) = false := by rw [beq_int]; exact decide_eq_false h1
        cases f1 : flagW v 1
        · have hkd : kindD lv v = 2 := by simp [kindD, f0, f1]
          have hrd : readD st lv v = ⟨2, getN v 12 12, flagW v 6, flagW v 7, !flagW v 54, flagW v 10, false, getN v 55 4, 0⟩ := by simp [readD, hkd, h1]
          obtain ⟨n12, hn12⟩ : ∃ n, n = getN v 12 12 := ⟨_, rfl⟩
          have qn12 := Q2.out
          obtain ⟨n55, hn55⟩ : ∃ n, n = getN v 55 4 := ⟨_, rfl⟩
          have qn55 := Q3.out
          obtain ⟨b6, hb6⟩ : ∃ b, b = flagW v 6 := ⟨_, rfl⟩
          obtain ⟨b7, hb7⟩ : ∃ b, b = flagW v 7 := ⟨_, rfl⟩
          obtain ⟨b54, hb54⟩ : ∃ b, b = flagW v 54 := ⟨_, rfl⟩
          obtain ⟨b10, hb10⟩ : ∃ b, b = flagW v 10 := ⟨_, rfl⟩
          rw [← hn12, ← hn55, ← hb6, ← hb7, ← hb54, ← hb10] at hrd
          rw [← hn12] at qn12
          rw [← hn55] at qn55
          have gn12 := Lib.hid (fun W => by have := HG.out 12 12 W (by decide) (by decide) (by decide); rw [← hn12] at this; exact this)
          have gn55 := Lib.hid (fun W => by have := HG.out 55 4 W (by decide) (by decide) (by decide); rw [← hn55] at this; exact this)
          have F6 := Lib.hid (fun W => by have := HF.out 6 W (by decide) (by decide); rw [← hb6] at this; exact this)
          have F7 := Lib.hid (fun W => by have := HF.out 7 W (by decide) (by decide); rw [← hb7] at this; exact this)
          have F54 := Lib.hid (fun W => by have := HF.out 54 W (by decide) (by decide); rw [← hb54] at this; exact this)
          have F10 := Lib.hid (fun W => by have := HF.out 10 W (by decide) (by decide); rw [← hb10] at this; exact this)
          have F0 := Lib.hid (fun W => by have := HF.out 0 W (by decide) (by decide); rw [f0] at this; exact this)
          have F1 := Lib.hid (fun W => by have := HF.out 1 W (by decide) (by decide); rw [f1] at this; exact this)
          have HRD := Lib.hid hrd
          clear hrd hkd f0 f1 hn12 hn55 hb6 hb7 hb54 hb10 HF HG Q1 Q2 Q3 HMM HWW
          obtain ⟨qn120, qn121⟩ := qn12
          obtain ⟨qn550, qn551⟩ := qn55
          go_wp2_with fail
          refine (F0.out _).mono ?_
          rintro e w3 ⟨rfl, rfl⟩
          go_wp2_with fail
          refine (F1.out _).mono ?_
          rintro e w4 ⟨rfl, rfl⟩
          go_wp2_with fail
          refine (gn12.out _).mono ?_
          rintro e w5 ⟨rfl, hb5⟩
          have hz5 := hb5.size
          have R5 := Lib.hid (R2.out.below hb5)
          have D5 := Lib.hid (D2.out.below hb5)
          have B5 := Lib.hid (bel_trans B2.out hb5)
          skip
          have hs5 : g2 + 1 ≤ w5.heap.size := by omega
          clear R2 D2 B2 hs2 hb5 hz5
          have Dc0 := D5.out.get 0 (.int .i64 0) rfl
          have Dz0 := D5.out.free 0
          have Dc1 := (D5.out.set 0 (.int .i64 2) #[.int .i64 2, .int .i64 0, .bool false, .bool false, .bool false, .bool false, .bool false, .int .i64 0, .int .i64 0] rfl).get 1 (.int .i64 0) rfl
          have Dz1 := (D5.out.set 0 (.int .i64 2) #[.int .i64 2, .int .i64 0, .bool false, .bool false, .bool false, .bool false, .bool false, .int .i64 0, .int .i64 0] rfl).free 1
          go_upto_region 3 with fail
          clear Dc0 Dz0 Dc1 Dz1
          have R6 := Lib.hid (((R5.out.other ⟨g2, 0, none⟩ (.int .i64 2) (show g1 ≠ g2 by omega)).other ⟨g2, 1, none⟩ (.int .i64 n12) (show g1 ≠ g2 by omega)))
          have D6 := Lib.hid (((D5.out.set 0 (.int .i64 2) #[.int .i64 2, .int .i64 0, .bool false, .bool false, .bool false, .bool false, .bool false, .int .i64 0, .int .i64 0] rfl).set 1 (.int .i64 n12) #[.int .i64 2, .int .i64 n12, .bool false, .bool false, .bool false, .bool false, .bool false, .int .i64 0, .int .i64 0] rfl))
          have B6 := Lib.hid ((Below.setCell (Below.setCell B5.out (p := ⟨g2, 0, none⟩) (show w.heap.size ≤ g2 by omega) (.int .i64 2)) (p := ⟨g2, 1, none⟩) (show w.heap.size ≤ g2 by omega) (.int .i64 n12)))
          obtain ⟨W6, hW6⟩ : ∃ W6, W6 = ((w5).setCell ⟨g2, 0, none⟩ (.int .i64 2)).setCell ⟨g2, 1, none⟩ (.int .i64 n12) := ⟨_, rfl⟩
          have hs6 : g2 + 1 ≤ W6.heap.size := by rw [hW6]; first | (simp [World.setCell]; omega) | (simp [World.setCell, World.setRow]; omega) | exact hs5
          rw [← hW6] at R6 D6 B6 ⊢
          clear hW6 R5 D5 B5 hs5
          go_wp2_with fail
          refine (F10.out _).mono ?_
          rintro e w7 ⟨rfl, rfl⟩
          go_wp2_with fail
          refine (F54.out _).mono ?_
          rintro e w8 ⟨rfl, rfl⟩
          have Dc5 := D6.out.get 5 (.bool false) rfl
          have Dz5 := D6.out.free 5
          have Dc4 := (D6.out.set 5 (.bool b10) #[.int .i64 2, .int .i64 n12, .bool false, .bool false, .bool false, .bool b10, .bool false, .int .i64 0, .int .i64 0] rfl).get 4 (.bool false) rfl
          have Dz4 := (D6.out.set 5 (.bool b10) #[.int .i64 2, .int .i64 n12, .bool false, .bool false, .bool false, .bool b10, .bool false, .int .i64 0, .int .i64 0] rfl).free 4
          go_upto_region 4 with fail
          clear Dc5 Dz5 Dc4 Dz4
          have R9 := Lib.hid (((R6.out.other ⟨g2, 5, none⟩ (.bool b10) (show g1 ≠ g2 by omega)).other ⟨g2, 4, none⟩ (.bool (!b54)) (show g1 ≠ g2 by omega)))
          have D9 := Lib.hid (((D6.out.set 5 (.bool b10) #[.int .i64 2, .int .i64 n12, .bool false, .bool false, .bool false, .bool b10, .bool false, .int .i64 0, .int .i64 0] rfl).set 4 (.bool (!b54)) #[.int .i64 2, .int .i64 n12, .bool false, .bool false, .bool (!b54), .bool b10, .bool false, .int .i64 0, .int .i64 0] rfl))
          have B9 := Lib.hid ((Below.setCell (Below.setCell B6.out (p := ⟨g2, 5, none⟩) (show w.heap.size ≤ g2 by omega) (.bool b10)) (p := ⟨g2, 4, none⟩) (show w.heap.size ≤ g2 by omega) (.bool (!b54))))
          obtain ⟨W9, hW9⟩ : ∃ W9, W9 = ((W6).setCell ⟨g2, 5, none⟩ (.bool b10)).setCell ⟨g2, 4, none⟩ (.bool (!b54)) := ⟨_, rfl⟩
          have hs9 : g2 + 1 ≤ W9.heap.size := by rw [hW9]; first | (simp [World.setCell]; omega) | (simp [World.setCell, World.setRow]; omega) | exact hs6
          rw [← hW9] at R9 D9 B9 ⊢
          clear hW9 R6 D6 B6 hs6
          go_wp2_with fail
          refine (F6.out _).mono ?_
          rintro e w10 ⟨rfl, rfl⟩
          go_wp2_with fail
          refine (F7.out _).mono ?_
          rintro e w11 ⟨rfl, rfl⟩
          go_wp2_with fail
          refine (gn55.out _).mono ?_
          rintro e w12 ⟨rfl, hb12⟩
          have hz12 := hb12.size
          have R12 := Lib.hid (R9.out.below hb12)
          have D12 := Lib.hid (D9.out.below hb12)
          have B12 := Lib.hid (bel_trans B9.out hb12)
          skip
          have hs12 : g2 + 1 ≤ w12.heap.size := by omega
          clear R9 D9 B9 hs9 hb12 hz12
          have Dc2 := D12.out.get 2 (.bool false) rfl
          have Dz2 := D12.out.free 2
          have Dc3 := (D12.out.set 2 (.bool b6) #[.int .i64 2, .int .i64 n12, .bool b6, .bool false, .bool (!b54), .bool b10, .bool false, .int .i64 0, .int .i64 0] rfl).get 3 (.bool false) rfl
          have Dz3 := (D12.out.set 2 (.bool b6) #[.int .i64 2, .int .i64 n12, .bool b6, .bool false, .bool (!b54), .bool b10, .bool false, .int .i64 0, .int .i64 0] rfl).free 3
          have Dc7 := ((D12.out.set 2 (.bool b6) #[.int .i64 2, .int .i64 n12, .bool b6, .bool false, .bool (!b54), .bool b10, .bool false, .int .i64 0, .int .i64 0] rfl).set 3 (.bool b7) #[.int .i64 2, .int .i64 n12, .bool b6, .bool b7, .bool (!b54), .bool b10, .bool false, .int .i64 0, .int .i64 0] rfl).get 7 (.int .i64 0) rfl
          have Dz7 := ((D12.out.set 2 (.bool b6) #[.int .i64 2, .int .i64 n12, .bool b6, .bool false, .bool (!b54), .bool b10, .bool false, .int .i64 0, .int .i64 0] rfl).set 3 (.bool b7) #[.int .i64 2, .int .i64 n12, .bool b6, .bool b7, .bool (!b54), .bool b10, .bool false, .int .i64 0, .int .i64 0] rfl).free 7
          go_wp2
          go_meet
          have hD := (((D12.out.set 2 (.bool b6) #[.int .i64 2, .int .i64 n12, .bool b6, .bool false, .bool (!b54), .bool b10, .bool false, .int .i64 0, .int .i64 0] rfl).set 3 (.bool b7) #[.int .i64 2, .int .i64 n12, .bool b6, .bool b7, .bool (!b54), .bool b10, .bool false, .int .i64 0, .int .i64 0] rfl).set 7 (.int .i64 n55) #[.int .i64 2, .int .i64 n12, .bool b6, .bool b7, .bool (!b54), .bool b10, .bool false, .int .i64 n55, .int .i64 0] rfl)
          exact ⟨by rw [HD.out, HRD.out]; exact hD, (((R12.out.other ⟨g2, 2, none⟩ (.bool b6) (show g1 ≠ g2 by omega)).other ⟨g2, 3, none⟩ (.bool b7) (show g1 ≠ g2 by omega)).other ⟨g2, 7, none⟩ (.int .i64 n55) (show g1 ≠ g2 by omega)), (Below.setCell (Below.setCell (Below.setCell B12.out (p := ⟨g2, 2, none⟩) (show w.heap.size ≤ g2 by omega) (.bool b6)) (p := ⟨g2, 3, none⟩) (show w.heap.size ≤ g2 by omega) (.bool b7)) (p := ⟨g2, 7, none⟩) (show w.heap.size ≤ g2 by omega) (.int .i64 n55))⟩
        · by_cases h3 : lv < 3
          · have e3 : decide (lv < 3) = true := decide_eq_true h3
            have hkd : kindD lv v = 1 := by simp [kindD, f0, f1, h3]; omega
            have hrd : readD st lv v = ⟨1, getN v 12 12, false, false, false, false, false, 0, 0⟩ := by simp [readD, hkd]
            obtain ⟨n12, hn12⟩ : ∃ n, n = getN v 12 12 := ⟨_, rfl⟩
            have qn12 := Q2.out
            rw [← hn12] at hrd
            rw [← hn12] at qn12
            have gn12 := Lib.hid (fun W => by have := HG.out 12 12 W (by decide) (by decide) (by decide); rw [← hn12] at this; exact this)
            have F0 := Lib.hid (fun W => by have := HF.out 0 W (by decide) (by decide); rw [f0] at this; exact this)
            have F1 := Lib.hid (fun W => by have := HF.out 1 W (by decide) (by decide); rw [f1] at this; exact this)
            have HRD := Lib.hid hrd
            clear hrd hkd f0 f1 hn12 HF HG Q1 Q2 Q3 HMM HWW
            obtain ⟨qn120, qn121⟩ := qn12
            go_wp2_with fail
            refine (F0.out _).mono ?_
            rintro e w3 ⟨rfl, rfl⟩
            go_wp2_with fail
            refine (F1.out _).mono ?_
            rintro e w4 ⟨rfl, rfl⟩
            go_wp2_with fail
            refine (gn12.out _).mono ?_
            rintro e w5 ⟨rfl, hb5⟩
            have hz5 := hb5.size
            have R5 := Lib.hid (R2.out.below hb5)
            have D5 := Lib.hid (D2.out.below hb5)
            have B5 := Lib.hid (bel_trans B2.out hb5)
            skip
            have hs5 : g2 + 1 ≤ w5.heap.size := by omega
            clear R2 D2 B2 hs2 hb5 hz5
            have Dc0 := D5.out.get 0 (.int .i64 0) rfl
            have Dz0 := D5.out.free 0
            have Dc1 := (D5.out.set 0 (.int .i64 1) #[.int .i64 1, .int .i64 0, .bool false, .bool false, .bool false, .bool false, .bool false, .int .i64 0, .int .i64 0] rfl).get 1 (.int .i64 0) rfl
            have Dz1 := (D5.out.set 0 (.int .i64 1) #[.int .i64 1, .int .i64 0, .bool false, .bool false, .bool false, .bool false, .bool false, .int .i64 0, .int .i64 0] rfl).free 1
            go_wp2
            go_meet
            have hD := ((D5.out.set 0 (.int .i64 1) #[.int .i64 1, .int .i64 0, .bool false, .bool false, .bool false, .bool false, .bool false, .int .i64 0, .int .i64 0] rfl).set 1 (.int .i64 n12) #[.int .i64 1, .int .i64 n12, .bool false, .bool false, .bool false, .bool false, .bool false, .int .i64 0, .int .i64 0] rfl)
            exact ⟨by rw [HD.out, HRD.out]; exact hD, ((R5.out.other ⟨g2, 0, none⟩ (.int .i64 1) (show g1 ≠ g2 by omega)).other ⟨g2, 1, none⟩ (.int .i64 n12) (show g1 ≠ g2 by omega)), (Below.setCell (Below.setCell B5.out (p := ⟨g2, 0, none⟩) (show w.heap.size ≤ g2 by omega) (.int .i64 1)) (p := ⟨g2, 1, none⟩) (show w.heap.size ≤ g2 by omega) (.int .i64 n12))⟩
          · obtain rfl : lv = 3 := by omega
            have hkd : kindD 3 v = 2 := by simp [kindD, f0, f1, h3]
            have hrd : readD st 3 v = ⟨2, getN v 12 12, flagW v 6, flagW v 7, !flagW v 54, flagW v 10, false, getN v 55 4, 0⟩ := by simp [readD, hkd, h1]
            obtain ⟨n12, hn12⟩ : ∃ n, n = getN v 12 12 := ⟨_, rfl⟩
            have qn12 := Q2.out
            obtain ⟨n55, hn55⟩ : ∃ n, n = getN v 55 4 := ⟨_, rfl⟩
            have qn55 := Q3.out
            obtain ⟨b6, hb6⟩ : ∃ b, b = flagW v 6 := ⟨_, rfl⟩
            obtain ⟨b7, hb7⟩ : ∃ b, b = flagW v 7 := ⟨_, rfl⟩
            obtain ⟨b54, hb54⟩ : ∃ b, b = flagW v 54 := ⟨_, rfl⟩
            obtain ⟨b10, hb10⟩ : ∃ b, b = flagW v 10 := ⟨_, rfl⟩
            rw [← hn12, ← hn55, ← hb6, ← hb7, ← hb54, ← hb10] at hrd
            rw [← hn12] at qn12
            rw [← hn55] at qn55
            have gn12 := Lib.hid (fun W => by have := HG.out 12 12 W (by decide) (by decide) (by decide); rw [← hn12] at this; exact this)
            have gn55 := Lib.hid (fun W => by have := HG.out 55 4 W (by decide) (by decide) (by decide); rw [← hn55] at this; exact this)
            have F6 := Lib.hid (fun W => by have := HF.out 6 W (by decide) (by decide); rw [← hb6] at this; exact this)
            have F7 := Lib.hid (fun W => by have := HF.out 7 W (by decide) (by decide); rw [← hb7] at this; exact this)
            have F54 := Lib.hid (fun W => by have := HF.out 54 W (by decide) (by decide); rw [← hb54] at this; exact this)
            have F10 := Lib.hid (fun W => by have := HF.out 10 W (by decide) (by decide); rw [← hb10] at this; exact this)
            have F0 := Lib.hid (fun W => by have := HF.out 0 W (by decide) (by decide); rw [f0] at this; exact this)
            have F1 := Lib.hid (fun W => by have := HF.out 1 W (by decide) (by decide); rw [f1] at this; exact this)
            have HRD := Lib.hid hrd
            clear hrd hkd f0 f1 hn12 hn55 hb6 hb7 hb54 hb10 HF HG Q1 Q2 Q3 HMM HWW
            obtain ⟨qn120, qn121⟩ := qn12
            obtain ⟨qn550, qn551⟩ := qn55
            go_wp2_with fail
            refine (F0.out _).mono ?_
            rintro e w3 ⟨rfl, rfl⟩
            go_wp2_with fail
            refine (F1.out _).mono ?_
            rintro e w4 ⟨rfl, rfl⟩
            go_wp2_with fail
            refine (gn12.out _).mono ?_
            rintro e w5 ⟨rfl, hb5⟩
            have hz5 := hb5.size
            have R5 := Lib.hid (R2.out.below hb5)
            have D5 := Lib.hid (D2.out.below hb5)
            have B5 := Lib.hid (bel_trans B2.out hb5)
            skip
            have hs5 : g2 + 1 ≤ w5.heap.size := by omega
            clear R2 D2 B2 hs2 hb5 hz5
            have Dc0 := D5.out.get 0 (.int .i64 0) rfl
            have Dz0 := D5.out.free 0
            have Dc1 := (D5.out.set 0 (.int .i64 2) #[.int .i64 2, .int .i64 0, .bool false, .bool false, .bool false, .bool false, .bool false, .int .i64 0, .int .i64 0] rfl).get 1 (.int .i64 0) rfl
            have Dz1 := (D5.out.set 0 (.int .i64 2) #[.int .i64 2, .int .i64 0, .bool false, .bool false, .bool false, .bool false, .bool false, .int .i64 0, .int .i64 0] rfl).free 1
            go_upto_region 3 with fail
            clear Dc0 Dz0 Dc1 Dz1
            have R6 := Lib.hid (((R5.out.other ⟨g2, 0, none⟩ (.int .i64 2) (show g1 ≠ g2 by omega)).other ⟨g2, 1, none⟩ (.int .i64 n12) (show g1 ≠ g2 by omega)))
            have D6 := Lib.hid (((D5.out.set 0 (.int .i64 2) #[.int .i64 2, .int .i64 0, .bool false, .bool false, .bool false, .bool false, .bool false, .int .i64 0, .int .i64 0] rfl).set 1 (.int .i64 n12) #[.int .i64 2, .int .i64 n12, .bool false, .bool false, .bool false, .bool false, .bool false, .int .i64 0, .int .i64 0] rfl))
            have B6 := Lib.hid ((Below.setCell (Below.setCell B5.out (p := ⟨g2, 0, none⟩) (show w.heap.size ≤ g2 by omega) (.int .i64 2)) (p := ⟨g2, 1, none⟩) (show w.heap.size ≤ g2 by omega) (.int .i64 n12)))
            obtain ⟨W6, hW6⟩ : ∃ W6, W6 = ((w5).setCell ⟨g2, 0, none⟩ (.int .i64 2)).setCell ⟨g2, 1, none⟩ (.int .i64 n12) := ⟨_, rfl⟩
            have hs6 : g2 + 1 ≤ W6.heap.size := by rw [hW6]; first | (simp [World.setCell]; omega) | (simp [World.setCell, World.setRow]; omega) | exact hs5
            rw [← hW6] at R6 D6 B6 ⊢
            clear hW6 R5 D5 B5 hs5
            go_wp2_with fail
            refine (F10.out _).mono ?_
            rintro e w7 ⟨rfl, rfl⟩
            go_wp2_with fail
            refine (F54.out _).mono ?_
            rintro e w8 ⟨rfl, rfl⟩
            have Dc5 := D6.out.get 5 (.bool false) rfl
            have Dz5 := D6.out.free 5
            have Dc4 := (D6.out.set 5 (.bool b10) #[.int .i64 2, .int .i64 n12, .bool false, .bool false, .bool false, .bool b10, .bool false, .int .i64 0, .int .i64 0] rfl).get 4 (.bool false) rfl
            have Dz4 := (D6.out.set 5 (.bool b10) #[.int .i64 2, .int .i64 n12, .bool false, .bool false, .bool false, .bool b10, .bool false, .int .i64 0, .int .i64 0] rfl).free 4
            go_upto_region 4 with fail
            clear Dc5 Dz5 Dc4 Dz4
            have R9 := Lib.hid (((R6.out.other ⟨g2, 5, none⟩ (.bool b10) (show g1 ≠ g2 by omega)).other ⟨g2, 4, none⟩ (.bool (!b54)) (show g1 ≠ g2 by omega)))
            have D9 := Lib.hid (((D6.out.set 5 (.bool b10) #[.int .i64 2, .int .i64 n12, .bool false, .bool false, .bool false, .bool b10, .bool false, .int .i64 0, .int .i64 0] rfl).set 4 (.bool (!b54)) #[.int .i64 2, .int .i64 n12, .bool false, .bool false, .bool (!b54), .bool b10, .bool false, .int .i64 0, .int .i64 0] rfl))
            have B9 := Lib.hid ((Below.setCell (Below.setCell B6.out (p := ⟨g2, 5, none⟩) (show w.heap.size ≤ g2 by omega) (.bool b10)) (p := ⟨g2, 4, none⟩) (show w.heap.size ≤ g2 by omega) (.bool (!b54))))
            obtain ⟨W9, hW9⟩ : ∃ W9, W9 = ((W6).setCell ⟨g2, 5, none⟩ (.bool b10)).setCell ⟨g2, 4, none⟩ (.bool (!b54)) := ⟨_, rfl⟩
            have hs9 : g2 + 1 ≤ W9.heap.size := by rw [hW9]; first | (simp [World.setCell]; omega) | (simp [World.setCell, World.setRow]; omega) | exact hs6
            rw [← hW9] at R9 D9 B9 ⊢
            clear hW9 R6 D6 B6 hs6
            go_wp2_with fail
            refine (F6.out _).mono ?_
            rintro e w10 ⟨rfl, rfl⟩
            go_wp2_with fail
            refine (F7.out _).mono ?_
            rintro e w11 ⟨rfl, rfl⟩
            go_wp2_with fail
            refine (gn55.out _).mono ?_
            rintro e w12 ⟨rfl, hb12⟩
            have hz12 := hb12.size
            have R12 := Lib.hid (R9.out.below hb12)
            have D12 := Lib.hid (D9.out.below hb12)
            have B12 := Lib.hid (bel_trans B9.out hb12)
            skip
            have hs12 : g2 + 1 ≤ w12.heap.size := by omega
            clear R9 D9 B9 hs9 hb12 hz12
            have Dc2 := D12.out.get 2 (.bool false) rfl
            have Dz2 := D12.out.free 2
            have Dc3 := (D12.out.set 2 (.bool b6) #[.int .i64 2, .int .i64 n12, .bool b6, .bool false, .bool (!b54), .bool b10, .bool false, .int .i64 0, .int .i64 0] rfl).get 3 (.bool false) rfl
            have Dz3 := (D12.out.set 2 (.bool b6) #[.int .i64 2, .int .i64 n12, .bool b6, .bool false, .bool (!b54), .bool b10, .bool false, .int .i64 0, .int .i64 0] rfl).free 3
            have Dc7 := ((D12.out.set 2 (.bool b6) #[.int .i64 2, .int .i64 n12, .bool b6, .bool false, .bool (!b54), .bool b10, .bool false, .int .i64 0, .int .i64 0] rfl).set 3 (.bool b7) #[.int .i64 2, .int .i64 n12, .bool b6, .bool b7, .bool (!b54), .bool b10, .bool false, .int .i64 0, .int .i64 0] rfl).get 7 (.int .i64 0) rfl
            have Dz7 := ((D12.out.set 2 (.bool b6) #[.int .i64 2, .int .i64 n12, .bool b6, .bool false, .bool (!b54), .bool b10, .bool false, .int .i64 0, .int .i64 0] rfl).set 3 (.bool b7) #[.int .i64 2, .int .i64 n12, .bool b6, .bool b7, .bool (!b54), .bool b10, .bool false, .int .i64 0, .int .i64 0] rfl).free 7
            go_wp2
            go_meet
            have hD := (((D12.out.set 2 (.bool b6) #[.int .i64 2, .int .i64 n12, .bool b6, .bool false, .bool (!b54), .bool b10, .bool false, .int .i64 0, .int .i64 0] rfl).set 3 (.bool b7) #[.int .i64 2, .int .i64 n12, .bool b6, .bool b7, .bool (!b54), .bool b10, .bool false, .int .i64 0, .int .i64 0] rfl).set 7 (.int .i64 n55) #[.int .i64 2, .int .i64 n12, .bool b6, .bool b7, .bool (!b54), .bool b10, .bool false, .int .i64 n55, .int .i64 0] rfl)
            exact ⟨by rw [HD.out, HRD.out]; exact hD, (((R12.out.other ⟨g2, 2, none⟩ (.bool b6) (show g1 ≠ g2 by omega)).other ⟨g2, 3, none⟩ (.bool b7) (show g1 ≠ g2 by omega)).other ⟨g2, 7, none⟩ (.int .i64 n55) (show g1 ≠ g2 by omega)), (Below.setCell (Below.setCell (Below.setCell B12.out (p := ⟨g2, 2, none⟩) (show w.heap.size ≤ g2 by omega) (.bool b6)) (p := ⟨g2, 3, none⟩) (show w.heap.size ≤ g2 by omega) (.bool b7)) (p := ⟨g2, 7, none⟩) (show w.heap.size ≤ g2 by omega) (.int .i64 n55))⟩
  case rest =>
    obtain ⟨hD, hR, hB⟩ := hcut
    have hsD := hD.out.lt
    have hsD : g2 + 1 ≤ wc.heap.size := by omega
    clear D2 R2 B2 HF HG Q1 Q2 Q3 HD
    obtain ⟨dk, df, dr, dw, dx, da, dn, ds, d0⟩ := d
    simp only at hD
    have HM := Lib.hid (HMM.out dk df dr dw dx da dn ds d0)
    have HW := Lib.hid (HWW.out dk df dr dw dx da dn ds d0)
    clear HMM HWW
    generalize mayD st lv ⟨dk, df, dr, dw, dx, da, dn, ds, d0⟩ = mm at *
    generalize wordD st lv ⟨dk, df, dr, dw, dx, da, dn, ds, d0⟩ = wd at *
    cases mm
    · have Dc0 := hD.out.get 0 (.int .i64 dk) rfl
      have Dc1 := hD.out.get 1 (.int .i64 df) rfl
      have Dc2 := hD.out.get 2 (.bool dr) rfl
      have Dc3 := hD.out.get 3 (.bool dw) rfl
      have Dc4 := hD.out.get 4 (.bool dx) rfl
      have Dc5 := hD.out.get 5 (.bool da) rfl
      have Dc6 := hD.out.get 6 (.bool dn) rfl
      have Dc7 := hD.out.get 7 (.int .i64 ds) rfl
      have Dc8 := hD.out.get 8 (.int .i64 d0) rfl
      go_wp2_with fail
      refine (HM.out _).mono ?_
      rintro e w51 ⟨rfl, hb51⟩
      have hz51 := hb51.size
      have D51 := Lib.hid (hD.out.below hb51)
      have R51 := Lib.hid (hR.out.below hb51)
      have B51 := Lib.hid (bel_trans hB.out hb51)
      skip
      have hs51 : g2 + 1 ≤ w51.heap.size := by omega
      clear Dc0 Dc1 Dc2 Dc3 Dc4 Dc5 Dc6 Dc7 Dc8
      clear hD hR hB hb51 hz51
      go_wp2_with (refine wpList_storeB rfl 70 _ _ rfl (g1) #[.int .i64 0, .int .i64 0, .bool false, .bool false, .bool false, .bool false, .bool false, .int .i64 0, .int .i64 0] _ 70 rfl rfl (by kernel_rfl) (by rfl) (by simp [Value.oneCell']) R51.out ?_)
      have RR := (R51.out.put (cs' := #[.int .i64 0, .int .i64 0, .bool false, .bool false, .bool false, .bool false, .bool false, .int .i64 0, .int .i64 0]))
      refine bodyPost_ret (v := .agg #[.int .i64 0, .int .i64 0, .bool false, .bool false, .bool false, .bool false, .bool false, .int .i64 0, .int .i64 0]) (by simp [results, Tryz.results39, go_sem, RR.get 0 (.int .i64 0) rfl, RR.get 1 (.int .i64 0) rfl, RR.get 2 (.bool false) rfl, RR.get 3 (.bool false) rfl, RR.get 4 (.bool false) rfl, RR.get 5 (.bool false) rfl, RR.get 6 (.bool false) rfl, RR.get 7 (.int .i64 0) rfl, RR.get 8 (.int .i64 0) rfl]) rfl ?_
      exact ⟨by rw [HR.out, if_neg (fun h => nomatch h.1)]; rfl, (Below.rowB (g := g1) B51.out (cs := #[.int .i64 0, .int .i64 0, .bool false, .bool false, .bool false, .bool false, .bool false, .int .i64 0, .int .i64 0]) (show w.heap.size ≤ g1 by omega))⟩
    · by_cases hw : wd = v
      · have HW2 := Lib.hid (fun W => HW.out W rfl)
        have eq : (u wd != u v) = false := by rw [u_bne]; simp [hw]
        have Dc0 := hD.out.get 0 (.int .i64 dk) rfl
        have Dc1 := hD.out.get 1 (.int .i64 df) rfl
        have Dc2 := hD.out.get 2 (.bool dr) rfl
        have Dc3 := hD.out.get 3 (.bool dw) rfl
        have Dc4 := hD.out.get 4 (.bool dx) rfl
        have Dc5 := hD.out.get 5 (.bool da) rfl
        have Dc6 := hD.out.get 6 (.bool dn) rfl
        have Dc7 := hD.out.get 7 (.int .i64 ds) rfl
        have Dc8 := hD.out.get 8 (.int .i64 d0) rfl
        go_wp2_with fail
        refine (HM.out _).mono ?_
        rintro e w51 ⟨rfl, hb51⟩
        have hz51 := hb51.size
        have D51 := Lib.hid (hD.out.below hb51)
        have R51 := Lib.hid (hR.out.below hb51)
        have B51 := Lib.hid (bel_trans hB.out hb51)
        skip
        have hs51 : g2 + 1 ≤ w51.heap.size := by omega
        clear Dc0 Dc1 Dc2 Dc3 Dc4 Dc5 Dc6 Dc7 Dc8
        clear hD hR hB hb51 hz51
        have Dc0 := D51.out.get 0 (.int .i64 dk) rfl
        have Dc1 := D51.out.get 1 (.int .i64 df) rfl
        have Dc2 := D51.out.get 2 (.bool dr) rfl
        have Dc3 := D51.out.get 3 (.bool dw) rfl
        have Dc4 := D51.out.get 4 (.bool dx) rfl
        have Dc5 := D51.out.get 5 (.bool da) rfl
        have Dc6 := D51.out.get 6 (.bool dn) rfl
        have Dc7 := D51.out.get 7 (.int .i64 ds) rfl
        have Dc8 := D51.out.get 8 (.int .i64 d0) rfl
        go_wp2_with fail
        refine (HW2.out _).mono ?_
        rintro e w52 ⟨rfl, hb52⟩
        have hz52 := hb52.size
        have D52 := Lib.hid (D51.out.below hb52)
        have R52 := Lib.hid (R51.out.below hb52)
        have B52 := Lib.hid (bel_trans B51.out hb52)
        skip
        have hs52 : g2 + 1 ≤ w52.heap.size := by omega
        clear Dc0 Dc1 Dc2 Dc3 Dc4 Dc5 Dc6 Dc7 Dc8
        clear D51 R51 B51 hs51 hb52 hz52
        have Dc0 := D52.out.get 0 (.int .i64 dk) rfl
        have Dc1 := D52.out.get 1 (.int .i64 df) rfl
        have Dc2 := D52.out.get 2 (.bool dr) rfl
        have Dc3 := D52.out.get 3 (.bool dw) rfl
        have Dc4 := D52.out.get 4 (.bool dx) rfl
        have Dc5 := D52.out.get 5 (.bool da) rfl
        have Dc6 := D52.out.get 6 (.bool dn) rfl
        have Dc7 := D52.out.get 7 (.int .i64 ds) rfl
        have Dc8 := D52.out.get 8 (.int .i64 d0) rfl
        go_wp2_with (refine wpList_storeB rfl 70 _ _ rfl (g1) #[.int .i64 dk, .int .i64 df, .bool dr, .bool dw, .bool dx, .bool da, .bool dn, .int .i64 ds, .int .i64 d0] _ 70 rfl rfl (by kernel_rfl) (by rfl) (by simp [Value.oneCell']) R52.out ?_)
        have RR := (R52.out.put (cs' := #[.int .i64 dk, .int .i64 df, .bool dr, .bool dw, .bool dx, .bool da, .bool dn, .int .i64 ds, .int .i64 d0]))
        refine bodyPost_ret (v := .agg #[.int .i64 dk, .int .i64 df, .bool dr, .bool dw, .bool dx, .bool da, .bool dn, .int .i64 ds, .int .i64 d0]) (by simp [results, Tryz.results39, go_sem, RR.get 0 (.int .i64 dk) rfl, RR.get 1 (.int .i64 df) rfl, RR.get 2 (.bool dr) rfl, RR.get 3 (.bool dw) rfl, RR.get 4 (.bool dx) rfl, RR.get 5 (.bool da) rfl, RR.get 6 (.bool dn) rfl, RR.get 7 (.int .i64 ds) rfl, RR.get 8 (.int .i64 d0) rfl]) rfl ?_
        exact ⟨by rw [HR.out, if_pos ⟨by trivial, hw⟩]; rfl, (Below.rowB (g := g1) B52.out (cs := #[.int .i64 dk, .int .i64 df, .bool dr, .bool dw, .bool dx, .bool da, .bool dn, .int .i64 ds, .int .i64 d0]) (show w.heap.size ≤ g1 by omega))⟩
      · have HW2 := Lib.hid (fun W => HW.out W rfl)
        have eq : (u wd != u v) = true := by rw [u_bne]; simp [hw]
        have Dc0 := hD.out.get 0 (.int .i64 dk) rfl
        have Dc1 := hD.out.get 1 (.int .i64 df) rfl
        have Dc2 := hD.out.get 2 (.bool dr) rfl
        have Dc3 := hD.out.get 3 (.bool dw) rfl
        have Dc4 := hD.out.get 4 (.bool dx) rfl
        have Dc5 := hD.out.get 5 (.bool da) rfl
        have Dc6 := hD.out.get 6 (.bool dn) rfl
        have Dc7 := hD.out.get 7 (.int .i64 ds) rfl
        have Dc8 := hD.out.get 8 (.int .i64 d0) rfl
        go_wp2_with fail
        refine (HM.out _).mono ?_
        rintro e w51 ⟨rfl, hb51⟩
        have hz51 := hb51.size
        have D51 := Lib.hid (hD.out.below hb51)
        have R51 := Lib.hid (hR.out.below hb51)
        have B51 := Lib.hid (bel_trans hB.out hb51)
        skip
        have hs51 : g2 + 1 ≤ w51.heap.size := by omega
        clear Dc0 Dc1 Dc2 Dc3 Dc4 Dc5 Dc6 Dc7 Dc8
        clear hD hR hB hb51 hz51
        have Dc0 := D51.out.get 0 (.int .i64 dk) rfl
        have Dc1 := D51.out.get 1 (.int .i64 df) rfl
        have Dc2 := D51.out.get 2 (.bool dr) rfl
        have Dc3 := D51.out.get 3 (.bool dw) rfl
        have Dc4 := D51.out.get 4 (.bool dx) rfl
        have Dc5 := D51.out.get 5 (.bool da) rfl
        have Dc6 := D51.out.get 6 (.bool dn) rfl
        have Dc7 := D51.out.get 7 (.int .i64 ds) rfl
        have Dc8 := D51.out.get 8 (.int .i64 d0) rfl
        go_wp2_with fail
        refine (HW2.out _).mono ?_
        rintro e w52 ⟨rfl, hb52⟩
        have hz52 := hb52.size
        have D52 := Lib.hid (D51.out.below hb52)
        have R52 := Lib.hid (R51.out.below hb52)
        have B52 := Lib.hid (bel_trans B51.out hb52)
        skip
        have hs52 : g2 + 1 ≤ w52.heap.size := by omega
        clear Dc0 Dc1 Dc2 Dc3 Dc4 Dc5 Dc6 Dc7 Dc8
        clear D51 R51 B51 hs51 hb52 hz52
        go_wp2_with (refine wpList_storeB rfl 70 _ _ rfl (g1) #[.int .i64 0, .int .i64 0, .bool false, .bool false, .bool false, .bool false, .bool false, .int .i64 0, .int .i64 0] _ 70 rfl rfl (by kernel_rfl) (by rfl) (by simp [Value.oneCell']) R52.out ?_)
        have RR := (R52.out.put (cs' := #[.int .i64 0, .int .i64 0, .bool false, .bool false, .bool false, .bool false, .bool false, .int .i64 0, .int .i64 0]))
        refine bodyPost_ret (v := .agg #[.int .i64 0, .int .i64 0, .bool false, .bool false, .bool false, .bool false, .bool false, .int .i64 0, .int .i64 0]) (by simp [results, Tryz.results39, go_sem, RR.get 0 (.int .i64 0) rfl, RR.get 1 (.int .i64 0) rfl, RR.get 2 (.bool false) rfl, RR.get 3 (.bool false) rfl, RR.get 4 (.bool false) rfl, RR.get 5 (.bool false) rfl, RR.get 6 (.bool false) rfl, RR.get 7 (.int .i64 0) rfl, RR.get 8 (.int .i64 0) rfl]) rfl ?_
        exact ⟨by rw [HR.out, if_neg (fun h => hw h.2)]; rfl, (Below.rowB (g := g1) B52.out (cs := #[.int .i64 0, .int .i64 0, .bool false, .bool false, .bool false, .bool false, .bool false, .int .i64 0, .int .i64 0]) (show w.heap.size ≤ g1 by omega))⟩
end Go.Proofs.YtalbblaicmdhmaaGreat
