/- The walk of WalkTables. -/
import Derived.Test.YtkpckfmnjebjaaaWa
import Derived.Deep.CutBlock
import Derived.Deep.DeepCutAuto
namespace Go.Proofs.Ytkpckfmnjebjaaa
open Go.ChangeShapes Go.WideShapes Go.ChangeAt Go.RowKit Go.Deep

theorem qcell {W w' : World} {b : Nat} (hb : Below W.heap.size W w') (i : Nat) : b < W.heap.size → w'.cell? ⟨b, i, none⟩ = W.cell? ⟨b, i, none⟩ := fun h => hb.cell (p := ⟨b, i, none⟩) h
theorem qfree {W w' : World} {b : Nat} (hb : Below W.heap.size W w') (i : Nat) : b < W.heap.size → w'.frozen? ⟨b, i, none⟩ = W.frozen? ⟨b, i, none⟩ := fun h => hb.frozen (p := ⟨b, i, none⟩) h
theorem tableA_mem {l : Nat} {X : Nat → BitVec 64} {st lv fr pg : Int} (h : okM l = false) : tableA l X st lv fr pg = (dz, 1) := by unfold tableA; rw [h]; rfl
theorem tableA_place {l : Nat} {X : Nat → BitVec 64} {st lv fr pg : Int} (h : placeB st lv = false) : tableA l X st lv fr pg = (dz, 1) := by unfold tableA; rw [h]; simp
theorem tableA_page {l : Nat} {X : Nat → BitVec 64} {st lv fr pg : Int} (h : numB pg 4095 = false) : tableA l X st lv fr pg = (dz, 1) := by unfold tableA; rw [h]; simp
theorem tableA_far {l : Nat} {X : Nat → BitVec 64} {st lv fr pg : Int} (h : okM l = true) (h1 : placeB st lv = true) (h2 : numB pg 4095 = true) (h3 : numB fr ((l : Int) / 8 - 1) = false) : tableA l X st lv fr pg = (dz, 2) := by
  unfold tableA; rw [h, h1, h2, h3]; rfl
theorem tableA_yes {l : Nat} {X : Nat → BitVec 64} {st lv fr pg : Int} (h : okM l = true) (h1 : placeB st lv = true) (h2 : numB pg 4095 = true) (h3 : numB fr ((l : Int) / 8 - 1) = true) : tableA l X st lv fr pg = (tblD X st lv fr pg, 0) := by
  unfold tableA; rw [h, h1, h2, h3]; rfl

set_option maxRecDepth 100000 in
theorem tables_heavy (f g : Option Addr) (l c n d : Nat) (fr : Int) (w : World) (hl : l ≤ 1000000000000000) (hn : n ≤ 1000000000000000) (hh : heavy5 l n = true) :
    Calls Try.prog 3 #[.agg #[.slice f l c, .int .i64 fr, .slice g n d]] w fun e w' => e = .returned (.bool true) ∧ Below w.heap.size w w' := by
  have HH := Lib.hid (fun W => heavy5_any f g l c n d fr W hl hn)
  rw [hh] at HH
  clear hh
  go_enter Try.func3, Try.ntmps3
  go_wp2_with (go_at_call 6; refine (HH.out _).mono ?_; rintro e w1 ⟨rfl, hb1⟩)
  go_ret
  exact ⟨rfl, bel_trans (bel_alloc (Below.refl _ _) _) hb1⟩

set_option maxRecDepth 100000 in
set_option maxHeartbeats 12800000 in
theorem tables_walk (PT : TableC) (PW : WalkC) (f g : Option Addr) (l c n d : Nat) (X : Nat → BitVec 64) (P : Nat → Int) (fr : Int) (w : World) (hX : WordsAt w f l X) (hP : NumsAt w g n P) (hlc : l ≤ c) (hh : heavy5 l n = false) :
    Calls Try.prog 3 #[.agg #[.slice f l c, .int .i64 fr, .slice g n d]] w fun e w' => e = .returned (.bool true) ∧ Below w.heap.size w w' := by
  obtain ⟨hl, hn⟩ := heavy5_no hh
  have HH := Lib.hid (fun W => heavy5_any f g l c n d fr W (by omega) (by omega))
  rw [hh] at HH
  clear hh
  have HX := Lib.hid hX
  have HP := Lib.hid hP
  have HPT := Lib.hid (fun st lv fr pg W h => PT f l c X st lv fr pg W (by omega) hlc h)
  have HW5 := Lib.hid (fun W => wakes5_any PW W)
  have HM := Lib.hid (fun W => rmemB f l c W)
  have HF := Lib.hid (fun W => rframesB f l c W (by omega))
  have HTR := Lib.hid (fun st lv fr pg W (hX : WordsAt W f l X) hp p0 p1 f0 f1 => tblR_any f l c X st lv fr pg W hX (by omega) hp p0 p1 f0 f1)
  have X0 := Lib.hid (BoxAt.new w #[.slice f l c, .int .i64 fr, .slice g n d] 27)
  have B0 := Lib.hid (bel_alloc (Below.refl w.heap.size w) (.cells #[.slice f l c, .int .i64 fr, .slice g n d] 27))
  clear hX hP PT PW
  go_enter Try.func3, Try.ntmps3
  go_wp2_with fail
  refine (HH.out _).mono ?_
  rintro e w1 ⟨rfl, hb1⟩
  have X1 := X0.out.below hb1
  have B1 := bel_trans B0.out hb1
  have HX1 := Lib.hid (HX.out.below B1)
  have HP1 := Lib.hid (HP.out.below B1)
  have X1 := Lib.hid X1
  have B1 := Lib.hid B1
  clear X0 B0 hb1 HX HP HH
  go_wp2_with fail
  go_loopw [3] (fun i wr => ∃ k : Nat, k ≤ n ∧ i = .int .i64 k ∧ Below w1.heap.size w1 wr) (fun i _ => n - (intOf i).toNat)
  case atStart => exact ⟨0, Nat.zero_le _, rfl, Below.refl _ _⟩
  case round =>
    obtain ⟨k, hk, rfl, hb⟩ := hrel
    have pc2 := (X1.out.below hb).get 2 (.slice g n d) rfl
    by_cases hlt : k < n ∧ k < 12
    · obtain ⟨hlt, hlt'⟩ := hlt
      have i1 : (0 : Int) ≤ (k : Int) := by omega
      have i2 : (k : Int) < (n : Int) := by omega
      have d12 : decide ((k : Int) < 12) = true := decide_eq_true (by omega)
      obtain ⟨gb, go, rfl, hpk0⟩ := HP1.out k hlt
      have hpk : w1.cell? ⟨gb, go + k, none⟩ = some (.int .i64 (P k)) := hpk0
      generalize P k = pg at *
      have HPK := Lib.hid hpk
      have HB0 := Lib.hid hb
      clear hb hpk0 hpk
      go_wp2_with fail
      clear pc2
      obtain ⟨wa, rfl⟩ : ∃ wa : World, wa = wr := ⟨_, rfl⟩
      go_loopw [4] (fun t wi => ∃ st : Int, 1 ≤ st ∧ st ≤ 4 ∧ t = .int .i64 st ∧ Below w1.heap.size w1 wi) (fun t _ => (4 - intOf t).toNat)
      case atStart => exact ⟨1, by decide, by decide, rfl, HB0.out⟩
      case round =>
        obtain ⟨st, hs0, hs4, rfl, hb⟩ := hrel
        by_cases hst : st ≤ 3
        · have HB1 := Lib.hid hb
          have e3 : decide (st ≤ 3) = true := decide_eq_true hst
          clear hb
          go_wp2_with fail
          obtain ⟨wb, rfl⟩ : ∃ wb : World, wb = wr := ⟨_, rfl⟩
          go_loopw [5] (fun t wi => ∃ lv : Int, 0 ≤ lv ∧ lv ≤ 5 ∧ t = .int .i64 lv ∧ Below w1.heap.size w1 wi) (fun t _ => (5 - intOf t).toNat)
          case atStart => exact ⟨0, by decide, by decide, rfl, HB1.out⟩
          case round =>
            obtain ⟨lv, hv0, hv4, rfl, hb⟩ := hrel
            by_cases hlv : lv ≤ 4
            · have HB2 := Lib.hid hb
              have e4 : decide (lv ≤ 4) = true := decide_eq_true hlv
              clear hb
              go_wp2_with fail
              obtain ⟨wc, rfl⟩ : ∃ wc : World, wc = wr := ⟨_, rfl⟩
              go_loopw [6] (fun t wi => ∃ kk : Int, 0 ≤ kk ∧ kk ≤ 2 ∧ t = .int .i64 kk ∧ Below w1.heap.size w1 wi) (fun t _ => (2 - intOf t).toNat)
              case atStart => exact ⟨0, by decide, by decide, rfl, HB2.out⟩
              case round =>
                obtain ⟨kk, hk0, hk2, rfl, hb⟩ := hrel
                by_cases hkk : kk < 2
                · have e5 : decide (kk < 2) = true := decide_eq_true hkk
                  obtain ⟨fx, hfx⟩ : ∃ fx : Int, fx = if kk = 1 then withinV ((k : Int) * 7 + lv) 70 else fr := ⟨_, rfl⟩
                  have HPL := Lib.hid (fun W => place_any st lv W)
                  have HPG := Lib.hid (fun W => page_any pg W)
                  have HNU := Lib.hid (fun W => num_any fx ((l : Int) / 8 - 1) W)
                  have HT := Lib.hid (fun W h => HPT.out st lv fx pg W h)
                  have HB := Lib.hid hb
                  have HWi := Lib.hid (fun W => within_any ((k : Int) * 7 + lv) 70 W (by decide) (by decide))
                  have hws : w1.heap.size ≤ wr.heap.size := hb.size
                  have X2 := Lib.hid (X1.out.below hb)
                  have hpk2 := Lib.hid (keepc hb HPK.out)
                  have HXc := Lib.hid (HX1.out.below hb)
                  clear hb
                  have hcase : okM l = false ∨ placeB st lv = false ∨ numB pg 4095 = false ∨ (okM l = true ∧ placeB st lv = true ∧ numB pg 4095 = true ∧ numB fx ((l : Int) / 8 - 1) = false) ∨ (okM l = true ∧ placeB st lv = true ∧ numB pg 4095 = true ∧ numB fx ((l : Int) / 8 - 1) = true) := by
                    cases okM l <;> cases placeB st lv <;> cases numB pg 4095 <;> cases numB fx ((l : Int) / 8 - 1) <;> simp
                  rcases hcase with hm | hm | hm | hm | hm
                  · by_cases hk1 : kk = 1
                    · have HA := tableA_mem (X := X) (st := st) (lv := lv) (fr := fx) (pg := pg) hm
                      simp only [HA] at HT
                      rw [dsc_dz] at HT
                      rw [hm] at HM
                      clear HA
                      clear hm
                      subst hk1
                      have e6 : ((1 : Int) == 1) = true := rfl
                      rw [if_pos rfl] at hfx
                      have HFX := Lib.hid hfx
                      clear hfx
                      have j1 : IntKind.i64.wrap ((k : Int) * 7) = (k : Int) * 7 := IntWalk.i64_in _ (by omega)
                      have j2 : IntKind.i64.wrap ((k : Int) * 7 + lv) = (k : Int) * 7 + lv := IntWalk.i64_in _ (by omega)
                      rw [← HFX.out] at HWi
                      have Pc0 := X2.out.get 0 (.slice f l c) rfl
                      have Pc1 := X2.out.get 1 (.int .i64 fr) rfl
                      have Pc2 := X2.out.get 2 (.slice (some ⟨gb, go, none⟩) n d) rfl
                      go_wp2_with fail
                      refine (HWi.out _).mono ?_
                      rintro e w9 ⟨rfl, rfl⟩
                      have hpk3 := hpk2.out
                      have hneP : w.heap.size ≠ wr.heap.size := Nat.ne_of_lt X2.out.lt
                      have hneG : gb ≠ wr.heap.size := Nat.ne_of_lt (cell_block hpk2.out)
                      go_upto_region 18 with fail
                      go_cut [8, 9] (fun s8 s9 wx => ∃ bx : Nat, s8 = .pointer (some ⟨bx, 0, none⟩) ∧ s9 = .int .i64 1 ∧ wr.heap.size ≤ bx ∧ Hid (Below wr.heap.size wr wx) ∧ Hid (BoxAt wx bx #[.int .i64 0, .int .i64 0, .bool false, .bool false, .bool false, .bool false, .bool false, .int .i64 0, .int .i64 0] 33))
                      case first =>
                        go_region_held3 (fun w' => w'.cell? ⟨w.heap.size, 0, none⟩ = some (.slice f l c) ∧ w'.cell? ⟨w.heap.size, 2, none⟩ = some (.slice (some ⟨gb, go, none⟩) n d) ∧ w'.cell? ⟨gb, go + k, none⟩ = some (.int .i64 pg))
                          (refine ⟨?_, ?_, ?_⟩ <;> (repeat (first | with_reducible assumption | with_reducible refine cell_keep ?_ _ | with_reducible refine cell_drew ?_ | with_reducible refine cell_set _ hneP ?_ | with_reducible refine cell_set _ hneG ?_ | refine keepc hb20 ?_)))
                          ((go_at_call 8; refine (HT.out _ (HXc.out.below (by go_grown))).mono ?_; rintro e w20 ⟨rfl, hb20⟩; have qc0 := qcell (b := wr.heap.size) hb20 0; have qf0 := qfree (b := wr.heap.size) hb20 0; have qc1 := qcell (b := wr.heap.size) hb20 1; have qf1 := qfree (b := wr.heap.size) hb20 1; have qc2 := qcell (b := wr.heap.size) hb20 2; have qf2 := qfree (b := wr.heap.size) hb20 2; have qc3 := qcell (b := wr.heap.size) hb20 3; have qf3 := qfree (b := wr.heap.size) hb20 3; have qc4 := qcell (b := wr.heap.size) hb20 4; have qf4 := qfree (b := wr.heap.size) hb20 4; have qc5 := qcell (b := wr.heap.size) hb20 5; have qf5 := qfree (b := wr.heap.size) hb20 5; have qc6 := qcell (b := wr.heap.size) hb20 6; have qf6 := qfree (b := wr.heap.size) hb20 6; have qc7 := qcell (b := wr.heap.size) hb20 7; have qf7 := qfree (b := wr.heap.size) hb20 7; have qc8 := qcell (b := wr.heap.size) hb20 8; have qf8 := qfree (b := wr.heap.size) hb20 8))
                        · clear qc0 qf0 qc1 qf1 qc2 qf2 qc3 qf3 qc4 qf4 qc5 qf5 qc6 qf6 qc7 qf7 qc8 qf8
                          have HBq := Lib.hid (bel_trans (Below.drew (Below.refl wr.heap.size wr)) hb20)
                          have hsz := HBq.out.size
                          clear hb20
                          go_wp2_with fail
                          go_meet
                          exact ⟨w20.heap.size, rfl, rfl, hsz, bel_alloc HBq.out _, BoxAt.newAt _ _ _ _ rfl⟩
                        · have HBq := Lib.hid (bel_trans (Below.drew (bel_alloc (Below.refl wr.heap.size wr) (.cells #[.int .i64 0, .int .i64 0, .bool false, .bool false, .bool false, .bool false, .bool false, .int .i64 0, .int .i64 0] 33))) hb20)
                          go_wp2_with fail
                          go_meet
                          exact ⟨wr.heap.size, rfl, rfl, Nat.le_refl _, (Below.setCell (Below.setCell (Below.setCell (Below.setCell (Below.setCell (Below.setCell (Below.setCell (Below.setCell (Below.setCell HBq.out (p := ⟨wr.heap.size, 0, none⟩) (Nat.le_refl _) (.int .i64 0)) (p := ⟨wr.heap.size, 1, none⟩) (Nat.le_refl _) (.int .i64 0)) (p := ⟨wr.heap.size, 2, none⟩) (Nat.le_refl _) (.bool false)) (p := ⟨wr.heap.size, 3, none⟩) (Nat.le_refl _) (.bool false)) (p := ⟨wr.heap.size, 4, none⟩) (Nat.le_refl _) (.bool false)) (p := ⟨wr.heap.size, 5, none⟩) (Nat.le_refl _) (.bool false)) (p := ⟨wr.heap.size, 6, none⟩) (Nat.le_refl _) (.bool false)) (p := ⟨wr.heap.size, 7, none⟩) (Nat.le_refl _) (.int .i64 0)) (p := ⟨wr.heap.size, 8, none⟩) (Nat.le_refl _) (.int .i64 0)), (((((((((((BoxAt.new wr #[.int .i64 0, .int .i64 0, .bool false, .bool false, .bool false, .bool false, .bool false, .int .i64 0, .int .i64 0] 33).drew.below hb20).set 0 (.int .i64 0) #[.int .i64 0, .int .i64 0, .bool false, .bool false, .bool false, .bool false, .bool false, .int .i64 0, .int .i64 0] rfl).set 1 (.int .i64 0) #[.int .i64 0, .int .i64 0, .bool false, .bool false, .bool false, .bool false, .bool false, .int .i64 0, .int .i64 0] rfl).set 2 (.bool false) #[.int .i64 0, .int .i64 0, .bool false, .bool false, .bool false, .bool false, .bool false, .int .i64 0, .int .i64 0] rfl).set 3 (.bool false) #[.int .i64 0, .int .i64 0, .bool false, .bool false, .bool false, .bool false, .bool false, .int .i64 0, .int .i64 0] rfl).set 4 (.bool false) #[.int .i64 0, .int .i64 0, .bool false, .bool false, .bool false, .bool false, .bool false, .int .i64 0, .int .i64 0] rfl).set 5 (.bool false) #[.int .i64 0, .int .i64 0, .bool false, .bool false, .bool false, .bool false, .bool false, .int .i64 0, .int .i64 0] rfl).set 6 (.bool false) #[.int .i64 0, .int .i64 0, .bool false, .bool false, .bool false, .bool false, .bool false, .int .i64 0, .int .i64 0] rfl).set 7 (.int .i64 0) #[.int .i64 0, .int .i64 0, .bool false, .bool false, .bool false, .bool false, .bool false, .int .i64 0, .int .i64 0] rfl).set 8 (.int .i64 0) #[.int .i64 0, .int .i64 0, .bool false, .bool false, .bool false, .bool false, .bool false, .int .i64 0, .int .i64 0] rfl)⟩
                      case rest =>
                        clear Pc0 Pc1 Pc2 hpk3
                        obtain ⟨bx, rfl, rfl, hbx, HBx, D0⟩ := hcut
                        obtain ⟨w20, rfl⟩ : ∃ w20 : World, w20 = wc := ⟨_, rfl⟩
                        have hpk20 := Lib.hid (keepc HBx.out hpk2.out)
                        have HX20 := Lib.hid (HXc.out.below HBx.out)
                        have hz1 := X2.out.lt
                        have hz2 : gb < wr.heap.size := cell_block hpk2.out
                        have hb20 := HBx.out
                        have hne1 : bx ≠ w.heap.size := by omega
                        have hne2 : bx ≠ gb := by omega
                        have P21 := Lib.hid (X2.out.below hb20)
                        have B21 := Lib.hid (bel_trans HB.out hb20)
                        clear X2 HB hb20
                        clear HBx
                        have hz3 := D0.out.lt
                        have hz4 := P21.out.lt
                        have hz5 : gb < w20.heap.size := cell_block hpk20.out
                        have HPk := Lib.hid (P21.out.alloc (.cells #[.int .i64 0, .int .i64 0, .bool false, .bool false, .bool false, .bool false, .bool false, .int .i64 0, .int .i64 0] 33))
                        have pc0 := HPk.out.get 0 (.slice f l c) rfl
                        go_wp2_with fail
                        refine (HM.out _).mono ?_
                        rintro e w23 ⟨rfl, hb23⟩
                        have P24 := Lib.hid ((P21.out.alloc (.cells #[.int .i64 0, .int .i64 0, .bool false, .bool false, .bool false, .bool false, .bool false, .int .i64 0, .int .i64 0] 33)).below hb23)
                        have D24 := Lib.hid ((D0.out.alloc (.cells #[.int .i64 0, .int .i64 0, .bool false, .bool false, .bool false, .bool false, .bool false, .int .i64 0, .int .i64 0] 33)).below hb23)
                        have Z24 := Lib.hid ((BoxAt.newAt _ #[.int .i64 0, .int .i64 0, .bool false, .bool false, .bool false, .bool false, .bool false, .int .i64 0, .int .i64 0] 33 (w20.heap.size) (by first | rfl | (simp; done) | (simp; omega))).below hb23)
                        have B24 := Lib.hid (bel_trans (bel_alloc B21.out (.cells #[.int .i64 0, .int .i64 0, .bool false, .bool false, .bool false, .bool false, .bool false, .int .i64 0, .int .i64 0] 33)) hb23)
                        clear pc0
                        clear P21 D0 B21 hb23
                        clear HPk
                        have Dc0 := D24.out.get 0 (.int .i64 0) rfl
                        have Dc1 := D24.out.get 1 (.int .i64 0) rfl
                        have Dc2 := D24.out.get 2 (.bool false) rfl
                        have Dc3 := D24.out.get 3 (.bool false) rfl
                        have Dc4 := D24.out.get 4 (.bool false) rfl
                        have Dc5 := D24.out.get 5 (.bool false) rfl
                        have Dc6 := D24.out.get 6 (.bool false) rfl
                        have Dc7 := D24.out.get 7 (.int .i64 0) rfl
                        have Dc8 := D24.out.get 8 (.int .i64 0) rfl
                        have Zc0 := Z24.out.get 0 (.int .i64 0) rfl
                        have Zc1 := Z24.out.get 1 (.int .i64 0) rfl
                        have Zc2 := Z24.out.get 2 (.bool false) rfl
                        have Zc3 := Z24.out.get 3 (.bool false) rfl
                        have Zc4 := Z24.out.get 4 (.bool false) rfl
                        have Zc5 := Z24.out.get 5 (.bool false) rfl
                        have Zc6 := Z24.out.get 6 (.bool false) rfl
                        have Zc7 := Z24.out.get 7 (.int .i64 0) rfl
                        have Zc8 := Z24.out.get 8 (.int .i64 0) rfl
                        go_wp2_with (first | (go_at_call 15; refine (lnum5_any _ _).mono ?_; rintro e w40 ⟨rfl, rfl⟩))
                        go_roundw
                        case rel => exact ⟨1 + 1, by decide, by decide, rfl, B24.out⟩
                        case measure => (simp [intOf] <;> omega)
                    · have HA := tableA_mem (X := X) (st := st) (lv := lv) (fr := fx) (pg := pg) hm
                      simp only [HA] at HT
                      rw [dsc_dz] at HT
                      rw [hm] at HM
                      clear HA
                      clear hm
                      obtain rfl : kk = 0 := by omega
                      clear hk1
                      have e6 : ((0 : Int) == 1) = false := rfl
                      rw [if_neg (by decide)] at hfx
                      have hfy := hfx.symm
                      clear hfx
                      subst hfy
                      have Pc0 := X2.out.get 0 (.slice f l c) rfl
                      have Pc1 := X2.out.get 1 (.int .i64 fr) rfl
                      have Pc2 := X2.out.get 2 (.slice (some ⟨gb, go, none⟩) n d) rfl
                      have hpk3 := hpk2.out
                      have hneP : w.heap.size ≠ wr.heap.size := Nat.ne_of_lt X2.out.lt
                      have hneG : gb ≠ wr.heap.size := Nat.ne_of_lt (cell_block hpk2.out)
                      go_upto_region 18 with fail
                      go_cut [8, 9] (fun s8 s9 wx => ∃ bx : Nat, s8 = .pointer (some ⟨bx, 0, none⟩) ∧ s9 = .int .i64 1 ∧ wr.heap.size ≤ bx ∧ Hid (Below wr.heap.size wr wx) ∧ Hid (BoxAt wx bx #[.int .i64 0, .int .i64 0, .bool false, .bool false, .bool false, .bool false, .bool false, .int .i64 0, .int .i64 0] 33))
                      case first =>
                        go_region_held3 (fun w' => w'.cell? ⟨w.heap.size, 0, none⟩ = some (.slice f l c) ∧ w'.cell? ⟨w.heap.size, 2, none⟩ = some (.slice (some ⟨gb, go, none⟩) n d) ∧ w'.cell? ⟨gb, go + k, none⟩ = some (.int .i64 pg))
                          (refine ⟨?_, ?_, ?_⟩ <;> (repeat (first | with_reducible assumption | with_reducible refine cell_keep ?_ _ | with_reducible refine cell_drew ?_ | with_reducible refine cell_set _ hneP ?_ | with_reducible refine cell_set _ hneG ?_ | refine keepc hb20 ?_)))
                          ((go_at_call 8; refine (HT.out _ (HXc.out.below (by go_grown))).mono ?_; rintro e w20 ⟨rfl, hb20⟩; have qc0 := qcell (b := wr.heap.size) hb20 0; have qf0 := qfree (b := wr.heap.size) hb20 0; have qc1 := qcell (b := wr.heap.size) hb20 1; have qf1 := qfree (b := wr.heap.size) hb20 1; have qc2 := qcell (b := wr.heap.size) hb20 2; have qf2 := qfree (b := wr.heap.size) hb20 2; have qc3 := qcell (b := wr.heap.size) hb20 3; have qf3 := qfree (b := wr.heap.size) hb20 3; have qc4 := qcell (b := wr.heap.size) hb20 4; have qf4 := qfree (b := wr.heap.size) hb20 4; have qc5 := qcell (b := wr.heap.size) hb20 5; have qf5 := qfree (b := wr.heap.size) hb20 5; have qc6 := qcell (b := wr.heap.size) hb20 6; have qf6 := qfree (b := wr.heap.size) hb20 6; have qc7 := qcell (b := wr.heap.size) hb20 7; have qf7 := qfree (b := wr.heap.size) hb20 7; have qc8 := qcell (b := wr.heap.size) hb20 8; have qf8 := qfree (b := wr.heap.size) hb20 8))
                        · clear qc0 qf0 qc1 qf1 qc2 qf2 qc3 qf3 qc4 qf4 qc5 qf5 qc6 qf6 qc7 qf7 qc8 qf8
                          have HBq := Lib.hid (bel_trans (Below.drew (Below.refl wr.heap.size wr)) hb20)
                          have hsz := HBq.out.size
                          clear hb20
                          go_wp2_with fail
                          go_meet
                          exact ⟨w20.heap.size, rfl, rfl, hsz, bel_alloc HBq.out _, BoxAt.newAt _ _ _ _ rfl⟩
                        · have HBq := Lib.hid (bel_trans (Below.drew (bel_alloc (Below.refl wr.heap.size wr) (.cells #[.int .i64 0, .int .i64 0, .bool false, .bool false, .bool false, .bool false, .bool false, .int .i64 0, .int .i64 0] 33))) hb20)
                          go_wp2_with fail
                          go_meet
                          exact ⟨wr.heap.size, rfl, rfl, Nat.le_refl _, (Below.setCell (Below.setCell (Below.setCell (Below.setCell (Below.setCell (Below.setCell (Below.setCell (Below.setCell (Below.setCell HBq.out (p := ⟨wr.heap.size, 0, none⟩) (Nat.le_refl _) (.int .i64 0)) (p := ⟨wr.heap.size, 1, none⟩) (Nat.le_refl _) (.int .i64 0)) (p := ⟨wr.heap.size, 2, none⟩) (Nat.le_refl _) (.bool false)) (p := ⟨wr.heap.size, 3, none⟩) (Nat.le_refl _) (.bool false)) (p := ⟨wr.heap.size, 4, none⟩) (Nat.le_refl _) (.bool false)) (p := ⟨wr.heap.size, 5, none⟩) (Nat.le_refl _) (.bool false)) (p := ⟨wr.heap.size, 6, none⟩) (Nat.le_refl _) (.bool false)) (p := ⟨wr.heap.size, 7, none⟩) (Nat.le_refl _) (.int .i64 0)) (p := ⟨wr.heap.size, 8, none⟩) (Nat.le_refl _) (.int .i64 0)), (((((((((((BoxAt.new wr #[.int .i64 0, .int .i64 0, .bool false, .bool false, .bool false, .bool false, .bool false, .int .i64 0, .int .i64 0] 33).drew.below hb20).set 0 (.int .i64 0) #[.int .i64 0, .int .i64 0, .bool false, .bool false, .bool false, .bool false, .bool false, .int .i64 0, .int .i64 0] rfl).set 1 (.int .i64 0) #[.int .i64 0, .int .i64 0, .bool false, .bool false, .bool false, .bool false, .bool false, .int .i64 0, .int .i64 0] rfl).set 2 (.bool false) #[.int .i64 0, .int .i64 0, .bool false, .bool false, .bool false, .bool false, .bool false, .int .i64 0, .int .i64 0] rfl).set 3 (.bool false) #[.int .i64 0, .int .i64 0, .bool false, .bool false, .bool false, .bool false, .bool false, .int .i64 0, .int .i64 0] rfl).set 4 (.bool false) #[.int .i64 0, .int .i64 0, .bool false, .bool false, .bool false, .bool false, .bool false, .int .i64 0, .int .i64 0] rfl).set 5 (.bool false) #[.int .i64 0, .int .i64 0, .bool false, .bool false, .bool false, .bool false, .bool false, .int .i64 0, .int .i64 0] rfl).set 6 (.bool false) #[.int .i64 0, .int .i64 0, .bool false, .bool false, .bool false, .bool false, .bool false, .int .i64 0, .int .i64 0] rfl).set 7 (.int .i64 0) #[.int .i64 0, .int .i64 0, .bool false, .bool false, .bool false, .bool false, .bool false, .int .i64 0, .int .i64 0] rfl).set 8 (.int .i64 0) #[.int .i64 0, .int .i64 0, .bool false, .bool false, .bool false, .bool false, .bool false, .int .i64 0, .int .i64 0] rfl)⟩
                      case rest =>
                        clear Pc0 Pc1 Pc2 hpk3
                        obtain ⟨bx, rfl, rfl, hbx, HBx, D0⟩ := hcut
                        obtain ⟨w20, rfl⟩ : ∃ w20 : World, w20 = wc := ⟨_, rfl⟩
                        have hpk20 := Lib.hid (keepc HBx.out hpk2.out)
                        have HX20 := Lib.hid (HXc.out.below HBx.out)
                        have hz1 := X2.out.lt
                        have hz2 : gb < wr.heap.size := cell_block hpk2.out
                        have hb20 := HBx.out
                        have hne1 : bx ≠ w.heap.size := by omega
                        have hne2 : bx ≠ gb := by omega
                        have P21 := Lib.hid (X2.out.below hb20)
                        have B21 := Lib.hid (bel_trans HB.out hb20)
                        clear X2 HB hb20
                        clear HBx
                        have hz3 := D0.out.lt
                        have hz4 := P21.out.lt
                        have hz5 : gb < w20.heap.size := cell_block hpk20.out
                        have HPk := Lib.hid (P21.out.alloc (.cells #[.int .i64 0, .int .i64 0, .bool false, .bool false, .bool false, .bool false, .bool false, .int .i64 0, .int .i64 0] 33))
                        have pc0 := HPk.out.get 0 (.slice f l c) rfl
                        go_wp2_with fail
                        refine (HM.out _).mono ?_
                        rintro e w23 ⟨rfl, hb23⟩
                        have P24 := Lib.hid ((P21.out.alloc (.cells #[.int .i64 0, .int .i64 0, .bool false, .bool false, .bool false, .bool false, .bool false, .int .i64 0, .int .i64 0] 33)).below hb23)
                        have D24 := Lib.hid ((D0.out.alloc (.cells #[.int .i64 0, .int .i64 0, .bool false, .bool false, .bool false, .bool false, .bool false, .int .i64 0, .int .i64 0] 33)).below hb23)
                        have Z24 := Lib.hid ((BoxAt.newAt _ #[.int .i64 0, .int .i64 0, .bool false, .bool false, .bool false, .bool false, .bool false, .int .i64 0, .int .i64 0] 33 (w20.heap.size) (by first | rfl | (simp; done) | (simp; omega))).below hb23)
                        have B24 := Lib.hid (bel_trans (bel_alloc B21.out (.cells #[.int .i64 0, .int .i64 0, .bool false, .bool false, .bool false, .bool false, .bool false, .int .i64 0, .int .i64 0] 33)) hb23)
                        clear pc0
                        clear P21 D0 B21 hb23
                        clear HPk
                        have Dc0 := D24.out.get 0 (.int .i64 0) rfl
                        have Dc1 := D24.out.get 1 (.int .i64 0) rfl
                        have Dc2 := D24.out.get 2 (.bool false) rfl
                        have Dc3 := D24.out.get 3 (.bool false) rfl
                        have Dc4 := D24.out.get 4 (.bool false) rfl
                        have Dc5 := D24.out.get 5 (.bool false) rfl
                        have Dc6 := D24.out.get 6 (.bool false) rfl
                        have Dc7 := D24.out.get 7 (.int .i64 0) rfl
                        have Dc8 := D24.out.get 8 (.int .i64 0) rfl
                        have Zc0 := Z24.out.get 0 (.int .i64 0) rfl
                        have Zc1 := Z24.out.get 1 (.int .i64 0) rfl
                        have Zc2 := Z24.out.get 2 (.bool false) rfl
                        have Zc3 := Z24.out.get 3 (.bool false) rfl
                        have Zc4 := Z24.out.get 4 (.bool false) rfl
                        have Zc5 := Z24.out.get 5 (.bool false) rfl
                        have Zc6 := Z24.out.get 6 (.bool false) rfl
                        have Zc7 := Z24.out.get 7 (.int .i64 0) rfl
                        have Zc8 := Z24.out.get 8 (.int .i64 0) rfl
                        go_wp2_with (first | (go_at_call 15; refine (lnum5_any _ _).mono ?_; rintro e w40 ⟨rfl, rfl⟩))
                        go_roundw
                        case rel => exact ⟨0 + 1, by decide, by decide, rfl, B24.out⟩
                        case measure => (simp [intOf] <;> omega)
                  · by_cases hk1 : kk = 1
                    · cases hmm : okM l
                      · have HA := tableA_place (l := l) (X := X) (fr := fx) (pg := pg) hm
                        simp only [HA] at HT
                        rw [dsc_dz] at HT
                        rw [hm] at HPL
                        clear HA
                        rw [hmm] at HM
                        clear hm
                        clear hmm
                        subst hk1
                        have e6 : ((1 : Int) == 1) = true := rfl
                        rw [if_pos rfl] at hfx
                        have HFX := Lib.hid hfx
                        clear hfx
                        have j1 : IntKind.i64.wrap ((k : Int) * 7) = (k : Int) * 7 := IntWalk.i64_in _ (by omega)
                        have j2 : IntKind.i64.wrap ((k : Int) * 7 + lv) = (k : Int) * 7 + lv := IntWalk.i64_in _ (by omega)
                        rw [← HFX.out] at HWi
                        have Pc0 := X2.out.get 0 (.slice f l c) rfl
                        have Pc1 := X2.out.get 1 (.int .i64 fr) rfl
                        have Pc2 := X2.out.get 2 (.slice (some ⟨gb, go, none⟩) n d) rfl
                        go_wp2_with fail
                        refine (HWi.out _).mono ?_
                        rintro e w9 ⟨rfl, rfl⟩
                        have hpk3 := hpk2.out
                        have hneP : w.heap.size ≠ wr.heap.size := Nat.ne_of_lt X2.out.lt
                        have hneG : gb ≠ wr.heap.size := Nat.ne_of_lt (cell_block hpk2.out)
                        go_upto_region 18 with fail
                        go_cut [8, 9] (fun s8 s9 wx => ∃ bx : Nat, s8 = .pointer (some ⟨bx, 0, none⟩) ∧ s9 = .int .i64 1 ∧ wr.heap.size ≤ bx ∧ Hid (Below wr.heap.size wr wx) ∧ Hid (BoxAt wx bx #[.int .i64 0, .int .i64 0, .bool false, .bool false, .bool false, .bool false, .bool false, .int .i64 0, .int .i64 0] 33))
                        case first =>
                          go_region_held3 (fun w' => w'.cell? ⟨w.heap.size, 0, none⟩ = some (.slice f l c) ∧ w'.cell? ⟨w.heap.size, 2, none⟩ = some (.slice (some ⟨gb, go, none⟩) n d) ∧ w'.cell? ⟨gb, go + k, none⟩ = some (.int .i64 pg))
                            (refine ⟨?_, ?_, ?_⟩ <;> (repeat (first | with_reducible assumption | with_reducible refine cell_keep ?_ _ | with_reducible refine cell_drew ?_ | with_reducible refine cell_set _ hneP ?_ | with_reducible refine cell_set _ hneG ?_ | refine keepc hb20 ?_)))
                            ((go_at_call 8; refine (HT.out _ (HXc.out.below (by go_grown))).mono ?_; rintro e w20 ⟨rfl, hb20⟩; have qc0 := qcell (b := wr.heap.size) hb20 0; have qf0 := qfree (b := wr.heap.size) hb20 0; have qc1 := qcell (b := wr.heap.size) hb20 1; have qf1 := qfree (b := wr.heap.size) hb20 1; have qc2 := qcell (b := wr.heap.size) hb20 2; have qf2 := qfree (b := wr.heap.size) hb20 2; have qc3 := qcell (b := wr.heap.size) hb20 3; have qf3 := qfree (b := wr.heap.size) hb20 3; have qc4 := qcell (b := wr.heap.size) hb20 4; have qf4 := qfree (b := wr.heap.size) hb20 4; have qc5 := qcell (b := wr.heap.size) hb20 5; have qf5 := qfree (b := wr.heap.size) hb20 5; have qc6 := qcell (b := wr.heap.size) hb20 6; have qf6 := qfree (b := wr.heap.size) hb20 6; have qc7 := qcell (b := wr.heap.size) hb20 7; have qf7 := qfree (b := wr.heap.size) hb20 7; have qc8 := qcell (b := wr.heap.size) hb20 8; have qf8 := qfree (b := wr.heap.size) hb20 8))
                          · clear qc0 qf0 qc1 qf1 qc2 qf2 qc3 qf3 qc4 qf4 qc5 qf5 qc6 qf6 qc7 qf7 qc8 qf8
                            have HBq := Lib.hid (bel_trans (Below.drew (Below.refl wr.heap.size wr)) hb20)
                            have hsz := HBq.out.size
                            clear hb20
                            go_wp2_with fail
                            go_meet
                            exact ⟨w20.heap.size, rfl, rfl, hsz, bel_alloc HBq.out _, BoxAt.newAt _ _ _ _ rfl⟩
                          · have HBq := Lib.hid (bel_trans (Below.drew (bel_alloc (Below.refl wr.heap.size wr) (.cells #[.int .i64 0, .int .i64 0, .bool false, .bool false, .bool false, .bool false, .bool false, .int .i64 0, .int .i64 0] 33))) hb20)
                            go_wp2_with fail
                            go_meet
                            exact ⟨wr.heap.size, rfl, rfl, Nat.le_refl _, (Below.setCell (Below.setCell (Below.setCell (Below.setCell (Below.setCell (Below.setCell (Below.setCell (Below.setCell (Below.setCell HBq.out (p := ⟨wr.heap.size, 0, none⟩) (Nat.le_refl _) (.int .i64 0)) (p := ⟨wr.heap.size, 1, none⟩) (Nat.le_refl _) (.int .i64 0)) (p := ⟨wr.heap.size, 2, none⟩) (Nat.le_refl _) (.bool false)) (p := ⟨wr.heap.size, 3, none⟩) (Nat.le_refl _) (.bool false)) (p := ⟨wr.heap.size, 4, none⟩) (Nat.le_refl _) (.bool false)) (p := ⟨wr.heap.size, 5, none⟩) (Nat.le_refl _) (.bool false)) (p := ⟨wr.heap.size, 6, none⟩) (Nat.le_refl _) (.bool false)) (p := ⟨wr.heap.size, 7, none⟩) (Nat.le_refl _) (.int .i64 0)) (p := ⟨wr.heap.size, 8, none⟩) (Nat.le_refl _) (.int .i64 0)), (((((((((((BoxAt.new wr #[.int .i64 0, .int .i64 0, .bool false, .bool false, .bool false, .bool false, .bool false, .int .i64 0, .int .i64 0] 33).drew.below hb20).set 0 (.int .i64 0) #[.int .i64 0, .int .i64 0, .bool false, .bool false, .bool false, .bool false, .bool false, .int .i64 0, .int .i64 0] rfl).set 1 (.int .i64 0) #[.int .i64 0, .int .i64 0, .bool false, .bool false, .bool false, .bool false, .bool false, .int .i64 0, .int .i64 0] rfl).set 2 (.bool false) #[.int .i64 0, .int .i64 0, .bool false, .bool false, .bool false, .bool false, .bool false, .int .i64 0, .int .i64 0] rfl).set 3 (.bool false) #[.int .i64 0, .int .i64 0, .bool false, .bool false, .bool false, .bool false, .bool false, .int .i64 0, .int .i64 0] rfl).set 4 (.bool false) #[.int .i64 0, .int .i64 0, .bool false, .bool false, .bool false, .bool false, .bool false, .int .i64 0, .int .i64 0] rfl).set 5 (.bool false) #[.int .i64 0, .int .i64 0, .bool false, .bool false, .bool false, .bool false, .bool false, .int .i64 0, .int .i64 0] rfl).set 6 (.bool false) #[.int .i64 0, .int .i64 0, .bool false, .bool false, .bool false, .bool false, .bool false, .int .i64 0, .int .i64 0] rfl).set 7 (.int .i64 0) #[.int .i64 0, .int .i64 0, .bool false, .bool false, .bool false, .bool false, .bool false, .int .i64 0, .int .i64 0] rfl).set 8 (.int .i64 0) #[.int .i64 0, .int .i64 0, .bool false, .bool false, .bool false, .bool false, .bool false, .int .i64 0, .int .i64 0] rfl)⟩
                        case rest =>
                          clear Pc0 Pc1 Pc2 hpk3
                          obtain ⟨bx, rfl, rfl, hbx, HBx, D0⟩ := hcut
                          obtain ⟨w20, rfl⟩ : ∃ w20 : World, w20 = wc := ⟨_, rfl⟩
                          have hpk20 := Lib.hid (keepc HBx.out hpk2.out)
                          have HX20 := Lib.hid (HXc.out.below HBx.out)
                          have hz1 := X2.out.lt
                          have hz2 : gb < wr.heap.size := cell_block hpk2.out
                          have hb20 := HBx.out
                          have hne1 : bx ≠ w.heap.size := by omega
                          have hne2 : bx ≠ gb := by omega
                          have P21 := Lib.hid (X2.out.below hb20)
                          have B21 := Lib.hid (bel_trans HB.out hb20)
                          clear X2 HB hb20
                          clear HBx
                          have hz3 := D0.out.lt
                          have hz4 := P21.out.lt
                          have hz5 : gb < w20.heap.size := cell_block hpk20.out
                          have HPk := Lib.hid (P21.out.alloc (.cells #[.int .i64 0, .int .i64 0, .bool false, .bool false, .bool false, .bool false, .bool false, .int .i64 0, .int .i64 0] 33))
                          have pc0 := HPk.out.get 0 (.slice f l c) rfl
                          go_wp2_with fail
                          refine (HM.out _).mono ?_
                          rintro e w23 ⟨rfl, hb23⟩
                          have P24 := Lib.hid ((P21.out.alloc (.cells #[.int .i64 0, .int .i64 0, .bool false, .bool false, .bool false, .bool false, .bool false, .int .i64 0, .int .i64 0] 33)).below hb23)
                          have D24 := Lib.hid ((D0.out.alloc (.cells #[.int .i64 0, .int .i64 0, .bool false, .bool false, .bool false, .bool false, .bool false, .int .i64 0, .int .i64 0] 33)).below hb23)
                          have Z24 := Lib.hid ((BoxAt.newAt _ #[.int .i64 0, .int .i64 0, .bool false, .bool false, .bool false, .bool false, .bool false, .int .i64 0, .int .i64 0] 33 (w20.heap.size) (by first | rfl | (simp; done) | (simp; omega))).below hb23)
                          have B24 := Lib.hid (bel_trans (bel_alloc B21.out (.cells #[.int .i64 0, .int .i64 0, .bool false, .bool false, .bool false, .bool false, .bool false, .int .i64 0, .int .i64 0] 33)) hb23)
                          clear pc0
                          clear P21 D0 B21 hb23
                          clear HPk
                          have Dc0 := D24.out.get 0 (.int .i64 0) rfl
                          have Dc1 := D24.out.get 1 (.int .i64 0) rfl
                          have Dc2 := D24.out.get 2 (.bool false) rfl
                          have Dc3 := D24.out.get 3 (.bool false) rfl
                          have Dc4 := D24.out.get 4 (.bool false) rfl
                          have Dc5 := D24.out.get 5 (.bool false) rfl
                          have Dc6 := D24.out.get 6 (.bool false) rfl
                          have Dc7 := D24.out.get 7 (.int .i64 0) rfl
                          have Dc8 := D24.out.get 8 (.int .i64 0) rfl
                          have Zc0 := Z24.out.get 0 (.int .i64 0) rfl
                          have Zc1 := Z24.out.get 1 (.int .i64 0) rfl
                          have Zc2 := Z24.out.get 2 (.bool false) rfl
                          have Zc3 := Z24.out.get 3 (.bool false) rfl
                          have Zc4 := Z24.out.get 4 (.bool false) rfl
                          have Zc5 := Z24.out.get 5 (.bool false) rfl
                          have Zc6 := Z24.out.get 6 (.bool false) rfl
                          have Zc7 := Z24.out.get 7 (.int .i64 0) rfl
                          have Zc8 := Z24.out.get 8 (.int .i64 0) rfl
                          go_wp2_with (first | (go_at_call 15; refine (lnum5_any _ _).mono ?_; rintro e w40 ⟨rfl, rfl⟩))
                          go_roundw
                          case rel => exact ⟨1 + 1, by decide, by decide, rfl, B24.out⟩
                          case measure => (simp [intOf] <;> omega)
                      · have HA := tableA_place (l := l) (X := X) (fr := fx) (pg := pg) hm
                        simp only [HA] at HT
                        rw [dsc_dz] at HT
                        rw [hm] at HPL
                        clear HA
                        rw [hmm] at HM
                        clear hm
                        clear hmm
                        subst hk1
                        have e6 : ((1 : Int) == 1) = true := rfl
                        rw [if_pos rfl] at hfx
                        have HFX := Lib.hid hfx
                        clear hfx
                        have j1 : IntKind.i64.wrap ((k : Int) * 7) = (k : Int) * 7 := IntWalk.i64_in _ (by omega)
                        have j2 : IntKind.i64.wrap ((k : Int) * 7 + lv) = (k : Int) * 7 + lv := IntWalk.i64_in _ (by omega)
                        rw [← HFX.out] at HWi
                        have Pc0 := X2.out.get 0 (.slice f l c) rfl
                        have Pc1 := X2.out.get 1 (.int .i64 fr) rfl
                        have Pc2 := X2.out.get 2 (.slice (some ⟨gb, go, none⟩) n d) rfl
                        go_wp2_with fail
                        refine (HWi.out _).mono ?_
                        rintro e w9 ⟨rfl, rfl⟩
                        have hpk3 := hpk2.out
                        have hneP : w.heap.size ≠ wr.heap.size := Nat.ne_of_lt X2.out.lt
                        have hneG : gb ≠ wr.heap.size := Nat.ne_of_lt (cell_block hpk2.out)
                        go_upto_region 18 with fail
                        go_cut [8, 9] (fun s8 s9 wx => ∃ bx : Nat, s8 = .pointer (some ⟨bx, 0, none⟩) ∧ s9 = .int .i64 1 ∧ wr.heap.size ≤ bx ∧ Hid (Below wr.heap.size wr wx) ∧ Hid (BoxAt wx bx #[.int .i64 0, .int .i64 0, .bool false, .bool false, .bool false, .bool false, .bool false, .int .i64 0, .int .i64 0] 33))
                        case first =>
                          go_region_held3 (fun w' => w'.cell? ⟨w.heap.size, 0, none⟩ = some (.slice f l c) ∧ w'.cell? ⟨w.heap.size, 2, none⟩ = some (.slice (some ⟨gb, go, none⟩) n d) ∧ w'.cell? ⟨gb, go + k, none⟩ = some (.int .i64 pg))
                            (refine ⟨?_, ?_, ?_⟩ <;> (repeat (first | with_reducible assumption | with_reducible refine cell_keep ?_ _ | with_reducible refine cell_drew ?_ | with_reducible refine cell_set _ hneP ?_ | with_reducible refine cell_set _ hneG ?_ | refine keepc hb20 ?_)))
                            ((go_at_call 8; refine (HT.out _ (HXc.out.below (by go_grown))).mono ?_; rintro e w20 ⟨rfl, hb20⟩; have qc0 := qcell (b := wr.heap.size) hb20 0; have qf0 := qfree (b := wr.heap.size) hb20 0; have qc1 := qcell (b := wr.heap.size) hb20 1; have qf1 := qfree (b := wr.heap.size) hb20 1; have qc2 := qcell (b := wr.heap.size) hb20 2; have qf2 := qfree (b := wr.heap.size) hb20 2; have qc3 := qcell (b := wr.heap.size) hb20 3; have qf3 := qfree (b := wr.heap.size) hb20 3; have qc4 := qcell (b := wr.heap.size) hb20 4; have qf4 := qfree (b := wr.heap.size) hb20 4; have qc5 := qcell (b := wr.heap.size) hb20 5; have qf5 := qfree (b := wr.heap.size) hb20 5; have qc6 := qcell (b := wr.heap.size) hb20 6; have qf6 := qfree (b := wr.heap.size) hb20 6; have qc7 := qcell (b := wr.heap.size) hb20 7; have qf7 := qfree (b := wr.heap.size) hb20 7; have qc8 := qcell (b := wr.heap.size) hb20 8; have qf8 := qfree (b := wr.heap.size) hb20 8))
                          · clear qc0 qf0 qc1 qf1 qc2 qf2 qc3 qf3 qc4 qf4 qc5 qf5 qc6 qf6 qc7 qf7 qc8 qf8
                            have HBq := Lib.hid (bel_trans (Below.drew (Below.refl wr.heap.size wr)) hb20)
                            have hsz := HBq.out.size
                            clear hb20
                            go_wp2_with fail
                            go_meet
                            exact ⟨w20.heap.size, rfl, rfl, hsz, bel_alloc HBq.out _, BoxAt.newAt _ _ _ _ rfl⟩
                          · have HBq := Lib.hid (bel_trans (Below.drew (bel_alloc (Below.refl wr.heap.size wr) (.cells #[.int .i64 0, .int .i64 0, .bool false, .bool false, .bool false, .bool false, .bool false, .int .i64 0, .int .i64 0] 33))) hb20)
                            go_wp2_with fail
                            go_meet
                            exact ⟨wr.heap.size, rfl, rfl, Nat.le_refl _, (Below.setCell (Below.setCell (Below.setCell (Below.setCell (Below.setCell (Below.setCell (Below.setCell (Below.setCell (Below.setCell HBq.out (p := ⟨wr.heap.size, 0, none⟩) (Nat.le_refl _) (.int .i64 0)) (p := ⟨wr.heap.size, 1, none⟩) (Nat.le_refl _) (.int .i64 0)) (p := ⟨wr.heap.size, 2, none⟩) (Nat.le_refl _) (.bool false)) (p := ⟨wr.heap.size, 3, none⟩) (Nat.le_refl _) (.bool false)) (p := ⟨wr.heap.size, 4, none⟩) (Nat.le_refl _) (.bool false)) (p := ⟨wr.heap.size, 5, none⟩) (Nat.le_refl _) (.bool false)) (p := ⟨wr.heap.size, 6, none⟩) (Nat.le_refl _) (.bool false)) (p := ⟨wr.heap.size, 7, none⟩) (Nat.le_refl _) (.int .i64 0)) (p := ⟨wr.heap.size, 8, none⟩) (Nat.le_refl _) (.int .i64 0)), (((((((((((BoxAt.new wr #[.int .i64 0, .int .i64 0, .bool false, .bool false, .bool false, .bool false, .bool false, .int .i64 0, .int .i64 0] 33).drew.below hb20).set 0 (.int .i64 0) #[.int .i64 0, .int .i64 0, .bool false, .bool false, .bool false, .bool false, .bool false, .int .i64 0, .int .i64 0] rfl).set 1 (.int .i64 0) #[.int .i64 0, .int .i64 0, .bool false, .bool false, .bool false, .bool false, .bool false, .int .i64 0, .int .i64 0] rfl).set 2 (.bool false) #[.int .i64 0, .int .i64 0, .bool false, .bool false, .bool false, .bool false, .bool false, .int .i64 0, .int .i64 0] rfl).set 3 (.bool false) #[.int .i64 0, .int .i64 0, .bool false, .bool false, .bool false, .bool false, .bool false, .int .i64 0, .int .i64 0] rfl).set 4 (.bool false) #[.int .i64 0, .int .i64 0, .bool false, .bool false, .bool false, .bool false, .bool false, .int .i64 0, .int .i64 0] rfl).set 5 (.bool false) #[.int .i64 0, .int .i64 0, .bool false, .bool false, .bool false, .bool false, .bool false, .int .i64 0, .int .i64 0] rfl).set 6 (.bool false) #[.int .i64 0, .int .i64 0, .bool false, .bool false, .bool false, .bool false, .bool false, .int .i64 0, .int .i64 0] rfl).set 7 (.int .i64 0) #[.int .i64 0, .int .i64 0, .bool false, .bool false, .bool false, .bool false, .bool false, .int .i64 0, .int .i64 0] rfl).set 8 (.int .i64 0) #[.int .i64 0, .int .i64 0, .bool false, .bool false, .bool false, .bool false, .bool false, .int .i64 0, .int .i64 0] rfl)⟩
                        case rest =>
                          clear Pc0 Pc1 Pc2 hpk3
                          obtain ⟨bx, rfl, rfl, hbx, HBx, D0⟩ := hcut
                          obtain ⟨w20, rfl⟩ : ∃ w20 : World, w20 = wc := ⟨_, rfl⟩
                          have hpk20 := Lib.hid (keepc HBx.out hpk2.out)
                          have HX20 := Lib.hid (HXc.out.below HBx.out)
                          have hz1 := X2.out.lt
                          have hz2 : gb < wr.heap.size := cell_block hpk2.out
                          have hb20 := HBx.out
                          have hne1 : bx ≠ w.heap.size := by omega
                          have hne2 : bx ≠ gb := by omega
                          have P21 := Lib.hid (X2.out.below hb20)
                          have B21 := Lib.hid (bel_trans HB.out hb20)
                          clear X2 HB hb20
                          clear HBx
                          have hz3 := D0.out.lt
                          have hz4 := P21.out.lt
                          have hz5 : gb < w20.heap.size := cell_block hpk20.out
                          have HPk := Lib.hid (P21.out.alloc (.cells #[.int .i64 0, .int .i64 0, .bool false, .bool false, .bool false, .bool false, .bool false, .int .i64 0, .int .i64 0] 33))
                          have pc0 := HPk.out.get 0 (.slice f l c) rfl
                          go_wp2_with fail
                          refine (HM.out _).mono ?_
                          rintro e w23 ⟨rfl, hb23⟩
                          have P24 := Lib.hid ((P21.out.alloc (.cells #[.int .i64 0, .int .i64 0, .bool false, .bool false, .bool false, .bool false, .bool false, .int .i64 0, .int .i64 0] 33)).below hb23)
                          have D24 := Lib.hid ((D0.out.alloc (.cells #[.int .i64 0, .int .i64 0, .bool false, .bool false, .bool false, .bool false, .bool false, .int .i64 0, .int .i64 0] 33)).below hb23)
                          have Z24 := Lib.hid ((BoxAt.newAt _ #[.int .i64 0, .int .i64 0, .bool false, .bool false, .bool false, .bool false, .bool false, .int .i64 0, .int .i64 0] 33 (w20.heap.size) (by first | rfl | (simp; done) | (simp; omega))).below hb23)
                          have B24 := Lib.hid (bel_trans (bel_alloc B21.out (.cells #[.int .i64 0, .int .i64 0, .bool false, .bool false, .bool false, .bool false, .bool false, .int .i64 0, .int .i64 0] 33)) hb23)
                          clear pc0
                          clear P21 D0 B21 hb23
                          clear HPk
                          go_wp2_with fail
                          refine (HPL.out _).mono ?_
                          rintro e w25 ⟨rfl, rfl⟩
                          have Dc0 := D24.out.get 0 (.int .i64 0) rfl
                          have Dc1 := D24.out.get 1 (.int .i64 0) rfl
                          have Dc2 := D24.out.get 2 (.bool false) rfl
                          have Dc3 := D24.out.get 3 (.bool false) rfl
                          have Dc4 := D24.out.get 4 (.bool false) rfl
                          have Dc5 := D24.out.get 5 (.bool false) rfl
                          have Dc6 := D24.out.get 6 (.bool false) rfl
                          have Dc7 := D24.out.get 7 (.int .i64 0) rfl
                          have Dc8 := D24.out.get 8 (.int .i64 0) rfl
                          have Zc0 := Z24.out.get 0 (.int .i64 0) rfl
                          have Zc1 := Z24.out.get 1 (.int .i64 0) rfl
                          have Zc2 := Z24.out.get 2 (.bool false) rfl
                          have Zc3 := Z24.out.get 3 (.bool false) rfl
                          have Zc4 := Z24.out.get 4 (.bool false) rfl
                          have Zc5 := Z24.out.get 5 (.bool false) rfl
                          have Zc6 := Z24.out.get 6 (.bool false) rfl
                          have Zc7 := Z24.out.get 7 (.int .i64 0) rfl
                          have Zc8 := Z24.out.get 8 (.int .i64 0) rfl
                          go_wp2_with (first | (go_at_call 15; refine (lnum5_any _ _).mono ?_; rintro e w40 ⟨rfl, rfl⟩))
                          go_roundw
                          case rel => exact ⟨1 + 1, by decide, by decide, rfl, B24.out⟩
                          case measure => (simp [intOf] <;> omega)
                    · cases hmm : okM l
                      · have HA := tableA_place (l := l) (X := X) (fr := fx) (pg := pg) hm
                        simp only [HA] at HT
                        rw [dsc_dz] at HT
                        rw [hm] at HPL
                        clear HA
                        rw [hmm] at HM
                        clear hm
                        clear hmm
                        obtain rfl : kk = 0 := by omega
                        clear hk1
                        have e6 : ((0 : Int) == 1) = false := rfl
                        rw [if_neg (by decide)] at hfx
                        have hfy := hfx.symm
                        clear hfx
                        subst hfy
                        have Pc0 := X2.out.get 0 (.slice f l c) rfl
                        have Pc1 := X2.out.get 1 (.int .i64 fr) rfl
                        have Pc2 := X2.out.get 2 (.slice (some ⟨gb, go, none⟩) n d) rfl
                        have hpk3 := hpk2.out
                        have hneP : w.heap.size ≠ wr.heap.size := Nat.ne_of_lt X2.out.lt
                        have hneG : gb ≠ wr.heap.size := Nat.ne_of_lt (cell_block hpk2.out)
                        go_upto_region 18 with fail
                        go_cut [8, 9] (fun s8 s9 wx => ∃ bx : Nat, s8 = .pointer (some ⟨bx, 0, none⟩) ∧ s9 = .int .i64 1 ∧ wr.heap.size ≤ bx ∧ Hid (Below wr.heap.size wr wx) ∧ Hid (BoxAt wx bx #[.int .i64 0, .int .i64 0, .bool false, .bool false, .bool false, .bool false, .bool false, .int .i64 0, .int .i64 0] 33))
                        case first =>
                          go_region_held3 (fun w' => w'.cell? ⟨w.heap.size, 0, none⟩ = some (.slice f l c) ∧ w'.cell? ⟨w.heap.size, 2, none⟩ = some (.slice (some ⟨gb, go, none⟩) n d) ∧ w'.cell? ⟨gb, go + k, none⟩ = some (.int .i64 pg))
                            (refine ⟨?_, ?_, ?_⟩ <;> (repeat (first | with_reducible assumption | with_reducible refine cell_keep ?_ _ | with_reducible refine cell_drew ?_ | with_reducible refine cell_set _ hneP ?_ | with_reducible refine cell_set _ hneG ?_ | refine keepc hb20 ?_)))
                            ((go_at_call 8; refine (HT.out _ (HXc.out.below (by go_grown))).mono ?_; rintro e w20 ⟨rfl, hb20⟩; have qc0 := qcell (b := wr.heap.size) hb20 0; have qf0 := qfree (b := wr.heap.size) hb20 0; have qc1 := qcell (b := wr.heap.size) hb20 1; have qf1 := qfree (b := wr.heap.size) hb20 1; have qc2 := qcell (b := wr.heap.size) hb20 2; have qf2 := qfree (b := wr.heap.size) hb20 2; have qc3 := qcell (b := wr.heap.size) hb20 3; have qf3 := qfree (b := wr.heap.size) hb20 3; have qc4 := qcell (b := wr.heap.size) hb20 4; have qf4 := qfree (b := wr.heap.size) hb20 4; have qc5 := qcell (b := wr.heap.size) hb20 5; have qf5 := qfree (b := wr.heap.size) hb20 5; have qc6 := qcell (b := wr.heap.size) hb20 6; have qf6 := qfree (b := wr.heap.size) hb20 6; have qc7 := qcell (b := wr.heap.size) hb20 7; have qf7 := qfree (b := wr.heap.size) hb20 7; have qc8 := qcell (b := wr.heap.size) hb20 8; have qf8 := qfree (b := wr.heap.size) hb20 8))
                          · clear qc0 qf0 qc1 qf1 qc2 qf2 qc3 qf3 qc4 qf4 qc5 qf5 qc6 qf6 qc7 qf7 qc8 qf8
                            have HBq := Lib.hid (bel_trans (Below.drew (Below.refl wr.heap.size wr)) hb20)
                            have hsz := HBq.out.size
                            clear hb20
                            go_wp2_with fail
                            go_meet
                            exact ⟨w20.heap.size, rfl, rfl, hsz, bel_alloc HBq.out _, BoxAt.newAt _ _ _ _ rfl⟩
                          · have HBq := Lib.hid (bel_trans (Below.drew (bel_alloc (Below.refl wr.heap.size wr) (.cells #[.int .i64 0, .int .i64 0, .bool false, .bool false, .bool false, .bool false, .bool false, .int .i64 0, .int .i64 0] 33))) hb20)
                            go_wp2_with fail
                            go_meet
                            exact ⟨wr.heap.size, rfl, rfl, Nat.le_refl _, (Below.setCell (Below.setCell (Below.setCell (Below.setCell (Below.setCell (Below.setCell (Below.setCell (Below.setCell (Below.setCell HBq.out (p := ⟨wr.heap.size, 0, none⟩) (Nat.le_refl _) (.int .i64 0)) (p := ⟨wr.heap.size, 1, none⟩) (Nat.le_refl _) (.int .i64 0)) (p := ⟨wr.heap.size, 2, none⟩) (Nat.le_refl _) (.bool false)) (p := ⟨wr.heap.size, 3, none⟩) (Nat.le_refl _) (.bool false)) (p := ⟨wr.heap.size, 4, none⟩) (Nat.le_refl _) (.bool false)) (p := ⟨wr.heap.size, 5, none⟩) (Nat.le_refl _) (.bool false)) (p := ⟨wr.heap.size, 6, none⟩) (Nat.le_refl _) (.bool false)) (p := ⟨wr.heap.size, 7, none⟩) (Nat.le_refl _) (.int .i64 0)) (p := ⟨wr.heap.size, 8, none⟩) (Nat.le_refl _) (.int .i64 0)), (((((((((((BoxAt.new wr #[.int .i64 0, .int .i64 0, .bool false, .bool false, .bool false, .bool false, .bool false, .int .i64 0, .int .i64 0] 33).drew.below hb20).set 0 (.int .i64 0) #[.int .i64 0, .int .i64 0, .bool false, .bool false, .bool false, .bool false, .bool false, .int .i64 0, .int .i64 0] rfl).set 1 (.int .i64 0) #[.int .i64 0, .int .i64 0, .bool false, .bool false, .bool false, .bool false, .bool false, .int .i64 0, .int .i64 0] rfl).set 2 (.bool false) #[.int .i64 0, .int .i64 0, .bool false, .bool false, .bool false, .bool false, .bool false, .int .i64 0, .int .i64 0] rfl).set 3 (.bool false) #[.int .i64 0, .int .i64 0, .bool false, .bool false, .bool false, .bool false, .bool false, .int .i64 0, .int .i64 0] rfl).set 4 (.bool false) #[.int .i64 0, .int .i64 0, .bool false, .bool false, .bool false, .bool false, .bool false, .int .i64 0, .int .i64 0] rfl).set 5 (.bool false) #[.int .i64 0, .int .i64 0, .bool false, .bool false, .bool false, .bool false, .bool false, .int .i64 0, .int .i64 0] rfl).set 6 (.bool false) #[.int .i64 0, .int .i64 0, .bool false, .bool false, .bool false, .bool false, .bool false, .int .i64 0, .int .i64 0] rfl).set 7 (.int .i64 0) #[.int .i64 0, .int .i64 0, .bool false, .bool false, .bool false, .bool false, .bool false, .int .i64 0, .int .i64 0] rfl).set 8 (.int .i64 0) #[.int .i64 0, .int .i64 0, .bool false, .bool false, .bool false, .bool false, .bool false, .int .i64 0, .int .i64 0] rfl)⟩
                        case rest =>
                          clear Pc0 Pc1 Pc2 hpk3
                          obtain ⟨bx, rfl, rfl, hbx, HBx, D0⟩ := hcut
                          obtain ⟨w20, rfl⟩ : ∃ w20 : World, w20 = wc := ⟨_, rfl⟩
                          have hpk20 := Lib.hid (keepc HBx.out hpk2.out)
                          have HX20 := Lib.hid (HXc.out.below HBx.out)
                          have hz1 := X2.out.lt
                          have hz2 : gb < wr.heap.size := cell_block hpk2.out
                          have hb20 := HBx.out
                          have hne1 : bx ≠ w.heap.size := by omega
                          have hne2 : bx ≠ gb := by omega
                          have P21 := Lib.hid (X2.out.below hb20)
                          have B21 := Lib.hid (bel_trans HB.out hb20)
                          clear X2 HB hb20
                          clear HBx
                          have hz3 := D0.out.lt
                          have hz4 := P21.out.lt
                          have hz5 : gb < w20.heap.size := cell_block hpk20.out
                          have HPk := Lib.hid (P21.out.alloc (.cells #[.int .i64 0, .int .i64 0, .bool false, .bool false, .bool false, .bool false, .bool false, .int .i64 0, .int .i64 0] 33))
                          have pc0 := HPk.out.get 0 (.slice f l c) rfl
                          go_wp2_with fail
                          refine (HM.out _).mono ?_
                          rintro e w23 ⟨rfl, hb23⟩
                          have P24 := Lib.hid ((P21.out.alloc (.cells #[.int .i64 0, .int .i64 0, .bool false, .bool false, .bool false, .bool false, .bool false, .int .i64 0, .int .i64 0] 33)).below hb23)
                          have D24 := Lib.hid ((D0.out.alloc (.cells #[.int .i64 0, .int .i64 0, .bool false, .bool false, .bool false, .bool false, .bool false, .int .i64 0, .int .i64 0] 33)).below hb23)
                          have Z24 := Lib.hid ((BoxAt.newAt _ #[.int .i64 0, .int .i64 0, .bool false, .bool false, .bool false, .bool false, .bool false, .int .i64 0, .int .i64 0] 33 (w20.heap.size) (by first | rfl | (simp; done) | (simp; omega))).below hb23)
                          have B24 := Lib.hid (bel_trans (bel_alloc B21.out (.cells #[.int .i64 0, .int .i64 0, .bool false, .bool false, .bool false, .bool false, .bool false, .int .i64 0, .int .i64 0] 33)) hb23)
                          clear pc0
                          clear P21 D0 B21 hb23
                          clear HPk
                          have Dc0 := D24.out.get 0 (.int .i64 0) rfl
                          have Dc1 := D24.out.get 1 (.int .i64 0) rfl
                          have Dc2 := D24.out.get 2 (.bool false) rfl
                          have Dc3 := D24.out.get 3 (.bool false) rfl
                          have Dc4 := D24.out.get 4 (.bool false) rfl
                          have Dc5 := D24.out.get 5 (.bool false) rfl
                          have Dc6 := D24.out.get 6 (.bool false) rfl
                          have Dc7 := D24.out.get 7 (.int .i64 0) rfl
                          have Dc8 := D24.out.get 8 (.int .i64 0) rfl
                          have Zc0 := Z24.out.get 0 (.int .i64 0) rfl
                          have Zc1 := Z24.out.get 1 (.int .i64 0) rfl
                          have Zc2 := Z24.out.get 2 (.bool false) rfl
                          have Zc3 := Z24.out.get 3 (.bool false) rfl
                          have Zc4 := Z24.out.get 4 (.bool false) rfl
                          have Zc5 := Z24.out.get 5 (.bool false) rfl
                          have Zc6 := Z24.out.get 6 (.bool false) rfl
                          have Zc7 := Z24.out.get 7 (.int .i64 0) rfl
                          have Zc8 := Z24.out.get 8 (.int .i64 0) rfl
                          go_wp2_with (first | (go_at_call 15; refine (lnum5_any _ _).mono ?_; rintro e w40 ⟨rfl, rfl⟩))
                          go_roundw
                          case rel => exact ⟨0 + 1, by decide, by decide, rfl, B24.out⟩
                          case measure => (simp [intOf] <;> omega)
                      · have HA := tableA_place (l := l) (X := X) (fr := fx) (pg := pg) hm
                        simp only [HA] at HT
                        rw [dsc_dz] at HT
                        rw [hm] at HPL
                        clear HA
                        rw [hmm] at HM
                        clear hm
                        clear hmm
                        obtain rfl : kk = 0 := by omega
                        clear hk1
                        have e6 : ((0 : Int) == 1) = false := rfl
                        rw [if_neg (by decide)] at hfx
                        have hfy := hfx.symm
                        clear hfx
                        subst hfy
                        have Pc0 := X2.out.get 0 (.slice f l c) rfl
                        have Pc1 := X2.out.get 1 (.int .i64 fr) rfl
                        have Pc2 := X2.out.get 2 (.slice (some ⟨gb, go, none⟩) n d) rfl
                        have hpk3 := hpk2.out
                        have hneP : w.heap.size ≠ wr.heap.size := Nat.ne_of_lt X2.out.lt
                        have hneG : gb ≠ wr.heap.size := Nat.ne_of_lt (cell_block hpk2.out)
                        go_upto_region 18 with fail
                        go_cut [8, 9] (fun s8 s9 wx => ∃ bx : Nat, s8 = .pointer (some ⟨bx, 0, none⟩) ∧ s9 = .int .i64 1 ∧ wr.heap.size ≤ bx ∧ Hid (Below wr.heap.size wr wx) ∧ Hid (BoxAt wx bx #[.int .i64 0, .int .i64 0, .bool false, .bool false, .bool false, .bool false, .bool false, .int .i64 0, .int .i64 0] 33))
                        case first =>
                          go_region_held3 (fun w' => w'.cell? ⟨w.heap.size, 0, none⟩ = some (.slice f l c) ∧ w'.cell? ⟨w.heap.size, 2, none⟩ = some (.slice (some ⟨gb, go, none⟩) n d) ∧ w'.cell? ⟨gb, go + k, none⟩ = some (.int .i64 pg))
                            (refine ⟨?_, ?_, ?_⟩ <;> (repeat (first | with_reducible assumption | with_reducible refine cell_keep ?_ _ | with_reducible refine cell_drew ?_ | with_reducible refine cell_set _ hneP ?_ | with_reducible refine cell_set _ hneG ?_ | refine keepc hb20 ?_)))
                            ((go_at_call 8; refine (HT.out _ (HXc.out.below (by go_grown))).mono ?_; rintro e w20 ⟨rfl, hb20⟩; have qc0 := qcell (b := wr.heap.size) hb20 0; have qf0 := qfree (b := wr.heap.size) hb20 0; have qc1 := qcell (b := wr.heap.size) hb20 1; have qf1 := qfree (b := wr.heap.size) hb20 1; have qc2 := qcell (b := wr.heap.size) hb20 2; have qf2 := qfree (b := wr.heap.size) hb20 2; have qc3 := qcell (b := wr.heap.size) hb20 3; have qf3 := qfree (b := wr.heap.size) hb20 3; have qc4 := qcell (b := wr.heap.size) hb20 4; have qf4 := qfree (b := wr.heap.size) hb20 4; have qc5 := qcell (b := wr.heap.size) hb20 5; have qf5 := qfree (b := wr.heap.size) hb20 5; have qc6 := qcell (b := wr.heap.size) hb20 6; have qf6 := qfree (b := wr.heap.size) hb20 6; have qc7 := qcell (b := wr.heap.size) hb20 7; have qf7 := qfree (b := wr.heap.size) hb20 7; have qc8 := qcell (b := wr.heap.size) hb20 8; have qf8 := qfree (b := wr.heap.size) hb20 8))
                          · clear qc0 qf0 qc1 qf1 qc2 qf2 qc3 qf3 qc4 qf4 qc5 qf5 qc6 qf6 qc7 qf7 qc8 qf8
                            have HBq := Lib.hid (bel_trans (Below.drew (Below.refl wr.heap.size wr)) hb20)
                            have hsz := HBq.out.size
                            clear hb20
                            go_wp2_with fail
                            go_meet
                            exact ⟨w20.heap.size, rfl, rfl, hsz, bel_alloc HBq.out _, BoxAt.newAt _ _ _ _ rfl⟩
                          · have HBq := Lib.hid (bel_trans (Below.drew (bel_alloc (Below.refl wr.heap.size wr) (.cells #[.int .i64 0, .int .i64 0, .bool false, .bool false, .bool false, .bool false, .bool false, .int .i64 0, .int .i64 0] 33))) hb20)
                            go_wp2_with fail
                            go_meet
                            exact ⟨wr.heap.size, rfl, rfl, Nat.le_refl _, (Below.setCell (Below.setCell (Below.setCell (Below.setCell (Below.setCell (Below.setCell (Below.setCell (Below.setCell (Below.setCell HBq.out (p := ⟨wr.heap.size, 0, none⟩) (Nat.le_refl _) (.int .i64 0)) (p := ⟨wr.heap.size, 1, none⟩) (Nat.le_refl _) (.int .i64 0)) (p := ⟨wr.heap.size, 2, none⟩) (Nat.le_refl _) (.bool false)) (p := ⟨wr.heap.size, 3, none⟩) (Nat.le_refl _) (.bool false)) (p := ⟨wr.heap.size, 4, none⟩) (Nat.le_refl _) (.bool false)) (p := ⟨wr.heap.size, 5, none⟩) (Nat.le_refl _) (.bool false)) (p := ⟨wr.heap.size, 6, none⟩) (Nat.le_refl _) (.bool false)) (p := ⟨wr.heap.size, 7, none⟩) (Nat.le_refl _) (.int .i64 0)) (p := ⟨wr.heap.size, 8, none⟩) (Nat.le_refl _) (.int .i64 0)), (((((((((((BoxAt.new wr #[.int .i64 0, .int .i64 0, .bool false, .bool false, .bool false, .bool false, .bool false, .int .i64 0, .int .i64 0] 33).drew.below hb20).set 0 (.int .i64 0) #[.int .i64 0, .int .i64 0, .bool false, .bool false, .bool false, .bool false, .bool false, .int .i64 0, .int .i64 0] rfl).set 1 (.int .i64 0) #[.int .i64 0, .int .i64 0, .bool false, .bool false, .bool false, .bool false, .bool false, .int .i64 0, .int .i64 0] rfl).set 2 (.bool false) #[.int .i64 0, .int .i64 0, .bool false, .bool false, .bool false, .bool false, .bool false, .int .i64 0, .int .i64 0] rfl).set 3 (.bool false) #[.int .i64 0, .int .i64 0, .bool false, .bool false, .bool false, .bool false, .bool false, .int .i64 0, .int .i64 0] rfl).set 4 (.bool false) #[.int .i64 0, .int .i64 0, .bool false, .bool false, .bool false, .bool false, .bool false, .int .i64 0, .int .i64 0] rfl).set 5 (.bool false) #[.int .i64 0, .int .i64 0, .bool false, .bool false, .bool false, .bool false, .bool false, .int .i64 0, .int .i64 0] rfl).set 6 (.bool false) #[.int .i64 0, .int .i64 0, .bool false, .bool false, .bool false, .bool false, .bool false, .int .i64 0, .int .i64 0] rfl).set 7 (.int .i64 0) #[.int .i64 0, .int .i64 0, .bool false, .bool false, .bool false, .bool false, .bool false, .int .i64 0, .int .i64 0] rfl).set 8 (.int .i64 0) #[.int .i64 0, .int .i64 0, .bool false, .bool false, .bool false, .bool false, .bool false, .int .i64 0, .int .i64 0] rfl)⟩
                        case rest =>
                          clear Pc0 Pc1 Pc2 hpk3
                          obtain ⟨bx, rfl, rfl, hbx, HBx, D0⟩ := hcut
                          obtain ⟨w20, rfl⟩ : ∃ w20 : World, w20 = wc := ⟨_, rfl⟩
                          have hpk20 := Lib.hid (keepc HBx.out hpk2.out)
                          have HX20 := Lib.hid (HXc.out.below HBx.out)
                          have hz1 := X2.out.lt
                          have hz2 : gb < wr.heap.size := cell_block hpk2.out
                          have hb20 := HBx.out
                          have hne1 : bx ≠ w.heap.size := by omega
                          have hne2 : bx ≠ gb := by omega
                          have P21 := Lib.hid (X2.out.below hb20)
                          have B21 := Lib.hid (bel_trans HB.out hb20)
                          clear X2 HB hb20
                          clear HBx
                          have hz3 := D0.out.lt
                          have hz4 := P21.out.lt
                          have hz5 : gb < w20.heap.size := cell_block hpk20.out
                          have HPk := Lib.hid (P21.out.alloc (.cells #[.int .i64 0, .int .i64 0, .bool false, .bool false, .bool false, .bool false, .bool false, .int .i64 0, .int .i64 0] 33))
                          have pc0 := HPk.out.get 0 (.slice f l c) rfl
                          go_wp2_with fail
                          refine (HM.out _).mono ?_
                          rintro e w23 ⟨rfl, hb23⟩
                          have P24 := Lib.hid ((P21.out.alloc (.cells #[.int .i64 0, .int .i64 0, .bool false, .bool false, .bool false, .bool false, .bool false, .int .i64 0, .int .i64 0] 33)).below hb23)
                          have D24 := Lib.hid ((D0.out.alloc (.cells #[.int .i64 0, .int .i64 0, .bool false, .bool false, .bool false, .bool false, .bool false, .int .i64 0, .int .i64 0] 33)).below hb23)
                          have Z24 := Lib.hid ((BoxAt.newAt _ #[.int .i64 0, .int .i64 0, .bool false, .bool false, .bool false, .bool false, .bool false, .int .i64 0, .int .i64 0] 33 (w20.heap.size) (by first | rfl | (simp; done) | (simp; omega))).below hb23)
                          have B24 := Lib.hid (bel_trans (bel_alloc B21.out (.cells #[.int .i64 0, .int .i64 0, .bool false, .bool false, .bool false, .bool false, .bool false, .int .i64 0, .int .i64 0] 33)) hb23)
                          clear pc0
                          clear P21 D0 B21 hb23
                          clear HPk
                          go_wp2_with fail
                          refine (HPL.out _).mono ?_
                          rintro e w25 ⟨rfl, rfl⟩
                          have Dc0 := D24.out.get 0 (.int .i64 0) rfl
                          have Dc1 := D24.out.get 1 (.int .i64 0) rfl
                          have Dc2 := D24.out.get 2 (.bool false) rfl
                          have Dc3 := D24.out.get 3 (.bool false) rfl
                          have Dc4 := D24.out.get 4 (.bool false) rfl
                          have Dc5 := D24.out.get 5 (.bool false) rfl
                          have Dc6 := D24.out.get 6 (.bool false) rfl
                          have Dc7 := D24.out.get 7 (.int .i64 0) rfl
                          have Dc8 := D24.out.get 8 (.int .i64 0) rfl
                          have Zc0 := Z24.out.get 0 (.int .i64 0) rfl
                          have Zc1 := Z24.out.get 1 (.int .i64 0) rfl
                          have Zc2 := Z24.out.get 2 (.bool false) rfl
                          have Zc3 := Z24.out.get 3 (.bool false) rfl
                          have Zc4 := Z24.out.get 4 (.bool false) rfl
                          have Zc5 := Z24.out.get 5 (.bool false) rfl
                          have Zc6 := Z24.out.get 6 (.bool false) rfl
                          have Zc7 := Z24.out.get 7 (.int .i64 0) rfl
                          have Zc8 := Z24.out.get 8 (.int .i64 0) rfl
                          go_wp2_with (first | (go_at_call 15; refine (lnum5_any _ _).mono ?_; rintro e w40 ⟨rfl, rfl⟩))
                          go_roundw
                          case rel => exact ⟨0 + 1, by decide, by decide, rfl, B24.out⟩
                          case measure => (simp [intOf] <;> omega)
                  · by_cases hk1 : kk = 1
                    · cases hmm : okM l
                      · have HA := tableA_page (l := l) (X := X) (st := st) (lv := lv) (fr := fx) hm
                        simp only [HA] at HT
                        rw [dsc_dz] at HT
                        rw [hm] at HPG
                        clear HA
                        rw [hmm] at HM
                        clear hm
                        clear hmm
                        subst hk1
                        have e6 : ((1 : Int) == 1) = true := rfl
                        rw [if_pos rfl] at hfx
                        have HFX := Lib.hid hfx
                        clear hfx
                        have j1 : IntKind.i64.wrap ((k : Int) * 7) = (k : Int) * 7 := IntWalk.i64_in _ (by omega)
                        have j2 : IntKind.i64.wrap ((k : Int) * 7 + lv) = (k : Int) * 7 + lv := IntWalk.i64_in _ (by omega)
                        rw [← HFX.out] at HWi
                        have Pc0 := X2.out.get 0 (.slice f l c) rfl
                        have Pc1 := X2.out.get 1 (.int .i64 fr) rfl
                        have Pc2 := X2.out.get 2 (.slice (some ⟨gb, go, none⟩) n d) rfl
                        go_wp2_with fail
                        refine (HWi.out _).mono ?_
                        rintro e w9 ⟨rfl, rfl⟩
                        have hpk3 := hpk2.out
                        have hneP : w.heap.size ≠ wr.heap.size := Nat.ne_of_lt X2.out.lt
                        have hneG : gb ≠ wr.heap.size := Nat.ne_of_lt (cell_block hpk2.out)
                        go_upto_region 18 with fail
                        go_cut [8, 9] (fun s8 s9 wx => ∃ bx : Nat, s8 = .pointer (some ⟨bx, 0, none⟩) ∧ s9 = .int .i64 1 ∧ wr.heap.size ≤ bx ∧ Hid (Below wr.heap.size wr wx) ∧ Hid (BoxAt wx bx #[.int .i64 0, .int .i64 0, .bool false, .bool false, .bool false, .bool false, .bool false, .int .i64 0, .int .i64 0] 33))
                        case first =>
                          go_region_held3 (fun w' => w'.cell? ⟨w.heap.size, 0, none⟩ = some (.slice f l c) ∧ w'.cell? ⟨w.heap.size, 2, none⟩ = some (.slice (some ⟨gb, go, none⟩) n d) ∧ w'.cell? ⟨gb, go + k, none⟩ = some (.int .i64 pg))
                            (refine ⟨?_, ?_, ?_⟩ <;> (repeat (first | with_reducible assumption | with_reducible refine cell_keep ?_ _ | with_reducible refine cell_drew ?_ | with_reducible refine cell_set _ hneP ?_ | with_reducible refine cell_set _ hneG ?_ | refine keepc hb20 ?_)))
                            ((go_at_call 8; refine (HT.out _ (HXc.out.below (by go_grown))).mono ?_; rintro e w20 ⟨rfl, hb20⟩; have qc0 := qcell (b := wr.heap.size) hb20 0; have qf0 := qfree (b := wr.heap.size) hb20 0; have qc1 := qcell (b := wr.heap.size) hb20 1; have qf1 := qfree (b := wr.heap.size) hb20 1; have qc2 := qcell (b := wr.heap.size) hb20 2; have qf2 := qfree (b := wr.heap.size) hb20 2; have qc3 := qcell (b := wr.heap.size) hb20 3; have qf3 := qfree (b := wr.heap.size) hb20 3; have qc4 := qcell (b := wr.heap.size) hb20 4; have qf4 := qfree (b := wr.heap.size) hb20 4; have qc5 := qcell (b := wr.heap.size) hb20 5; have qf5 := qfree (b := wr.heap.size) hb20 5; have qc6 := qcell (b := wr.heap.size) hb20 6; have qf6 := qfree (b := wr.heap.size) hb20 6; have qc7 := qcell (b := wr.heap.size) hb20 7; have qf7 := qfree (b := wr.heap.size) hb20 7; have qc8 := qcell (b := wr.heap.size) hb20 8; have qf8 := qfree (b := wr.heap.size) hb20 8))
                          · clear qc0 qf0 qc1 qf1 qc2 qf2 qc3 qf3 qc4 qf4 qc5 qf5 qc6 qf6 qc7 qf7 qc8 qf8
                            have HBq := Lib.hid (bel_trans (Below.drew (Below.refl wr.heap.size wr)) hb20)
                            have hsz := HBq.out.size
                            clear hb20
                            go_wp2_with fail
                            go_meet
                            exact ⟨w20.heap.size, rfl, rfl, hsz, bel_alloc HBq.out _, BoxAt.newAt _ _ _ _ rfl⟩
                          · have HBq := Lib.hid (bel_trans (Below.drew (bel_alloc (Below.refl wr.heap.size wr) (.cells #[.int .i64 0, .int .i64 0, .bool false, .bool false, .bool false, .bool false, .bool false, .int .i64 0, .int .i64 0] 33))) hb20)
                            go_wp2_with fail
                            go_meet
                            exact ⟨wr.heap.size, rfl, rfl, Nat.le_refl _, (Below.setCell (Below.setCell (Below.setCell (Below.setCell (Below.setCell (Below.setCell (Below.setCell (Below.setCell (Below.setCell HBq.out (p := ⟨wr.heap.size, 0, none⟩) (Nat.le_refl _) (.int .i64 0)) (p := ⟨wr.heap.size, 1, none⟩) (Nat.le_refl _) (.int .i64 0)) (p := ⟨wr.heap.size, 2, none⟩) (Nat.le_refl _) (.bool false)) (p := ⟨wr.heap.size, 3, none⟩) (Nat.le_refl _) (.bool false)) (p := ⟨wr.heap.size, 4, none⟩) (Nat.le_refl _) (.bool false)) (p := ⟨wr.heap.size, 5, none⟩) (Nat.le_refl _) (.bool false)) (p := ⟨wr.heap.size, 6, none⟩) (Nat.le_refl _) (.bool false)) (p := ⟨wr.heap.size, 7, none⟩) (Nat.le_refl _) (.int .i64 0)) (p := ⟨wr.heap.size, 8, none⟩) (Nat.le_refl _) (.int .i64 0)), (((((((((((BoxAt.new wr #[.int .i64 0, .int .i64 0, .bool false, .bool false, .bool false, .bool false, .bool false, .int .i64 0, .int .i64 0] 33).drew.below hb20).set 0 (.int .i64 0) #[.int .i64 0, .int .i64 0, .bool false, .bool false, .bool false, .bool false, .bool false, .int .i64 0, .int .i64 0] rfl).set 1 (.int .i64 0) #[.int .i64 0, .int .i64 0, .bool false, .bool false, .bool false, .bool false, .bool false, .int .i64 0, .int .i64 0] rfl).set 2 (.bool false) #[.int .i64 0, .int .i64 0, .bool false, .bool false, .bool false, .bool false, .bool false, .int .i64 0, .int .i64 0] rfl).set 3 (.bool false) #[.int .i64 0, .int .i64 0, .bool false, .bool false, .bool false, .bool false, .bool false, .int .i64 0, .int .i64 0] rfl).set 4 (.bool false) #[.int .i64 0, .int .i64 0, .bool false, .bool false, .bool false, .bool false, .bool false, .int .i64 0, .int .i64 0] rfl).set 5 (.bool false) #[.int .i64 0, .int .i64 0, .bool false, .bool false, .bool false, .bool false, .bool false, .int .i64 0, .int .i64 0] rfl).set 6 (.bool false) #[.int .i64 0, .int .i64 0, .bool false, .bool false, .bool false, .bool false, .bool false, .int .i64 0, .int .i64 0] rfl).set 7 (.int .i64 0) #[.int .i64 0, .int .i64 0, .bool false, .bool false, .bool false, .bool false, .bool false, .int .i64 0, .int .i64 0] rfl).set 8 (.int .i64 0) #[.int .i64 0, .int .i64 0, .bool false, .bool false, .bool false, .bool false, .bool false, .int .i64 0, .int .i64 0] rfl)⟩
                        case rest =>
                          clear Pc0 Pc1 Pc2 hpk3
                          obtain ⟨bx, rfl, rfl, hbx, HBx, D0⟩ := hcut
                          obtain ⟨w20, rfl⟩ : ∃ w20 : World, w20 = wc := ⟨_, rfl⟩
                          have hpk20 := Lib.hid (keepc HBx.out hpk2.out)
                          have HX20 := Lib.hid (HXc.out.below HBx.out)
                          have hz1 := X2.out.lt
                          have hz2 : gb < wr.heap.size := cell_block hpk2.out
                          have hb20 := HBx.out
                          have hne1 : bx ≠ w.heap.size := by omega
                          have hne2 : bx ≠ gb := by omega
                          have P21 := Lib.hid (X2.out.below hb20)
                          have B21 := Lib.hid (bel_trans HB.out hb20)
                          clear X2 HB hb20
                          clear HBx
                          have hz3 := D0.out.lt
                          have hz4 := P21.out.lt
                          have hz5 : gb < w20.heap.size := cell_block hpk20.out
                          have HPk := Lib.hid (P21.out.alloc (.cells #[.int .i64 0, .int .i64 0, .bool false, .bool false, .bool false, .bool false, .bool false, .int .i64 0, .int .i64 0] 33))
                          have pc0 := HPk.out.get 0 (.slice f l c) rfl
                          go_wp2_with fail
                          refine (HM.out _).mono ?_
                          rintro e w23 ⟨rfl, hb23⟩
                          have P24 := Lib.hid ((P21.out.alloc (.cells #[.int .i64 0, .int .i64 0, .bool false, .bool false, .bool false, .bool false, .bool false, .int .i64 0, .int .i64 0] 33)).below hb23)
                          have D24 := Lib.hid ((D0.out.alloc (.cells #[.int .i64 0, .int .i64 0, .bool false, .bool false, .bool false, .bool false, .bool false, .int .i64 0, .int .i64 0] 33)).below hb23)
                          have Z24 := Lib.hid ((BoxAt.newAt _ #[.int .i64 0, .int .i64 0, .bool false, .bool false, .bool false, .bool false, .bool false, .int .i64 0, .int .i64 0] 33 (w20.heap.size) (by first | rfl | (simp; done) | (simp; omega))).below hb23)
                          have B24 := Lib.hid (bel_trans (bel_alloc B21.out (.cells #[.int .i64 0, .int .i64 0, .bool false, .bool false, .bool false, .bool false, .bool false, .int .i64 0, .int .i64 0] 33)) hb23)
                          clear pc0
                          clear P21 D0 B21 hb23
                          clear HPk
                          have Dc0 := D24.out.get 0 (.int .i64 0) rfl
                          have Dc1 := D24.out.get 1 (.int .i64 0) rfl
                          have Dc2 := D24.out.get 2 (.bool false) rfl
                          have Dc3 := D24.out.get 3 (.bool false) rfl
                          have Dc4 := D24.out.get 4 (.bool false) rfl
                          have Dc5 := D24.out.get 5 (.bool false) rfl
                          have Dc6 := D24.out.get 6 (.bool false) rfl
                          have Dc7 := D24.out.get 7 (.int .i64 0) rfl
                          have Dc8 := D24.out.get 8 (.int .i64 0) rfl
                          have Zc0 := Z24.out.get 0 (.int .i64 0) rfl
                          have Zc1 := Z24.out.get 1 (.int .i64 0) rfl
                          have Zc2 := Z24.out.get 2 (.bool false) rfl
                          have Zc3 := Z24.out.get 3 (.bool false) rfl
                          have Zc4 := Z24.out.get 4 (.bool false) rfl
                          have Zc5 := Z24.out.get 5 (.bool false) rfl
                          have Zc6 := Z24.out.get 6 (.bool false) rfl
                          have Zc7 := Z24.out.get 7 (.int .i64 0) rfl
                          have Zc8 := Z24.out.get 8 (.int .i64 0) rfl
                          go_wp2_with (first | (go_at_call 15; refine (lnum5_any _ _).mono ?_; rintro e w40 ⟨rfl, rfl⟩))
                          go_roundw
                          case rel => exact ⟨1 + 1, by decide, by decide, rfl, B24.out⟩
                          case measure => (simp [intOf] <;> omega)
                      · cases hpp : placeB st lv
                        · have HA := tableA_page (l := l) (X := X) (st := st) (lv := lv) (fr := fx) hm
                          simp only [HA] at HT
                          rw [dsc_dz] at HT
                          rw [hm] at HPG
                          clear HA
                          rw [hmm] at HM
                          rw [hpp] at HPL
                          clear hm
                          clear hmm hpp
                          subst hk1
                          have e6 : ((1 : Int) == 1) = true := rfl
                          rw [if_pos rfl] at hfx
                          have HFX := Lib.hid hfx
                          clear hfx
                          have j1 : IntKind.i64.wrap ((k : Int) * 7) = (k : Int) * 7 := IntWalk.i64_in _ (by omega)
                          have j2 : IntKind.i64.wrap ((k : Int) * 7 + lv) = (k : Int) * 7 + lv := IntWalk.i64_in _ (by omega)
                          rw [← HFX.out] at HWi
                          have Pc0 := X2.out.get 0 (.slice f l c) rfl
                          have Pc1 := X2.out.get 1 (.int .i64 fr) rfl
                          have Pc2 := X2.out.get 2 (.slice (some ⟨gb, go, none⟩) n d) rfl
                          go_wp2_with fail
                          refine (HWi.out _).mono ?_
                          rintro e w9 ⟨rfl, rfl⟩
                          have hpk3 := hpk2.out
                          have hneP : w.heap.size ≠ wr.heap.size := Nat.ne_of_lt X2.out.lt
                          have hneG : gb ≠ wr.heap.size := Nat.ne_of_lt (cell_block hpk2.out)
                          go_upto_region 18 with fail
                          go_cut [8, 9] (fun s8 s9 wx => ∃ bx : Nat, s8 = .pointer (some ⟨bx, 0, none⟩) ∧ s9 = .int .i64 1 ∧ wr.heap.size ≤ bx ∧ Hid (Below wr.heap.size wr wx) ∧ Hid (BoxAt wx bx #[.int .i64 0, .int .i64 0, .bool false, .bool false, .bool false, .bool false, .bool false, .int .i64 0, .int .i64 0] 33))
                          case first =>
                            go_region_held3 (fun w' => w'.cell? ⟨w.heap.size, 0, none⟩ = some (.slice f l c) ∧ w'.cell? ⟨w.heap.size, 2, none⟩ = some (.slice (some ⟨gb, go, none⟩) n d) ∧ w'.cell? ⟨gb, go + k, none⟩ = some (.int .i64 pg))
                              (refine ⟨?_, ?_, ?_⟩ <;> (repeat (first | with_reducible assumption | with_reducible refine cell_keep ?_ _ | with_reducible refine cell_drew ?_ | with_reducible refine cell_set _ hneP ?_ | with_reducible refine cell_set _ hneG ?_ | refine keepc hb20 ?_)))
                              ((go_at_call 8; refine (HT.out _ (HXc.out.below (by go_grown))).mono ?_; rintro e w20 ⟨rfl, hb20⟩; have qc0 := qcell (b := wr.heap.size) hb20 0; have qf0 := qfree (b := wr.heap.size) hb20 0; have qc1 := qcell (b := wr.heap.size) hb20 1; have qf1 := qfree (b := wr.heap.size) hb20 1; have qc2 := qcell (b := wr.heap.size) hb20 2; have qf2 := qfree (b := wr.heap.size) hb20 2; have qc3 := qcell (b := wr.heap.size) hb20 3; have qf3 := qfree (b := wr.heap.size) hb20 3; have qc4 := qcell (b := wr.heap.size) hb20 4; have qf4 := qfree (b := wr.heap.size) hb20 4; have qc5 := qcell (b := wr.heap.size) hb20 5; have qf5 := qfree (b := wr.heap.size) hb20 5; have qc6 := qcell (b := wr.heap.size) hb20 6; have qf6 := qfree (b := wr.heap.size) hb20 6; have qc7 := qcell (b := wr.heap.size) hb20 7; have qf7 := qfree (b := wr.heap.size) hb20 7; have qc8 := qcell (b := wr.heap.size) hb20 8; have qf8 := qfree (b := wr.heap.size) hb20 8))
                            · clear qc0 qf0 qc1 qf1 qc2 qf2 qc3 qf3 qc4 qf4 qc5 qf5 qc6 qf6 qc7 qf7 qc8 qf8
                              have HBq := Lib.hid (bel_trans (Below.drew (Below.refl wr.heap.size wr)) hb20)
                              have hsz := HBq.out.size
                              clear hb20
                              go_wp2_with fail
                              go_meet
                              exact ⟨w20.heap.size, rfl, rfl, hsz, bel_alloc HBq.out _, BoxAt.newAt _ _ _ _ rfl⟩
                            · have HBq := Lib.hid (bel_trans (Below.drew (bel_alloc (Below.refl wr.heap.size wr) (.cells #[.int .i64 0, .int .i64 0, .bool false, .bool false, .bool false, .bool false, .bool false, .int .i64 0, .int .i64 0] 33))) hb20)
                              go_wp2_with fail
                              go_meet
                              exact ⟨wr.heap.size, rfl, rfl, Nat.le_refl _, (Below.setCell (Below.setCell (Below.setCell (Below.setCell (Below.setCell (Below.setCell (Below.setCell (Below.setCell (Below.setCell HBq.out (p := ⟨wr.heap.size, 0, none⟩) (Nat.le_refl _) (.int .i64 0)) (p := ⟨wr.heap.size, 1, none⟩) (Nat.le_refl _) (.int .i64 0)) (p := ⟨wr.heap.size, 2, none⟩) (Nat.le_refl _) (.bool false)) (p := ⟨wr.heap.size, 3, none⟩) (Nat.le_refl _) (.bool false)) (p := ⟨wr.heap.size, 4, none⟩) (Nat.le_refl _) (.bool false)) (p := ⟨wr.heap.size, 5, none⟩) (Nat.le_refl _) (.bool false)) (p := ⟨wr.heap.size, 6, none⟩) (Nat.le_refl _) (.bool false)) (p := ⟨wr.heap.size, 7, none⟩) (Nat.le_refl _) (.int .i64 0)) (p := ⟨wr.heap.size, 8, none⟩) (Nat.le_refl _) (.int .i64 0)), (((((((((((BoxAt.new wr #[.int .i64 0, .int .i64 0, .bool false, .bool false, .bool false, .bool false, .bool false, .int .i64 0, .int .i64 0] 33).drew.below hb20).set 0 (.int .i64 0) #[.int .i64 0, .int .i64 0, .bool false, .bool false, .bool false, .bool false, .bool false, .int .i64 0, .int .i64 0] rfl).set 1 (.int .i64 0) #[.int .i64 0, .int .i64 0, .bool false, .bool false, .bool false, .bool false, .bool false, .int .i64 0, .int .i64 0] rfl).set 2 (.bool false) #[.int .i64 0, .int .i64 0, .bool false, .bool false, .bool false, .bool false, .bool false, .int .i64 0, .int .i64 0] rfl).set 3 (.bool false) #[.int .i64 0, .int .i64 0, .bool false, .bool false, .bool false, .bool false, .bool false, .int .i64 0, .int .i64 0] rfl).set 4 (.bool false) #[.int .i64 0, .int .i64 0, .bool false, .bool false, .bool false, .bool false, .bool false, .int .i64 0, .int .i64 0] rfl).set 5 (.bool false) #[.int .i64 0, .int .i64 0, .bool false, .bool false, .bool false, .bool false, .bool false, .int .i64 0, .int .i64 0] rfl).set 6 (.bool false) #[.int .i64 0, .int .i64 0, .bool false, .bool false, .bool false, .bool false, .bool false, .int .i64 0, .int .i64 0] rfl).set 7 (.int .i64 0) #[.int .i64 0, .int .i64 0, .bool false, .bool false, .bool false, .bool false, .bool false, .int .i64 0, .int .i64 0] rfl).set 8 (.int .i64 0) #[.int .i64 0, .int .i64 0, .bool false, .bool false, .bool false, .bool false, .bool false, .int .i64 0, .int .i64 0] rfl)⟩
                          case rest =>
                            clear Pc0 Pc1 Pc2 hpk3
                            obtain ⟨bx, rfl, rfl, hbx, HBx, D0⟩ := hcut
                            obtain ⟨w20, rfl⟩ : ∃ w20 : World, w20 = wc := ⟨_, rfl⟩
                            have hpk20 := Lib.hid (keepc HBx.out hpk2.out)
                            have HX20 := Lib.hid (HXc.out.below HBx.out)
                            have hz1 := X2.out.lt
                            have hz2 : gb < wr.heap.size := cell_block hpk2.out
                            have hb20 := HBx.out
                            have hne1 : bx ≠ w.heap.size := by omega
                            have hne2 : bx ≠ gb := by omega
                            have P21 := Lib.hid (X2.out.below hb20)
                            have B21 := Lib.hid (bel_trans HB.out hb20)
                            clear X2 HB hb20
                            clear HBx
                            have hz3 := D0.out.lt
                            have hz4 := P21.out.lt
                            have hz5 : gb < w20.heap.size := cell_block hpk20.out
                            have HPk := Lib.hid (P21.out.alloc (.cells #[.int .i64 0, .int .i64 0, .bool false, .bool false, .bool false, .bool false, .bool false, .int .i64 0, .int .i64 0] 33))
                            have pc0 := HPk.out.get 0 (.slice f l c) rfl
                            go_wp2_with fail
                            refine (HM.out _).mono ?_
                            rintro e w23 ⟨rfl, hb23⟩
                            have P24 := Lib.hid ((P21.out.alloc (.cells #[.int .i64 0, .int .i64 0, .bool false, .bool false, .bool false, .bool false, .bool false, .int .i64 0, .int .i64 0] 33)).below hb23)
                            have D24 := Lib.hid ((D0.out.alloc (.cells #[.int .i64 0, .int .i64 0, .bool false, .bool false, .bool false, .bool false, .bool false, .int .i64 0, .int .i64 0] 33)).below hb23)
                            have Z24 := Lib.hid ((BoxAt.newAt _ #[.int .i64 0, .int .i64 0, .bool false, .bool false, .bool false, .bool false, .bool false, .int .i64 0, .int .i64 0] 33 (w20.heap.size) (by first | rfl | (simp; done) | (simp; omega))).below hb23)
                            have B24 := Lib.hid (bel_trans (bel_alloc B21.out (.cells #[.int .i64 0, .int .i64 0, .bool false, .bool false, .bool false, .bool false, .bool false, .int .i64 0, .int .i64 0] 33)) hb23)
                            clear pc0
                            clear P21 D0 B21 hb23
                            clear HPk
                            go_wp2_with fail
                            refine (HPL.out _).mono ?_
                            rintro e w25 ⟨rfl, rfl⟩
                            have Dc0 := D24.out.get 0 (.int .i64 0) rfl
                            have Dc1 := D24.out.get 1 (.int .i64 0) rfl
                            have Dc2 := D24.out.get 2 (.bool false) rfl
                            have Dc3 := D24.out.get 3 (.bool false) rfl
                            have Dc4 := D24.out.get 4 (.bool false) rfl
                            have Dc5 := D24.out.get 5 (.bool false) rfl
                            have Dc6 := D24.out.get 6 (.bool false) rfl
                            have Dc7 := D24.out.get 7 (.int .i64 0) rfl
                            have Dc8 := D24.out.get 8 (.int .i64 0) rfl
                            have Zc0 := Z24.out.get 0 (.int .i64 0) rfl
                            have Zc1 := Z24.out.get 1 (.int .i64 0) rfl
                            have Zc2 := Z24.out.get 2 (.bool false) rfl
                            have Zc3 := Z24.out.get 3 (.bool false) rfl
                            have Zc4 := Z24.out.get 4 (.bool false) rfl
                            have Zc5 := Z24.out.get 5 (.bool false) rfl
                            have Zc6 := Z24.out.get 6 (.bool false) rfl
                            have Zc7 := Z24.out.get 7 (.int .i64 0) rfl
                            have Zc8 := Z24.out.get 8 (.int .i64 0) rfl
                            go_wp2_with (first | (go_at_call 15; refine (lnum5_any _ _).mono ?_; rintro e w40 ⟨rfl, rfl⟩))
                            go_roundw
                            case rel => exact ⟨1 + 1, by decide, by decide, rfl, B24.out⟩
                            case measure => (simp [intOf] <;> omega)
                        · have HA := tableA_page (l := l) (X := X) (st := st) (lv := lv) (fr := fx) hm
                          simp only [HA] at HT
                          rw [dsc_dz] at HT
                          rw [hm] at HPG
                          clear HA
                          rw [hmm] at HM
                          rw [hpp] at HPL
                          clear hm
                          clear hmm hpp
                          subst hk1
                          have e6 : ((1 : Int) == 1) = true := rfl
                          rw [if_pos rfl] at hfx
                          have HFX := Lib.hid hfx
                          clear hfx
                          have j1 : IntKind.i64.wrap ((k : Int) * 7) = (k : Int) * 7 := IntWalk.i64_in _ (by omega)
                          have j2 : IntKind.i64.wrap ((k : Int) * 7 + lv) = (k : Int) * 7 + lv := IntWalk.i64_in _ (by omega)
                          rw [← HFX.out] at HWi
                          have Pc0 := X2.out.get 0 (.slice f l c) rfl
                          have Pc1 := X2.out.get 1 (.int .i64 fr) rfl
                          have Pc2 := X2.out.get 2 (.slice (some ⟨gb, go, none⟩) n d) rfl
                          go_wp2_with fail
                          refine (HWi.out _).mono ?_
                          rintro e w9 ⟨rfl, rfl⟩
                          have hpk3 := hpk2.out
                          have hneP : w.heap.size ≠ wr.heap.size := Nat.ne_of_lt X2.out.lt
                          have hneG : gb ≠ wr.heap.size := Nat.ne_of_lt (cell_block hpk2.out)
                          go_upto_region 18 with fail
                          go_cut [8, 9] (fun s8 s9 wx => ∃ bx : Nat, s8 = .pointer (some ⟨bx, 0, none⟩) ∧ s9 = .int .i64 1 ∧ wr.heap.size ≤ bx ∧ Hid (Below wr.heap.size wr wx) ∧ Hid (BoxAt wx bx #[.int .i64 0, .int .i64 0, .bool false, .bool false, .bool false, .bool false, .bool false, .int .i64 0, .int .i64 0] 33))
                          case first =>
                            go_region_held3 (fun w' => w'.cell? ⟨w.heap.size, 0, none⟩ = some (.slice f l c) ∧ w'.cell? ⟨w.heap.size, 2, none⟩ = some (.slice (some ⟨gb, go, none⟩) n d) ∧ w'.cell? ⟨gb, go + k, none⟩ = some (.int .i64 pg))
                              (refine ⟨?_, ?_, ?_⟩ <;> (repeat (first | with_reducible assumption | with_reducible refine cell_keep ?_ _ | with_reducible refine cell_drew ?_ | with_reducible refine cell_set _ hneP ?_ | with_reducible refine cell_set _ hneG ?_ | refine keepc hb20 ?_)))
                              ((go_at_call 8; refine (HT.out _ (HXc.out.below (by go_grown))).mono ?_; rintro e w20 ⟨rfl, hb20⟩; have qc0 := qcell (b := wr.heap.size) hb20 0; have qf0 := qfree (b := wr.heap.size) hb20 0; have qc1 := qcell (b := wr.heap.size) hb20 1; have qf1 := qfree (b := wr.heap.size) hb20 1; have qc2 := qcell (b := wr.heap.size) hb20 2; have qf2 := qfree (b := wr.heap.size) hb20 2; have qc3 := qcell (b := wr.heap.size) hb20 3; have qf3 := qfree (b := wr.heap.size) hb20 3; have qc4 := qcell (b := wr.heap.size) hb20 4; have qf4 := qfree (b := wr.heap.size) hb20 4; have qc5 := qcell (b := wr.heap.size) hb20 5; have qf5 := qfree (b := wr.heap.size) hb20 5; have qc6 := qcell (b := wr.heap.size) hb20 6; have qf6 := qfree (b := wr.heap.size) hb20 6; have qc7 := qcell (b := wr.heap.size) hb20 7; have qf7 := qfree (b := wr.heap.size) hb20 7; have qc8 := qcell (b := wr.heap.size) hb20 8; have qf8 := qfree (b := wr.heap.size) hb20 8))
                            · clear qc0 qf0 qc1 qf1 qc2 qf2 qc3 qf3 qc4 qf4 qc5 qf5 qc6 qf6 qc7 qf7 qc8 qf8
                              have HBq := Lib.hid (bel_trans (Below.drew (Below.refl wr.heap.size wr)) hb20)
                              have hsz := HBq.out.size
                              clear hb20
                              go_wp2_with fail
                              go_meet
                              exact ⟨w20.heap.size, rfl, rfl, hsz, bel_alloc HBq.out _, BoxAt.newAt _ _ _ _ rfl⟩
                            · have HBq := Lib.hid (bel_trans (Below.drew (bel_alloc (Below.refl wr.heap.size wr) (.cells #[.int .i64 0, .int .i64 0, .bool false, .bool false, .bool false, .bool false, .bool false, .int .i64 0, .int .i64 0] 33))) hb20)
                              go_wp2_with fail
                              go_meet
                              exact ⟨wr.heap.size, rfl, rfl, Nat.le_refl _, (Below.setCell (Below.setCell (Below.setCell (Below.setCell (Below.setCell (Below.setCell (Below.setCell (Below.setCell (Below.setCell HBq.out (p := ⟨wr.heap.size, 0, none⟩) (Nat.le_refl _) (.int .i64 0)) (p := ⟨wr.heap.size, 1, none⟩) (Nat.le_refl _) (.int .i64 0)) (p := ⟨wr.heap.size, 2, none⟩) (Nat.le_refl _) (.bool false)) (p := ⟨wr.heap.size, 3, none⟩) (Nat.le_refl _) (.bool false)) (p := ⟨wr.heap.size, 4, none⟩) (Nat.le_refl _) (.bool false)) (p := ⟨wr.heap.size, 5, none⟩) (Nat.le_refl _) (.bool false)) (p := ⟨wr.heap.size, 6, none⟩) (Nat.le_refl _) (.bool false)) (p := ⟨wr.heap.size, 7, none⟩) (Nat.le_refl _) (.int .i64 0)) (p := ⟨wr.heap.size, 8, none⟩) (Nat.le_refl _) (.int .i64 0)), (((((((((((BoxAt.new wr #[.int .i64 0, .int .i64 0, .bool false, .bool false, .bool false, .bool false, .bool false, .int .i64 0, .int .i64 0] 33).drew.below hb20).set 0 (.int .i64 0) #[.int .i64 0, .int .i64 0, .bool false, .bool false, .bool false, .bool false, .bool false, .int .i64 0, .int .i64 0] rfl).set 1 (.int .i64 0) #[.int .i64 0, .int .i64 0, .bool false, .bool false, .bool false, .bool false, .bool false, .int .i64 0, .int .i64 0] rfl).set 2 (.bool false) #[.int .i64 0, .int .i64 0, .bool false, .bool false, .bool false, .bool false, .bool false, .int .i64 0, .int .i64 0] rfl).set 3 (.bool false) #[.int .i64 0, .int .i64 0, .bool false, .bool false, .bool false, .bool false, .bool false, .int .i64 0, .int .i64 0] rfl).set 4 (.bool false) #[.int .i64 0, .int .i64 0, .bool false, .bool false, .bool false, .bool false, .bool false, .int .i64 0, .int .i64 0] rfl).set 5 (.bool false) #[.int .i64 0, .int .i64 0, .bool false, .bool false, .bool false, .bool false, .bool false, .int .i64 0, .int .i64 0] rfl).set 6 (.bool false) #[.int .i64 0, .int .i64 0, .bool false, .bool false, .bool false, .bool false, .bool false, .int .i64 0, .int .i64 0] rfl).set 7 (.int .i64 0) #[.int .i64 0, .int .i64 0, .bool false, .bool false, .bool false, .bool false, .bool false, .int .i64 0, .int .i64 0] rfl).set 8 (.int .i64 0) #[.int .i64 0, .int .i64 0, .bool false, .bool false, .bool false, .bool false, .bool false, .int .i64 0, .int .i64 0] rfl)⟩
                          case rest =>
                            clear Pc0 Pc1 Pc2 hpk3
                            obtain ⟨bx, rfl, rfl, hbx, HBx, D0⟩ := hcut
                            obtain ⟨w20, rfl⟩ : ∃ w20 : World, w20 = wc := ⟨_, rfl⟩
                            have hpk20 := Lib.hid (keepc HBx.out hpk2.out)
                            have HX20 := Lib.hid (HXc.out.below HBx.out)
                            have hz1 := X2.out.lt
                            have hz2 : gb < wr.heap.size := cell_block hpk2.out
                            have hb20 := HBx.out
                            have hne1 : bx ≠ w.heap.size := by omega
                            have hne2 : bx ≠ gb := by omega
                            have P21 := Lib.hid (X2.out.below hb20)
                            have B21 := Lib.hid (bel_trans HB.out hb20)
                            clear X2 HB hb20
                            clear HBx
                            have hz3 := D0.out.lt
                            have hz4 := P21.out.lt
                            have hz5 : gb < w20.heap.size := cell_block hpk20.out
                            have HPk := Lib.hid (P21.out.alloc (.cells #[.int .i64 0, .int .i64 0, .bool false, .bool false, .bool false, .bool false, .bool false, .int .i64 0, .int .i64 0] 33))
                            have pc0 := HPk.out.get 0 (.slice f l c) rfl
                            go_wp2_with fail
                            refine (HM.out _).mono ?_
                            rintro e w23 ⟨rfl, hb23⟩
                            have P24 := Lib.hid ((P21.out.alloc (.cells #[.int .i64 0, .int .i64 0, .bool false, .bool false, .bool false, .bool false, .bool false, .int .i64 0, .int .i64 0] 33)).below hb23)
                            have D24 := Lib.hid ((D0.out.alloc (.cells #[.int .i64 0, .int .i64 0, .bool false, .bool false, .bool false, .bool false, .bool false, .int .i64 0, .int .i64 0] 33)).below hb23)
                            have Z24 := Lib.hid ((BoxAt.newAt _ #[.int .i64 0, .int .i64 0, .bool false, .bool false, .bool false, .bool false, .bool false, .int .i64 0, .int .i64 0] 33 (w20.heap.size) (by first | rfl | (simp; done) | (simp; omega))).below hb23)
                            have B24 := Lib.hid (bel_trans (bel_alloc B21.out (.cells #[.int .i64 0, .int .i64 0, .bool false, .bool false, .bool false, .bool false, .bool false, .int .i64 0, .int .i64 0] 33)) hb23)
                            clear pc0
                            clear P21 D0 B21 hb23
                            clear HPk
                            go_wp2_with fail
                            refine (HPL.out _).mono ?_
                            rintro e w25 ⟨rfl, rfl⟩
                            have Pc0 := P24.out.get 0 (.slice f l c) rfl
                            have Pc2 := P24.out.get 2 (.slice (some ⟨gb, go, none⟩) n d) rfl
                            have hpk26 := keepc B24.out HPK.out
                            go_wp2_with fail
                            refine (HPG.out _).mono ?_
                            rintro e w27 ⟨rfl, rfl⟩
                            have Dc0 := D24.out.get 0 (.int .i64 0) rfl
                            have Dc1 := D24.out.get 1 (.int .i64 0) rfl
                            have Dc2 := D24.out.get 2 (.bool false) rfl
                            have Dc3 := D24.out.get 3 (.bool false) rfl
                            have Dc4 := D24.out.get 4 (.bool false) rfl
                            have Dc5 := D24.out.get 5 (.bool false) rfl
                            have Dc6 := D24.out.get 6 (.bool false) rfl
                            have Dc7 := D24.out.get 7 (.int .i64 0) rfl
                            have Dc8 := D24.out.get 8 (.int .i64 0) rfl
                            have Zc0 := Z24.out.get 0 (.int .i64 0) rfl
                            have Zc1 := Z24.out.get 1 (.int .i64 0) rfl
                            have Zc2 := Z24.out.get 2 (.bool false) rfl
                            have Zc3 := Z24.out.get 3 (.bool false) rfl
                            have Zc4 := Z24.out.get 4 (.bool false) rfl
                            have Zc5 := Z24.out.get 5 (.bool false) rfl
                            have Zc6 := Z24.out.get 6 (.bool false) rfl
                            have Zc7 := Z24.out.get 7 (.int .i64 0) rfl
                            have Zc8 := Z24.out.get 8 (.int .i64 0) rfl
                            go_wp2_with (first | (go_at_call 15; refine (lnum5_any _ _).mono ?_; rintro e w40 ⟨rfl, rfl⟩))
                            go_roundw
                            case rel => exact ⟨1 + 1, by decide, by decide, rfl, B24.out⟩
                            case measure => (simp [intOf] <;> omega)
                    · cases hmm : okM l
                      · have HA := tableA_page (l := l) (X := X) (st := st) (lv := lv) (fr := fx) hm
                        simp only [HA] at HT
                        rw [dsc_dz] at HT
                        rw [hm] at HPG
                        clear HA
                        rw [hmm] at HM
                        clear hm
                        clear hmm
                        obtain rfl : kk = 0 := by omega
                        clear hk1
                        have e6 : ((0 : Int) == 1) = false := rfl
                        rw [if_neg (by decide)] at hfx
                        have hfy := hfx.symm
                        clear hfx
                        subst hfy
                        have Pc0 := X2.out.get 0 (.slice f l c) rfl
                        have Pc1 := X2.out.get 1 (.int .i64 fr) rfl
                        have Pc2 := X2.out.get 2 (.slice (some ⟨gb, go, none⟩) n d) rfl
                        have hpk3 := hpk2.out
                        have hneP : w.heap.size ≠ wr.heap.size := Nat.ne_of_lt X2.out.lt
                        have hneG : gb ≠ wr.heap.size := Nat.ne_of_lt (cell_block hpk2.out)
                        go_upto_region 18 with fail
                        go_cut [8, 9] (fun s8 s9 wx => ∃ bx : Nat, s8 = .pointer (some ⟨bx, 0, none⟩) ∧ s9 = .int .i64 1 ∧ wr.heap.size ≤ bx ∧ Hid (Below wr.heap.size wr wx) ∧ Hid (BoxAt wx bx #[.int .i64 0, .int .i64 0, .bool false, .bool false, .bool false, .bool false, .bool false, .int .i64 0, .int .i64 0] 33))
                        case first =>
                          go_region_held3 (fun w' => w'.cell? ⟨w.heap.size, 0, none⟩ = some (.slice f l c) ∧ w'.cell? ⟨w.heap.size, 2, none⟩ = some (.slice (some ⟨gb, go, none⟩) n d) ∧ w'.cell? ⟨gb, go + k, none⟩ = some (.int .i64 pg))
                            (refine ⟨?_, ?_, ?_⟩ <;> (repeat (first | with_reducible assumption | with_reducible refine cell_keep ?_ _ | with_reducible refine cell_drew ?_ | with_reducible refine cell_set _ hneP ?_ | with_reducible refine cell_set _ hneG ?_ | refine keepc hb20 ?_)))
                            ((go_at_call 8; refine (HT.out _ (HXc.out.below (by go_grown))).mono ?_; rintro e w20 ⟨rfl, hb20⟩; have qc0 := qcell (b := wr.heap.size) hb20 0; have qf0 := qfree (b := wr.heap.size) hb20 0; have qc1 := qcell (b := wr.heap.size) hb20 1; have qf1 := qfree (b := wr.heap.size) hb20 1; have qc2 := qcell (b := wr.heap.size) hb20 2; have qf2 := qfree (b := wr.heap.size) hb20 2; have qc3 := qcell (b := wr.heap.size) hb20 3; have qf3 := qfree (b := wr.heap.size) hb20 3; have qc4 := qcell (b := wr.heap.size) hb20 4; have qf4 := qfree (b := wr.heap.size) hb20 4; have qc5 := qcell (b := wr.heap.size) hb20 5; have qf5 := qfree (b := wr.heap.size) hb20 5; have qc6 := qcell (b := wr.heap.size) hb20 6; have qf6 := qfree (b := wr.heap.size) hb20 6; have qc7 := qcell (b := wr.heap.size) hb20 7; have qf7 := qfree (b := wr.heap.size) hb20 7; have qc8 := qcell (b := wr.heap.size) hb20 8; have qf8 := qfree (b := wr.heap.size) hb20 8))
                          · clear qc0 qf0 qc1 qf1 qc2 qf2 qc3 qf3 qc4 qf4 qc5 qf5 qc6 qf6 qc7 qf7 qc8 qf8
                            have HBq := Lib.hid (bel_trans (Below.drew (Below.refl wr.heap.size wr)) hb20)
                            have hsz := HBq.out.size
                            clear hb20
                            go_wp2_with fail
                            go_meet
                            exact ⟨w20.heap.size, rfl, rfl, hsz, bel_alloc HBq.out _, BoxAt.newAt _ _ _ _ rfl⟩
                          · have HBq := Lib.hid (bel_trans (Below.drew (bel_alloc (Below.refl wr.heap.size wr) (.cells #[.int .i64 0, .int .i64 0, .bool false, .bool false, .bool false, .bool false, .bool false, .int .i64 0, .int .i64 0] 33))) hb20)
                            go_wp2_with fail
                            go_meet
                            exact ⟨wr.heap.size, rfl, rfl, Nat.le_refl _, (Below.setCell (Below.setCell (Below.setCell (Below.setCell (Below.setCell (Below.setCell (Below.setCell (Below.setCell (Below.setCell HBq.out (p := ⟨wr.heap.size, 0, none⟩) (Nat.le_refl _) (.int .i64 0)) (p := ⟨wr.heap.size, 1, none⟩) (Nat.le_refl _) (.int .i64 0)) (p := ⟨wr.heap.size, 2, none⟩) (Nat.le_refl _) (.bool false)) (p := ⟨wr.heap.size, 3, none⟩) (Nat.le_refl _) (.bool false)) (p := ⟨wr.heap.size, 4, none⟩) (Nat.le_refl _) (.bool false)) (p := ⟨wr.heap.size, 5, none⟩) (Nat.le_refl _) (.bool false)) (p := ⟨wr.heap.size, 6, none⟩) (Nat.le_refl _) (.bool false)) (p := ⟨wr.heap.size, 7, none⟩) (Nat.le_refl _) (.int .i64 0)) (p := ⟨wr.heap.size, 8, none⟩) (Nat.le_refl _) (.int .i64 0)), (((((((((((BoxAt.new wr #[.int .i64 0, .int .i64 0, .bool false, .bool false, .bool false, .bool false, .bool false, .int .i64 0, .int .i64 0] 33).drew.below hb20).set 0 (.int .i64 0) #[.int .i64 0, .int .i64 0, .bool false, .bool false, .bool false, .bool false, .bool false, .int .i64 0, .int .i64 0] rfl).set 1 (.int .i64 0) #[.int .i64 0, .int .i64 0, .bool false, .bool false, .bool false, .bool false, .bool false, .int .i64 0, .int .i64 0] rfl).set 2 (.bool false) #[.int .i64 0, .int .i64 0, .bool false, .bool false, .bool false, .bool false, .bool false, .int .i64 0, .int .i64 0] rfl).set 3 (.bool false) #[.int .i64 0, .int .i64 0, .bool false, .bool false, .bool false, .bool false, .bool false, .int .i64 0, .int .i64 0] rfl).set 4 (.bool false) #[.int .i64 0, .int .i64 0, .bool false, .bool false, .bool false, .bool false, .bool false, .int .i64 0, .int .i64 0] rfl).set 5 (.bool false) #[.int .i64 0, .int .i64 0, .bool false, .bool false, .bool false, .bool false, .bool false, .int .i64 0, .int .i64 0] rfl).set 6 (.bool false) #[.int .i64 0, .int .i64 0, .bool false, .bool false, .bool false, .bool false, .bool false, .int .i64 0, .int .i64 0] rfl).set 7 (.int .i64 0) #[.int .i64 0, .int .i64 0, .bool false, .bool false, .bool false, .bool false, .bool false, .int .i64 0, .int .i64 0] rfl).set 8 (.int .i64 0) #[.int .i64 0, .int .i64 0, .bool false, .bool false, .bool false, .bool false, .bool false, .int .i64 0, .int .i64 0] rfl)⟩
                        case rest =>
                          clear Pc0 Pc1 Pc2 hpk3
                          obtain ⟨bx, rfl, rfl, hbx, HBx, D0⟩ := hcut
                          obtain ⟨w20, rfl⟩ : ∃ w20 : World, w20 = wc := ⟨_, rfl⟩
                          have hpk20 := Lib.hid (keepc HBx.out hpk2.out)
                          have HX20 := Lib.hid (HXc.out.below HBx.out)
                          have hz1 := X2.out.lt
                          have hz2 : gb < wr.heap.size := cell_block hpk2.out
                          have hb20 := HBx.out
                          have hne1 : bx ≠ w.heap.size := by omega
                          have hne2 : bx ≠ gb := by omega
                          have P21 := Lib.hid (X2.out.below hb20)
                          have B21 := Lib.hid (bel_trans HB.out hb20)
                          clear X2 HB hb20
                          clear HBx
                          have hz3 := D0.out.lt
                          have hz4 := P21.out.lt
                          have hz5 : gb < w20.heap.size := cell_block hpk20.out
                          have HPk := Lib.hid (P21.out.alloc (.cells #[.int .i64 0, .int .i64 0, .bool false, .bool false, .bool false, .bool false, .bool false, .int .i64 0, .int .i64 0] 33))
                          have pc0 := HPk.out.get 0 (.slice f l c) rfl
                          go_wp2_with fail
                          refine (HM.out _).mono ?_
                          rintro e w23 ⟨rfl, hb23⟩
                          have P24 := Lib.hid ((P21.out.alloc (.cells #[.int .i64 0, .int .i64 0, .bool false, .bool false, .bool false, .bool false, .bool false, .int .i64 0, .int .i64 0] 33)).below hb23)
                          have D24 := Lib.hid ((D0.out.alloc (.cells #[.int .i64 0, .int .i64 0, .bool false, .bool false, .bool false, .bool false, .bool false, .int .i64 0, .int .i64 0] 33)).below hb23)
                          have Z24 := Lib.hid ((BoxAt.newAt _ #[.int .i64 0, .int .i64 0, .bool false, .bool false, .bool false, .bool false, .bool false, .int .i64 0, .int .i64 0] 33 (w20.heap.size) (by first | rfl | (simp; done) | (simp; omega))).below hb23)
                          have B24 := Lib.hid (bel_trans (bel_alloc B21.out (.cells #[.int .i64 0, .int .i64 0, .bool false, .bool false, .bool false, .bool false, .bool false, .int .i64 0, .int .i64 0] 33)) hb23)
                          clear pc0
                          clear P21 D0 B21 hb23
                          clear HPk
                          have Dc0 := D24.out.get 0 (.int .i64 0) rfl
                          have Dc1 := D24.out.get 1 (.int .i64 0) rfl
                          have Dc2 := D24.out.get 2 (.bool false) rfl
                          have Dc3 := D24.out.get 3 (.bool false) rfl
                          have Dc4 := D24.out.get 4 (.bool false) rfl
                          have Dc5 := D24.out.get 5 (.bool false) rfl
                          have Dc6 := D24.out.get 6 (.bool false) rfl
                          have Dc7 := D24.out.get 7 (.int .i64 0) rfl
                          have Dc8 := D24.out.get 8 (.int .i64 0) rfl
                          have Zc0 := Z24.out.get 0 (.int .i64 0) rfl
                          have Zc1 := Z24.out.get 1 (.int .i64 0) rfl
                          have Zc2 := Z24.out.get 2 (.bool false) rfl
                          have Zc3 := Z24.out.get 3 (.bool false) rfl
                          have Zc4 := Z24.out.get 4 (.bool false) rfl
                          have Zc5 := Z24.out.get 5 (.bool false) rfl
                          have Zc6 := Z24.out.get 6 (.bool false) rfl
                          have Zc7 := Z24.out.get 7 (.int .i64 0) rfl
                          have Zc8 := Z24.out.get 8 (.int .i64 0) rfl
                          go_wp2_with (first | (go_at_call 15; refine (lnum5_any _ _).mono ?_; rintro e w40 ⟨rfl, rfl⟩))
                          go_roundw
                          case rel => exact ⟨0 + 1, by decide, by decide, rfl, B24.out⟩
                          case measure => (simp [intOf] <;> omega)
                      · cases hpp : placeB st lv
                        · have HA := tableA_page (l := l) (X := X) (st := st) (lv := lv) (fr := fx) hm
                          simp only [HA] at HT
                          rw [dsc_dz] at HT
                          rw [hm] at HPG
                          clear HA
                          rw [hmm] at HM
                          rw [hpp] at HPL
                          clear hm
                          clear hmm hpp
                          obtain rfl : kk = 0 := by omega
                          clear hk1
                          have e6 : ((0 : Int) == 1) = false := rfl
                          rw [if_neg (by decide)] at hfx
                          have hfy := hfx.symm
                          clear hfx
                          subst hfy
                          have Pc0 := X2.out.get 0 (.slice f l c) rfl
                          have Pc1 := X2.out.get 1 (.int .i64 fr) rfl
                          have Pc2 := X2.out.get 2 (.slice (some ⟨gb, go, none⟩) n d) rfl
                          have hpk3 := hpk2.out
                          have hneP : w.heap.size ≠ wr.heap.size := Nat.ne_of_lt X2.out.lt
                          have hneG : gb ≠ wr.heap.size := Nat.ne_of_lt (cell_block hpk2.out)
                          go_upto_region 18 with fail
                          go_cut [8, 9] (fun s8 s9 wx => ∃ bx : Nat, s8 = .pointer (some ⟨bx, 0, none⟩) ∧ s9 = .int .i64 1 ∧ wr.heap.size ≤ bx ∧ Hid (Below wr.heap.size wr wx) ∧ Hid (BoxAt wx bx #[.int .i64 0, .int .i64 0, .bool false, .bool false, .bool false, .bool false, .bool false, .int .i64 0, .int .i64 0] 33))
                          case first =>
                            go_region_held3 (fun w' => w'.cell? ⟨w.heap.size, 0, none⟩ = some (.slice f l c) ∧ w'.cell? ⟨w.heap.size, 2, none⟩ = some (.slice (some ⟨gb, go, none⟩) n d) ∧ w'.cell? ⟨gb, go + k, none⟩ = some (.int .i64 pg))
                              (refine ⟨?_, ?_, ?_⟩ <;> (repeat (first | with_reducible assumption | with_reducible refine cell_keep ?_ _ | with_reducible refine cell_drew ?_ | with_reducible refine cell_set _ hneP ?_ | with_reducible refine cell_set _ hneG ?_ | refine keepc hb20 ?_)))
                              ((go_at_call 8; refine (HT.out _ (HXc.out.below (by go_grown))).mono ?_; rintro e w20 ⟨rfl, hb20⟩; have qc0 := qcell (b := wr.heap.size) hb20 0; have qf0 := qfree (b := wr.heap.size) hb20 0; have qc1 := qcell (b := wr.heap.size) hb20 1; have qf1 := qfree (b := wr.heap.size) hb20 1; have qc2 := qcell (b := wr.heap.size) hb20 2; have qf2 := qfree (b := wr.heap.size) hb20 2; have qc3 := qcell (b := wr.heap.size) hb20 3; have qf3 := qfree (b := wr.heap.size) hb20 3; have qc4 := qcell (b := wr.heap.size) hb20 4; have qf4 := qfree (b := wr.heap.size) hb20 4; have qc5 := qcell (b := wr.heap.size) hb20 5; have qf5 := qfree (b := wr.heap.size) hb20 5; have qc6 := qcell (b := wr.heap.size) hb20 6; have qf6 := qfree (b := wr.heap.size) hb20 6; have qc7 := qcell (b := wr.heap.size) hb20 7; have qf7 := qfree (b := wr.heap.size) hb20 7; have qc8 := qcell (b := wr.heap.size) hb20 8; have qf8 := qfree (b := wr.heap.size) hb20 8))
                            · clear qc0 qf0 qc1 qf1 qc2 qf2 qc3 qf3 qc4 qf4 qc5 qf5 qc6 qf6 qc7 qf7 qc8 qf8
                              have HBq := Lib.hid (bel_trans (Below.drew (Below.refl wr.heap.size wr)) hb20)
                              have hsz := HBq.out.size
                              clear hb20
                              go_wp2_with fail
                              go_meet
                              exact ⟨w20.heap.size, rfl, rfl, hsz, bel_alloc HBq.out _, BoxAt.newAt _ _ _ _ rfl⟩
                            · have HBq := Lib.hid (bel_trans (Below.drew (bel_alloc (Below.refl wr.heap.size wr) (.cells #[.int .i64 0, .int .i64 0, .bool false, .bool false, .bool false, .bool false, .bool false, .int .i64 0, .int .i64 0] 33))) hb20)
                              go_wp2_with fail
                              go_meet
                              exact ⟨wr.heap.size, rfl, rfl, Nat.le_refl _, (Below.setCell (Below.setCell (Below.setCell (Below.setCell (Below.setCell (Below.setCell (Below.setCell (Below.setCell (Below.setCell HBq.out (p := ⟨wr.heap.size, 0, none⟩) (Nat.le_refl _) (.int .i64 0)) (p := ⟨wr.heap.size, 1, none⟩) (Nat.le_refl _) (.int .i64 0)) (p := ⟨wr.heap.size, 2, none⟩) (Nat.le_refl _) (.bool false)) (p := ⟨wr.heap.size, 3, none⟩) (Nat.le_refl _) (.bool false)) (p := ⟨wr.heap.size, 4, none⟩) (Nat.le_refl _) (.bool false)) (p := ⟨wr.heap.size, 5, none⟩) (Nat.le_refl _) (.bool false)) (p := ⟨wr.heap.size, 6, none⟩) (Nat.le_refl _) (.bool false)) (p := ⟨wr.heap.size, 7, none⟩) (Nat.le_refl _) (.int .i64 0)) (p := ⟨wr.heap.size, 8, none⟩) (Nat.le_refl _) (.int .i64 0)), (((((((((((BoxAt.new wr #[.int .i64 0, .int .i64 0, .bool false, .bool false, .bool false, .bool false, .bool false, .int .i64 0, .int .i64 0] 33).drew.below hb20).set 0 (.int .i64 0) #[.int .i64 0, .int .i64 0, .bool false, .bool false, .bool false, .bool false, .bool false, .int .i64 0, .int .i64 0] rfl).set 1 (.int .i64 0) #[.int .i64 0, .int .i64 0, .bool false, .bool false, .bool false, .bool false, .bool false, .int .i64 0, .int .i64 0] rfl).set 2 (.bool false) #[.int .i64 0, .int .i64 0, .bool false, .bool false, .bool false, .bool false, .bool false, .int .i64 0, .int .i64 0] rfl).set 3 (.bool false) #[.int .i64 0, .int .i64 0, .bool false, .bool false, .bool false, .bool false, .bool false, .int .i64 0, .int .i64 0] rfl).set 4 (.bool false) #[.int .i64 0, .int .i64 0, .bool false, .bool false, .bool false, .bool false, .bool false, .int .i64 0, .int .i64 0] rfl).set 5 (.bool false) #[.int .i64 0, .int .i64 0, .bool false, .bool false, .bool false, .bool false, .bool false, .int .i64 0, .int .i64 0] rfl).set 6 (.bool false) #[.int .i64 0, .int .i64 0, .bool false, .bool false, .bool false, .bool false, .bool false, .int .i64 0, .int .i64 0] rfl).set 7 (.int .i64 0) #[.int .i64 0, .int .i64 0, .bool false, .bool false, .bool false, .bool false, .bool false, .int .i64 0, .int .i64 0] rfl).set 8 (.int .i64 0) #[.int .i64 0, .int .i64 0, .bool false, .bool false, .bool false, .bool false, .bool false, .int .i64 0, .int .i64 0] rfl)⟩
                          case rest =>
                            clear Pc0 Pc1 Pc2 hpk3
                            obtain ⟨bx, rfl, rfl, hbx, HBx, D0⟩ := hcut
                            obtain ⟨w20, rfl⟩ : ∃ w20 : World, w20 = wc := ⟨_, rfl⟩
                            have hpk20 := Lib.hid (keepc HBx.out hpk2.out)
                            have HX20 := Lib.hid (HXc.out.below HBx.out)
                            have hz1 := X2.out.lt
                            have hz2 : gb < wr.heap.size := cell_block hpk2.out
                            have hb20 := HBx.out
                            have hne1 : bx ≠ w.heap.size := by omega
                            have hne2 : bx ≠ gb := by omega
                            have P21 := Lib.hid (X2.out.below hb20)
                            have B21 := Lib.hid (bel_trans HB.out hb20)
                            clear X2 HB hb20
                            clear HBx
                            have hz3 := D0.out.lt
                            have hz4 := P21.out.lt
                            have hz5 : gb < w20.heap.size := cell_block hpk20.out
                            have HPk := Lib.hid (P21.out.alloc (.cells #[.int .i64 0, .int .i64 0, .bool false, .bool false, .bool false, .bool false, .bool false, .int .i64 0, .int .i64 0] 33))
                            have pc0 := HPk.out.get 0 (.slice f l c) rfl
                            go_wp2_with fail
                            refine (HM.out _).mono ?_
                            rintro e w23 ⟨rfl, hb23⟩
                            have P24 := Lib.hid ((P21.out.alloc (.cells #[.int .i64 0, .int .i64 0, .bool false, .bool false, .bool false, .bool false, .bool false, .int .i64 0, .int .i64 0] 33)).below hb23)
                            have D24 := Lib.hid ((D0.out.alloc (.cells #[.int .i64 0, .int .i64 0, .bool false, .bool false, .bool false, .bool false, .bool false, .int .i64 0, .int .i64 0] 33)).below hb23)
                            have Z24 := Lib.hid ((BoxAt.newAt _ #[.int .i64 0, .int .i64 0, .bool false, .bool false, .bool false, .bool false, .bool false, .int .i64 0, .int .i64 0] 33 (w20.heap.size) (by first | rfl | (simp; done) | (simp; omega))).below hb23)
                            have B24 := Lib.hid (bel_trans (bel_alloc B21.out (.cells #[.int .i64 0, .int .i64 0, .bool false, .bool false, .bool false, .bool false, .bool false, .int .i64 0, .int .i64 0] 33)) hb23)
                            clear pc0
                            clear P21 D0 B21 hb23
                            clear HPk
                            go_wp2_with fail
                            refine (HPL.out _).mono ?_
                            rintro e w25 ⟨rfl, rfl⟩
                            have Dc0 := D24.out.get 0 (.int .i64 0) rfl
                            have Dc1 := D24.out.get 1 (.int .i64 0) rfl
                            have Dc2 := D24.out.get 2 (.bool false) rfl
                            have Dc3 := D24.out.get 3 (.bool false) rfl
                            have Dc4 := D24.out.get 4 (.bool false) rfl
                            have Dc5 := D24.out.get 5 (.bool false) rfl
                            have Dc6 := D24.out.get 6 (.bool false) rfl
                            have Dc7 := D24.out.get 7 (.int .i64 0) rfl
                            have Dc8 := D24.out.get 8 (.int .i64 0) rfl
                            have Zc0 := Z24.out.get 0 (.int .i64 0) rfl
                            have Zc1 := Z24.out.get 1 (.int .i64 0) rfl
                            have Zc2 := Z24.out.get 2 (.bool false) rfl
                            have Zc3 := Z24.out.get 3 (.bool false) rfl
                            have Zc4 := Z24.out.get 4 (.bool false) rfl
                            have Zc5 := Z24.out.get 5 (.bool false) rfl
                            have Zc6 := Z24.out.get 6 (.bool false) rfl
                            have Zc7 := Z24.out.get 7 (.int .i64 0) rfl
                            have Zc8 := Z24.out.get 8 (.int .i64 0) rfl
                            go_wp2_with (first | (go_at_call 15; refine (lnum5_any _ _).mono ?_; rintro e w40 ⟨rfl, rfl⟩))
                            go_roundw
                            case rel => exact ⟨0 + 1, by decide, by decide, rfl, B24.out⟩
                            case measure => (simp [intOf] <;> omega)
                        · have HA := tableA_page (l := l) (X := X) (st := st) (lv := lv) (fr := fx) hm
                          simp only [HA] at HT
                          rw [dsc_dz] at HT
                          rw [hm] at HPG
                          clear HA
                          rw [hmm] at HM
                          rw [hpp] at HPL
                          clear hm
                          clear hmm hpp
                          obtain rfl : kk = 0 := by omega
                          clear hk1
                          have e6 : ((0 : Int) == 1) = false := rfl
                          rw [if_neg (by decide)] at hfx
                          have hfy := hfx.symm
                          clear hfx
                          subst hfy
                          have Pc0 := X2.out.get 0 (.slice f l c) rfl
                          have Pc1 := X2.out.get 1 (.int .i64 fr) rfl
                          have Pc2 := X2.out.get 2 (.slice (some ⟨gb, go, none⟩) n d) rfl
                          have hpk3 := hpk2.out
                          have hneP : w.heap.size ≠ wr.heap.size := Nat.ne_of_lt X2.out.lt
                          have hneG : gb ≠ wr.heap.size := Nat.ne_of_lt (cell_block hpk2.out)
                          go_upto_region 18 with fail
                          go_cut [8, 9] (fun s8 s9 wx => ∃ bx : Nat, s8 = .pointer (some ⟨bx, 0, none⟩) ∧ s9 = .int .i64 1 ∧ wr.heap.size ≤ bx ∧ Hid (Below wr.heap.size wr wx) ∧ Hid (BoxAt wx bx #[.int .i64 0, .int .i64 0, .bool false, .bool false, .bool false, .bool false, .bool false, .int .i64 0, .int .i64 0] 33))
                          case first =>
                            go_region_held3 (fun w' => w'.cell? ⟨w.heap.size, 0, none⟩ = some (.slice f l c) ∧ w'.cell? ⟨w.heap.size, 2, none⟩ = some (.slice (some ⟨gb, go, none⟩) n d) ∧ w'.cell? ⟨gb, go + k, none⟩ = some (.int .i64 pg))
                              (refine ⟨?_, ?_, ?_⟩ <;> (repeat (first | with_reducible assumption | with_reducible refine cell_keep ?_ _ | with_reducible refine cell_drew ?_ | with_reducible refine cell_set _ hneP ?_ | with_reducible refine cell_set _ hneG ?_ | refine keepc hb20 ?_)))
                              ((go_at_call 8; refine (HT.out _ (HXc.out.below (by go_grown))).mono ?_; rintro e w20 ⟨rfl, hb20⟩; have qc0 := qcell (b := wr.heap.size) hb20 0; have qf0 := qfree (b := wr.heap.size) hb20 0; have qc1 := qcell (b := wr.heap.size) hb20 1; have qf1 := qfree (b := wr.heap.size) hb20 1; have qc2 := qcell (b := wr.heap.size) hb20 2; have qf2 := qfree (b := wr.heap.size) hb20 2; have qc3 := qcell (b := wr.heap.size) hb20 3; have qf3 := qfree (b := wr.heap.size) hb20 3; have qc4 := qcell (b := wr.heap.size) hb20 4; have qf4 := qfree (b := wr.heap.size) hb20 4; have qc5 := qcell (b := wr.heap.size) hb20 5; have qf5 := qfree (b := wr.heap.size) hb20 5; have qc6 := qcell (b := wr.heap.size) hb20 6; have qf6 := qfree (b := wr.heap.size) hb20 6; have qc7 := qcell (b := wr.heap.size) hb20 7; have qf7 := qfree (b := wr.heap.size) hb20 7; have qc8 := qcell (b := wr.heap.size) hb20 8; have qf8 := qfree (b := wr.heap.size) hb20 8))
                            · clear qc0 qf0 qc1 qf1 qc2 qf2 qc3 qf3 qc4 qf4 qc5 qf5 qc6 qf6 qc7 qf7 qc8 qf8
                              have HBq := Lib.hid (bel_trans (Below.drew (Below.refl wr.heap.size wr)) hb20)
                              have hsz := HBq.out.size
                              clear hb20
                              go_wp2_with fail
                              go_meet
                              exact ⟨w20.heap.size, rfl, rfl, hsz, bel_alloc HBq.out _, BoxAt.newAt _ _ _ _ rfl⟩
                            · have HBq := Lib.hid (bel_trans (Below.drew (bel_alloc (Below.refl wr.heap.size wr) (.cells #[.int .i64 0, .int .i64 0, .bool false, .bool false, .bool false, .bool false, .bool false, .int .i64 0, .int .i64 0] 33))) hb20)
                              go_wp2_with fail
                              go_meet
                              exact ⟨wr.heap.size, rfl, rfl, Nat.le_refl _, (Below.setCell (Below.setCell (Below.setCell (Below.setCell (Below.setCell (Below.setCell (Below.setCell (Below.setCell (Below.setCell HBq.out (p := ⟨wr.heap.size, 0, none⟩) (Nat.le_refl _) (.int .i64 0)) (p := ⟨wr.heap.size, 1, none⟩) (Nat.le_refl _) (.int .i64 0)) (p := ⟨wr.heap.size, 2, none⟩) (Nat.le_refl _) (.bool false)) (p := ⟨wr.heap.size, 3, none⟩) (Nat.le_refl _) (.bool false)) (p := ⟨wr.heap.size, 4, none⟩) (Nat.le_refl _) (.bool false)) (p := ⟨wr.heap.size, 5, none⟩) (Nat.le_refl _) (.bool false)) (p := ⟨wr.heap.size, 6, none⟩) (Nat.le_refl _) (.bool false)) (p := ⟨wr.heap.size, 7, none⟩) (Nat.le_refl _) (.int .i64 0)) (p := ⟨wr.heap.size, 8, none⟩) (Nat.le_refl _) (.int .i64 0)), (((((((((((BoxAt.new wr #[.int .i64 0, .int .i64 0, .bool false, .bool false, .bool false, .bool false, .bool false, .int .i64 0, .int .i64 0] 33).drew.below hb20).set 0 (.int .i64 0) #[.int .i64 0, .int .i64 0, .bool false, .bool false, .bool false, .bool false, .bool false, .int .i64 0, .int .i64 0] rfl).set 1 (.int .i64 0) #[.int .i64 0, .int .i64 0, .bool false, .bool false, .bool false, .bool false, .bool false, .int .i64 0, .int .i64 0] rfl).set 2 (.bool false) #[.int .i64 0, .int .i64 0, .bool false, .bool false, .bool false, .bool false, .bool false, .int .i64 0, .int .i64 0] rfl).set 3 (.bool false) #[.int .i64 0, .int .i64 0, .bool false, .bool false, .bool false, .bool false, .bool false, .int .i64 0, .int .i64 0] rfl).set 4 (.bool false) #[.int .i64 0, .int .i64 0, .bool false, .bool false, .bool false, .bool false, .bool false, .int .i64 0, .int .i64 0] rfl).set 5 (.bool false) #[.int .i64 0, .int .i64 0, .bool false, .bool false, .bool false, .bool false, .bool false, .int .i64 0, .int .i64 0] rfl).set 6 (.bool false) #[.int .i64 0, .int .i64 0, .bool false, .bool false, .bool false, .bool false, .bool false, .int .i64 0, .int .i64 0] rfl).set 7 (.int .i64 0) #[.int .i64 0, .int .i64 0, .bool false, .bool false, .bool false, .bool false, .bool false, .int .i64 0, .int .i64 0] rfl).set 8 (.int .i64 0) #[.int .i64 0, .int .i64 0, .bool false, .bool false, .bool false, .bool false, .bool false, .int .i64 0, .int .i64 0] rfl)⟩
                          case rest =>
                            clear Pc0 Pc1 Pc2 hpk3
                            obtain ⟨bx, rfl, rfl, hbx, HBx, D0⟩ := hcut
                            obtain ⟨w20, rfl⟩ : ∃ w20 : World, w20 = wc := ⟨_, rfl⟩
                            have hpk20 := Lib.hid (keepc HBx.out hpk2.out)
                            have HX20 := Lib.hid (HXc.out.below HBx.out)
                            have hz1 := X2.out.lt
                            have hz2 : gb < wr.heap.size := cell_block hpk2.out
                            have hb20 := HBx.out
                            have hne1 : bx ≠ w.heap.size := by omega
                            have hne2 : bx ≠ gb := by omega
                            have P21 := Lib.hid (X2.out.below hb20)
                            have B21 := Lib.hid (bel_trans HB.out hb20)
                            clear X2 HB hb20
                            clear HBx
                            have hz3 := D0.out.lt
                            have hz4 := P21.out.lt
                            have hz5 : gb < w20.heap.size := cell_block hpk20.out
                            have HPk := Lib.hid (P21.out.alloc (.cells #[.int .i64 0, .int .i64 0, .bool false, .bool false, .bool false, .bool false, .bool false, .int .i64 0, .int .i64 0] 33))
                            have pc0 := HPk.out.get 0 (.slice f l c) rfl
                            go_wp2_with fail
                            refine (HM.out _).mono ?_
                            rintro e w23 ⟨rfl, hb23⟩
                            have P24 := Lib.hid ((P21.out.alloc (.cells #[.int .i64 0, .int .i64 0, .bool false, .bool false, .bool false, .bool false, .bool false, .int .i64 0, .int .i64 0] 33)).below hb23)
                            have D24 := Lib.hid ((D0.out.alloc (.cells #[.int .i64 0, .int .i64 0, .bool false, .bool false, .bool false, .bool false, .bool false, .int .i64 0, .int .i64 0] 33)).below hb23)
                            have Z24 := Lib.hid ((BoxAt.newAt _ #[.int .i64 0, .int .i64 0, .bool false, .bool false, .bool false, .bool false, .bool false, .int .i64 0, .int .i64 0] 33 (w20.heap.size) (by first | rfl | (simp; done) | (simp; omega))).below hb23)
                            have B24 := Lib.hid (bel_trans (bel_alloc B21.out (.cells #[.int .i64 0, .int .i64 0, .bool false, .bool false, .bool false, .bool false, .bool false, .int .i64 0, .int .i64 0] 33)) hb23)
                            clear pc0
                            clear P21 D0 B21 hb23
                            clear HPk
                            go_wp2_with fail
                            refine (HPL.out _).mono ?_
                            rintro e w25 ⟨rfl, rfl⟩
                            have Pc0 := P24.out.get 0 (.slice f l c) rfl
                            have Pc2 := P24.out.get 2 (.slice (some ⟨gb, go, none⟩) n d) rfl
                            have hpk26 := keepc B24.out HPK.out
                            go_wp2_with fail
                            refine (HPG.out _).mono ?_
                            rintro e w27 ⟨rfl, rfl⟩
                            have Dc0 := D24.out.get 0 (.int .i64 0) rfl
                            have Dc1 := D24.out.get 1 (.int .i64 0) rfl
                            have Dc2 := D24.out.get 2 (.bool false) rfl
                            have Dc3 := D24.out.get 3 (.bool false) rfl
                            have Dc4 := D24.out.get 4 (.bool false) rfl
                            have Dc5 := D24.out.get 5 (.bool false) rfl
                            have Dc6 := D24.out.get 6 (.bool false) rfl
                            have Dc7 := D24.out.get 7 (.int .i64 0) rfl
                            have Dc8 := D24.out.get 8 (.int .i64 0) rfl
                            have Zc0 := Z24.out.get 0 (.int .i64 0) rfl
                            have Zc1 := Z24.out.get 1 (.int .i64 0) rfl
                            have Zc2 := Z24.out.get 2 (.bool false) rfl
                            have Zc3 := Z24.out.get 3 (.bool false) rfl
                            have Zc4 := Z24.out.get 4 (.bool false) rfl
                            have Zc5 := Z24.out.get 5 (.bool false) rfl
                            have Zc6 := Z24.out.get 6 (.bool false) rfl
                            have Zc7 := Z24.out.get 7 (.int .i64 0) rfl
                            have Zc8 := Z24.out.get 8 (.int .i64 0) rfl
                            go_wp2_with (first | (go_at_call 15; refine (lnum5_any _ _).mono ?_; rintro e w40 ⟨rfl, rfl⟩))
                            go_roundw
                            case rel => exact ⟨0 + 1, by decide, by decide, rfl, B24.out⟩
                            case measure => (simp [intOf] <;> omega)
                  · by_cases hk1 : kk = 1
                    · obtain ⟨h1, h2, h3, h4⟩ := hm
                      have HA := tableA_far (X := X) h1 h2 h3 h4
                      simp only [HA] at HT
                      rw [dsc_dz] at HT
                      rw [h1] at HM
                      rw [h2] at HPL
                      rw [h3] at HPG
                      rw [h4] at HNU
                      clear HA
                      clear h1 h2 h3 h4
                      subst hk1
                      have e6 : ((1 : Int) == 1) = true := rfl
                      rw [if_pos rfl] at hfx
                      have HFX := Lib.hid hfx
                      clear hfx
                      have j1 : IntKind.i64.wrap ((k : Int) * 7) = (k : Int) * 7 := IntWalk.i64_in _ (by omega)
                      have j2 : IntKind.i64.wrap ((k : Int) * 7 + lv) = (k : Int) * 7 + lv := IntWalk.i64_in _ (by omega)
                      rw [← HFX.out] at HWi
                      have Pc0 := X2.out.get 0 (.slice f l c) rfl
                      have Pc1 := X2.out.get 1 (.int .i64 fr) rfl
                      have Pc2 := X2.out.get 2 (.slice (some ⟨gb, go, none⟩) n d) rfl
                      go_wp2_with fail
                      refine (HWi.out _).mono ?_
                      rintro e w9 ⟨rfl, rfl⟩
                      have hpk3 := hpk2.out
                      have hneP : w.heap.size ≠ wr.heap.size := Nat.ne_of_lt X2.out.lt
                      have hneG : gb ≠ wr.heap.size := Nat.ne_of_lt (cell_block hpk2.out)
                      go_upto_region 18 with fail
                      go_cut [8, 9] (fun s8 s9 wx => ∃ bx : Nat, s8 = .pointer (some ⟨bx, 0, none⟩) ∧ s9 = .int .i64 2 ∧ wr.heap.size ≤ bx ∧ Hid (Below wr.heap.size wr wx) ∧ Hid (BoxAt wx bx #[.int .i64 0, .int .i64 0, .bool false, .bool false, .bool false, .bool false, .bool false, .int .i64 0, .int .i64 0] 33))
                      case first =>
                        go_region_held3 (fun w' => w'.cell? ⟨w.heap.size, 0, none⟩ = some (.slice f l c) ∧ w'.cell? ⟨w.heap.size, 2, none⟩ = some (.slice (some ⟨gb, go, none⟩) n d) ∧ w'.cell? ⟨gb, go + k, none⟩ = some (.int .i64 pg))
                          (refine ⟨?_, ?_, ?_⟩ <;> (repeat (first | with_reducible assumption | with_reducible refine cell_keep ?_ _ | with_reducible refine cell_drew ?_ | with_reducible refine cell_set _ hneP ?_ | with_reducible refine cell_set _ hneG ?_ | refine keepc hb20 ?_)))
                          ((go_at_call 8; refine (HT.out _ (HXc.out.below (by go_grown))).mono ?_; rintro e w20 ⟨rfl, hb20⟩; have qc0 := qcell (b := wr.heap.size) hb20 0; have qf0 := qfree (b := wr.heap.size) hb20 0; have qc1 := qcell (b := wr.heap.size) hb20 1; have qf1 := qfree (b := wr.heap.size) hb20 1; have qc2 := qcell (b := wr.heap.size) hb20 2; have qf2 := qfree (b := wr.heap.size) hb20 2; have qc3 := qcell (b := wr.heap.size) hb20 3; have qf3 := qfree (b := wr.heap.size) hb20 3; have qc4 := qcell (b := wr.heap.size) hb20 4; have qf4 := qfree (b := wr.heap.size) hb20 4; have qc5 := qcell (b := wr.heap.size) hb20 5; have qf5 := qfree (b := wr.heap.size) hb20 5; have qc6 := qcell (b := wr.heap.size) hb20 6; have qf6 := qfree (b := wr.heap.size) hb20 6; have qc7 := qcell (b := wr.heap.size) hb20 7; have qf7 := qfree (b := wr.heap.size) hb20 7; have qc8 := qcell (b := wr.heap.size) hb20 8; have qf8 := qfree (b := wr.heap.size) hb20 8))
                        · clear qc0 qf0 qc1 qf1 qc2 qf2 qc3 qf3 qc4 qf4 qc5 qf5 qc6 qf6 qc7 qf7 qc8 qf8
                          have HBq := Lib.hid (bel_trans (Below.drew (Below.refl wr.heap.size wr)) hb20)
                          have hsz := HBq.out.size
                          clear hb20
                          go_wp2_with fail
                          go_meet
                          exact ⟨w20.heap.size, rfl, rfl, hsz, bel_alloc HBq.out _, BoxAt.newAt _ _ _ _ rfl⟩
                        · have HBq := Lib.hid (bel_trans (Below.drew (bel_alloc (Below.refl wr.heap.size wr) (.cells #[.int .i64 0, .int .i64 0, .bool false, .bool false, .bool false, .bool false, .bool false, .int .i64 0, .int .i64 0] 33))) hb20)
                          go_wp2_with fail
                          go_meet
                          exact ⟨wr.heap.size, rfl, rfl, Nat.le_refl _, (Below.setCell (Below.setCell (Below.setCell (Below.setCell (Below.setCell (Below.setCell (Below.setCell (Below.setCell (Below.setCell HBq.out (p := ⟨wr.heap.size, 0, none⟩) (Nat.le_refl _) (.int .i64 0)) (p := ⟨wr.heap.size, 1, none⟩) (Nat.le_refl _) (.int .i64 0)) (p := ⟨wr.heap.size, 2, none⟩) (Nat.le_refl _) (.bool false)) (p := ⟨wr.heap.size, 3, none⟩) (Nat.le_refl _) (.bool false)) (p := ⟨wr.heap.size, 4, none⟩) (Nat.le_refl _) (.bool false)) (p := ⟨wr.heap.size, 5, none⟩) (Nat.le_refl _) (.bool false)) (p := ⟨wr.heap.size, 6, none⟩) (Nat.le_refl _) (.bool false)) (p := ⟨wr.heap.size, 7, none⟩) (Nat.le_refl _) (.int .i64 0)) (p := ⟨wr.heap.size, 8, none⟩) (Nat.le_refl _) (.int .i64 0)), (((((((((((BoxAt.new wr #[.int .i64 0, .int .i64 0, .bool false, .bool false, .bool false, .bool false, .bool false, .int .i64 0, .int .i64 0] 33).drew.below hb20).set 0 (.int .i64 0) #[.int .i64 0, .int .i64 0, .bool false, .bool false, .bool false, .bool false, .bool false, .int .i64 0, .int .i64 0] rfl).set 1 (.int .i64 0) #[.int .i64 0, .int .i64 0, .bool false, .bool false, .bool false, .bool false, .bool false, .int .i64 0, .int .i64 0] rfl).set 2 (.bool false) #[.int .i64 0, .int .i64 0, .bool false, .bool false, .bool false, .bool false, .bool false, .int .i64 0, .int .i64 0] rfl).set 3 (.bool false) #[.int .i64 0, .int .i64 0, .bool false, .bool false, .bool false, .bool false, .bool false, .int .i64 0, .int .i64 0] rfl).set 4 (.bool false) #[.int .i64 0, .int .i64 0, .bool false, .bool false, .bool false, .bool false, .bool false, .int .i64 0, .int .i64 0] rfl).set 5 (.bool false) #[.int .i64 0, .int .i64 0, .bool false, .bool false, .bool false, .bool false, .bool false, .int .i64 0, .int .i64 0] rfl).set 6 (.bool false) #[.int .i64 0, .int .i64 0, .bool false, .bool false, .bool false, .bool false, .bool false, .int .i64 0, .int .i64 0] rfl).set 7 (.int .i64 0) #[.int .i64 0, .int .i64 0, .bool false, .bool false, .bool false, .bool false, .bool false, .int .i64 0, .int .i64 0] rfl).set 8 (.int .i64 0) #[.int .i64 0, .int .i64 0, .bool false, .bool false, .bool false, .bool false, .bool false, .int .i64 0, .int .i64 0] rfl)⟩
                      case rest =>
                        clear Pc0 Pc1 Pc2 hpk3
                        obtain ⟨bx, rfl, rfl, hbx, HBx, D0⟩ := hcut
                        obtain ⟨w20, rfl⟩ : ∃ w20 : World, w20 = wc := ⟨_, rfl⟩
                        have hpk20 := Lib.hid (keepc HBx.out hpk2.out)
                        have HX20 := Lib.hid (HXc.out.below HBx.out)
                        have hz1 := X2.out.lt
                        have hz2 : gb < wr.heap.size := cell_block hpk2.out
                        have hb20 := HBx.out
                        have hne1 : bx ≠ w.heap.size := by omega
                        have hne2 : bx ≠ gb := by omega
                        have P21 := Lib.hid (X2.out.below hb20)
                        have B21 := Lib.hid (bel_trans HB.out hb20)
                        clear X2 HB hb20
                        clear HBx
                        have jN : IntKind.i64.wrap ((l : Int) / 8 - 1) = (l : Int) / 8 - 1 := IntWalk.i64_in _ (by omega)
                        have hz3 := D0.out.lt
                        have hz4 := P21.out.lt
                        have hz5 : gb < w20.heap.size := cell_block hpk20.out
                        have HPk := Lib.hid (P21.out.alloc (.cells #[.int .i64 0, .int .i64 0, .bool false, .bool false, .bool false, .bool false, .bool false, .int .i64 0, .int .i64 0] 33))
                        have pc0 := HPk.out.get 0 (.slice f l c) rfl
                        go_wp2_with fail
                        refine (HM.out _).mono ?_
                        rintro e w23 ⟨rfl, hb23⟩
                        have P24 := Lib.hid ((P21.out.alloc (.cells #[.int .i64 0, .int .i64 0, .bool false, .bool false, .bool false, .bool false, .bool false, .int .i64 0, .int .i64 0] 33)).below hb23)
                        have D24 := Lib.hid ((D0.out.alloc (.cells #[.int .i64 0, .int .i64 0, .bool false, .bool false, .bool false, .bool false, .bool false, .int .i64 0, .int .i64 0] 33)).below hb23)
                        have Z24 := Lib.hid ((BoxAt.newAt _ #[.int .i64 0, .int .i64 0, .bool false, .bool false, .bool false, .bool false, .bool false, .int .i64 0, .int .i64 0] 33 (w20.heap.size) (by first | rfl | (simp; done) | (simp; omega))).below hb23)
                        have B24 := Lib.hid (bel_trans (bel_alloc B21.out (.cells #[.int .i64 0, .int .i64 0, .bool false, .bool false, .bool false, .bool false, .bool false, .int .i64 0, .int .i64 0] 33)) hb23)
                        clear pc0
                        clear P21 D0 B21 hb23
                        clear HPk
                        go_wp2_with fail
                        refine (HPL.out _).mono ?_
                        rintro e w25 ⟨rfl, rfl⟩
                        have Pc0 := P24.out.get 0 (.slice f l c) rfl
                        have Pc2 := P24.out.get 2 (.slice (some ⟨gb, go, none⟩) n d) rfl
                        have hpk26 := keepc B24.out HPK.out
                        go_wp2_with fail
                        refine (HPG.out _).mono ?_
                        rintro e w27 ⟨rfl, rfl⟩
                        go_wp2_with fail
                        refine (HF.out _).mono ?_
                        rintro e w28 ⟨rfl, hb28⟩
                        have P29 := Lib.hid (P24.out.below hb28)
                        have D29 := Lib.hid (D24.out.below hb28)
                        have Z29 := Lib.hid (Z24.out.below hb28)
                        have B29 := Lib.hid (bel_trans B24.out hb28)
                        clear Pc0 Pc2 hpk26
                        clear P24 D24 Z24 B24 hb28
                        go_wp2_with fail
                        refine (HNU.out _).mono ?_
                        rintro e w30 ⟨rfl, rfl⟩
                        have Dc0 := D29.out.get 0 (.int .i64 0) rfl
                        have Dc1 := D29.out.get 1 (.int .i64 0) rfl
                        have Dc2 := D29.out.get 2 (.bool false) rfl
                        have Dc3 := D29.out.get 3 (.bool false) rfl
                        have Dc4 := D29.out.get 4 (.bool false) rfl
                        have Dc5 := D29.out.get 5 (.bool false) rfl
                        have Dc6 := D29.out.get 6 (.bool false) rfl
                        have Dc7 := D29.out.get 7 (.int .i64 0) rfl
                        have Dc8 := D29.out.get 8 (.int .i64 0) rfl
                        have Zc0 := Z29.out.get 0 (.int .i64 0) rfl
                        have Zc1 := Z29.out.get 1 (.int .i64 0) rfl
                        have Zc2 := Z29.out.get 2 (.bool false) rfl
                        have Zc3 := Z29.out.get 3 (.bool false) rfl
                        have Zc4 := Z29.out.get 4 (.bool false) rfl
                        have Zc5 := Z29.out.get 5 (.bool false) rfl
                        have Zc6 := Z29.out.get 6 (.bool false) rfl
                        have Zc7 := Z29.out.get 7 (.int .i64 0) rfl
                        have Zc8 := Z29.out.get 8 (.int .i64 0) rfl
                        go_wp2_with (first | (go_at_call 15; refine (lnum5_any _ _).mono ?_; rintro e w40 ⟨rfl, rfl⟩))
                        go_roundw
                        case rel => exact ⟨1 + 1, by decide, by decide, rfl, B29.out⟩
                        case measure => (simp [intOf] <;> omega)
                    · obtain ⟨h1, h2, h3, h4⟩ := hm
                      have HA := tableA_far (X := X) h1 h2 h3 h4
                      simp only [HA] at HT
                      rw [dsc_dz] at HT
                      rw [h1] at HM
                      rw [h2] at HPL
                      rw [h3] at HPG
                      rw [h4] at HNU
                      clear HA
                      clear h1 h2 h3 h4
                      obtain rfl : kk = 0 := by omega
                      clear hk1
                      have e6 : ((0 : Int) == 1) = false := rfl
                      rw [if_neg (by decide)] at hfx
                      have hfy := hfx.symm
                      clear hfx
                      subst hfy
                      have Pc0 := X2.out.get 0 (.slice f l c) rfl
                      have Pc1 := X2.out.get 1 (.int .i64 fr) rfl
                      have Pc2 := X2.out.get 2 (.slice (some ⟨gb, go, none⟩) n d) rfl
                      have hpk3 := hpk2.out
                      have hneP : w.heap.size ≠ wr.heap.size := Nat.ne_of_lt X2.out.lt
                      have hneG : gb ≠ wr.heap.size := Nat.ne_of_lt (cell_block hpk2.out)
                      go_upto_region 18 with fail
                      go_cut [8, 9] (fun s8 s9 wx => ∃ bx : Nat, s8 = .pointer (some ⟨bx, 0, none⟩) ∧ s9 = .int .i64 2 ∧ wr.heap.size ≤ bx ∧ Hid (Below wr.heap.size wr wx) ∧ Hid (BoxAt wx bx #[.int .i64 0, .int .i64 0, .bool false, .bool false, .bool false, .bool false, .bool false, .int .i64 0, .int .i64 0] 33))
                      case first =>
                        go_region_held3 (fun w' => w'.cell? ⟨w.heap.size, 0, none⟩ = some (.slice f l c) ∧ w'.cell? ⟨w.heap.size, 2, none⟩ = some (.slice (some ⟨gb, go, none⟩) n d) ∧ w'.cell? ⟨gb, go + k, none⟩ = some (.int .i64 pg))
                          (refine ⟨?_, ?_, ?_⟩ <;> (repeat (first | with_reducible assumption | with_reducible refine cell_keep ?_ _ | with_reducible refine cell_drew ?_ | with_reducible refine cell_set _ hneP ?_ | with_reducible refine cell_set _ hneG ?_ | refine keepc hb20 ?_)))
                          ((go_at_call 8; refine (HT.out _ (HXc.out.below (by go_grown))).mono ?_; rintro e w20 ⟨rfl, hb20⟩; have qc0 := qcell (b := wr.heap.size) hb20 0; have qf0 := qfree (b := wr.heap.size) hb20 0; have qc1 := qcell (b := wr.heap.size) hb20 1; have qf1 := qfree (b := wr.heap.size) hb20 1; have qc2 := qcell (b := wr.heap.size) hb20 2; have qf2 := qfree (b := wr.heap.size) hb20 2; have qc3 := qcell (b := wr.heap.size) hb20 3; have qf3 := qfree (b := wr.heap.size) hb20 3; have qc4 := qcell (b := wr.heap.size) hb20 4; have qf4 := qfree (b := wr.heap.size) hb20 4; have qc5 := qcell (b := wr.heap.size) hb20 5; have qf5 := qfree (b := wr.heap.size) hb20 5; have qc6 := qcell (b := wr.heap.size) hb20 6; have qf6 := qfree (b := wr.heap.size) hb20 6; have qc7 := qcell (b := wr.heap.size) hb20 7; have qf7 := qfree (b := wr.heap.size) hb20 7; have qc8 := qcell (b := wr.heap.size) hb20 8; have qf8 := qfree (b := wr.heap.size) hb20 8))
                        · clear qc0 qf0 qc1 qf1 qc2 qf2 qc3 qf3 qc4 qf4 qc5 qf5 qc6 qf6 qc7 qf7 qc8 qf8
                          have HBq := Lib.hid (bel_trans (Below.drew (Below.refl wr.heap.size wr)) hb20)
                          have hsz := HBq.out.size
                          clear hb20
                          go_wp2_with fail
                          go_meet
                          exact ⟨w20.heap.size, rfl, rfl, hsz, bel_alloc HBq.out _, BoxAt.newAt _ _ _ _ rfl⟩
                        · have HBq := Lib.hid (bel_trans (Below.drew (bel_alloc (Below.refl wr.heap.size wr) (.cells #[.int .i64 0, .int .i64 0, .bool false, .bool false, .bool false, .bool false, .bool false, .int .i64 0, .int .i64 0] 33))) hb20)
                          go_wp2_with fail
                          go_meet
                          exact ⟨wr.heap.size, rfl, rfl, Nat.le_refl _, (Below.setCell (Below.setCell (Below.setCell (Below.setCell (Below.setCell (Below.setCell (Below.setCell (Below.setCell (Below.setCell HBq.out (p := ⟨wr.heap.size, 0, none⟩) (Nat.le_refl _) (.int .i64 0)) (p := ⟨wr.heap.size, 1, none⟩) (Nat.le_refl _) (.int .i64 0)) (p := ⟨wr.heap.size, 2, none⟩) (Nat.le_refl _) (.bool false)) (p := ⟨wr.heap.size, 3, none⟩) (Nat.le_refl _) (.bool false)) (p := ⟨wr.heap.size, 4, none⟩) (Nat.le_refl _) (.bool false)) (p := ⟨wr.heap.size, 5, none⟩) (Nat.le_refl _) (.bool false)) (p := ⟨wr.heap.size, 6, none⟩) (Nat.le_refl _) (.bool false)) (p := ⟨wr.heap.size, 7, none⟩) (Nat.le_refl _) (.int .i64 0)) (p := ⟨wr.heap.size, 8, none⟩) (Nat.le_refl _) (.int .i64 0)), (((((((((((BoxAt.new wr #[.int .i64 0, .int .i64 0, .bool false, .bool false, .bool false, .bool false, .bool false, .int .i64 0, .int .i64 0] 33).drew.below hb20).set 0 (.int .i64 0) #[.int .i64 0, .int .i64 0, .bool false, .bool false, .bool false, .bool false, .bool false, .int .i64 0, .int .i64 0] rfl).set 1 (.int .i64 0) #[.int .i64 0, .int .i64 0, .bool false, .bool false, .bool false, .bool false, .bool false, .int .i64 0, .int .i64 0] rfl).set 2 (.bool false) #[.int .i64 0, .int .i64 0, .bool false, .bool false, .bool false, .bool false, .bool false, .int .i64 0, .int .i64 0] rfl).set 3 (.bool false) #[.int .i64 0, .int .i64 0, .bool false, .bool false, .bool false, .bool false, .bool false, .int .i64 0, .int .i64 0] rfl).set 4 (.bool false) #[.int .i64 0, .int .i64 0, .bool false, .bool false, .bool false, .bool false, .bool false, .int .i64 0, .int .i64 0] rfl).set 5 (.bool false) #[.int .i64 0, .int .i64 0, .bool false, .bool false, .bool false, .bool false, .bool false, .int .i64 0, .int .i64 0] rfl).set 6 (.bool false) #[.int .i64 0, .int .i64 0, .bool false, .bool false, .bool false, .bool false, .bool false, .int .i64 0, .int .i64 0] rfl).set 7 (.int .i64 0) #[.int .i64 0, .int .i64 0, .bool false, .bool false, .bool false, .bool false, .bool false, .int .i64 0, .int .i64 0] rfl).set 8 (.int .i64 0) #[.int .i64 0, .int .i64 0, .bool false, .bool false, .bool false, .bool false, .bool false, .int .i64 0, .int .i64 0] rfl)⟩
                      case rest =>
                        clear Pc0 Pc1 Pc2 hpk3
                        obtain ⟨bx, rfl, rfl, hbx, HBx, D0⟩ := hcut
                        obtain ⟨w20, rfl⟩ : ∃ w20 : World, w20 = wc := ⟨_, rfl⟩
                        have hpk20 := Lib.hid (keepc HBx.out hpk2.out)
                        have HX20 := Lib.hid (HXc.out.below HBx.out)
                        have hz1 := X2.out.lt
                        have hz2 : gb < wr.heap.size := cell_block hpk2.out
                        have hb20 := HBx.out
                        have hne1 : bx ≠ w.heap.size := by omega
                        have hne2 : bx ≠ gb := by omega
                        have P21 := Lib.hid (X2.out.below hb20)
                        have B21 := Lib.hid (bel_trans HB.out hb20)
                        clear X2 HB hb20
                        clear HBx
                        have jN : IntKind.i64.wrap ((l : Int) / 8 - 1) = (l : Int) / 8 - 1 := IntWalk.i64_in _ (by omega)
                        have hz3 := D0.out.lt
                        have hz4 := P21.out.lt
                        have hz5 : gb < w20.heap.size := cell_block hpk20.out
                        have HPk := Lib.hid (P21.out.alloc (.cells #[.int .i64 0, .int .i64 0, .bool false, .bool false, .bool false, .bool false, .bool false, .int .i64 0, .int .i64 0] 33))
                        have pc0 := HPk.out.get 0 (.slice f l c) rfl
                        go_wp2_with fail
                        refine (HM.out _).mono ?_
                        rintro e w23 ⟨rfl, hb23⟩
                        have P24 := Lib.hid ((P21.out.alloc (.cells #[.int .i64 0, .int .i64 0, .bool false, .bool false, .bool false, .bool false, .bool false, .int .i64 0, .int .i64 0] 33)).below hb23)
                        have D24 := Lib.hid ((D0.out.alloc (.cells #[.int .i64 0, .int .i64 0, .bool false, .bool false, .bool false, .bool false, .bool false, .int .i64 0, .int .i64 0] 33)).below hb23)
                        have Z24 := Lib.hid ((BoxAt.newAt _ #[.int .i64 0, .int .i64 0, .bool false, .bool false, .bool false, .bool false, .bool false, .int .i64 0, .int .i64 0] 33 (w20.heap.size) (by first | rfl | (simp; done) | (simp; omega))).below hb23)
                        have B24 := Lib.hid (bel_trans (bel_alloc B21.out (.cells #[.int .i64 0, .int .i64 0, .bool false, .bool false, .bool false, .bool false, .bool false, .int .i64 0, .int .i64 0] 33)) hb23)
                        clear pc0
                        clear P21 D0 B21 hb23
                        clear HPk
                        go_wp2_with fail
                        refine (HPL.out _).mono ?_
                        rintro e w25 ⟨rfl, rfl⟩
                        have Pc0 := P24.out.get 0 (.slice f l c) rfl
                        have Pc2 := P24.out.get 2 (.slice (some ⟨gb, go, none⟩) n d) rfl
                        have hpk26 := keepc B24.out HPK.out
                        go_wp2_with fail
                        refine (HPG.out _).mono ?_
                        rintro e w27 ⟨rfl, rfl⟩
                        go_wp2_with fail
                        refine (HF.out _).mono ?_
                        rintro e w28 ⟨rfl, hb28⟩
                        have P29 := Lib.hid (P24.out.below hb28)
                        have D29 := Lib.hid (D24.out.below hb28)
                        have Z29 := Lib.hid (Z24.out.below hb28)
                        have B29 := Lib.hid (bel_trans B24.out hb28)
                        clear Pc0 Pc2 hpk26
                        clear P24 D24 Z24 B24 hb28
                        go_wp2_with fail
                        refine (HNU.out _).mono ?_
                        rintro e w30 ⟨rfl, rfl⟩
                        have Dc0 := D29.out.get 0 (.int .i64 0) rfl
                        have Dc1 := D29.out.get 1 (.int .i64 0) rfl
                        have Dc2 := D29.out.get 2 (.bool false) rfl
                        have Dc3 := D29.out.get 3 (.bool false) rfl
                        have Dc4 := D29.out.get 4 (.bool false) rfl
                        have Dc5 := D29.out.get 5 (.bool false) rfl
                        have Dc6 := D29.out.get 6 (.bool false) rfl
                        have Dc7 := D29.out.get 7 (.int .i64 0) rfl
                        have Dc8 := D29.out.get 8 (.int .i64 0) rfl
                        have Zc0 := Z29.out.get 0 (.int .i64 0) rfl
                        have Zc1 := Z29.out.get 1 (.int .i64 0) rfl
                        have Zc2 := Z29.out.get 2 (.bool false) rfl
                        have Zc3 := Z29.out.get 3 (.bool false) rfl
                        have Zc4 := Z29.out.get 4 (.bool false) rfl
                        have Zc5 := Z29.out.get 5 (.bool false) rfl
                        have Zc6 := Z29.out.get 6 (.bool false) rfl
                        have Zc7 := Z29.out.get 7 (.int .i64 0) rfl
                        have Zc8 := Z29.out.get 8 (.int .i64 0) rfl
                        go_wp2_with (first | (go_at_call 15; refine (lnum5_any _ _).mono ?_; rintro e w40 ⟨rfl, rfl⟩))
                        go_roundw
                        case rel => exact ⟨0 + 1, by decide, by decide, rfl, B29.out⟩
                        case measure => (simp [intOf] <;> omega)
                  · by_cases hk1 : kk = 1
                    · obtain ⟨h1, h2, h3, h4⟩ := hm
                      have HA := tableA_yes (X := X) h1 h2 h3 h4
                      simp only [HA] at HT
                      have hfx0 := (numB_iff.1 h4)
                      have hpg0 := (numB_iff.1 h3)
                      have hl8 : (l : Int) / 8 * 8 ≤ l := by omega
                      have HRR := Lib.hid (fun W h => HTR.out st lv fx pg W h h2 hpg0.1 hpg0.2 hfx0.1 (by omega))
                      generalize tblD X st lv fx pg = dd at *
                      obtain ⟨dk, df, dr, dw, dx, da, dn, ds, d0⟩ := dd
                      unfold dscV at HT HRR
                      simp only at HT HRR
                      have heq : eqD ⟨dk, df, dr, dw, dx, da, dn, ds, d0⟩ ⟨dk, df, dr, dw, dx, da, dn, ds, d0⟩ = true := eqD_self _
                      rw [h1] at HM
                      rw [h2] at HPL
                      rw [h3] at HPG
                      rw [h4] at HNU
                      clear HA
                      clear h1 h2 h3 h4
                      subst hk1
                      have e6 : ((1 : Int) == 1) = true := rfl
                      rw [if_pos rfl] at hfx
                      have HFX := Lib.hid hfx
                      clear hfx
                      have j1 : IntKind.i64.wrap ((k : Int) * 7) = (k : Int) * 7 := IntWalk.i64_in _ (by omega)
                      have j2 : IntKind.i64.wrap ((k : Int) * 7 + lv) = (k : Int) * 7 + lv := IntWalk.i64_in _ (by omega)
                      rw [← HFX.out] at HWi
                      have Pc0 := X2.out.get 0 (.slice f l c) rfl
                      have Pc1 := X2.out.get 1 (.int .i64 fr) rfl
                      have Pc2 := X2.out.get 2 (.slice (some ⟨gb, go, none⟩) n d) rfl
                      go_wp2_with fail
                      refine (HWi.out _).mono ?_
                      rintro e w9 ⟨rfl, rfl⟩
                      have hpk3 := hpk2.out
                      have hneP : w.heap.size ≠ wr.heap.size := Nat.ne_of_lt X2.out.lt
                      have hneG : gb ≠ wr.heap.size := Nat.ne_of_lt (cell_block hpk2.out)
                      go_upto_region 18 with fail
                      go_cut [8, 9] (fun s8 s9 wx => ∃ bx : Nat, s8 = .pointer (some ⟨bx, 0, none⟩) ∧ s9 = .int .i64 0 ∧ wr.heap.size ≤ bx ∧ Hid (Below wr.heap.size wr wx) ∧ Hid (BoxAt wx bx #[.int .i64 dk, .int .i64 df, .bool dr, .bool dw, .bool dx, .bool da, .bool dn, .int .i64 ds, .int .i64 d0] 33))
                      case first =>
                        go_region_held3 (fun w' => w'.cell? ⟨w.heap.size, 0, none⟩ = some (.slice f l c) ∧ w'.cell? ⟨w.heap.size, 2, none⟩ = some (.slice (some ⟨gb, go, none⟩) n d) ∧ w'.cell? ⟨gb, go + k, none⟩ = some (.int .i64 pg))
                          (refine ⟨?_, ?_, ?_⟩ <;> (repeat (first | with_reducible assumption | with_reducible refine cell_keep ?_ _ | with_reducible refine cell_drew ?_ | with_reducible refine cell_set _ hneP ?_ | with_reducible refine cell_set _ hneG ?_ | refine keepc hb20 ?_)))
                          ((go_at_call 8; refine (HT.out _ (HXc.out.below (by go_grown))).mono ?_; rintro e w20 ⟨rfl, hb20⟩; have qc0 := qcell (b := wr.heap.size) hb20 0; have qf0 := qfree (b := wr.heap.size) hb20 0; have qc1 := qcell (b := wr.heap.size) hb20 1; have qf1 := qfree (b := wr.heap.size) hb20 1; have qc2 := qcell (b := wr.heap.size) hb20 2; have qf2 := qfree (b := wr.heap.size) hb20 2; have qc3 := qcell (b := wr.heap.size) hb20 3; have qf3 := qfree (b := wr.heap.size) hb20 3; have qc4 := qcell (b := wr.heap.size) hb20 4; have qf4 := qfree (b := wr.heap.size) hb20 4; have qc5 := qcell (b := wr.heap.size) hb20 5; have qf5 := qfree (b := wr.heap.size) hb20 5; have qc6 := qcell (b := wr.heap.size) hb20 6; have qf6 := qfree (b := wr.heap.size) hb20 6; have qc7 := qcell (b := wr.heap.size) hb20 7; have qf7 := qfree (b := wr.heap.size) hb20 7; have qc8 := qcell (b := wr.heap.size) hb20 8; have qf8 := qfree (b := wr.heap.size) hb20 8))
                        · clear qc0 qf0 qc1 qf1 qc2 qf2 qc3 qf3 qc4 qf4 qc5 qf5 qc6 qf6 qc7 qf7 qc8 qf8
                          have HBq := Lib.hid (bel_trans (Below.drew (Below.refl wr.heap.size wr)) hb20)
                          have hsz := HBq.out.size
                          clear hb20
                          go_wp2_with fail
                          go_meet
                          exact ⟨w20.heap.size, rfl, rfl, hsz, bel_alloc HBq.out _, BoxAt.newAt _ _ _ _ rfl⟩
                        · have HBq := Lib.hid (bel_trans (Below.drew (bel_alloc (Below.refl wr.heap.size wr) (.cells #[.int .i64 0, .int .i64 0, .bool false, .bool false, .bool false, .bool false, .bool false, .int .i64 0, .int .i64 0] 33))) hb20)
                          go_wp2_with fail
                          go_meet
                          exact ⟨wr.heap.size, rfl, rfl, Nat.le_refl _, (Below.setCell (Below.setCell (Below.setCell (Below.setCell (Below.setCell (Below.setCell (Below.setCell (Below.setCell (Below.setCell HBq.out (p := ⟨wr.heap.size, 0, none⟩) (Nat.le_refl _) (.int .i64 dk)) (p := ⟨wr.heap.size, 1, none⟩) (Nat.le_refl _) (.int .i64 df)) (p := ⟨wr.heap.size, 2, none⟩) (Nat.le_refl _) (.bool dr)) (p := ⟨wr.heap.size, 3, none⟩) (Nat.le_refl _) (.bool dw)) (p := ⟨wr.heap.size, 4, none⟩) (Nat.le_refl _) (.bool dx)) (p := ⟨wr.heap.size, 5, none⟩) (Nat.le_refl _) (.bool da)) (p := ⟨wr.heap.size, 6, none⟩) (Nat.le_refl _) (.bool dn)) (p := ⟨wr.heap.size, 7, none⟩) (Nat.le_refl _) (.int .i64 ds)) (p := ⟨wr.heap.size, 8, none⟩) (Nat.le_refl _) (.int .i64 d0)), (((((((((((BoxAt.new wr #[.int .i64 0, .int .i64 0, .bool false, .bool false, .bool false, .bool false, .bool false, .int .i64 0, .int .i64 0] 33).drew.below hb20).set 0 (.int .i64 dk) #[.int .i64 dk, .int .i64 0, .bool false, .bool false, .bool false, .bool false, .bool false, .int .i64 0, .int .i64 0] rfl).set 1 (.int .i64 df) #[.int .i64 dk, .int .i64 df, .bool false, .bool false, .bool false, .bool false, .bool false, .int .i64 0, .int .i64 0] rfl).set 2 (.bool dr) #[.int .i64 dk, .int .i64 df, .bool dr, .bool false, .bool false, .bool false, .bool false, .int .i64 0, .int .i64 0] rfl).set 3 (.bool dw) #[.int .i64 dk, .int .i64 df, .bool dr, .bool dw, .bool false, .bool false, .bool false, .int .i64 0, .int .i64 0] rfl).set 4 (.bool dx) #[.int .i64 dk, .int .i64 df, .bool dr, .bool dw, .bool dx, .bool false, .bool false, .int .i64 0, .int .i64 0] rfl).set 5 (.bool da) #[.int .i64 dk, .int .i64 df, .bool dr, .bool dw, .bool dx, .bool da, .bool false, .int .i64 0, .int .i64 0] rfl).set 6 (.bool dn) #[.int .i64 dk, .int .i64 df, .bool dr, .bool dw, .bool dx, .bool da, .bool dn, .int .i64 0, .int .i64 0] rfl).set 7 (.int .i64 ds) #[.int .i64 dk, .int .i64 df, .bool dr, .bool dw, .bool dx, .bool da, .bool dn, .int .i64 ds, .int .i64 0] rfl).set 8 (.int .i64 d0) #[.int .i64 dk, .int .i64 df, .bool dr, .bool dw, .bool dx, .bool da, .bool dn, .int .i64 ds, .int .i64 d0] rfl)⟩
                      case rest =>
                        clear Pc0 Pc1 Pc2 hpk3
                        obtain ⟨bx, rfl, rfl, hbx, HBx, D0⟩ := hcut
                        obtain ⟨w20, rfl⟩ : ∃ w20 : World, w20 = wc := ⟨_, rfl⟩
                        have hpk20 := Lib.hid (keepc HBx.out hpk2.out)
                        have HX20 := Lib.hid (HXc.out.below HBx.out)
                        have hz1 := X2.out.lt
                        have hz2 : gb < wr.heap.size := cell_block hpk2.out
                        have hb20 := HBx.out
                        have hne1 : bx ≠ w.heap.size := by omega
                        have hne2 : bx ≠ gb := by omega
                        have P21 := Lib.hid (X2.out.below hb20)
                        have B21 := Lib.hid (bel_trans HB.out hb20)
                        clear X2 HB hb20
                        clear HBx
                        have jN : IntKind.i64.wrap ((l : Int) / 8 - 1) = (l : Int) / 8 - 1 := IntWalk.i64_in _ (by omega)
                        have hz3 := D0.out.lt
                        have hz4 := P21.out.lt
                        have hz5 : gb < w20.heap.size := cell_block hpk20.out
                        have HPk := Lib.hid (P21.out.alloc (.cells #[.int .i64 0, .int .i64 0, .bool false, .bool false, .bool false, .bool false, .bool false, .int .i64 0, .int .i64 0] 33))
                        have pc0 := HPk.out.get 0 (.slice f l c) rfl
                        go_wp2_with fail
                        refine (HM.out _).mono ?_
                        rintro e w23 ⟨rfl, hb23⟩
                        have P24 := Lib.hid ((P21.out.alloc (.cells #[.int .i64 0, .int .i64 0, .bool false, .bool false, .bool false, .bool false, .bool false, .int .i64 0, .int .i64 0] 33)).below hb23)
                        have D24 := Lib.hid ((D0.out.alloc (.cells #[.int .i64 0, .int .i64 0, .bool false, .bool false, .bool false, .bool false, .bool false, .int .i64 0, .int .i64 0] 33)).below hb23)
                        have Z24 := Lib.hid ((BoxAt.newAt _ #[.int .i64 0, .int .i64 0, .bool false, .bool false, .bool false, .bool false, .bool false, .int .i64 0, .int .i64 0] 33 (w20.heap.size) (by first | rfl | (simp; done) | (simp; omega))).below hb23)
                        have B24 := Lib.hid (bel_trans (bel_alloc B21.out (.cells #[.int .i64 0, .int .i64 0, .bool false, .bool false, .bool false, .bool false, .bool false, .int .i64 0, .int .i64 0] 33)) hb23)
                        clear pc0
                        clear P21 D0 B21 hb23
                        clear HPk
                        go_wp2_with fail
                        refine (HPL.out _).mono ?_
                        rintro e w25 ⟨rfl, rfl⟩
                        have Pc0 := P24.out.get 0 (.slice f l c) rfl
                        have Pc2 := P24.out.get 2 (.slice (some ⟨gb, go, none⟩) n d) rfl
                        have hpk26 := keepc B24.out HPK.out
                        go_wp2_with fail
                        refine (HPG.out _).mono ?_
                        rintro e w27 ⟨rfl, rfl⟩
                        go_wp2_with fail
                        refine (HF.out _).mono ?_
                        rintro e w28 ⟨rfl, hb28⟩
                        have P29 := Lib.hid (P24.out.below hb28)
                        have D29 := Lib.hid (D24.out.below hb28)
                        have Z29 := Lib.hid (Z24.out.below hb28)
                        have B29 := Lib.hid (bel_trans B24.out hb28)
                        clear Pc0 Pc2 hpk26
                        clear P24 D24 Z24 B24 hb28
                        go_wp2_with fail
                        refine (HNU.out _).mono ?_
                        rintro e w30 ⟨rfl, rfl⟩
                        have Pc0 := P29.out.get 0 (.slice f l c) rfl
                        have Pc2 := P29.out.get 2 (.slice (some ⟨gb, go, none⟩) n d) rfl
                        have hpk31 := keepc B29.out HPK.out
                        have hnzP : w.heap.size ≠ w20.heap.size := by omega
                        have hnzG : gb ≠ w20.heap.size := by omega
                        go_upto_region 23 with fail
                        have HXz := Lib.hid (HX1.out.below B29.out)
                        have Z0 := Z29
                        go_region_held3 (fun w' => w'.cell? ⟨w.heap.size, 0, none⟩ = some (.slice f l c) ∧ w'.cell? ⟨w.heap.size, 2, none⟩ = some (.slice (some ⟨gb, go, none⟩) n d) ∧ w'.cell? ⟨gb, go + k, none⟩ = some (.int .i64 pg))
                          (refine ⟨?_, ?_, ?_⟩ <;> (repeat (first | with_reducible assumption | with_reducible refine cell_keep ?_ _ | with_reducible refine cell_drew ?_ | with_reducible refine cell_set _ hnzP ?_ | with_reducible refine cell_set _ hnzG ?_ | refine keepc hb32 ?_)))
                          ((go_at_call 14; refine (HRR.out _ (HXz.out.below (by go_grown))).mono ?_; rintro e w32 ⟨rfl, hb32⟩; have Zq := Z0.out.drew.below hb32; have zc0 := Zq.get 0 (.int .i64 0) rfl; have zf0 := Zq.free 0; have zc1 := Zq.get 1 (.int .i64 0) rfl; have zf1 := Zq.free 1; have zc2 := Zq.get 2 (.bool false) rfl; have zf2 := Zq.free 2; have zc3 := Zq.get 3 (.bool false) rfl; have zf3 := Zq.free 3; have zc4 := Zq.get 4 (.bool false) rfl; have zf4 := Zq.free 4; have zc5 := Zq.get 5 (.bool false) rfl; have zf5 := Zq.free 5; have zc6 := Zq.get 6 (.bool false) rfl; have zf6 := Zq.free 6; have zc7 := Zq.get 7 (.int .i64 0) rfl; have zf7 := Zq.free 7; have zc8 := Zq.get 8 (.int .i64 0) rfl; have zf8 := Zq.free 8; clear Zq))
                        clear zc0 zf0 zc1 zf1 zc2 zf2 zc3 zf3 zc4 zf4 zc5 zf5 zc6 zf6 zc7 zf7 zc8 zf8
                        have P33 := Lib.hid ((P29.out.drew).below hb32)
                        have D33 := Lib.hid ((D29.out.drew).below hb32)
                        have Z33 := Lib.hid ((Z29.out.drew).below hb32)
                        have B33 := Lib.hid (bel_trans (Below.drew B29.out) hb32)
                        clear Pc0 Pc2 hpk31
                        clear P29 D29 Z29 B29 hb32
                        clear Z0 HXz
                        have P34 := Lib.hid ((((((((((P33.out.other ⟨w20.heap.size, 0, none⟩ (.int .i64 dk) (by first | with_reducible assumption | (simp; done) | (simp; omega))).other ⟨w20.heap.size, 1, none⟩ (.int .i64 df) (by first | with_reducible assumption | (simp; done) | (simp; omega))).other ⟨w20.heap.size, 2, none⟩ (.bool dr) (by first | with_reducible assumption | (simp; done) | (simp; omega))).other ⟨w20.heap.size, 3, none⟩ (.bool dw) (by first | with_reducible assumption | (simp; done) | (simp; omega))).other ⟨w20.heap.size, 4, none⟩ (.bool dx) (by first | with_reducible assumption | (simp; done) | (simp; omega))).other ⟨w20.heap.size, 5, none⟩ (.bool da) (by first | with_reducible assumption | (simp; done) | (simp; omega))).other ⟨w20.heap.size, 6, none⟩ (.bool dn) (by first | with_reducible assumption | (simp; done) | (simp; omega))).other ⟨w20.heap.size, 7, none⟩ (.int .i64 ds) (by first | with_reducible assumption | (simp; done) | (simp; omega))).other ⟨w20.heap.size, 8, none⟩ (.int .i64 d0) (by first | with_reducible assumption | (simp; done) | (simp; omega))))
                        have D34 := Lib.hid ((((((((((D33.out.other ⟨w20.heap.size, 0, none⟩ (.int .i64 dk) (by first | with_reducible assumption | (simp; done) | (simp; omega))).other ⟨w20.heap.size, 1, none⟩ (.int .i64 df) (by first | with_reducible assumption | (simp; done) | (simp; omega))).other ⟨w20.heap.size, 2, none⟩ (.bool dr) (by first | with_reducible assumption | (simp; done) | (simp; omega))).other ⟨w20.heap.size, 3, none⟩ (.bool dw) (by first | with_reducible assumption | (simp; done) | (simp; omega))).other ⟨w20.heap.size, 4, none⟩ (.bool dx) (by first | with_reducible assumption | (simp; done) | (simp; omega))).other ⟨w20.heap.size, 5, none⟩ (.bool da) (by first | with_reducible assumption | (simp; done) | (simp; omega))).other ⟨w20.heap.size, 6, none⟩ (.bool dn) (by first | with_reducible assumption | (simp; done) | (simp; omega))).other ⟨w20.heap.size, 7, none⟩ (.int .i64 ds) (by first | with_reducible assumption | (simp; done) | (simp; omega))).other ⟨w20.heap.size, 8, none⟩ (.int .i64 d0) (by first | with_reducible assumption | (simp; done) | (simp; omega))))
                        have Z34 := Lib.hid ((((((((((Z33.out.set 0 (.int .i64 dk) #[.int .i64 dk, .int .i64 0, .bool false, .bool false, .bool false, .bool false, .bool false, .int .i64 0, .int .i64 0] rfl).set 1 (.int .i64 df) #[.int .i64 dk, .int .i64 df, .bool false, .bool false, .bool false, .bool false, .bool false, .int .i64 0, .int .i64 0] rfl).set 2 (.bool dr) #[.int .i64 dk, .int .i64 df, .bool dr, .bool false, .bool false, .bool false, .bool false, .int .i64 0, .int .i64 0] rfl).set 3 (.bool dw) #[.int .i64 dk, .int .i64 df, .bool dr, .bool dw, .bool false, .bool false, .bool false, .int .i64 0, .int .i64 0] rfl).set 4 (.bool dx) #[.int .i64 dk, .int .i64 df, .bool dr, .bool dw, .bool dx, .bool false, .bool false, .int .i64 0, .int .i64 0] rfl).set 5 (.bool da) #[.int .i64 dk, .int .i64 df, .bool dr, .bool dw, .bool dx, .bool da, .bool false, .int .i64 0, .int .i64 0] rfl).set 6 (.bool dn) #[.int .i64 dk, .int .i64 df, .bool dr, .bool dw, .bool dx, .bool da, .bool dn, .int .i64 0, .int .i64 0] rfl).set 7 (.int .i64 ds) #[.int .i64 dk, .int .i64 df, .bool dr, .bool dw, .bool dx, .bool da, .bool dn, .int .i64 ds, .int .i64 0] rfl).set 8 (.int .i64 d0) #[.int .i64 dk, .int .i64 df, .bool dr, .bool dw, .bool dx, .bool da, .bool dn, .int .i64 ds, .int .i64 d0] rfl))
                        have B34 := Lib.hid ((Below.setCell (Below.setCell (Below.setCell (Below.setCell (Below.setCell (Below.setCell (Below.setCell (Below.setCell (Below.setCell B33.out (p := ⟨w20.heap.size, 0, none⟩) (by first | with_reducible assumption | (simp; done) | (simp; omega)) (.int .i64 dk)) (p := ⟨w20.heap.size, 1, none⟩) (by first | with_reducible assumption | (simp; done) | (simp; omega)) (.int .i64 df)) (p := ⟨w20.heap.size, 2, none⟩) (by first | with_reducible assumption | (simp; done) | (simp; omega)) (.bool dr)) (p := ⟨w20.heap.size, 3, none⟩) (by first | with_reducible assumption | (simp; done) | (simp; omega)) (.bool dw)) (p := ⟨w20.heap.size, 4, none⟩) (by first | with_reducible assumption | (simp; done) | (simp; omega)) (.bool dx)) (p := ⟨w20.heap.size, 5, none⟩) (by first | with_reducible assumption | (simp; done) | (simp; omega)) (.bool da)) (p := ⟨w20.heap.size, 6, none⟩) (by first | with_reducible assumption | (simp; done) | (simp; omega)) (.bool dn)) (p := ⟨w20.heap.size, 7, none⟩) (by first | with_reducible assumption | (simp; done) | (simp; omega)) (.int .i64 ds)) (p := ⟨w20.heap.size, 8, none⟩) (by first | with_reducible assumption | (simp; done) | (simp; omega)) (.int .i64 d0)))
                        clear P33 D33 Z33 B33
                        obtain ⟨w30, hw30⟩ : ∃ w30, w30 = (((((((((w32.setCell ⟨w20.heap.size, 0, none⟩ (.int .i64 dk)).setCell ⟨w20.heap.size, 1, none⟩ (.int .i64 df)).setCell ⟨w20.heap.size, 2, none⟩ (.bool dr)).setCell ⟨w20.heap.size, 3, none⟩ (.bool dw)).setCell ⟨w20.heap.size, 4, none⟩ (.bool dx)).setCell ⟨w20.heap.size, 5, none⟩ (.bool da)).setCell ⟨w20.heap.size, 6, none⟩ (.bool dn)).setCell ⟨w20.heap.size, 7, none⟩ (.int .i64 ds)).setCell ⟨w20.heap.size, 8, none⟩ (.int .i64 d0)) := ⟨_, rfl⟩
                        rw [← hw30] at P34 D34 Z34 B34 ⊢
                        clear hw30
                        have Dc0 := D34.out.get 0 (.int .i64 dk) rfl
                        have Dc1 := D34.out.get 1 (.int .i64 df) rfl
                        have Dc2 := D34.out.get 2 (.bool dr) rfl
                        have Dc3 := D34.out.get 3 (.bool dw) rfl
                        have Dc4 := D34.out.get 4 (.bool dx) rfl
                        have Dc5 := D34.out.get 5 (.bool da) rfl
                        have Dc6 := D34.out.get 6 (.bool dn) rfl
                        have Dc7 := D34.out.get 7 (.int .i64 ds) rfl
                        have Dc8 := D34.out.get 8 (.int .i64 d0) rfl
                        have Zc0 := Z34.out.get 0 (.int .i64 dk) rfl
                        have Zc1 := Z34.out.get 1 (.int .i64 df) rfl
                        have Zc2 := Z34.out.get 2 (.bool dr) rfl
                        have Zc3 := Z34.out.get 3 (.bool dw) rfl
                        have Zc4 := Z34.out.get 4 (.bool dx) rfl
                        have Zc5 := Z34.out.get 5 (.bool da) rfl
                        have Zc6 := Z34.out.get 6 (.bool dn) rfl
                        have Zc7 := Z34.out.get 7 (.int .i64 ds) rfl
                        have Zc8 := Z34.out.get 8 (.int .i64 d0) rfl
                        go_wp2_with (first | (go_at_call 15; refine (lnum5_any _ _).mono ?_; rintro e w40 ⟨rfl, rfl⟩))
                        go_roundw
                        case rel => exact ⟨1 + 1, by decide, by decide, rfl, B34.out⟩
                        case measure => (simp [intOf] <;> omega)
                    · obtain ⟨h1, h2, h3, h4⟩ := hm
                      have HA := tableA_yes (X := X) h1 h2 h3 h4
                      simp only [HA] at HT
                      have hfx0 := (numB_iff.1 h4)
                      have hpg0 := (numB_iff.1 h3)
                      have hl8 : (l : Int) / 8 * 8 ≤ l := by omega
                      have HRR := Lib.hid (fun W h => HTR.out st lv fx pg W h h2 hpg0.1 hpg0.2 hfx0.1 (by omega))
                      generalize tblD X st lv fx pg = dd at *
                      obtain ⟨dk, df, dr, dw, dx, da, dn, ds, d0⟩ := dd
                      unfold dscV at HT HRR
                      simp only at HT HRR
                      have heq : eqD ⟨dk, df, dr, dw, dx, da, dn, ds, d0⟩ ⟨dk, df, dr, dw, dx, da, dn, ds, d0⟩ = true := eqD_self _
                      rw [h1] at HM
                      rw [h2] at HPL
                      rw [h3] at HPG
                      rw [h4] at HNU
                      clear HA
                      clear h1 h2 h3 h4
                      obtain rfl : kk = 0 := by omega
                      clear hk1
                      have e6 : ((0 : Int) == 1) = false := rfl
                      rw [if_neg (by decide)] at hfx
                      have hfy := hfx.symm
                      clear hfx
                      subst hfy
                      have Pc0 := X2.out.get 0 (.slice f l c) rfl
                      have Pc1 := X2.out.get 1 (.int .i64 fr) rfl
                      have Pc2 := X2.out.get 2 (.slice (some ⟨gb, go, none⟩) n d) rfl
                      have hpk3 := hpk2.out
                      have hneP : w.heap.size ≠ wr.heap.size := Nat.ne_of_lt X2.out.lt
                      have hneG : gb ≠ wr.heap.size := Nat.ne_of_lt (cell_block hpk2.out)
                      go_upto_region 18 with fail
                      go_cut [8, 9] (fun s8 s9 wx => ∃ bx : Nat, s8 = .pointer (some ⟨bx, 0, none⟩) ∧ s9 = .int .i64 0 ∧ wr.heap.size ≤ bx ∧ Hid (Below wr.heap.size wr wx) ∧ Hid (BoxAt wx bx #[.int .i64 dk, .int .i64 df, .bool dr, .bool dw, .bool dx, .bool da, .bool dn, .int .i64 ds, .int .i64 d0] 33))
                      case first =>
                        go_region_held3 (fun w' => w'.cell? ⟨w.heap.size, 0, none⟩ = some (.slice f l c) ∧ w'.cell? ⟨w.heap.size, 2, none⟩ = some (.slice (some ⟨gb, go, none⟩) n d) ∧ w'.cell? ⟨gb, go + k, none⟩ = some (.int .i64 pg))
                          (refine ⟨?_, ?_, ?_⟩ <;> (repeat (first | with_reducible assumption | with_reducible refine cell_keep ?_ _ | with_reducible refine cell_drew ?_ | with_reducible refine cell_set _ hneP ?_ | with_reducible refine cell_set _ hneG ?_ | refine keepc hb20 ?_)))
                          ((go_at_call 8; refine (HT.out _ (HXc.out.below (by go_grown))).mono ?_; rintro e w20 ⟨rfl, hb20⟩; have qc0 := qcell (b := wr.heap.size) hb20 0; have qf0 := qfree (b := wr.heap.size) hb20 0; have qc1 := qcell (b := wr.heap.size) hb20 1; have qf1 := qfree (b := wr.heap.size) hb20 1; have qc2 := qcell (b := wr.heap.size) hb20 2; have qf2 := qfree (b := wr.heap.size) hb20 2; have qc3 := qcell (b := wr.heap.size) hb20 3; have qf3 := qfree (b := wr.heap.size) hb20 3; have qc4 := qcell (b := wr.heap.size) hb20 4; have qf4 := qfree (b := wr.heap.size) hb20 4; have qc5 := qcell (b := wr.heap.size) hb20 5; have qf5 := qfree (b := wr.heap.size) hb20 5; have qc6 := qcell (b := wr.heap.size) hb20 6; have qf6 := qfree (b := wr.heap.size) hb20 6; have qc7 := qcell (b := wr.heap.size) hb20 7; have qf7 := qfree (b := wr.heap.size) hb20 7; have qc8 := qcell (b := wr.heap.size) hb20 8; have qf8 := qfree (b := wr.heap.size) hb20 8))
                        · clear qc0 qf0 qc1 qf1 qc2 qf2 qc3 qf3 qc4 qf4 qc5 qf5 qc6 qf6 qc7 qf7 qc8 qf8
                          have HBq := Lib.hid (bel_trans (Below.drew (Below.refl wr.heap.size wr)) hb20)
                          have hsz := HBq.out.size
                          clear hb20
                          go_wp2_with fail
                          go_meet
                          exact ⟨w20.heap.size, rfl, rfl, hsz, bel_alloc HBq.out _, BoxAt.newAt _ _ _ _ rfl⟩
                        · have HBq := Lib.hid (bel_trans (Below.drew (bel_alloc (Below.refl wr.heap.size wr) (.cells #[.int .i64 0, .int .i64 0, .bool false, .bool false, .bool false, .bool false, .bool false, .int .i64 0, .int .i64 0] 33))) hb20)
                          go_wp2_with fail
                          go_meet
                          exact ⟨wr.heap.size, rfl, rfl, Nat.le_refl _, (Below.setCell (Below.setCell (Below.setCell (Below.setCell (Below.setCell (Below.setCell (Below.setCell (Below.setCell (Below.setCell HBq.out (p := ⟨wr.heap.size, 0, none⟩) (Nat.le_refl _) (.int .i64 dk)) (p := ⟨wr.heap.size, 1, none⟩) (Nat.le_refl _) (.int .i64 df)) (p := ⟨wr.heap.size, 2, none⟩) (Nat.le_refl _) (.bool dr)) (p := ⟨wr.heap.size, 3, none⟩) (Nat.le_refl _) (.bool dw)) (p := ⟨wr.heap.size, 4, none⟩) (Nat.le_refl _) (.bool dx)) (p := ⟨wr.heap.size, 5, none⟩) (Nat.le_refl _) (.bool da)) (p := ⟨wr.heap.size, 6, none⟩) (Nat.le_refl _) (.bool dn)) (p := ⟨wr.heap.size, 7, none⟩) (Nat.le_refl _) (.int .i64 ds)) (p := ⟨wr.heap.size, 8, none⟩) (Nat.le_refl _) (.int .i64 d0)), (((((((((((BoxAt.new wr #[.int .i64 0, .int .i64 0, .bool false, .bool false, .bool false, .bool false, .bool false, .int .i64 0, .int .i64 0] 33).drew.below hb20).set 0 (.int .i64 dk) #[.int .i64 dk, .int .i64 0, .bool false, .bool false, .bool false, .bool false, .bool false, .int .i64 0, .int .i64 0] rfl).set 1 (.int .i64 df) #[.int .i64 dk, .int .i64 df, .bool false, .bool false, .bool false, .bool false, .bool false, .int .i64 0, .int .i64 0] rfl).set 2 (.bool dr) #[.int .i64 dk, .int .i64 df, .bool dr, .bool false, .bool false, .bool false, .bool false, .int .i64 0, .int .i64 0] rfl).set 3 (.bool dw) #[.int .i64 dk, .int .i64 df, .bool dr, .bool dw, .bool false, .bool false, .bool false, .int .i64 0, .int .i64 0] rfl).set 4 (.bool dx) #[.int .i64 dk, .int .i64 df, .bool dr, .bool dw, .bool dx, .bool false, .bool false, .int .i64 0, .int .i64 0] rfl).set 5 (.bool da) #[.int .i64 dk, .int .i64 df, .bool dr, .bool dw, .bool dx, .bool da, .bool false, .int .i64 0, .int .i64 0] rfl).set 6 (.bool dn) #[.int .i64 dk, .int .i64 df, .bool dr, .bool dw, .bool dx, .bool da, .bool dn, .int .i64 0, .int .i64 0] rfl).set 7 (.int .i64 ds) #[.int .i64 dk, .int .i64 df, .bool dr, .bool dw, .bool dx, .bool da, .bool dn, .int .i64 ds, .int .i64 0] rfl).set 8 (.int .i64 d0) #[.int .i64 dk, .int .i64 df, .bool dr, .bool dw, .bool dx, .bool da, .bool dn, .int .i64 ds, .int .i64 d0] rfl)⟩
                      case rest =>
                        clear Pc0 Pc1 Pc2 hpk3
                        obtain ⟨bx, rfl, rfl, hbx, HBx, D0⟩ := hcut
                        obtain ⟨w20, rfl⟩ : ∃ w20 : World, w20 = wc := ⟨_, rfl⟩
                        have hpk20 := Lib.hid (keepc HBx.out hpk2.out)
                        have HX20 := Lib.hid (HXc.out.below HBx.out)
                        have hz1 := X2.out.lt
                        have hz2 : gb < wr.heap.size := cell_block hpk2.out
                        have hb20 := HBx.out
                        have hne1 : bx ≠ w.heap.size := by omega
                        have hne2 : bx ≠ gb := by omega
                        have P21 := Lib.hid (X2.out.below hb20)
                        have B21 := Lib.hid (bel_trans HB.out hb20)
                        clear X2 HB hb20
                        clear HBx
                        have jN : IntKind.i64.wrap ((l : Int) / 8 - 1) = (l : Int) / 8 - 1 := IntWalk.i64_in _ (by omega)
                        have hz3 := D0.out.lt
                        have hz4 := P21.out.lt
                        have hz5 : gb < w20.heap.size := cell_block hpk20.out
                        have HPk := Lib.hid (P21.out.alloc (.cells #[.int .i64 0, .int .i64 0, .bool false, .bool false, .bool false, .bool false, .bool false, .int .i64 0, .int .i64 0] 33))
                        have pc0 := HPk.out.get 0 (.slice f l c) rfl
                        go_wp2_with fail
                        refine (HM.out _).mono ?_
                        rintro e w23 ⟨rfl, hb23⟩
                        have P24 := Lib.hid ((P21.out.alloc (.cells #[.int .i64 0, .int .i64 0, .bool false, .bool false, .bool false, .bool false, .bool false, .int .i64 0, .int .i64 0] 33)).below hb23)
                        have D24 := Lib.hid ((D0.out.alloc (.cells #[.int .i64 0, .int .i64 0, .bool false, .bool false, .bool false, .bool false, .bool false, .int .i64 0, .int .i64 0] 33)).below hb23)
                        have Z24 := Lib.hid ((BoxAt.newAt _ #[.int .i64 0, .int .i64 0, .bool false, .bool false, .bool false, .bool false, .bool false, .int .i64 0, .int .i64 0] 33 (w20.heap.size) (by first | rfl | (simp; done) | (simp; omega))).below hb23)
                        have B24 := Lib.hid (bel_trans (bel_alloc B21.out (.cells #[.int .i64 0, .int .i64 0, .bool false, .bool false, .bool false, .bool false, .bool false, .int .i64 0, .int .i64 0] 33)) hb23)
                        clear pc0
                        clear P21 D0 B21 hb23
                        clear HPk
                        go_wp2_with fail
                        refine (HPL.out _).mono ?_
                        rintro e w25 ⟨rfl, rfl⟩
                        have Pc0 := P24.out.get 0 (.slice f l c) rfl
                        have Pc2 := P24.out.get 2 (.slice (some ⟨gb, go, none⟩) n d) rfl
                        have hpk26 := keepc B24.out HPK.out
                        go_wp2_with fail
                        refine (HPG.out _).mono ?_
                        rintro e w27 ⟨rfl, rfl⟩
                        go_wp2_with fail
                        refine (HF.out _).mono ?_
                        rintro e w28 ⟨rfl, hb28⟩
                        have P29 := Lib.hid (P24.out.below hb28)
                        have D29 := Lib.hid (D24.out.below hb28)
                        have Z29 := Lib.hid (Z24.out.below hb28)
                        have B29 := Lib.hid (bel_trans B24.out hb28)
                        clear Pc0 Pc2 hpk26
                        clear P24 D24 Z24 B24 hb28
                        go_wp2_with fail
                        refine (HNU.out _).mono ?_
                        rintro e w30 ⟨rfl, rfl⟩
                        have Pc0 := P29.out.get 0 (.slice f l c) rfl
                        have Pc2 := P29.out.get 2 (.slice (some ⟨gb, go, none⟩) n d) rfl
                        have hpk31 := keepc B29.out HPK.out
                        have hnzP : w.heap.size ≠ w20.heap.size := by omega
                        have hnzG : gb ≠ w20.heap.size := by omega
                        go_upto_region 23 with fail
                        have HXz := Lib.hid (HX1.out.below B29.out)
                        have Z0 := Z29
                        go_region_held3 (fun w' => w'.cell? ⟨w.heap.size, 0, none⟩ = some (.slice f l c) ∧ w'.cell? ⟨w.heap.size, 2, none⟩ = some (.slice (some ⟨gb, go, none⟩) n d) ∧ w'.cell? ⟨gb, go + k, none⟩ = some (.int .i64 pg))
                          (refine ⟨?_, ?_, ?_⟩ <;> (repeat (first | with_reducible assumption | with_reducible refine cell_keep ?_ _ | with_reducible refine cell_drew ?_ | with_reducible refine cell_set _ hnzP ?_ | with_reducible refine cell_set _ hnzG ?_ | refine keepc hb32 ?_)))
                          ((go_at_call 14; refine (HRR.out _ (HXz.out.below (by go_grown))).mono ?_; rintro e w32 ⟨rfl, hb32⟩; have Zq := Z0.out.drew.below hb32; have zc0 := Zq.get 0 (.int .i64 0) rfl; have zf0 := Zq.free 0; have zc1 := Zq.get 1 (.int .i64 0) rfl; have zf1 := Zq.free 1; have zc2 := Zq.get 2 (.bool false) rfl; have zf2 := Zq.free 2; have zc3 := Zq.get 3 (.bool false) rfl; have zf3 := Zq.free 3; have zc4 := Zq.get 4 (.bool false) rfl; have zf4 := Zq.free 4; have zc5 := Zq.get 5 (.bool false) rfl; have zf5 := Zq.free 5; have zc6 := Zq.get 6 (.bool false) rfl; have zf6 := Zq.free 6; have zc7 := Zq.get 7 (.int .i64 0) rfl; have zf7 := Zq.free 7; have zc8 := Zq.get 8 (.int .i64 0) rfl; have zf8 := Zq.free 8; clear Zq))
                        clear zc0 zf0 zc1 zf1 zc2 zf2 zc3 zf3 zc4 zf4 zc5 zf5 zc6 zf6 zc7 zf7 zc8 zf8
                        have P33 := Lib.hid ((P29.out.drew).below hb32)
                        have D33 := Lib.hid ((D29.out.drew).below hb32)
                        have Z33 := Lib.hid ((Z29.out.drew).below hb32)
                        have B33 := Lib.hid (bel_trans (Below.drew B29.out) hb32)
                        clear Pc0 Pc2 hpk31
                        clear P29 D29 Z29 B29 hb32
                        clear Z0 HXz
                        have P34 := Lib.hid ((((((((((P33.out.other ⟨w20.heap.size, 0, none⟩ (.int .i64 dk) (by first | with_reducible assumption | (simp; done) | (simp; omega))).other ⟨w20.heap.size, 1, none⟩ (.int .i64 df) (by first | with_reducible assumption | (simp; done) | (simp; omega))).other ⟨w20.heap.size, 2, none⟩ (.bool dr) (by first | with_reducible assumption | (simp; done) | (simp; omega))).other ⟨w20.heap.size, 3, none⟩ (.bool dw) (by first | with_reducible assumption | (simp; done) | (simp; omega))).other ⟨w20.heap.size, 4, none⟩ (.bool dx) (by first | with_reducible assumption | (simp; done) | (simp; omega))).other ⟨w20.heap.size, 5, none⟩ (.bool da) (by first | with_reducible assumption | (simp; done) | (simp; omega))).other ⟨w20.heap.size, 6, none⟩ (.bool dn) (by first | with_reducible assumption | (simp; done) | (simp; omega))).other ⟨w20.heap.size, 7, none⟩ (.int .i64 ds) (by first | with_reducible assumption | (simp; done) | (simp; omega))).other ⟨w20.heap.size, 8, none⟩ (.int .i64 d0) (by first | with_reducible assumption | (simp; done) | (simp; omega))))
                        have D34 := Lib.hid ((((((((((D33.out.other ⟨w20.heap.size, 0, none⟩ (.int .i64 dk) (by first | with_reducible assumption | (simp; done) | (simp; omega))).other ⟨w20.heap.size, 1, none⟩ (.int .i64 df) (by first | with_reducible assumption | (simp; done) | (simp; omega))).other ⟨w20.heap.size, 2, none⟩ (.bool dr) (by first | with_reducible assumption | (simp; done) | (simp; omega))).other ⟨w20.heap.size, 3, none⟩ (.bool dw) (by first | with_reducible assumption | (simp; done) | (simp; omega))).other ⟨w20.heap.size, 4, none⟩ (.bool dx) (by first | with_reducible assumption | (simp; done) | (simp; omega))).other ⟨w20.heap.size, 5, none⟩ (.bool da) (by first | with_reducible assumption | (simp; done) | (simp; omega))).other ⟨w20.heap.size, 6, none⟩ (.bool dn) (by first | with_reducible assumption | (simp; done) | (simp; omega))).other ⟨w20.heap.size, 7, none⟩ (.int .i64 ds) (by first | with_reducible assumption | (simp; done) | (simp; omega))).other ⟨w20.heap.size, 8, none⟩ (.int .i64 d0) (by first | with_reducible assumption | (simp; done) | (simp; omega))))
                        have Z34 := Lib.hid ((((((((((Z33.out.set 0 (.int .i64 dk) #[.int .i64 dk, .int .i64 0, .bool false, .bool false, .bool false, .bool false, .bool false, .int .i64 0, .int .i64 0] rfl).set 1 (.int .i64 df) #[.int .i64 dk, .int .i64 df, .bool false, .bool false, .bool false, .bool false, .bool false, .int .i64 0, .int .i64 0] rfl).set 2 (.bool dr) #[.int .i64 dk, .int .i64 df, .bool dr, .bool false, .bool false, .bool false, .bool false, .int .i64 0, .int .i64 0] rfl).set 3 (.bool dw) #[.int .i64 dk, .int .i64 df, .bool dr, .bool dw, .bool false, .bool false, .bool false, .int .i64 0, .int .i64 0] rfl).set 4 (.bool dx) #[.int .i64 dk, .int .i64 df, .bool dr, .bool dw, .bool dx, .bool false, .bool false, .int .i64 0, .int .i64 0] rfl).set 5 (.bool da) #[.int .i64 dk, .int .i64 df, .bool dr, .bool dw, .bool dx, .bool da, .bool false, .int .i64 0, .int .i64 0] rfl).set 6 (.bool dn) #[.int .i64 dk, .int .i64 df, .bool dr, .bool dw, .bool dx, .bool da, .bool dn, .int .i64 0, .int .i64 0] rfl).set 7 (.int .i64 ds) #[.int .i64 dk, .int .i64 df, .bool dr, .bool dw, .bool dx, .bool da, .bool dn, .int .i64 ds, .int .i64 0] rfl).set 8 (.int .i64 d0) #[.int .i64 dk, .int .i64 df, .bool dr, .bool dw, .bool dx, .bool da, .bool dn, .int .i64 ds, .int .i64 d0] rfl))
                        have B34 := Lib.hid ((Below.setCell (Below.setCell (Below.setCell (Below.setCell (Below.setCell (Below.setCell (Below.setCell (Below.setCell (Below.setCell B33.out (p := ⟨w20.heap.size, 0, none⟩) (by first | with_reducible assumption | (simp; done) | (simp; omega)) (.int .i64 dk)) (p := ⟨w20.heap.size, 1, none⟩) (by first | with_reducible assumption | (simp; done) | (simp; omega)) (.int .i64 df)) (p := ⟨w20.heap.size, 2, none⟩) (by first | with_reducible assumption | (simp; done) | (simp; omega)) (.bool dr)) (p := ⟨w20.heap.size, 3, none⟩) (by first | with_reducible assumption | (simp; done) | (simp; omega)) (.bool dw)) (p := ⟨w20.heap.size, 4, none⟩) (by first | with_reducible assumption | (simp; done) | (simp; omega)) (.bool dx)) (p := ⟨w20.heap.size, 5, none⟩) (by first | with_reducible assumption | (simp; done) | (simp; omega)) (.bool da)) (p := ⟨w20.heap.size, 6, none⟩) (by first | with_reducible assumption | (simp; done) | (simp; omega)) (.bool dn)) (p := ⟨w20.heap.size, 7, none⟩) (by first | with_reducible assumption | (simp; done) | (simp; omega)) (.int .i64 ds)) (p := ⟨w20.heap.size, 8, none⟩) (by first | with_reducible assumption | (simp; done) | (simp; omega)) (.int .i64 d0)))
                        clear P33 D33 Z33 B33
                        obtain ⟨w30, hw30⟩ : ∃ w30, w30 = (((((((((w32.setCell ⟨w20.heap.size, 0, none⟩ (.int .i64 dk)).setCell ⟨w20.heap.size, 1, none⟩ (.int .i64 df)).setCell ⟨w20.heap.size, 2, none⟩ (.bool dr)).setCell ⟨w20.heap.size, 3, none⟩ (.bool dw)).setCell ⟨w20.heap.size, 4, none⟩ (.bool dx)).setCell ⟨w20.heap.size, 5, none⟩ (.bool da)).setCell ⟨w20.heap.size, 6, none⟩ (.bool dn)).setCell ⟨w20.heap.size, 7, none⟩ (.int .i64 ds)).setCell ⟨w20.heap.size, 8, none⟩ (.int .i64 d0)) := ⟨_, rfl⟩
                        rw [← hw30] at P34 D34 Z34 B34 ⊢
                        clear hw30
                        have Dc0 := D34.out.get 0 (.int .i64 dk) rfl
                        have Dc1 := D34.out.get 1 (.int .i64 df) rfl
                        have Dc2 := D34.out.get 2 (.bool dr) rfl
                        have Dc3 := D34.out.get 3 (.bool dw) rfl
                        have Dc4 := D34.out.get 4 (.bool dx) rfl
                        have Dc5 := D34.out.get 5 (.bool da) rfl
                        have Dc6 := D34.out.get 6 (.bool dn) rfl
                        have Dc7 := D34.out.get 7 (.int .i64 ds) rfl
                        have Dc8 := D34.out.get 8 (.int .i64 d0) rfl
                        have Zc0 := Z34.out.get 0 (.int .i64 dk) rfl
                        have Zc1 := Z34.out.get 1 (.int .i64 df) rfl
                        have Zc2 := Z34.out.get 2 (.bool dr) rfl
                        have Zc3 := Z34.out.get 3 (.bool dw) rfl
                        have Zc4 := Z34.out.get 4 (.bool dx) rfl
                        have Zc5 := Z34.out.get 5 (.bool da) rfl
                        have Zc6 := Z34.out.get 6 (.bool dn) rfl
                        have Zc7 := Z34.out.get 7 (.int .i64 ds) rfl
                        have Zc8 := Z34.out.get 8 (.int .i64 d0) rfl
                        go_wp2_with (first | (go_at_call 15; refine (lnum5_any _ _).mono ?_; rintro e w40 ⟨rfl, rfl⟩))
                        go_roundw
                        case rel => exact ⟨0 + 1, by decide, by decide, rfl, B34.out⟩
                        case measure => (simp [intOf] <;> omega)
                · have e5 : decide (kk < 2) = false := decide_eq_false hkk
                  have HB := Lib.hid hb
                  clear hb
                  go_wp2
                  go_roundw
                  case rel => exact ⟨lv + 1, by omega, by omega, rfl, HB.out⟩
                  case measure => simp [intOf]; omega
            · have e4 : decide (lv ≤ 4) = false := decide_eq_false hlv
              have HB := Lib.hid hb
              clear hb
              go_wp2
              go_roundw
              case rel => exact ⟨st + 1, by omega, by omega, rfl, HB.out⟩
              case measure => simp [intOf]; omega
        · have e3 : decide (st ≤ 3) = false := decide_eq_false hst
          have HB := Lib.hid hb
          clear hb
          go_wp2
          go_roundw
          case rel => exact ⟨k + 1, by omega, by go_num, HB.out⟩
          case measure => simp [intOf]; omega
    · by_cases hq : k < n
      · have hq' : ¬ (k < 12) := by omega
        have HB := Lib.hid hb
        clear hb
        go_wp2_with (go_at_call 16; refine (HW5.out _).mono ?_; rintro e w2 ⟨rfl, hb2⟩)
        go_ret
        exact ⟨rfl, bel_trans (bel_trans B1.out HB.out) hb2⟩
      · have HB := Lib.hid hb
        clear hb
        go_wp2_with (go_at_call 16; refine (HW5.out _).mono ?_; rintro e w2 ⟨rfl, hb2⟩)
        go_ret
        exact ⟨rfl, bel_trans (bel_trans B1.out HB.out) hb2⟩
end Go.Proofs.Ytkpckfmnjebjaaa
