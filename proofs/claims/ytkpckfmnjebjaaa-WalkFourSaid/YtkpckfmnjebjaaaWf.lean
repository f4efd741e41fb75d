/- The walk of WalkFour. -/
import Derived.Test.YtkpckfmnjebjaaaWa
import Derived.Test.YtkpckfmnjebjaaaSt
import Derived.Deep.CutBlock
import Derived.Deep.DeepCutAuto
namespace Go.Proofs.Ytkpckfmnjebjaaa
open Go.ChangeShapes Go.WideShapes Go.ChangeAt Go.RowKit Go.Deep

theorem fourA {l : Nat} {X : Nat → BitVec 64} {st fr pg : Int} (h : walkMay l st fr pg = true) : walkA l X st fr pg = (walkD l X st fr pg, 0) := by unfold walkA; rw [h]; rfl
/-- What a walk tells, at its end. -/
theorem four_read (l : Nat) (X : Nat → BitVec 64) (st fr pg : Int) (h0 : 0 ≤ fr) (hp : 0 ≤ pg) : (walkD l X st fr pg).2.2.length ≤ 4 ∧ (∀ x ∈ (walkD l X st fr pg).2.2, 0 ≤ x ∧ x < (l : Int) / 8) ∧
    (((walkD l X st fr pg).2.1 = flt0 ∧ (walkD l X st fr pg).1.l = ((walkD l X st fr pg).2.2.length : Int) - 1 ∧ 0 ≤ (walkD l X st fr pg).1.f ∧ (walkD l X st fr pg).1.f < (l : Int) / 8) ∨
     ((walkD l X st fr pg).2.1.k ≠ 0 ∧ (walkD l X st fr pg).1 = hit0 ∧ (walkD l X st fr pg).2.1.st = st ∧ (walkD l X st fr pg).2.1.p = pg ∧ ((walkD l X st fr pg).2.1.lv = ((walkD l X st fr pg).2.2.length : Int) ∨ (walkD l X st fr pg).2.1.lv = ((walkD l X st fr pg).2.2.length : Int) - 1))) :=
  walkS_read _ _ st pg (fun lv f => tbl_kind X st lv f pg) (fun lv f => (tbl_frame X st lv f pg).1) hp 4 0 fr [] (by decide) (by decide) h0 rfl (by simp)

set_option maxRecDepth 100000 in
theorem four_heavy (f g : Option Addr) (l c n d : Nat) (fr : Int) (w : World) (hl : l ≤ 1000000000000000) (hn : n ≤ 1000000000000000) (hh : heavy5 l n = true) :
    Calls Try.prog 5 #[.agg #[.slice f l c, .int .i64 fr, .slice g n d]] w fun e w' => e = .returned (.bool true) ∧ Below w.heap.size w w' := by
  have HH := Lib.hid (fun W => heavy5_any f g l c n d fr W hl hn)
  rw [hh] at HH
  clear hh
  go_enter Try.func5, Try.ntmps5
  go_wp2_with (go_at_call 6; refine (HH.out _).mono ?_; rintro e w1 ⟨rfl, hb1⟩)
  go_ret
  exact ⟨rfl, bel_trans (bel_alloc (Below.refl _ _) _) hb1⟩

set_option maxRecDepth 100000 in
set_option maxHeartbeats 12800000 in
theorem four_walk (PW : WalkC) (f g : Option Addr) (l c n d : Nat) (X : Nat → BitVec 64) (P : Nat → Int) (fr : Int) (w : World) (hX : WordsAt w f l X) (hP : NumsAt w g n P) (hlc : l ≤ c) (hh : heavy5 l n = false) :
    Calls Try.prog 5 #[.agg #[.slice f l c, .int .i64 fr, .slice g n d]] w fun e w' => e = .returned (.bool true) ∧ Below w.heap.size w w' := by
  obtain ⟨hl, hn⟩ := heavy5_no hh
  have HH := Lib.hid (fun W => heavy5_any f g l c n d fr W (by omega) (by omega))
  rw [hh] at HH
  clear hh
  have HX := Lib.hid hX
  have HP := Lib.hid hP
  have HPW := Lib.hid (fun st pg W h => PW f l c X st fr pg W (by omega) hlc h)
  have HW5 := Lib.hid (fun W => wakes5_any PW W)
  have HM := Lib.hid (fun W => rmemB f l c W)
  have HPF := Lib.hid (fun W => page_any fr W)
  have X0 := Lib.hid (BoxAt.new w #[.slice f l c, .int .i64 fr, .slice g n d] 27)
  have B0 := Lib.hid (bel_alloc (Below.refl w.heap.size w) (.cells #[.slice f l c, .int .i64 fr, .slice g n d] 27))
  clear hX hP PW
  have hcase : okM l = false ∨ (okM l = true ∧ numB fr 4095 = false) ∨ (okM l = true ∧ numB fr 4095 = true) := by
    cases okM l <;> cases numB fr 4095 <;> simp
  rcases hcase with hm | ⟨hm, hf⟩ | ⟨hm, hf⟩
  · rw [hm] at HM
    go_enter Try.func5, Try.ntmps5
    go_wp2_with fail
    refine (HH.out _).mono ?_
    rintro e w1 ⟨rfl, hb1⟩
    have P2 := Lib.hid (X0.out.below hb1)
    have B2 := Lib.hid (bel_trans B0.out hb1)
    clear X0 B0 hb1
    have Pc0 := P2.out.get 0 (.slice f l c) rfl
    go_wp2_with fail
    refine (HM.out _).mono ?_
    rintro e w3 ⟨rfl, hb3⟩
    have P4 := Lib.hid (P2.out.below hb3)
    have B4 := Lib.hid (bel_trans B2.out hb3)
    clear Pc0
    clear P2 B2 hb3
    go_wp2
    go_ret
    exact ⟨rfl, B4.out⟩
  · rw [hm] at HM
    rw [hf] at HPF
    go_enter Try.func5, Try.ntmps5
    go_wp2_with fail
    refine (HH.out _).mono ?_
    rintro e w1 ⟨rfl, hb1⟩
    have P2 := Lib.hid (X0.out.below hb1)
    have B2 := Lib.hid (bel_trans B0.out hb1)
    clear X0 B0 hb1
    have Pc0 := P2.out.get 0 (.slice f l c) rfl
    go_wp2_with fail
    refine (HM.out _).mono ?_
    rintro e w3 ⟨rfl, hb3⟩
    have P4 := Lib.hid (P2.out.below hb3)
    have B4 := Lib.hid (bel_trans B2.out hb3)
    clear Pc0
    clear P2 B2 hb3
    have Pc1 := P4.out.get 1 (.int .i64 fr) rfl
    go_wp2_with fail
    refine (HPF.out _).mono ?_
    rintro e w5 ⟨rfl, rfl⟩
    clear Pc1
    go_wp2
    go_ret
    exact ⟨rfl, B4.out⟩
  · obtain ⟨l0, l1, l2⟩ := okM_true hm
    have q1 := numB_iff.1 hf
    have HMAY := Lib.hid (fun st pg (hs : st = 1 ∨ st = 2) (hp : numB pg 4095 = true) => (show walkMay l st fr pg = true by unfold walkMay; rw [hm, hf, hp]; simp [hs]))
    have HRD := Lib.hid (fun st pg hp => four_read l X st fr pg q1.1 hp)
    have HFR := Lib.hid (fun W => rframesB f l c W (by omega))
    rw [hm] at HM
    rw [hf] at HPF
    go_enter Try.func5, Try.ntmps5
    go_wp2_with fail
    refine (HH.out _).mono ?_
    rintro e w1 ⟨rfl, hb1⟩
    have P2 := Lib.hid (X0.out.below hb1)
    have B2 := Lib.hid (bel_trans B0.out hb1)
    clear X0 B0 hb1
    have Pc0 := P2.out.get 0 (.slice f l c) rfl
    go_wp2_with fail
    refine (HM.out _).mono ?_
    rintro e w3 ⟨rfl, hb3⟩
    have P4 := Lib.hid (P2.out.below hb3)
    have B4 := Lib.hid (bel_trans B2.out hb3)
    clear Pc0
    clear P2 B2 hb3
    have Pc1 := P4.out.get 1 (.int .i64 fr) rfl
    go_wp2_with fail
    refine (HPF.out _).mono ?_
    rintro e w5 ⟨rfl, rfl⟩
    clear Pc1
    clear hm hf
    have HX1 := Lib.hid (HX.out.below B4.out)
    have HP1 := Lib.hid (HP.out.below B4.out)
    obtain ⟨w1, rfl⟩ : ∃ w1 : World, w1 = w3 := ⟨_, rfl⟩
    have N0 : 1 ≤ (l : Int) / 8 := by omega
    have N1 : (l : Int) / 8 ≤ 250 := by omega
    have iN : IntKind.i64.wrap ((l : Int) / 8 - 1) = (l : Int) / 8 - 1 := IntWalk.i64_in _ (by omega)
    clear HX HP l0 l1 l2 HM HPF HH
    generalize (l : Int) / 8 = N at *
    go_wp2_with fail
    go_loopw [3] (fun i wr => ∃ k : Nat, k ≤ n ∧ i = .int .i64 k ∧ Below w1.heap.size w1 wr) (fun i _ => n - (intOf i).toNat)
    case atStart => exact ⟨0, Nat.zero_le _, rfl, Below.refl _ _⟩
    case round =>
      obtain ⟨k, hk, rfl, hb⟩ := hrel
      have pc2 := (P4.out.below hb).get 2 (.slice g n d) rfl
      by_cases hlt : k < n ∧ k < 40
      · obtain ⟨hlt, hlt'⟩ := hlt
        have i1 : (0 : Int) ≤ (k : Int) := by omega
        have i2 : (k : Int) < (n : Int) := by omega
        have d12 : decide ((k : Int) < 40) = true := decide_eq_true (by omega)
        obtain ⟨gb, go, rfl, hpk0⟩ := HP1.out k hlt
        have hpk : w1.cell? ⟨gb, go + k, none⟩ = some (.int .i64 (P k)) := hpk0
        generalize P k = pw at *
        have hpk := keepc hb hpk
        have p0 := within_lo pw 4096 (by decide)
        have p1 := within_hi pw 4096 (by decide)
        have HWI := Lib.hid (fun W => within_any pw 4096 W (by decide) (by decide))
        generalize withinV pw 4096 = pg at *
        have HPG : Hid (numB pg 4095 = true) := numB_iff.2 ⟨p0, by omega⟩
        have HB0 := Lib.hid hb
        clear hb hpk0
        go_wp2_with fail
        refine (HWI.out _).mono ?_
        rintro e wq ⟨rfl, rfl⟩
        go_wp2_with fail
        clear pc2 hpk
        obtain ⟨wa, rfl⟩ : ∃ wa : World, wa = wr := ⟨_, rfl⟩
        go_loopw [5] (fun t wi => ∃ st : Int, 1 ≤ st ∧ st ≤ 3 ∧ t = .int .i64 st ∧ Below w1.heap.size w1 wi) (fun t _ => (3 - intOf t).toNat)
        case atStart => exact ⟨1, by decide, by decide, rfl, HB0.out⟩
        case round =>
          obtain ⟨st, hs0, hs4, rfl, hb⟩ := hrel
          by_cases hst : st ≤ 2
          · have e3 : decide (st ≤ 2) = true := decide_eq_true hst
            have hs12 : st = 1 ∨ st = 2 := by omega
            have HT := Lib.hid (fun W h => HPW.out st pg W h)
            simp only [fourA (HMAY.out st pg hs12 HPG.out)] at HT
            have HRR := HRD.out st pg p0
            generalize walkD l X st fr pg = q at *
            obtain ⟨hR4, hRx, hq⟩ := HRR
            unfold Walk4End hitV fltV at HT
            have HRX := Lib.hid hRx
            have HQ := Lib.hid hq
            clear hRx hq
            obtain ⟨⟨hf, hm, ⟨hr, hw, hx, ha, hn', hs⟩, hl'⟩, ⟨fk, fs, fl, fw, fp⟩, R⟩ := q
            simp only at HT hR4 HRX HQ
            have HB := Lib.hid hb
            have X2 := Lib.hid (P4.out.below hb)
            have HXc := Lib.hid (HX1.out.below hb)
            have hpk2 := Lib.hid hb.size
            clear hb
            have Pc0 := X2.out.get 0 (.slice f l c) rfl
            have Pc1 := X2.out.get 1 (.int .i64 fr) rfl
            go_wp2_with fail
            refine (HT.out _ HXc.out).mono ?_
            rintro e w20 ⟨f', c', rfl, hO20, hb20⟩
            have O20 := Lib.hid hO20
            have P20 := Lib.hid (X2.out.below hb20)
            have B20 := Lib.hid (bel_trans HB.out hb20)
            have hs20 : wr.heap.size ≤ w20.heap.size := hb20.size
            clear hO20 hb20 X2 HB HXc HT Pc0 Pc1
            have hlP := P20.out.lt
            go_upto_region 11 with fail
            have H21 := Lib.hid ((BoxAt.new w20 #[.int .i64 hf, .int .i64 hm, .bool hr, .bool hw, .bool hx, .bool ha, .bool hn', .int .i64 hs, .int .i64 hl'] 45).alloc (.cells #[.int .i64 fk, .int .i64 fs, .int .i64 fl, .bool fw, .int .i64 fp] 47))
            have F21 := Lib.hid (BoxAt.newAt (w20.alloc (.cells #[.int .i64 hf, .int .i64 hm, .bool hr, .bool hw, .bool hx, .bool ha, .bool hn', .int .i64 hs, .int .i64 hl'] 45)) #[.int .i64 fk, .int .i64 fs, .int .i64 fl, .bool fw, .int .i64 fp] 47 (w20.heap.size + 1) (by simp))
            have P21 := Lib.hid ((P20.out.alloc (.cells #[.int .i64 hf, .int .i64 hm, .bool hr, .bool hw, .bool hx, .bool ha, .bool hn', .int .i64 hs, .int .i64 hl'] 45)).alloc (.cells #[.int .i64 fk, .int .i64 fs, .int .i64 fl, .bool fw, .int .i64 fp] 47))
            have O21 := Lib.hid ((O20.out.alloc (.cells #[.int .i64 hf, .int .i64 hm, .bool hr, .bool hw, .bool hx, .bool ha, .bool hn', .int .i64 hs, .int .i64 hl'] 45)).alloc (.cells #[.int .i64 fk, .int .i64 fs, .int .i64 fl, .bool fw, .int .i64 fp] 47))
            have B21 := Lib.hid (bel_alloc (bel_alloc B20.out (.cells #[.int .i64 hf, .int .i64 hm, .bool hr, .bool hw, .bool hx, .bool ha, .bool hn', .int .i64 hs, .int .i64 hl'] 45)) (.cells #[.int .i64 fk, .int .i64 fs, .int .i64 fl, .bool fw, .int .i64 fp] 47))
            clear P20 O20 B20
            obtain ⟨W8, hW8⟩ : ∃ W8, W8 = (w20.alloc (.cells #[.int .i64 hf, .int .i64 hm, .bool hr, .bool hw, .bool hx, .bool ha, .bool hn', .int .i64 hs, .int .i64 hl'] 45)).alloc (.cells #[.int .i64 fk, .int .i64 fs, .int .i64 fl, .bool fw, .int .i64 fp] 47) := ⟨_, rfl⟩
            obtain ⟨bH, hbH⟩ : ∃ bH, bH = w20.heap.size := ⟨_, rfl⟩
            rw [← hW8] at P21 H21 F21 O21 B21 ⊢
            rw [← hbH] at H21 F21 hlP ⊢
            have hbw : wr.heap.size ≤ bH := by rw [hbH]; exact hs20
            clear hW8 hbH hs20
            have d4 : decide ((4 : Int) < (R.length : Int)) = false := decide_eq_false (by omega)
            go_wp2_with fail
            refine (lnum5_any _ _).mono ?_
            rintro e w22 ⟨rfl, rfl⟩
            go_wp2_with fail
            obtain ⟨wb, rfl⟩ : ∃ wb : World, wb = wr := ⟨_, rfl⟩
            go_loopw [10] (fun t wi => ∃ j : Nat, j ≤ R.length ∧ t = .int .i64 j ∧ Below W8.heap.size W8 wi) (fun t _ => R.length - (intOf t).toNat)
            case atStart => exact ⟨0, Nat.zero_le _, rfl, Below.refl _ _⟩
            case round =>
              obtain ⟨j, hj, rfl, hb⟩ := hrel
              by_cases hjl : j < R.length
              · have hxj := HRX.out (R.getD j 0) (by rw [← List.getElem_eq_getD (h := hjl)]; exact List.getElem_mem hjl)
                obtain ⟨ob, oo, rfl, hoc0⟩ := O21.out.ints.2.get j hjl
                have hoc := keepc hb hoc0
                have HNX := Lib.hid (fun W => num_any (R.getD j 0) (N - 1) W)
                rw [show numB (R.getD j 0) (N - 1) = true from numB_iff.2 ⟨hxj.1, by omega⟩] at HNX
                generalize R.getD j 0 = xj at *
                have hp0 := (P21.out.below hb).get 0 (.slice f l c) rfl
                have i3 : (0 : Int) ≤ (j : Int) := by omega
                have i4 : (j : Int) < (R.length : Int) := by omega
                have HB3 := Lib.hid hb
                clear hb hoc0 hxj
                go_wp2_with fail
                go_region_held3 (fun w' => w'.cell? ⟨ob, oo + j, none⟩ = some (.int .i64 xj) ∧ w'.cell? ⟨w.heap.size, 0, none⟩ = some (.slice f l c))
                  (refine ⟨?_, ?_⟩ <;> (first | exact hoc | exact hp0 | exact keepc hb31 hoc | exact keepc hb31 hp0))
                  (first
                    | (go_at_call 13; refine (HFR.out _).mono ?_; rintro e w31 ⟨rfl, hb31⟩)
                    | (go_at_call 12; refine (HNX.out _).mono ?_; rintro e w32 ⟨rfl, rfl⟩))
                go_wp2
                go_roundw
                case rel => exact ⟨j + 1, by omega, by go_num, bel_trans (Below.drew HB3.out) hb31⟩
                case measure => simp [intOf]; omega
              · have ej : j = R.length := by omega
                subst ej
                have H3 := Lib.hid (H21.out.below hb)
                have F3 := Lib.hid (F21.out.below hb)
                have P3 := Lib.hid (P21.out.below hb)
                have B3 := Lib.hid (bel_trans B21.out hb)
                clear hb H21 F21 P21 B21 O21
                obtain ⟨w3, rfl⟩ : ∃ w3 : World, w3 = wr := ⟨_, rfl⟩
                rcases HQ.out with hq | hq
                · obtain ⟨hq1, hq2, hq3, hq4⟩ := hq
                  simp only [flt0, Flt.mk.injEq] at hq1
                  obtain ⟨rfl, rfl, rfl, rfl, rfl⟩ := hq1
                  have i5 : IntKind.i64.wrap ((R.length : Int) - 1) = hl' := by rw [hq2]; exact IntWalk.i64_in _ (by omega)
                  clear hq2
                  have HNX := Lib.hid (fun W => num_any hf (N - 1) W)
                  rw [show numB hf (N - 1) = true from numB_iff.2 ⟨hq3, by omega⟩] at HNX
                  clear hq3 hq4
                  have ef := eqF_self ⟨0, 0, 0, false, 0⟩
                  have Fc0 := F3.out.get 0 (.int .i64 0) rfl
                  have Fc1 := F3.out.get 1 (.int .i64 0) rfl
                  have Fc2 := F3.out.get 2 (.int .i64 0) rfl
                  have Fc3 := F3.out.get 3 (.bool false) rfl
                  have Fc4 := F3.out.get 4 (.int .i64 0) rfl
                  have Hc0 := H3.out.get 0 (.int .i64 hf) rfl
                  have Hc8 := H3.out.get 8 (.int .i64 hl') rfl
                  have Pc0 := P3.out.get 0 (.slice f l c) rfl
                  go_upto_region 18 with fail
                  go_region_held3 (fun w' => w'.cell? ⟨bH + 1, 0, none⟩ = some (.int .i64 0) ∧ w'.cell? ⟨bH + 1, 1, none⟩ = some (.int .i64 0) ∧ w'.cell? ⟨bH + 1, 2, none⟩ = some (.int .i64 0) ∧ w'.cell? ⟨bH + 1, 3, none⟩ = some (.bool false) ∧ w'.cell? ⟨bH + 1, 4, none⟩ = some (.int .i64 0) ∧ w'.cell? ⟨bH, 0, none⟩ = some (.int .i64 hf) ∧ w'.cell? ⟨bH, 8, none⟩ = some (.int .i64 hl') ∧ w'.cell? ⟨w.heap.size, 0, none⟩ = some (.slice f l c))
                    (refine ⟨?_, ?_, ?_, ?_, ?_, ?_, ?_, ?_⟩ <;> (first | exact Fc0 | exact Fc1 | exact Fc2 | exact Fc3 | exact Fc4 | exact Hc0 | exact Hc8 | exact Pc0 | exact keepc hb41 Fc0 | exact keepc hb41 Fc1 | exact keepc hb41 Fc2 | exact keepc hb41 Fc3 | exact keepc hb41 Fc4 | exact keepc hb41 Hc0 | exact keepc hb41 Hc8 | exact keepc hb41 Pc0))
                    (first
                      | (go_at_call 13; refine (HFR.out _).mono ?_; rintro e w41 ⟨rfl, hb41⟩)
                      | (go_at_call 12; refine (HNX.out _).mono ?_; rintro e w42 ⟨rfl, rfl⟩))
                  have P41 := Lib.hid ((P3.out.drew).below hb41)
                  have H41 := Lib.hid ((H3.out.drew).below hb41)
                  have F41 := Lib.hid ((F3.out.drew).below hb41)
                  have B41 := Lib.hid (bel_trans (Below.drew B3.out) hb41)
                  clear Fc0 Fc1 Fc2 Fc3 Fc4 Hc0 Hc8 Pc0
                  clear P3 H3 F3 B3 hb41
                  have Fc0 := F41.out.get 0 (.int .i64 0) rfl
                  go_wp2
                  go_roundw
                  case rel => exact ⟨st + 1, by omega, by omega, rfl, B41.out⟩
                  case measure => (simp [intOf] <;> omega)
                · obtain ⟨hk, hq1, hs1, hp1, hq3⟩ := hq
                  have hs1 := hs1.symm
                  subst hs1
                  have hp1 := hp1.symm
                  subst hp1
                  simp only [hit0, atr0, Hit.mk.injEq, Atr.mk.injEq] at hq1
                  obtain ⟨rfl, rfl, ⟨rfl, rfl, rfl, rfl, rfl, rfl⟩, rfl⟩ := hq1
                  have eh := eqH_self ⟨0, 0, ⟨false, false, false, false, false, 0⟩, 0⟩
                  have dk : decide (fk = 0) = false := decide_eq_false hk
                  have bk : (fk == 0) = false := by rw [beq_int]; exact dk
                  have Fc0 := F3.out.get 0 (.int .i64 fk) rfl
                  have Fc1 := F3.out.get 1 (.int .i64 st) rfl
                  have Fc2 := F3.out.get 2 (.int .i64 fl) rfl
                  have Fc3 := F3.out.get 3 (.bool fw) rfl
                  have Fc4 := F3.out.get 4 (.int .i64 pg) rfl
                  have Hc0 := H3.out.get 0 (.int .i64 0) rfl
                  have Hc1 := H3.out.get 1 (.int .i64 0) rfl
                  have Hc2 := H3.out.get 2 (.bool false) rfl
                  have Hc3 := H3.out.get 3 (.bool false) rfl
                  have Hc4 := H3.out.get 4 (.bool false) rfl
                  have Hc5 := H3.out.get 5 (.bool false) rfl
                  have Hc6 := H3.out.get 6 (.bool false) rfl
                  have Hc7 := H3.out.get 7 (.int .i64 0) rfl
                  have Hc8 := H3.out.get 8 (.int .i64 0) rfl
                  go_upto_region 18 with fail
                  refine wp_region_held_drew (S := (fun w' => w'.cell? ⟨bH + 1, 0, none⟩ = some (.int .i64 fk))) (by kernel_rfl) Fc0 (fun hS => ?_)
                  refine wpAnyH_take (i := 0) (oi := ⟨some 82, _, _, _, _, _⟩) (v := ?_) rfl (by kernel_rfl) (by kernel_rfl) (by kernel_rfl) (fun _ _ _ h => h) (Or.inl ⟨by rfl, ?_⟩) hS ?_
                  rotate_left
                  · (intro w' hSw; have s1 := hSw; go_simp; try with_reducible rfl)
                  simp only [Act.put, List.setIfInBounds_toArray, List.set_cons_zero, List.set_cons_succ]
                  refine wpAnyH_take (i := 1) (oi := ⟨some 83, _, _, _, _, _⟩) (v := ?_) rfl (by kernel_rfl) (by kernel_rfl) (by kernel_rfl) (fun _ _ _ h => h) (Or.inl ⟨by rfl, ?_⟩) hS ?_
                  rotate_left
                  · (intro w' hSw; have s1 := hSw; go_simp; try with_reducible rfl)
                  simp only [Act.put, List.setIfInBounds_toArray, List.set_cons_zero, List.set_cons_succ]
                  refine wpAnyH_take (i := 2) (oi := ⟨some 84, _, _, _, _, _⟩) (v := ?_) rfl (by kernel_rfl) (by kernel_rfl) (by kernel_rfl) (fun _ _ _ h => h) (Or.inl ⟨by rfl, ?_⟩) hS ?_
                  rotate_left
                  · (intro w' hSw; have s1 := hSw; go_simp; try with_reducible rfl)
                  simp only [Act.put, List.setIfInBounds_toArray, List.set_cons_zero, List.set_cons_succ]
                  refine wpAnyH_take (i := 3) (oi := ⟨some 85, _, _, _, _, _⟩) (v := ?_) rfl (by kernel_rfl) (by kernel_rfl) (by kernel_rfl) (fun _ _ _ h => h) (Or.inl ⟨by rfl, ?_⟩) hS ?_
                  rotate_left
                  · (intro w' hSw; have s1 := hSw; go_simp; try with_reducible rfl)
                  simp only [Act.put, List.setIfInBounds_toArray, List.set_cons_zero, List.set_cons_succ]
                  refine wpAnyH_take (i := 4) (oi := ⟨some 86, _, _, _, _, _⟩) (v := undef) rfl (by kernel_rfl) (by kernel_rfl) (by kernel_rfl) (fun _ _ _ h => h) (Or.inr ⟨by rfl, rfl⟩) hS ?_
                  simp only [Act.put, List.setIfInBounds_toArray, List.set_cons_zero, List.set_cons_succ]
                  refine wpAnyH_take (i := 5) (oi := ⟨some 87, _, _, _, _, _⟩) (v := undef) rfl (by kernel_rfl) (by kernel_rfl) (by kernel_rfl) (fun _ _ _ h => h) (Or.inr ⟨by rfl, rfl⟩) hS ?_
                  simp only [Act.put, List.setIfInBounds_toArray, List.set_cons_zero, List.set_cons_succ]
                  refine wpAnyH_take (i := 6) (oi := ⟨some 88, _, _, _, _, _⟩) (v := undef) rfl (by kernel_rfl) (by kernel_rfl) (by kernel_rfl) (fun _ _ _ h => h) (Or.inr ⟨by rfl, rfl⟩) hS ?_
                  simp only [Act.put, List.setIfInBounds_toArray, List.set_cons_zero, List.set_cons_succ]
                  refine wpAnyH_take (i := 7) (oi := ⟨some 89, _, _, _, _, _⟩) (v := undef) rfl (by kernel_rfl) (by kernel_rfl) (by kernel_rfl) (fun _ _ _ h => h) (Or.inr ⟨by rfl, rfl⟩) hS ?_
                  simp only [Act.put, List.setIfInBounds_toArray, List.set_cons_zero, List.set_cons_succ]
                  refine wpAnyH_take (i := 8) (oi := ⟨some 90, _, _, _, _, _⟩) (v := undef) rfl (by kernel_rfl) (by kernel_rfl) (by kernel_rfl) (fun _ _ _ h => h) (Or.inr ⟨by rfl, rfl⟩) hS ?_
                  simp only [Act.put, List.setIfInBounds_toArray, List.set_cons_zero, List.set_cons_succ]
                  refine wpAnyH_take (i := 9) (oi := ⟨some 91, _, _, _, _, _⟩) (v := undef) rfl (by kernel_rfl) (by kernel_rfl) (by kernel_rfl) (fun _ _ _ h => h) (Or.inr ⟨by rfl, rfl⟩) hS ?_
                  simp only [Act.put, List.setIfInBounds_toArray, List.set_cons_zero, List.set_cons_succ]
                  refine wpAnyH_take (i := 10) (oi := ⟨some 92, _, _, _, _, _⟩) (v := undef) rfl (by kernel_rfl) (by kernel_rfl) (by kernel_rfl) (fun _ _ _ h => h) (Or.inr ⟨by rfl, rfl⟩) hS ?_
                  simp only [Act.put, List.setIfInBounds_toArray, List.set_cons_zero, List.set_cons_succ]
                  refine wpAnyH_take (i := 11) (oi := ⟨some 93, _, _, _, _, _⟩) (v := undef) rfl (by kernel_rfl) (by kernel_rfl) (by kernel_rfl) (fun _ _ _ h => h) (Or.inr ⟨by rfl, rfl⟩) hS ?_
                  simp only [Act.put, List.setIfInBounds_toArray, List.set_cons_zero, List.set_cons_succ]
                  refine wpAnyH_take (i := 12) (oi := ⟨some 94, _, _, _, _, _⟩) (v := undef) rfl (by kernel_rfl) (by kernel_rfl) (by kernel_rfl) (fun _ _ _ h => h) (Or.inr ⟨by rfl, rfl⟩) hS ?_
                  simp only [Act.put, List.setIfInBounds_toArray, List.set_cons_zero, List.set_cons_succ]
                  refine wpAnyH_take (i := 13) (oi := ⟨some 95, _, _, _, _, _⟩) (v := undef) rfl (by kernel_rfl) (by kernel_rfl) (by kernel_rfl) (fun _ _ _ h => h) (Or.inr ⟨by rfl, rfl⟩) hS ?_
                  simp only [Act.put, List.setIfInBounds_toArray, List.set_cons_zero, List.set_cons_succ]
                  refine wpAnyH_take (i := 14) (oi := ⟨some 96, _, _, _, _, _⟩) (v := undef) rfl (by kernel_rfl) (by kernel_rfl) (by kernel_rfl) (fun _ _ _ h => h) (Or.inr ⟨by rfl, rfl⟩) hS ?_
                  simp only [Act.put, List.setIfInBounds_toArray, List.set_cons_zero, List.set_cons_succ]
                  refine wpAnyH_take (i := 15) (oi := ⟨some 97, _, _, _, _, _⟩) (v := undef) rfl (by kernel_rfl) (by kernel_rfl) (by kernel_rfl) (fun _ _ _ h => h) (Or.inr ⟨by rfl, rfl⟩) hS ?_
                  simp only [Act.put, List.setIfInBounds_toArray, List.set_cons_zero, List.set_cons_succ]
                  refine wpAnyH_take (i := 16) (oi := ⟨some 98, _, _, _, _, _⟩) (v := undef) rfl (by kernel_rfl) (by kernel_rfl) (by kernel_rfl) (fun _ _ _ h => h) (Or.inr ⟨by rfl, rfl⟩) hS ?_
                  simp only [Act.put, List.setIfInBounds_toArray, List.set_cons_zero, List.set_cons_succ]
                  refine wpAnyH_take (i := 17) (oi := ⟨some 99, _, _, _, _, _⟩) (v := undef) rfl (by kernel_rfl) (by kernel_rfl) (by kernel_rfl) (fun _ _ _ h => h) (Or.inr ⟨by rfl, rfl⟩) hS ?_
                  simp only [Act.put, List.setIfInBounds_toArray, List.set_cons_zero, List.set_cons_succ]
                  refine wpAnyH_take (i := 18) (oi := ⟨some 100, _, _, _, _, _⟩) (v := undef) rfl (by kernel_rfl) (by kernel_rfl) (by kernel_rfl) (fun _ _ _ h => h) (Or.inr ⟨by rfl, rfl⟩) hS ?_
                  simp only [Act.put, List.setIfInBounds_toArray, List.set_cons_zero, List.set_cons_succ]
                  refine wpAnyH_take (i := 19) (oi := ⟨some 101, _, _, _, _, _⟩) (v := undef) rfl (by kernel_rfl) (by kernel_rfl) (by kernel_rfl) (fun _ _ _ h => h) (Or.inr ⟨by rfl, rfl⟩) hS ?_
                  simp only [Act.put, List.setIfInBounds_toArray, List.set_cons_zero, List.set_cons_succ]
                  refine wpAnyH_take (i := 20) (oi := ⟨some 102, _, _, _, _, _⟩) (v := undef) rfl (by kernel_rfl) (by kernel_rfl) (by kernel_rfl) (fun _ _ _ h => h) (Or.inr ⟨by rfl, rfl⟩) hS ?_
                  simp only [Act.put, List.setIfInBounds_toArray, List.set_cons_zero, List.set_cons_succ]
                  refine wpAnyH_take (i := 21) (oi := ⟨some 103, _, _, _, _, _⟩) (v := undef) rfl (by kernel_rfl) (by kernel_rfl) (by kernel_rfl) (fun _ _ _ h => h) (Or.inr ⟨by rfl, rfl⟩) hS ?_
                  simp only [Act.put, List.setIfInBounds_toArray, List.set_cons_zero, List.set_cons_succ]
                  refine wpAnyH_take (i := 22) (oi := ⟨some 104, _, _, _, _, _⟩) (v := undef) rfl (by kernel_rfl) (by kernel_rfl) (by kernel_rfl) (fun _ _ _ h => h) (Or.inr ⟨by rfl, rfl⟩) hS ?_
                  simp only [Act.put, List.setIfInBounds_toArray, List.set_cons_zero, List.set_cons_succ]
                  refine wpAnyH_take (i := 23) (oi := ⟨some 105, _, _, _, _, _⟩) (v := undef) rfl (by kernel_rfl) (by kernel_rfl) (by kernel_rfl) (fun _ _ _ h => h) (Or.inr ⟨by rfl, rfl⟩) hS ?_
                  simp only [Act.put, List.setIfInBounds_toArray, List.set_cons_zero, List.set_cons_succ]
                  refine wpAnyH_take (i := 24) (oi := ⟨some 106, _, _, _, _, _⟩) (v := undef) rfl (by kernel_rfl) (by kernel_rfl) (by kernel_rfl) (fun _ _ _ h => h) (Or.inr ⟨by rfl, rfl⟩) hS ?_
                  simp only [Act.put, List.setIfInBounds_toArray, List.set_cons_zero, List.set_cons_succ]
                  refine wpAnyH_take (i := 25) (oi := ⟨some 107, _, _, _, _, _⟩) (v := ?_) rfl (by kernel_rfl) (by kernel_rfl) (by kernel_rfl) (fun _ _ _ h => h) (Or.inl ⟨by rfl, ?_⟩) hS ?_
                  rotate_left
                  · (intro w' hSw; have s1 := hSw; go_simp; try with_reducible rfl)
                  simp only [Act.put, List.setIfInBounds_toArray, List.set_cons_zero, List.set_cons_succ]
                  refine wpAnyH_done (by kernel_rfl) ?_ _
                  clear hS
                  rcases hq3 with rfl | rfl
                  · have i5 : IntKind.i64.wrap ((R.length : Int) - 1) = (R.length : Int) - 1 := IntWalk.i64_in _ (by omega)
                    go_wp2
                    go_roundw
                    case rel => exact ⟨st + 1, by omega, by omega, rfl, Below.drew B3.out⟩
                    case measure => (simp [intOf] <;> omega)
                  · have i5 : IntKind.i64.wrap ((R.length : Int) - 1) = (R.length : Int) - 1 := IntWalk.i64_in _ (by omega)
                    have n5 : ¬ ((R.length : Int) - 1 = (R.length : Int)) := by omega
                    go_wp2
                    go_roundw
                    case rel => exact ⟨st + 1, by omega, by omega, rfl, Below.drew B3.out⟩
                    case measure => (simp [intOf] <;> omega)
          · have e3 : decide (st ≤ 2) = false := decide_eq_false hst
            have HB := Lib.hid hb
            clear hb
            go_wp2
            go_roundw
            case rel => exact ⟨k + 1, by omega, by go_num, HB.out⟩
            case measure => simp [intOf]; omega
      · by_cases hq : k < n
        · have hq' : ¬ (k < 40) := by omega
          have HB := Lib.hid hb
          clear hb
          go_wp2_with (go_at_call 16; refine (HW5.out _).mono ?_; rintro e w2 ⟨rfl, hb2⟩)
          go_ret
          exact ⟨rfl, bel_trans (bel_trans B4.out HB.out) hb2⟩
        · have HB := Lib.hid hb
          clear hb
          go_wp2_with (go_at_call 16; refine (HW5.out _).mono ?_; rintro e w2 ⟨rfl, hb2⟩)
          go_ret
          exact ⟨rfl, bel_trans (bel_trans B4.out HB.out) hb2⟩
end Go.Proofs.Ytkpckfmnjebjaaa
