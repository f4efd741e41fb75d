/- The walk of what NestReads, NestWrites and NestFetches share. -/
import Derived.Test.YtpelolokdmfbdaaGreatNw
import Derived.Test.YtpelolokdmfbdaaGreatTk
import Derived.Test.YtpelolokdmfbdaaGreatNb
import Derived.Deep.CutBlock
import Derived.Deep.DeepCutAuto
namespace Go.Proofs.YtpelolokdmfbdaaGreat
open Go.ChangeShapes Go.WideShapes Go.ChangeAt Go.RowKit Go.Deep

set_option maxRecDepth 100000 in
theorem by_heavy (f g : Option Addr) (l c n d : Nat) (fr : Int) (on1 : Bool) (of1 og1 : Int) (on2 : Bool) (tf tg ac acc : Int) (w : World) (hl : l ≤ 1000000000000000) (hn : n ≤ 1000000000000000) (hh : heavy5 l n = true) :
    Calls Tryz.prog 23 #[.agg #[.slice f l c, .int .i64 fr, .slice g n d, .bool on1, .int .i64 of1, .int .i64 og1, .bool on2, .int .i64 tf, .int .i64 tg, .int .i64 ac], .int .i64 acc] w fun e w' => e = .returned (.bool true) ∧ Below w.heap.size w w' := by
  have HH := Lib.hid (fun W => heavy5_any f g l c n d fr W hl hn)
  rw [hh] at HH
  clear hh
  go_enter Tryz.func23, Tryz.ntmps23
  go_wp2_with (go_at_call 9; refine (HH.out _).mono ?_; rintro e w1 ⟨rfl, hb1⟩)
  go_ret
  exact ⟨rfl, bel_trans (bel_alloc (Below.refl _ _) _) hb1⟩
set_option maxRecDepth 100000 in
set_option maxHeartbeats 12800000 in
theorem by_walk (PT : TransC) (f g : Option Addr) (l c n d : Nat) (X : Nat → BitVec 64) (P : Nat → Int) (fr : Int) (on1 : Bool) (of1 og1 : Int) (on2 : Bool) (tf tg ac acc : Int) (w : World) (hX : WordsAt w f l X) (hP : NumsAt w g n P) (hlc : l ≤ c) (hh : heavy5 l n = false) :
    Calls Tryz.prog 23 #[.agg #[.slice f l c, .int .i64 fr, .slice g n d, .bool on1, .int .i64 of1, .int .i64 og1, .bool on2, .int .i64 tf, .int .i64 tg, .int .i64 ac], .int .i64 acc] w fun e w' => e = .returned (.bool true) ∧ Below w.heap.size w w' := by
  obtain ⟨hl, hn⟩ := heavy5_no hh
  have HH := Lib.hid (fun W => heavy5_any f g l c n d fr W (by omega) (by omega))
  rw [hh] at HH
  clear hh
  have HX := Lib.hid hX
  have HP := Lib.hid hP
  have HPM := Lib.hid (fun pg W h => PT f l c X on1 of1 og1 on2 tf tg pg acc W (by omega) hlc h)
  have HW7 := Lib.hid (fun W => wakes7_any PT W)
  have HMY := Lib.hid (fun d pg W => may7_any f g l c n d fr on1 of1 og1 on2 tf tg ac pg acc W)
  have HMZ := Lib.hid (fun d pg W => may7_any f g l c n d fr false 0 0 on1 of1 og1 0 pg acc W)
  have HMR := Lib.hid (fun pg W (hW : WordsAt W f l X) hM o0 o1 t0 t1 m0 m1 => transR_any f l c X on1 of1 og1 on2 tf tg pg acc W hW hM o0 o1 t0 t1 m0 m1)
  have X0 := Lib.hid (BoxAt.new w #[.slice f l c, .int .i64 fr, .slice g n d, .bool on1, .int .i64 of1, .int .i64 og1, .bool on2, .int .i64 tf, .int .i64 tg, .int .i64 ac] 31)
  have B0 := Lib.hid (bel_alloc (Below.refl w.heap.size w) (.cells #[.slice f l c, .int .i64 fr, .slice g n d, .bool on1, .int .i64 of1, .int .i64 og1, .bool on2, .int .i64 tf, .int .i64 tg, .int .i64 ac] 31))
  clear hX hP PT
  go_enter Tryz.func23, Tryz.ntmps23
  go_wp2_with fail
  refine (HH.out _).mono ?_
  rintro e w1 ⟨rfl, hb1⟩
  have X1 := X0.out.below hb1
  have B1 := bel_trans B0.out hb1
  have HX1 := Lib.hid (HX.out.below B1)
  have HP1 := Lib.hid (HP.out.below B1)
  have X1 := Lib.hid X1
  have B1 := Lib.hid B1
  clear X0 B0 hb1 HX HP HH
  go_wp2_with fail
  go_loopw [5] (fun i wr => ∃ k : Nat, k ≤ n ∧ i = .int .i64 k ∧ Below w1.heap.size w1 wr) (fun i _ => n - (intOf i).toNat)
  case atStart => exact ⟨0, Nat.zero_le _, rfl, Below.refl _ _⟩
  case round =>
    obtain ⟨k, hk, rfl, hb⟩ := hrel
    have pc2 := (X1.out.below hb).get 2 (.slice g n d) rfl
    by_cases hlt : k < n ∧ k < 10
    · obtain ⟨hlt, hlt'⟩ := hlt
      have i1 : (0 : Int) ≤ (k : Int) := by omega
      have i2 : (k : Int) < (n : Int) := by omega
      have d10 : decide ((k : Int) < 10) = true := decide_eq_true (by omega)
      obtain ⟨gb, go, rfl, hpk0⟩ := HP1.out k hlt
      have hpk : w1.cell? ⟨gb, go + k, none⟩ = some (.int .i64 (P k)) := hpk0
      generalize P k = pg at *
      have HPK := Lib.hid hpk
      have HB0 := Lib.hid hb
      clear hb hpk0 hpk
      go_wp2_with fail
      clear pc2
      go_loopw [6] (fun t wi => ∃ j : Nat, j ≤ 4 ∧ t = .int .i64 j ∧ Below w1.heap.size w1 wi) (fun t _ => (4 - (intOf t).toNat))
      case atStart => exact ⟨0, by decide, rfl, HB0.out⟩
      case round =>
        obtain ⟨j, hj4, rfl, hb⟩ := hrel
        clear HB0
        by_cases hst : j < 4
        · have e4 : decide ((j : Int) < 4) = true := decide_eq_true (by omega)
          obtain ⟨cj, hcj⟩ : ∃ cj : Int, ∀ h, ([.int .i64 0, .int .i64 1, .int .i64 8, .int .i64 64] : List Value)[j]'h = .int .i64 cj := by
            match j, hst with
            | 0, _ => exact ⟨_, fun _ => rfl⟩
            | 1, _ => exact ⟨_, fun _ => rfl⟩
            | 2, _ => exact ⟨_, fun _ => rfl⟩
            | 3, _ => exact ⟨_, fun _ => rfl⟩
          have HCJ := Lib.hid hcj
          clear hcj
          have j1 : (0 : Int) ≤ (j : Int) := by omega
          have j2 : (j : Int) < 4 := by omega
          have HB := Lib.hid hb
          have hws : w1.heap.size ≤ wr.heap.size := hb.size
          have X2 := Lib.hid (X1.out.below hb)
          have hpk2 := Lib.hid (keepc hb HPK.out)
          have HXc := Lib.hid (HX1.out.below hb)
          clear hb
          have hneP : w.heap.size ≠ wr.heap.size := Nat.ne_of_lt X2.out.lt
          go_upto_region 9 with fail
          have Pk := X2.out
          have hlPk := Pk.lt
          have hpkk := hpk2.out
          have hlGk : gb < wr.heap.size := cell_block hpkk
          refine wp_region_held_drew (S := (fun w' => BoxAt w' (w.heap.size) #[.slice f l c, .int .i64 fr, .slice (some ⟨gb, go, none⟩) n d, .bool on1, .int .i64 of1, .int .i64 og1, .bool on2, .int .i64 tf, .int .i64 tg, .int .i64 ac] 31 ∧ w'.cell? ⟨gb, go + k, none⟩ = some (.int .i64 pg))) (by kernel_rfl) ?_ (fun hS => ?_)
          · (exact ⟨Pk.drew, cell_drew hpkk⟩)
          refine tkP 0 34 rfl hS ?_; simp only [pA, pB, pC]
          refine tkP 1 35 rfl hS ?_; simp only [pA, pB, pC]
          refine tkR 2 36 rfl hS (fun w' hSw => by have sP2 := (hSw.1).get 2 (.slice (some ⟨gb, go, none⟩) n d) rfl; have sG := hSw.2; clear hSw; go_simp; try with_reducible rfl) ?_
          simp only [pA, pB, pC]
          refine tkP 3 37 rfl hS ?_; simp only [pA, pB, pC]
          refine tkP 4 38 rfl hS ?_; simp only [pA, pB, pC]
          refine tkR 5 39 rfl hS (fun w' hSw => by have sP2 := (hSw.1).get 2 (.slice (some ⟨gb, go, none⟩) n d) rfl; have sG := hSw.2; clear hSw; go_simp; try with_reducible rfl) ?_
          simp only [pA, pB, pC]
          refine tkP 7 41 rfl hS ?_; simp only [pA, pB, pC]
          refine wpAnyH_ready (rs := [6]) (by kernel_rfl) (by simp) ?_
          refine AllReadyH.cons (o := ⟨some 40, _, _, _, _, _⟩) rfl (fun K hK => ?_) AllReadyH.nil
          go_simp
          refine hK.out _ _ ?_ (fun hS' => ?_)
          · (exact ⟨hS.1.alloc _, cell_keep hS.2 _⟩)
          clear hK K hS
          have hS := hS'
          clear hS'
          try simp only [Act.put, List.setIfInBounds_toArray, List.set_cons_zero, List.set_cons_succ]
          refine tkP 8 42 rfl hS ?_; simp only [pA, pB, pC]
          have hq9 := HCJ.out
          refine wpAnyH_ready (rs := [9]) (by kernel_rfl) (by simp) ?_
          refine AllReadyH.cons (o := ⟨some 43, _, _, _, _, _⟩) rfl (fun K hK => ?_) AllReadyH.nil
          go_simp
          refine hK.out _ _ ?_ (fun hS' => ?_)
          · (exact ⟨hS.1, hS.2⟩)
          clear hK K hS
          have hS := hS'
          clear hS'
          try simp only [Act.put, List.setIfInBounds_toArray, List.set_cons_zero, List.set_cons_succ]
          refine tkP 10 44 rfl hS ?_; simp only [pA, pB, pC]
          refine tkP 11 7 rfl hS ?_; simp only [pA, pB, pC]
          refine wpAnyH_done (by kernel_rfl) ?_ _
          try simp only [Act.put, List.setIfInBounds_toArray, List.set_cons_zero, List.set_cons_succ]
          clear hS
          clear hq9
          clear Pk hpkk hlPk hlGk
          obtain ⟨pp, hpp⟩ : ∃ pp, bits .xor .i64 pg cj = pp := ⟨_, rfl⟩
          rw [hpp]
          clear hpp
          have P1 := Lib.hid (((X2.out.alloc (.cells #[.int .i64 0, .int .i64 1, .int .i64 8, .int .i64 64] 3)).drew))
          have B1 := Lib.hid ((Below.drew (bel_alloc HB.out (.cells #[.int .i64 0, .int .i64 1, .int .i64 8, .int .i64 64] 3))))
          clear X2 HB
          obtain ⟨W8, hW8⟩ : ∃ W8, W8 = (wr.alloc (.cells #[.int .i64 0, .int .i64 1, .int .i64 8, .int .i64 64] 3)).drew := ⟨_, rfl⟩
          have hb8 := Lib.hid (show Below wr.heap.size wr W8 from by rw [hW8]; exact Below.drew (bel_alloc (Below.refl wr.heap.size wr) _))
          have HX8 := Lib.hid (HXc.out.below hb8.out)
          rw [← hW8] at P1 B1 ⊢
          clear hW8 hb8 hpk2 HXc HCJ hneP
          have HT := Lib.hid (fun W h => HPM.out pp W h)
          have HMM := Lib.hid (fun W => HMY.out d pp W)
          have HMN := Lib.hid (fun W => HMZ.out d pp W)
          cases hA : mayN l tf pp acc
          · rw [hA] at HMM
            clear hA HT HMN
            have Pc0 := P1.out.get 0 (.slice f l c) rfl
            have Pc1 := P1.out.get 1 (.int .i64 fr) rfl
            have Pc2 := P1.out.get 2 (.slice (some ⟨gb, go, none⟩) n d) rfl
            have Pc3 := P1.out.get 3 (.bool on1) rfl
            have Pc4 := P1.out.get 4 (.int .i64 of1) rfl
            have Pc5 := P1.out.get 5 (.int .i64 og1) rfl
            have Pc6 := P1.out.get 6 (.bool on2) rfl
            have Pc7 := P1.out.get 7 (.int .i64 tf) rfl
            have Pc8 := P1.out.get 8 (.int .i64 tg) rfl
            have Pc9 := P1.out.get 9 (.int .i64 ac) rfl
            go_wp2_with fail
            refine (HMM.out _).mono ?_
            rintro e w2 ⟨rfl, hb2⟩
            have P3 := Lib.hid (P1.out.below hb2)
            have B3 := Lib.hid (bel_trans B1.out hb2)
            clear Pc0 Pc1 Pc2 Pc3 Pc4 Pc5 Pc6 Pc7 Pc8 Pc9
            clear P1 B1 hb2
            go_wp2
            go_roundw
            case rel => exact ⟨j + 1, by omega, by go_num, B3.out⟩
            case measure => (simp [intOf] <;> omega)
          · cases hO : mayN l of1 pp acc
            · rw [hA] at HMM
              have Pc0 := P1.out.get 0 (.slice f l c) rfl
              have Pc1 := P1.out.get 1 (.int .i64 fr) rfl
              have Pc2 := P1.out.get 2 (.slice (some ⟨gb, go, none⟩) n d) rfl
              have Pc3 := P1.out.get 3 (.bool on1) rfl
              have Pc4 := P1.out.get 4 (.int .i64 of1) rfl
              have Pc5 := P1.out.get 5 (.int .i64 og1) rfl
              have Pc6 := P1.out.get 6 (.bool on2) rfl
              have Pc7 := P1.out.get 7 (.int .i64 tf) rfl
              have Pc8 := P1.out.get 8 (.int .i64 tg) rfl
              have Pc9 := P1.out.get 9 (.int .i64 ac) rfl
              rw [hO] at HMN
              clear hA hO HT
              go_wp2_with fail
              refine (HMM.out _).mono ?_
              rintro e w2 ⟨rfl, hb2⟩
              have P3 := Lib.hid (P1.out.below hb2)
              have B3 := Lib.hid (bel_trans B1.out hb2)
              clear Pc0 Pc1 Pc2 Pc3 Pc4 Pc5 Pc6 Pc7 Pc8 Pc9
              clear P1 B1 hb2
              have Pc0 := P3.out.get 0 (.slice f l c) rfl
              have Pc1 := P3.out.get 1 (.int .i64 fr) rfl
              have Pc2 := P3.out.get 2 (.slice (some ⟨gb, go, none⟩) n d) rfl
              have Pc3 := P3.out.get 3 (.bool on1) rfl
              have Pc4 := P3.out.get 4 (.int .i64 of1) rfl
              have Pc5 := P3.out.get 5 (.int .i64 og1) rfl
              have Pc6 := P3.out.get 6 (.bool on2) rfl
              have Pc7 := P3.out.get 7 (.int .i64 tf) rfl
              have Pc8 := P3.out.get 8 (.int .i64 tg) rfl
              have Pc9 := P3.out.get 9 (.int .i64 ac) rfl
              go_wp2_with fail
              refine (HMN.out _).mono ?_
              rintro e w4 ⟨rfl, hb4⟩
              have P5 := Lib.hid (P3.out.below hb4)
              have B5 := Lib.hid (bel_trans B3.out hb4)
              clear Pc0 Pc1 Pc2 Pc3 Pc4 Pc5 Pc6 Pc7 Pc8 Pc9
              clear P3 B3 hb4
              go_wp2
              go_roundw
              case rel => exact ⟨j + 1, by omega, by go_num, B5.out⟩
              case measure => (simp [intOf] <;> omega)
            · rw [hA] at HMM
              have Pc0 := P1.out.get 0 (.slice f l c) rfl
              have Pc1 := P1.out.get 1 (.int .i64 fr) rfl
              have Pc2 := P1.out.get 2 (.slice (some ⟨gb, go, none⟩) n d) rfl
              have Pc3 := P1.out.get 3 (.bool on1) rfl
              have Pc4 := P1.out.get 4 (.int .i64 of1) rfl
              have Pc5 := P1.out.get 5 (.int .i64 og1) rfl
              have Pc6 := P1.out.get 6 (.bool on2) rfl
              have Pc7 := P1.out.get 7 (.int .i64 tf) rfl
              have Pc8 := P1.out.get 8 (.int .i64 tg) rfl
              have Pc9 := P1.out.get 9 (.int .i64 ac) rfl
              rw [hO] at HMN
              obtain ⟨hm, ⟨t0, t1⟩, ⟨p0, p1⟩, a0, a1⟩ := mayN_iff.1 hA
              obtain ⟨_, ⟨o0, o1⟩, _⟩ := mayN_iff.1 hO
              have hAO : (mayN l tf pp acc && numB of1 4095) = true := by rw [hA, numB_iff.2 ⟨o0, o1⟩]; rfl
              simp only [transA_yes hAO] at HT
              clear hA hO hAO
              have hR4 := transD_len l X on1 of1 on2 tf pp acc o0 t0 p0
              have HRR := Lib.hid (fun W h => HMR.out pp W h hm o0 o1 t0 t1 p0 p1)
              clear hm a0 a1
              generalize transD l X on1 of1 on2 tf pp acc = q at *
              obtain ⟨⟨hf, hm', ⟨hr, hw, hx, ha, hn, hs⟩, hl⟩, ⟨fk, fs, fl, fw, fp⟩, R⟩ := q
              unfold Walk4End hitV fltV at HT
              unfold WalkEnd hitV fltV at HRR
              simp only at HT HRR hR4
              have hq1 : eqH ⟨hf, hm', ⟨hr, hw, hx, ha, hn, hs⟩, hl⟩ ⟨hf, hm', ⟨hr, hw, hx, ha, hn, hs⟩, hl⟩ = true := eqH_self _
              have hq2 : eqF ⟨fk, fs, fl, fw, fp⟩ ⟨fk, fs, fl, fw, fp⟩ = true := eqF_self _
              go_wp2_with fail
              refine (HMM.out _).mono ?_
              rintro e w2 ⟨rfl, hb2⟩
              have HX9 := Lib.hid (HX8.out.below hb2)
              clear HX8
              have P3 := Lib.hid (P1.out.below hb2)
              have B3 := Lib.hid (bel_trans B1.out hb2)
              clear Pc0 Pc1 Pc2 Pc3 Pc4 Pc5 Pc6 Pc7 Pc8 Pc9
              clear P1 B1 hb2
              have Pc0 := P3.out.get 0 (.slice f l c) rfl
              have Pc1 := P3.out.get 1 (.int .i64 fr) rfl
              have Pc2 := P3.out.get 2 (.slice (some ⟨gb, go, none⟩) n d) rfl
              have Pc3 := P3.out.get 3 (.bool on1) rfl
              have Pc4 := P3.out.get 4 (.int .i64 of1) rfl
              have Pc5 := P3.out.get 5 (.int .i64 og1) rfl
              have Pc6 := P3.out.get 6 (.bool on2) rfl
              have Pc7 := P3.out.get 7 (.int .i64 tf) rfl
              have Pc8 := P3.out.get 8 (.int .i64 tg) rfl
              have Pc9 := P3.out.get 9 (.int .i64 ac) rfl
              go_wp2_with fail
              refine (HMN.out _).mono ?_
              rintro e w4 ⟨rfl, hb4⟩
              have HX10 := Lib.hid (HX9.out.below hb4)
              clear HX9 HMM HMN
              have P5 := Lib.hid (P3.out.below hb4)
              have B5 := Lib.hid (bel_trans B3.out hb4)
              clear Pc0 Pc1 Pc2 Pc3 Pc4 Pc5 Pc6 Pc7 Pc8 Pc9
              clear P3 B3 hb4
              have Pc0 := P5.out.get 0 (.slice f l c) rfl
              have Pc3 := P5.out.get 3 (.bool on1) rfl
              have Pc4 := P5.out.get 4 (.int .i64 of1) rfl
              have Pc5 := P5.out.get 5 (.int .i64 og1) rfl
              have Pc6 := P5.out.get 6 (.bool on2) rfl
              have Pc7 := P5.out.get 7 (.int .i64 tf) rfl
              have Pc8 := P5.out.get 8 (.int .i64 tg) rfl
              go_wp2_with fail
              refine (HT.out _ HX10.out).mono ?_
              rintro e w20 ⟨f', c', rfl, hO20, hb20⟩
              have O20 := Lib.hid hO20
              have HX20 := Lib.hid (HX10.out.below hb20)
              clear hO20 HX10 HT
              have P7 := Lib.hid (P5.out.below hb20)
              have B7 := Lib.hid (bel_trans B5.out hb20)
              clear Pc0 Pc3 Pc4 Pc5 Pc6 Pc7 Pc8
              clear P5 B5 hb20
              go_upto_region 12 with fail
              have P8 := Lib.hid (((P7.out.alloc (.cells #[.int .i64 hf, .int .i64 hm', .bool hr, .bool hw, .bool hx, .bool ha, .bool hn, .int .i64 hs, .int .i64 hl] 36)).alloc (.cells #[.int .i64 fk, .int .i64 fs, .int .i64 fl, .bool fw, .int .i64 fp] 38)))
              have H8 := Lib.hid (((BoxAt.newAt (w20) #[.int .i64 hf, .int .i64 hm', .bool hr, .bool hw, .bool hx, .bool ha, .bool hn, .int .i64 hs, .int .i64 hl] 36 (w20.heap.size) (by first | rfl | (simp; done) | (simp; omega))).alloc (.cells #[.int .i64 fk, .int .i64 fs, .int .i64 fl, .bool fw, .int .i64 fp] 38)))
              have F8 := Lib.hid ((BoxAt.newAt ((w20).alloc (.cells #[.int .i64 hf, .int .i64 hm', .bool hr, .bool hw, .bool hx, .bool ha, .bool hn, .int .i64 hs, .int .i64 hl] 36)) #[.int .i64 fk, .int .i64 fs, .int .i64 fl, .bool fw, .int .i64 fp] 38 (w20.heap.size + 1) (by first | rfl | (simp; done) | (simp; omega))))
              have O8 := Lib.hid (((O20.out.alloc (.cells #[.int .i64 hf, .int .i64 hm', .bool hr, .bool hw, .bool hx, .bool ha, .bool hn, .int .i64 hs, .int .i64 hl] 36)).alloc (.cells #[.int .i64 fk, .int .i64 fs, .int .i64 fl, .bool fw, .int .i64 fp] 38)))
              have B8 := Lib.hid ((bel_alloc (bel_alloc B7.out (.cells #[.int .i64 hf, .int .i64 hm', .bool hr, .bool hw, .bool hx, .bool ha, .bool hn, .int .i64 hs, .int .i64 hl] 36)) (.cells #[.int .i64 fk, .int .i64 fs, .int .i64 fl, .bool fw, .int .i64 fp] 38)))
              clear P7 O20 B7
              obtain ⟨W21, hW21⟩ : ∃ W21, W21 = (w20.alloc (.cells #[.int .i64 hf, .int .i64 hm', .bool hr, .bool hw, .bool hx, .bool ha, .bool hn, .int .i64 hs, .int .i64 hl] 36)).alloc (.cells #[.int .i64 fk, .int .i64 fs, .int .i64 fl, .bool fw, .int .i64 fp] 38) := ⟨_, rfl⟩
              obtain ⟨bH, hbH⟩ : ∃ bH, bH = w20.heap.size := ⟨_, rfl⟩
              have hb21 := Lib.hid (show Below w20.heap.size w20 W21 from by rw [hW21]; exact bel_alloc (bel_alloc (Below.refl _ _) _) _)
              have HX21 := Lib.hid (HX20.out.below hb21.out)
              rw [← hW21] at P8 H8 F8 B8 O8 ⊢
              rw [← hbH] at H8 F8 ⊢
              clear hW21 hb21 HX20 hbH
              have Pc0 := P8.out.get 0 (.slice f l c) rfl
              have Pc3 := P8.out.get 3 (.bool on1) rfl
              have Pc4 := P8.out.get 4 (.int .i64 of1) rfl
              have Pc5 := P8.out.get 5 (.int .i64 og1) rfl
              have Pc6 := P8.out.get 6 (.bool on2) rfl
              have Pc7 := P8.out.get 7 (.int .i64 tf) rfl
              have Pc8 := P8.out.get 8 (.int .i64 tg) rfl
              go_wp2_with fail
              refine (HRR.out _ HX21.out).mono ?_
              rintro e w30 ⟨f2, c2, rfl, hO30, hb30⟩
              have Q30 := Lib.hid hO30
              clear hO30 HX21 HRR
              have P9 := Lib.hid (P8.out.below hb30)
              have H9 := Lib.hid (H8.out.below hb30)
              have F9 := Lib.hid (F8.out.below hb30)
              have O9 := Lib.hid (O8.out.below hb30)
              have B9 := Lib.hid (bel_trans B8.out hb30)
              clear Pc0 Pc3 Pc4 Pc5 Pc6 Pc7 Pc8
              clear P8 H8 F8 O8 B8 hb30
              go_upto_region 13 with fail
              have P10 := Lib.hid (((P9.out.alloc (.cells #[.int .i64 hf, .int .i64 hm', .bool hr, .bool hw, .bool hx, .bool ha, .bool hn, .int .i64 hs, .int .i64 hl] 36)).alloc (.cells #[.int .i64 fk, .int .i64 fs, .int .i64 fl, .bool fw, .int .i64 fp] 38)))
              have H10 := Lib.hid (((H9.out.alloc (.cells #[.int .i64 hf, .int .i64 hm', .bool hr, .bool hw, .bool hx, .bool ha, .bool hn, .int .i64 hs, .int .i64 hl] 36)).alloc (.cells #[.int .i64 fk, .int .i64 fs, .int .i64 fl, .bool fw, .int .i64 fp] 38)))
              have F10 := Lib.hid (((F9.out.alloc (.cells #[.int .i64 hf, .int .i64 hm', .bool hr, .bool hw, .bool hx, .bool ha, .bool hn, .int .i64 hs, .int .i64 hl] 36)).alloc (.cells #[.int .i64 fk, .int .i64 fs, .int .i64 fl, .bool fw, .int .i64 fp] 38)))
              have X10 := Lib.hid (((BoxAt.newAt (w30) #[.int .i64 hf, .int .i64 hm', .bool hr, .bool hw, .bool hx, .bool ha, .bool hn, .int .i64 hs, .int .i64 hl] 36 (w30.heap.size) (by first | rfl | (simp; done) | (simp; omega))).alloc (.cells #[.int .i64 fk, .int .i64 fs, .int .i64 fl, .bool fw, .int .i64 fp] 38)))
              have Y10 := Lib.hid ((BoxAt.newAt ((w30).alloc (.cells #[.int .i64 hf, .int .i64 hm', .bool hr, .bool hw, .bool hx, .bool ha, .bool hn, .int .i64 hs, .int .i64 hl] 36)) #[.int .i64 fk, .int .i64 fs, .int .i64 fl, .bool fw, .int .i64 fp] 38 (w30.heap.size + 1) (by first | rfl | (simp; done) | (simp; omega))))
              have O10 := Lib.hid (((O9.out.alloc (.cells #[.int .i64 hf, .int .i64 hm', .bool hr, .bool hw, .bool hx, .bool ha, .bool hn, .int .i64 hs, .int .i64 hl] 36)).alloc (.cells #[.int .i64 fk, .int .i64 fs, .int .i64 fl, .bool fw, .int .i64 fp] 38)))
              have Q10 := Lib.hid (((Q30.out.alloc (.cells #[.int .i64 hf, .int .i64 hm', .bool hr, .bool hw, .bool hx, .bool ha, .bool hn, .int .i64 hs, .int .i64 hl] 36)).alloc (.cells #[.int .i64 fk, .int .i64 fs, .int .i64 fl, .bool fw, .int .i64 fp] 38)))
              have B10 := Lib.hid ((bel_alloc (bel_alloc B9.out (.cells #[.int .i64 hf, .int .i64 hm', .bool hr, .bool hw, .bool hx, .bool ha, .bool hn, .int .i64 hs, .int .i64 hl] 36)) (.cells #[.int .i64 fk, .int .i64 fs, .int .i64 fl, .bool fw, .int .i64 fp] 38)))
              clear P9 H9 F9 O9 Q30 B9
              obtain ⟨W31, hW31⟩ : ∃ W31, W31 = (w30.alloc (.cells #[.int .i64 hf, .int .i64 hm', .bool hr, .bool hw, .bool hx, .bool ha, .bool hn, .int .i64 hs, .int .i64 hl] 36)).alloc (.cells #[.int .i64 fk, .int .i64 fs, .int .i64 fl, .bool fw, .int .i64 fp] 38) := ⟨_, rfl⟩
              obtain ⟨bX, hbX⟩ : ∃ bX, bX = w30.heap.size := ⟨_, rfl⟩
              rw [← hW31] at P10 H10 F10 X10 Y10 B10 O10 Q10 ⊢
              rw [← hbX] at X10 Y10 ⊢
              clear hW31 hbX
              have Hc0 := H10.out.get 0 (.int .i64 hf) rfl
              have Hc1 := H10.out.get 1 (.int .i64 hm') rfl
              have Hc2 := H10.out.get 2 (.bool hr) rfl
              have Hc3 := H10.out.get 3 (.bool hw) rfl
              have Hc4 := H10.out.get 4 (.bool hx) rfl
              have Hc5 := H10.out.get 5 (.bool ha) rfl
              have Hc6 := H10.out.get 6 (.bool hn) rfl
              have Hc7 := H10.out.get 7 (.int .i64 hs) rfl
              have Hc8 := H10.out.get 8 (.int .i64 hl) rfl
              have Xc0 := X10.out.get 0 (.int .i64 hf) rfl
              have Xc1 := X10.out.get 1 (.int .i64 hm') rfl
              have Xc2 := X10.out.get 2 (.bool hr) rfl
              have Xc3 := X10.out.get 3 (.bool hw) rfl
              have Xc4 := X10.out.get 4 (.bool hx) rfl
              have Xc5 := X10.out.get 5 (.bool ha) rfl
              have Xc6 := X10.out.get 6 (.bool hn) rfl
              have Xc7 := X10.out.get 7 (.int .i64 hs) rfl
              have Xc8 := X10.out.get 8 (.int .i64 hl) rfl
              have Fc0 := F10.out.get 0 (.int .i64 fk) rfl
              have Fc1 := F10.out.get 1 (.int .i64 fs) rfl
              have Fc2 := F10.out.get 2 (.int .i64 fl) rfl
              have Fc3 := F10.out.get 3 (.bool fw) rfl
              have Fc4 := F10.out.get 4 (.int .i64 fp) rfl
              have Yc0 := Y10.out.get 0 (.int .i64 fk) rfl
              have Yc1 := Y10.out.get 1 (.int .i64 fs) rfl
              have Yc2 := Y10.out.get 2 (.int .i64 fl) rfl
              have Yc3 := Y10.out.get 3 (.bool fw) rfl
              have Yc4 := Y10.out.get 4 (.int .i64 fp) rfl
              go_wp2_with fail
              refine (lnum7_any _ _).mono ?_
              rintro e w11 ⟨rfl, rfl⟩
              go_wp2_with fail
              refine (eqI_any _ _ _ _ _ _ R _ (by omega) rfl rfl O10.out.ints.2 Q10.out.ints.2).mono ?_
              rintro e w60 ⟨rfl, m60, rfl⟩
              clear Hc0 Hc1 Hc2 Hc3 Hc4 Hc5 Hc6 Hc7 Hc8 Xc0 Xc1 Xc2 Xc3 Xc4 Xc5 Xc6 Xc7 Xc8 Fc0 Fc1 Fc2 Fc3 Fc4 Yc0 Yc1 Yc2 Yc3 Yc4
              go_wp2
              go_roundw
              case rel => exact ⟨j + 1, by omega, by go_num, below_drewN B10.out m60⟩
              case measure => (simp [intOf] <;> omega)
        · have e4 : decide ((j : Int) < 4) = false := decide_eq_false (by omega)
          have HB := Lib.hid hb
          clear hb
          go_wp2
          go_roundw
          case rel => exact ⟨k + 1, by omega, by go_num, HB.out⟩
          case measure => simp [intOf]; omega
    · by_cases hq : k < n
      · have hq' : ¬ (k < 10) := by omega
        have HB := Lib.hid hb
        clear hb
        go_wp2_with (go_at_call 16; refine (HW7.out _).mono ?_; rintro e w2 ⟨rfl, hb2⟩)
        go_ret
        exact ⟨rfl, bel_trans (bel_trans B1.out HB.out) hb2⟩
      · have HB := Lib.hid hb
        clear hb
        go_wp2_with (go_at_call 16; refine (HW7.out _).mono ?_; rintro e w2 ⟨rfl, hb2⟩)
        go_ret
        exact ⟨rfl, bel_trans (bel_trans B1.out HB.out) hb2⟩
theorem nestreads_walk (PT : TransC) (f g : Option Addr) (l c n d : Nat) (X : Nat → BitVec 64) (P : Nat → Int) (fr : Int) (on1 : Bool) (of1 og1 : Int) (on2 : Bool) (tf tg ac : Int) (w : World) (hX : WordsAt w f l X) (hP : NumsAt w g n P) (hlc : l ≤ c) (hl : l ≤ 1000000000000000) (hn : n ≤ 1000000000000000) :
    Calls Tryz.prog 6 #[.agg #[.slice f l c, .int .i64 fr, .slice g n d, .bool on1, .int .i64 of1, .int .i64 og1, .bool on2, .int .i64 tf, .int .i64 tg, .int .i64 ac]] w fun e w' => e = .returned (.bool true) ∧ Below w.heap.size w w' := by
  have HB : ∀ W, WordsAt W f l X → NumsAt W g n P → Calls Tryz.prog 23 #[.agg #[.slice f l c, .int .i64 fr, .slice g n d, .bool on1, .int .i64 of1, .int .i64 og1, .bool on2, .int .i64 tf, .int .i64 tg, .int .i64 ac], .int .i64 0] W fun e w' => e = .returned (.bool true) ∧ Below W.heap.size W w' := by
    intro W h1 h2
    cases hh : heavy5 l n
    · exact by_walk PT f g l c n d X P fr on1 of1 og1 on2 tf tg ac 0 W h1 h2 hlc hh
    · exact by_heavy f g l c n d fr on1 of1 og1 on2 tf tg ac 0 W hl hn hh
  have hb : Below w.heap.size w (w.alloc (.cells #[.slice f l c, .int .i64 fr, .slice g n d, .bool on1, .int .i64 of1, .int .i64 og1, .bool on2, .int .i64 tf, .int .i64 tg, .int .i64 ac] 31)) := bel_alloc (Below.refl _ _) _
  have HB := Lib.hid (HB _ (hX.below hb) (hP.below hb))
  have HBB := Lib.hid hb
  clear hb hX hP PT hlc hl hn
  go_enter Tryz.func6, Tryz.ntmps6
  go_wp2_with fail
  refine HB.out.mono ?_
  rintro e w1 ⟨rfl, hb1⟩
  go_wp2
  go_ret
  exact ⟨rfl, bel_trans HBB.out hb1⟩
theorem nestwrites_walk (PT : TransC) (f g : Option Addr) (l c n d : Nat) (X : Nat → BitVec 64) (P : Nat → Int) (fr : Int) (on1 : Bool) (of1 og1 : Int) (on2 : Bool) (tf tg ac : Int) (w : World) (hX : WordsAt w f l X) (hP : NumsAt w g n P) (hlc : l ≤ c) (hl : l ≤ 1000000000000000) (hn : n ≤ 1000000000000000) :
    Calls Tryz.prog 7 #[.agg #[.slice f l c, .int .i64 fr, .slice g n d, .bool on1, .int .i64 of1, .int .i64 og1, .bool on2, .int .i64 tf, .int .i64 tg, .int .i64 ac]] w fun e w' => e = .returned (.bool true) ∧ Below w.heap.size w w' := by
  have HB : ∀ W, WordsAt W f l X → NumsAt W g n P → Calls Tryz.prog 23 #[.agg #[.slice f l c, .int .i64 fr, .slice g n d, .bool on1, .int .i64 of1, .int .i64 og1, .bool on2, .int .i64 tf, .int .i64 tg, .int .i64 ac], .int .i64 1] W fun e w' => e = .returned (.bool true) ∧ Below W.heap.size W w' := by
    intro W h1 h2
    cases hh : heavy5 l n
    · exact by_walk PT f g l c n d X P fr on1 of1 og1 on2 tf tg ac 1 W h1 h2 hlc hh
    · exact by_heavy f g l c n d fr on1 of1 og1 on2 tf tg ac 1 W hl hn hh
  have hb : Below w.heap.size w (w.alloc (.cells #[.slice f l c, .int .i64 fr, .slice g n d, .bool on1, .int .i64 of1, .int .i64 og1, .bool on2, .int .i64 tf, .int .i64 tg, .int .i64 ac] 31)) := bel_alloc (Below.refl _ _) _
  have HB := Lib.hid (HB _ (hX.below hb) (hP.below hb))
  have HBB := Lib.hid hb
  clear hb hX hP PT hlc hl hn
  go_enter Tryz.func7, Tryz.ntmps7
  go_wp2_with fail
  refine HB.out.mono ?_
  rintro e w1 ⟨rfl, hb1⟩
  go_wp2
  go_ret
  exact ⟨rfl, bel_trans HBB.out hb1⟩
theorem nestfetches_walk (PT : TransC) (f g : Option Addr) (l c n d : Nat) (X : Nat → BitVec 64) (P : Nat → Int) (fr : Int) (on1 : Bool) (of1 og1 : Int) (on2 : Bool) (tf tg ac : Int) (w : World) (hX : WordsAt w f l X) (hP : NumsAt w g n P) (hlc : l ≤ c) (hl : l ≤ 1000000000000000) (hn : n ≤ 1000000000000000) :
    Calls Tryz.prog 8 #[.agg #[.slice f l c, .int .i64 fr, .slice g n d, .bool on1, .int .i64 of1, .int .i64 og1, .bool on2, .int .i64 tf, .int .i64 tg, .int .i64 ac]] w fun e w' => e = .returned (.bool true) ∧ Below w.heap.size w w' := by
  have HB : ∀ W, WordsAt W f l X → NumsAt W g n P → Calls Tryz.prog 23 #[.agg #[.slice f l c, .int .i64 fr, .slice g n d, .bool on1, .int .i64 of1, .int .i64 og1, .bool on2, .int .i64 tf, .int .i64 tg, .int .i64 ac], .int .i64 2] W fun e w' => e = .returned (.bool true) ∧ Below W.heap.size W w' := by
    intro W h1 h2
    cases hh : heavy5 l n
    · exact by_walk PT f g l c n d X P fr on1 of1 og1 on2 tf tg ac 2 W h1 h2 hlc hh
    · exact by_heavy f g l c n d fr on1 of1 og1 on2 tf tg ac 2 W hl hn hh
  have hb : Below w.heap.size w (w.alloc (.cells #[.slice f l c, .int .i64 fr, .slice g n d, .bool on1, .int .i64 of1, .int .i64 og1, .bool on2, .int .i64 tf, .int .i64 tg, .int .i64 ac] 31)) := bel_alloc (Below.refl _ _) _
  have HB := Lib.hid (HB _ (hX.below hb) (hP.below hb))
  have HBB := Lib.hid hb
  clear hb hX hP PT hlc hl hn
  go_enter Tryz.func8, Tryz.ntmps8
  go_wp2_with fail
  refine HB.out.mono ?_
  rintro e w1 ⟨rfl, hb1⟩
  go_wp2
  go_ret
  exact ⟨rfl, bel_trans HBB.out hb1⟩
end Go.Proofs.YtpelolokdmfbdaaGreat
