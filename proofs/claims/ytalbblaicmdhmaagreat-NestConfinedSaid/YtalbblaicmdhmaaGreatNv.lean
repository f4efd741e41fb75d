/- The walk of NestConfined. -/
import Derived.Test.YtalbblaicmdhmaaGreatNx
import Derived.Test.YtalbblaicmdhmaaGreatTk
import Derived.Deep.CutBlock
import Derived.Deep.DeepCutAuto
set_option linter.all false
namespace Go.Proofs.YtalbblaicmdhmaaGreat
open Go.ChangeShapes Go.WideShapes Go.ChangeAt Go.RowKit Go.Deep

theorem drewN_add (w : World) (m n : Nat) : (w.drewN m).drewN n = w.drewN (m + n) := by
  unfold World.drewN
  simp [Nat.add_assoc]
set_option maxRecDepth 100000 in
theorem nconf_heavy (f g : Option Addr) (l c n d : Nat) (fr : Int) (on1 : Bool) (of1 og1 : Int) (on2 : Bool) (tf tg ac : Int) (w : World) (hl : l ≤ 1000000000000000) (hn : n ≤ 1000000000000000) (hh : heavy5 l n = true) :
    Calls Tryz.prog 3 #[.agg #[.slice f l c, .int .i64 fr, .slice g n d, .bool on1, .int .i64 of1, .int .i64 og1, .bool on2, .int .i64 tf, .int .i64 tg, .int .i64 ac]] w fun e w' => e = .returned (.bool true) ∧ Below w.heap.size w w' := by
  have HH := Lib.hid (fun W => heavy5_any f g l c n d fr W hl hn)
  rw [hh] at HH
  clear hh
  go_enter Tryz.func3, Tryz.ntmps3
  go_wp2_with (go_at_call 4; refine (HH.out _).mono ?_; rintro e w1 ⟨rfl, hb1⟩)
  go_ret
  exact ⟨rfl, bel_trans (bel_alloc (Below.refl _ _) _) hb1⟩
set_option maxRecDepth 100000 in
theorem nconf_nomay (f g : Option Addr) (l c n d : Nat) (fr : Int) (on1 : Bool) (of1 og1 : Int) (on2 : Bool) (tf tg ac : Int) (w : World) (hh : heavy5 l n = false) (hA : mayN l tf 0 0 = false) :
    Calls Tryz.prog 3 #[.agg #[.slice f l c, .int .i64 fr, .slice g n d, .bool on1, .int .i64 of1, .int .i64 og1, .bool on2, .int .i64 tf, .int .i64 tg, .int .i64 ac]] w fun e w' => e = .returned (.bool true) ∧ Below w.heap.size w w' := by
  obtain ⟨hl, hn⟩ := heavy5_no hh
  have HH := Lib.hid (fun W => heavy5_any f g l c n d fr W (by omega) (by omega))
  rw [hh] at HH
  clear hh
  have HMM := Lib.hid (fun d W => may7_any f g l c n d fr on1 of1 og1 on2 tf tg ac 0 0 W)
  have HPO := Lib.hid (fun W => page_any of1 W)
  rw [hA] at HMM
  clear hA
  have X0 := Lib.hid (BoxAt.new w #[.slice f l c, .int .i64 fr, .slice g n d, .bool on1, .int .i64 of1, .int .i64 og1, .bool on2, .int .i64 tf, .int .i64 tg, .int .i64 ac] 31)
  have B0 := Lib.hid (bel_alloc (Below.refl w.heap.size w) (.cells #[.slice f l c, .int .i64 fr, .slice g n d, .bool on1, .int .i64 of1, .int .i64 og1, .bool on2, .int .i64 tf, .int .i64 tg, .int .i64 ac] 31))
  go_enter Tryz.func3, Tryz.ntmps3
  have Pc0 := X0.out.get 0 (.slice f l c) rfl
  have Pc1 := X0.out.get 1 (.int .i64 fr) rfl
  have Pc2 := X0.out.get 2 (.slice g n d) rfl
  go_wp2_with fail
  refine (HH.out _).mono ?_
  rintro e w1 ⟨rfl, hb1⟩
  have P2 := Lib.hid (X0.out.below hb1)
  have B2 := Lib.hid (bel_trans B0.out hb1)
  clear Pc0 Pc1 Pc2
  clear X0 B0 hb1
  have Pc0 := P2.out.get 0 (.slice f l c) rfl
  have Pc1 := P2.out.get 1 (.int .i64 fr) rfl
  have Pc2 := P2.out.get 2 (.slice g n d) rfl
  have Pc3 := P2.out.get 3 (.bool on1) rfl
  have Pc4 := P2.out.get 4 (.int .i64 of1) rfl
  have Pc5 := P2.out.get 5 (.int .i64 og1) rfl
  have Pc6 := P2.out.get 6 (.bool on2) rfl
  have Pc7 := P2.out.get 7 (.int .i64 tf) rfl
  have Pc8 := P2.out.get 8 (.int .i64 tg) rfl
  have Pc9 := P2.out.get 9 (.int .i64 ac) rfl
  go_wp2_with fail
  refine (HMM.out _ _).mono ?_
  rintro e w3 ⟨rfl, hb3⟩
  have P4 := Lib.hid (P2.out.below hb3)
  have B4 := Lib.hid (bel_trans B2.out hb3)
  clear Pc0 Pc1 Pc2 Pc3 Pc4 Pc5 Pc6 Pc7 Pc8 Pc9
  clear P2 B2 hb3
  go_wp2
  go_ret
  exact ⟨rfl, B4.out⟩
set_option maxRecDepth 100000 in
theorem nconf_nopage (f g : Option Addr) (l c n d : Nat) (fr : Int) (on1 : Bool) (of1 og1 : Int) (on2 : Bool) (tf tg ac : Int) (w : World) (hh : heavy5 l n = false) (hA : mayN l tf 0 0 = true) (hO : numB of1 4095 = false) :
    Calls Tryz.prog 3 #[.agg #[.slice f l c, .int .i64 fr, .slice g n d, .bool on1, .int .i64 of1, .int .i64 og1, .bool on2, .int .i64 tf, .int .i64 tg, .int .i64 ac]] w fun e w' => e = .returned (.bool true) ∧ Below w.heap.size w w' := by
  obtain ⟨hl, hn⟩ := heavy5_no hh
  have HH := Lib.hid (fun W => heavy5_any f g l c n d fr W (by omega) (by omega))
  rw [hh] at HH
  clear hh
  have HMM := Lib.hid (fun d W => may7_any f g l c n d fr on1 of1 og1 on2 tf tg ac 0 0 W)
  have HPO := Lib.hid (fun W => page_any of1 W)
  rw [hA] at HMM
  rw [hO] at HPO
  clear hA hO
  have X0 := Lib.hid (BoxAt.new w #[.slice f l c, .int .i64 fr, .slice g n d, .bool on1, .int .i64 of1, .int .i64 og1, .bool on2, .int .i64 tf, .int .i64 tg, .int .i64 ac] 31)
  have B0 := Lib.hid (bel_alloc (Below.refl w.heap.size w) (.cells #[.slice f l c, .int .i64 fr, .slice g n d, .bool on1, .int .i64 of1, .int .i64 og1, .bool on2, .int .i64 tf, .int .i64 tg, .int .i64 ac] 31))
  go_enter Tryz.func3, Tryz.ntmps3
  have Pc0 := X0.out.get 0 (.slice f l c) rfl
  have Pc1 := X0.out.get 1 (.int .i64 fr) rfl
  have Pc2 := X0.out.get 2 (.slice g n d) rfl
  go_wp2_with fail
  refine (HH.out _).mono ?_
  rintro e w1 ⟨rfl, hb1⟩
  have P2 := Lib.hid (X0.out.below hb1)
  have B2 := Lib.hid (bel_trans B0.out hb1)
  clear Pc0 Pc1 Pc2
  clear X0 B0 hb1
  have Pc0 := P2.out.get 0 (.slice f l c) rfl
  have Pc1 := P2.out.get 1 (.int .i64 fr) rfl
  have Pc2 := P2.out.get 2 (.slice g n d) rfl
  have Pc3 := P2.out.get 3 (.bool on1) rfl
  have Pc4 := P2.out.get 4 (.int .i64 of1) rfl
  have Pc5 := P2.out.get 5 (.int .i64 og1) rfl
  have Pc6 := P2.out.get 6 (.bool on2) rfl
  have Pc7 := P2.out.get 7 (.int .i64 tf) rfl
  have Pc8 := P2.out.get 8 (.int .i64 tg) rfl
  have Pc9 := P2.out.get 9 (.int .i64 ac) rfl
  go_wp2_with fail
  refine (HMM.out _ _).mono ?_
  rintro e w3 ⟨rfl, hb3⟩
  have P4 := Lib.hid (P2.out.below hb3)
  have B4 := Lib.hid (bel_trans B2.out hb3)
  clear Pc0 Pc1 Pc2 Pc3 Pc4 Pc5 Pc6 Pc7 Pc8 Pc9
  clear P2 B2 hb3
  have Pc4 := P4.out.get 4 (.int .i64 of1) rfl
  go_wp2_with fail
  refine (HPO.out _).mono ?_
  rintro e w5 ⟨rfl, rfl⟩
  clear Pc4
  go_wp2
  go_ret
  exact ⟨rfl, B4.out⟩
set_option maxRecDepth 100000 in
theorem nconf_off (f g : Option Addr) (l c n d : Nat) (fr : Int) (on1 : Bool) (of1 og1 : Int) (tf tg ac : Int) (w : World) (hh : heavy5 l n = false) (hA : mayN l tf 0 0 = true) (hO : numB of1 4095 = true) :
    Calls Tryz.prog 3 #[.agg #[.slice f l c, .int .i64 fr, .slice g n d, .bool on1, .int .i64 of1, .int .i64 og1, .bool false, .int .i64 tf, .int .i64 tg, .int .i64 ac]] w fun e w' => e = .returned (.bool true) ∧ Below w.heap.size w w' := by
  obtain ⟨hl, hn⟩ := heavy5_no hh
  have HH := Lib.hid (fun W => heavy5_any f g l c n d fr W (by omega) (by omega))
  rw [hh] at HH
  clear hh
  have HMM := Lib.hid (fun d W => may7_any f g l c n d fr on1 of1 og1 false tf tg ac 0 0 W)
  have HPO := Lib.hid (fun W => page_any of1 W)
  rw [hA] at HMM
  rw [hO] at HPO
  clear hA hO
  have X0 := Lib.hid (BoxAt.new w #[.slice f l c, .int .i64 fr, .slice g n d, .bool on1, .int .i64 of1, .int .i64 og1, .bool false, .int .i64 tf, .int .i64 tg, .int .i64 ac] 31)
  have B0 := Lib.hid (bel_alloc (Below.refl w.heap.size w) (.cells #[.slice f l c, .int .i64 fr, .slice g n d, .bool on1, .int .i64 of1, .int .i64 og1, .bool false, .int .i64 tf, .int .i64 tg, .int .i64 ac] 31))
  go_enter Tryz.func3, Tryz.ntmps3
  have Pc0 := X0.out.get 0 (.slice f l c) rfl
  have Pc1 := X0.out.get 1 (.int .i64 fr) rfl
  have Pc2 := X0.out.get 2 (.slice g n d) rfl
  go_wp2_with fail
  refine (HH.out _).mono ?_
  rintro e w1 ⟨rfl, hb1⟩
  have P2 := Lib.hid (X0.out.below hb1)
  have B2 := Lib.hid (bel_trans B0.out hb1)
  clear Pc0 Pc1 Pc2
  clear X0 B0 hb1
  have Pc0 := P2.out.get 0 (.slice f l c) rfl
  have Pc1 := P2.out.get 1 (.int .i64 fr) rfl
  have Pc2 := P2.out.get 2 (.slice g n d) rfl
  have Pc3 := P2.out.get 3 (.bool on1) rfl
  have Pc4 := P2.out.get 4 (.int .i64 of1) rfl
  have Pc5 := P2.out.get 5 (.int .i64 og1) rfl
  have Pc6 := P2.out.get 6 (.bool false) rfl
  have Pc7 := P2.out.get 7 (.int .i64 tf) rfl
  have Pc8 := P2.out.get 8 (.int .i64 tg) rfl
  have Pc9 := P2.out.get 9 (.int .i64 ac) rfl
  go_wp2_with fail
  refine (HMM.out _ _).mono ?_
  rintro e w3 ⟨rfl, hb3⟩
  have P4 := Lib.hid (P2.out.below hb3)
  have B4 := Lib.hid (bel_trans B2.out hb3)
  clear Pc0 Pc1 Pc2 Pc3 Pc4 Pc5 Pc6 Pc7 Pc8 Pc9
  clear P2 B2 hb3
  have Pc4 := P4.out.get 4 (.int .i64 of1) rfl
  go_wp2_with fail
  refine (HPO.out _).mono ?_
  rintro e w5 ⟨rfl, rfl⟩
  clear Pc4
  have Pc6 := P4.out.get 6 (.bool false) rfl
  go_wp2
  go_ret
  exact ⟨rfl, B4.out⟩
set_option maxRecDepth 100000 in
set_option maxHeartbeats 12800000 in
theorem nconf_on (PT : TransC) (f g : Option Addr) (l c n d : Nat) (X : Nat → BitVec 64) (P : Nat → Int) (fr : Int) (on1 : Bool) (of1 og1 : Int) (tf tg ac : Int) (w : World) (hX : WordsAt w f l X) (hP : NumsAt w g n P) (hlc : l ≤ c) (hh : heavy5 l n = false) (hA : mayN l tf 0 0 = true) (hO : numB of1 4095 = true) :
    Calls Tryz.prog 3 #[.agg #[.slice f l c, .int .i64 fr, .slice g n d, .bool on1, .int .i64 of1, .int .i64 og1, .bool true, .int .i64 tf, .int .i64 tg, .int .i64 ac]] w fun e w' => e = .returned (.bool true) ∧ Below w.heap.size w w' := by
  obtain ⟨hl, hn⟩ := heavy5_no hh
  have HH := Lib.hid (fun W => heavy5_any f g l c n d fr W (by omega) (by omega))
  rw [hh] at HH
  clear hh
  have HX := Lib.hid hX
  have HP := Lib.hid hP
  have HPM := Lib.hid (fun pg acc W h => PT f l c X on1 of1 og1 true tf tg pg acc W (by omega) hlc h)
  have HW7 := Lib.hid (fun W => wakes7_any PT W)
  have HMM := Lib.hid (fun d W => may7_any f g l c n d fr on1 of1 og1 true tf tg ac 0 0 W)
  have HPO := Lib.hid (fun W => page_any of1 W)
  rw [hA] at HMM
  rw [hO] at HPO
  obtain ⟨hm, ⟨t0, t1⟩, _, _⟩ := mayN_iff.1 hA
  obtain ⟨o0, o1⟩ := numB_iff.1 hO
  have HAY := Lib.hid (show ∀ pg acc, 0 ≤ pg → pg ≤ 4095 → 0 ≤ acc → acc ≤ 2 → (mayN l tf pg acc && numB of1 4095) = true from fun pg acc p0 p1 a0 a1 => by rw [mayN_iff.2 ⟨hm, ⟨t0, t1⟩, ⟨p0, p1⟩, a0, a1⟩, hO]; rfl)
  have HMR := Lib.hid (fun mid acc W (hW : WordsAt W f l X) m0 m1 => midR_any f l c X true tf tg mid acc W hW hm t0 t1 m0 m1)
  have HRE := Lib.hid (fun W (hW : WordsAt W f l X) => reach_any f l c X true tf tg W hW hm t0 t1)
  have HCF := Lib.hid (fun pg acc p0 p1 => transD_conf l X on1 of1 tf pg acc o0 o1 p0 p1)
  have HLN := Lib.hid (fun pg acc (p0 : 0 ≤ pg) => transD_len l X on1 of1 true tf pg acc o0 t0 p0)
  obtain ⟨Mf, hMf⟩ : ∃ Mf : Int → Int → Hit × Flt × List Int, Mf = midD l X true tf := ⟨_, rfl⟩
  have HMR := Lib.hid (show ∀ mid acc W, WordsAt W f l X → 0 ≤ mid → mid ≤ 4095 → Calls Tryz.prog 12 #[.agg #[.slice f l c], .agg #[.bool true, .int .i64 tf, .int .i64 tg], .int .i64 mid, .int .i64 acc] W (WalkEnd W (Mf mid acc)) from by rw [hMf]; exact HMR.out)
  rw [← hMf] at HRE HCF
  have X0 := Lib.hid (BoxAt.new w #[.slice f l c, .int .i64 fr, .slice g n d, .bool on1, .int .i64 of1, .int .i64 og1, .bool true, .int .i64 tf, .int .i64 tg, .int .i64 ac] 31)
  have B0 := Lib.hid (bel_alloc (Below.refl w.heap.size w) (.cells #[.slice f l c, .int .i64 fr, .slice g n d, .bool on1, .int .i64 of1, .int .i64 og1, .bool true, .int .i64 tf, .int .i64 tg, .int .i64 ac] 31))
  clear hX hP PT hA hO hm t0 t1 hMf
  go_enter Tryz.func3, Tryz.ntmps3
  have Pc0 := X0.out.get 0 (.slice f l c) rfl
  have Pc1 := X0.out.get 1 (.int .i64 fr) rfl
  have Pc2 := X0.out.get 2 (.slice g n d) rfl
  go_wp2_with fail
  refine (HH.out _).mono ?_
  rintro e w1 ⟨rfl, hb1⟩
  have P2 := Lib.hid (X0.out.below hb1)
  have B2 := Lib.hid (bel_trans B0.out hb1)
  clear Pc0 Pc1 Pc2
  clear X0 B0 hb1
  have Pc0 := P2.out.get 0 (.slice f l c) rfl
  have Pc1 := P2.out.get 1 (.int .i64 fr) rfl
  have Pc2 := P2.out.get 2 (.slice g n d) rfl
  have Pc3 := P2.out.get 3 (.bool on1) rfl
  have Pc4 := P2.out.get 4 (.int .i64 of1) rfl
  have Pc5 := P2.out.get 5 (.int .i64 og1) rfl
  have Pc6 := P2.out.get 6 (.bool true) rfl
  have Pc7 := P2.out.get 7 (.int .i64 tf) rfl
  have Pc8 := P2.out.get 8 (.int .i64 tg) rfl
  have Pc9 := P2.out.get 9 (.int .i64 ac) rfl
  go_wp2_with fail
  refine (HMM.out _ _).mono ?_
  rintro e w3 ⟨rfl, hb3⟩
  have P4 := Lib.hid (P2.out.below hb3)
  have B4 := Lib.hid (bel_trans B2.out hb3)
  clear Pc0 Pc1 Pc2 Pc3 Pc4 Pc5 Pc6 Pc7 Pc8 Pc9
  clear P2 B2 hb3
  have Pc4 := P4.out.get 4 (.int .i64 of1) rfl
  go_wp2_with fail
  refine (HPO.out _).mono ?_
  rintro e w5 ⟨rfl, rfl⟩
  clear Pc4
  have Pc0 := P4.out.get 0 (.slice f l c) rfl
  have Pc6 := P4.out.get 6 (.bool true) rfl
  have Pc7 := P4.out.get 7 (.int .i64 tf) rfl
  have Pc8 := P4.out.get 8 (.int .i64 tg) rfl
  have HX2 := HX.out.below B4.out
  go_wp2_with fail
  refine (HRE.out _ HX2).mono ?_
  rintro e w9 ⟨ft, nt, ct, fl, nl, cl, T, L, rfl, hnt, hnl, hnt1, hnl1, hT9, hL9, hb9, hTT, hLL⟩
  clear HX2 HRE HH HMM HPO
  have T3 := Lib.hid hT9
  have L3 := Lib.hid hL9
  have HNT := Lib.hid hnt
  have HNL := Lib.hid hnl
  have HTT := Lib.hid hTT
  have HLL := Lib.hid hLL
  clear hT9 hL9 hnt hnl hTT hLL
  have P10 := Lib.hid (P4.out.below hb9)
  have B10 := Lib.hid (bel_trans B4.out hb9)
  clear Pc0 Pc6 Pc7 Pc8
  clear P4 B4 hb9
  have HX3 := Lib.hid (HX.out.below B10.out)
  have HP3 := Lib.hid (HP.out.below B10.out)
  clear HX HP
  go_wp2_with fail
  go_loopw [5] (fun i wr => ∃ k : Nat, k ≤ n ∧ i = .int .i64 k ∧ Below w9.heap.size w9 wr) (fun i _ => n - (intOf i).toNat)
  case atStart => exact ⟨0, Nat.zero_le _, rfl, Below.refl _ _⟩
  case round =>
    obtain ⟨k, hk, rfl, hb⟩ := hrel
    have pc2 := (P10.out.below hb).get 2 (.slice g n d) rfl
    by_cases hlt : k < n ∧ k < 10
    · obtain ⟨hlt, hlt'⟩ := hlt
      have i1 : (0 : Int) ≤ (k : Int) := by omega
      have i2 : (k : Int) < (n : Int) := by omega
      have d10 : decide ((k : Int) < 10) = true := decide_eq_true (by omega)
      obtain ⟨gb, go, rfl, hpk0⟩ := HP3.out k hlt
      have hpk : w9.cell? ⟨gb, go + k, none⟩ = some (.int .i64 (P k)) := hpk0
      generalize P k = pg at *
      have HPK := Lib.hid hpk
      have HB0 := Lib.hid hb
      have HWI := Lib.hid (fun W => within_any pg 4096 W (by decide) (by decide))
      have p0 := within_lo pg 4096 (by decide)
      have p1 := within_hi pg 4096 (by decide)
      generalize withinV pg 4096 = pw at *
      clear hb hpk0 hpk
      go_wp2_with fail
      clear pc2
      go_loopw [6] (fun t wi => ∃ acc : Int, 0 ≤ acc ∧ acc ≤ 3 ∧ t = .int .i64 acc ∧ Below w9.heap.size w9 wi) (fun t _ => (3 - intOf t).toNat)
      case atStart => exact ⟨0, by decide, by decide, rfl, HB0.out⟩
      case round =>
        obtain ⟨acc, hs0, hs4, rfl, hb⟩ := hrel
        clear HB0
        by_cases hst : acc ≤ 2
        · have e2 : decide (acc ≤ 2) = true := decide_eq_true hst
          have HT := Lib.hid (fun W h => HPM.out pw acc W h)
          have hAY := HAY.out pw acc p0 (by omega) hs0 hst
          have hcf := HCF.out pw acc p0 (by omega)
          have hln := HLN.out pw acc p0
          simp only [transA_yes hAY] at HT
          clear hAY
          generalize transD l X on1 of1 true tf pw acc = q at *
          obtain ⟨⟨hf, hm', ⟨hr, hw, hx, ha, hn', hs⟩, hl'⟩, ⟨fk, fs, fl', fw, fp⟩, R⟩ := q
          unfold Walk4End hitV fltV at HT
          simp only at HT hln
          have HRT := Lib.hid (show ∀ x ∈ R, x ∈ T ∨ x ∈ L from fun x hx => (hcf.1 x hx).imp (HTT.out x) (HLL.out x))
          have HCK := Lib.hid (show fk = 0 → (0 ≤ hm' ∧ hm' ≤ 4095) ∧ (Mf hm' acc).2.1.k = 0 ∧ (Mf hm' acc).1.f = hf from hcf.2)
          clear hcf
          have HB := Lib.hid hb
          have X2 := Lib.hid (P10.out.below hb)
          have hpk2 := Lib.hid (keepc hb HPK.out)
          have HXc := Lib.hid (HX3.out.below hb)
          have T2 := Lib.hid (T3.out.below hb)
          have L2 := Lib.hid (L3.out.below hb)
          clear hb
          go_upto_region 10 with fail
          have Pk := X2.out
          have hlPk := Pk.lt
          have hpkk := hpk2.out
          have hlGk : gb < wr.heap.size := cell_block hpkk
          go_upto_region 10 with fail
          go_cut [7, 8, 9, 10] (fun s7 s8 s9 s10 wx => ∃ (bH : Nat) (bF : Nat) (f' : Option Addr) (c' : Nat), s7 = .pointer (some ⟨bH, 0, none⟩) ∧ s8 = .pointer (some ⟨bF, 0, none⟩) ∧ s9 = .slice f' R.length c' ∧ s10 = .int .i64 0 ∧ wr.heap.size ≤ bH ∧ wr.heap.size ≤ bF ∧ bH ≠ bF ∧ Hid (Below wr.heap.size wr wx) ∧ Hid (BoxAt wx bH #[.int .i64 hf, .int .i64 hm', .bool hr, .bool hw, .bool hx, .bool ha, .bool hn', .int .i64 hs, .int .i64 hl'] 40) ∧ Hid (BoxAt wx bF #[.int .i64 fk, .int .i64 fs, .int .i64 fl', .bool fw, .int .i64 fp] 42) ∧ Hid (OwnI wx wr.heap.size (.slice f' R.length c') (R)))
          case first =>
            rename_i JJ KK hJJ hKK
            refine wp_region_held_drew (S := (fun w' => BoxAt w' (w.heap.size) #[.slice f l c, .int .i64 fr, .slice (some ⟨gb, go, none⟩) n d, .bool on1, .int .i64 of1, .int .i64 og1, .bool true, .int .i64 tf, .int .i64 tg, .int .i64 ac] 31 ∧ w'.cell? ⟨gb, go + k, none⟩ = some (.int .i64 pg))) (by kernel_rfl) ?_ (fun hS => ?_)
            · (exact ⟨(by repeat' (first | with_reducible exact Pk | with_reducible exact hS.1 | with_reducible refine BoxAt.row ?_ (by first | omega | (simp; done) | (simp; omega)) | with_reducible refine BoxAt.alloc ?_ _ | with_reducible refine BoxAt.drew ?_ | with_reducible refine BoxAt.below ?_ hb20)), (by repeat' (first | with_reducible exact hpkk | with_reducible exact hS.2 | with_reducible refine cell_keep ?_ _ | with_reducible refine cell_drew ?_ | with_reducible refine cell_row (by first | omega | (simp; done) | (simp; omega)) ?_ | refine keepc hb20 ?_))⟩)
            refine tkR 0 62 rfl hS (fun w' hSw => by have sP0 := (hSw.1).get 0 (.slice f l c) rfl; have sP2 := (hSw.1).get 2 (.slice (some ⟨gb, go, none⟩) n d) rfl; have sP3 := (hSw.1).get 3 (.bool on1) rfl; have sP4 := (hSw.1).get 4 (.int .i64 of1) rfl; have sP5 := (hSw.1).get 5 (.int .i64 og1) rfl; have sP6 := (hSw.1).get 6 (.bool true) rfl; have sP7 := (hSw.1).get 7 (.int .i64 tf) rfl; have sP8 := (hSw.1).get 8 (.int .i64 tg) rfl; have sG := hSw.2; clear hSw; go_simp; try with_reducible rfl) ?_
            simp only [pA, pB, pC]
            refine tkR 1 63 rfl hS (fun w' hSw => by have sP0 := (hSw.1).get 0 (.slice f l c) rfl; have sP2 := (hSw.1).get 2 (.slice (some ⟨gb, go, none⟩) n d) rfl; have sP3 := (hSw.1).get 3 (.bool on1) rfl; have sP4 := (hSw.1).get 4 (.int .i64 of1) rfl; have sP5 := (hSw.1).get 5 (.int .i64 og1) rfl; have sP6 := (hSw.1).get 6 (.bool true) rfl; have sP7 := (hSw.1).get 7 (.int .i64 tf) rfl; have sP8 := (hSw.1).get 8 (.int .i64 tg) rfl; have sG := hSw.2; clear hSw; go_simp; try with_reducible rfl) ?_
            simp only [pA, pB, pC]
            refine tkR 2 64 rfl hS (fun w' hSw => by have sP0 := (hSw.1).get 0 (.slice f l c) rfl; have sP2 := (hSw.1).get 2 (.slice (some ⟨gb, go, none⟩) n d) rfl; have sP3 := (hSw.1).get 3 (.bool on1) rfl; have sP4 := (hSw.1).get 4 (.int .i64 of1) rfl; have sP5 := (hSw.1).get 5 (.int .i64 og1) rfl; have sP6 := (hSw.1).get 6 (.bool true) rfl; have sP7 := (hSw.1).get 7 (.int .i64 tf) rfl; have sP8 := (hSw.1).get 8 (.int .i64 tg) rfl; have sG := hSw.2; clear hSw; go_simp; try with_reducible rfl) ?_
            simp only [pA, pB, pC]
            refine tkR 3 65 rfl hS (fun w' hSw => by have sP0 := (hSw.1).get 0 (.slice f l c) rfl; have sP2 := (hSw.1).get 2 (.slice (some ⟨gb, go, none⟩) n d) rfl; have sP3 := (hSw.1).get 3 (.bool on1) rfl; have sP4 := (hSw.1).get 4 (.int .i64 of1) rfl; have sP5 := (hSw.1).get 5 (.int .i64 og1) rfl; have sP6 := (hSw.1).get 6 (.bool true) rfl; have sP7 := (hSw.1).get 7 (.int .i64 tf) rfl; have sP8 := (hSw.1).get 8 (.int .i64 tg) rfl; have sG := hSw.2; clear hSw; go_simp; try with_reducible rfl) ?_
            simp only [pA, pB, pC]
            refine tkR 4 66 rfl hS (fun w' hSw => by have sP0 := (hSw.1).get 0 (.slice f l c) rfl; have sP2 := (hSw.1).get 2 (.slice (some ⟨gb, go, none⟩) n d) rfl; have sP3 := (hSw.1).get 3 (.bool on1) rfl; have sP4 := (hSw.1).get 4 (.int .i64 of1) rfl; have sP5 := (hSw.1).get 5 (.int .i64 og1) rfl; have sP6 := (hSw.1).get 6 (.bool true) rfl; have sP7 := (hSw.1).get 7 (.int .i64 tf) rfl; have sP8 := (hSw.1).get 8 (.int .i64 tg) rfl; have sG := hSw.2; clear hSw; go_simp; try with_reducible rfl) ?_
            simp only [pA, pB, pC]
            refine tkR 5 67 rfl hS (fun w' hSw => by have sP0 := (hSw.1).get 0 (.slice f l c) rfl; have sP2 := (hSw.1).get 2 (.slice (some ⟨gb, go, none⟩) n d) rfl; have sP3 := (hSw.1).get 3 (.bool on1) rfl; have sP4 := (hSw.1).get 4 (.int .i64 of1) rfl; have sP5 := (hSw.1).get 5 (.int .i64 og1) rfl; have sP6 := (hSw.1).get 6 (.bool true) rfl; have sP7 := (hSw.1).get 7 (.int .i64 tf) rfl; have sP8 := (hSw.1).get 8 (.int .i64 tg) rfl; have sG := hSw.2; clear hSw; go_simp; try with_reducible rfl) ?_
            simp only [pA, pB, pC]
            refine tkR 6 68 rfl hS (fun w' hSw => by have sP0 := (hSw.1).get 0 (.slice f l c) rfl; have sP2 := (hSw.1).get 2 (.slice (some ⟨gb, go, none⟩) n d) rfl; have sP3 := (hSw.1).get 3 (.bool on1) rfl; have sP4 := (hSw.1).get 4 (.int .i64 of1) rfl; have sP5 := (hSw.1).get 5 (.int .i64 og1) rfl; have sP6 := (hSw.1).get 6 (.bool true) rfl; have sP7 := (hSw.1).get 7 (.int .i64 tf) rfl; have sP8 := (hSw.1).get 8 (.int .i64 tg) rfl; have sG := hSw.2; clear hSw; go_simp; try with_reducible rfl) ?_
            simp only [pA, pB, pC]
            refine tkR 7 69 rfl hS (fun w' hSw => by have sP0 := (hSw.1).get 0 (.slice f l c) rfl; have sP2 := (hSw.1).get 2 (.slice (some ⟨gb, go, none⟩) n d) rfl; have sP3 := (hSw.1).get 3 (.bool on1) rfl; have sP4 := (hSw.1).get 4 (.int .i64 of1) rfl; have sP5 := (hSw.1).get 5 (.int .i64 og1) rfl; have sP6 := (hSw.1).get 6 (.bool true) rfl; have sP7 := (hSw.1).get 7 (.int .i64 tf) rfl; have sP8 := (hSw.1).get 8 (.int .i64 tg) rfl; have sG := hSw.2; clear hSw; go_simp; try with_reducible rfl) ?_
            simp only [pA, pB, pC]
            refine tkR 8 70 rfl hS (fun w' hSw => by have sP0 := (hSw.1).get 0 (.slice f l c) rfl; have sP2 := (hSw.1).get 2 (.slice (some ⟨gb, go, none⟩) n d) rfl; have sP3 := (hSw.1).get 3 (.bool on1) rfl; have sP4 := (hSw.1).get 4 (.int .i64 of1) rfl; have sP5 := (hSw.1).get 5 (.int .i64 og1) rfl; have sP6 := (hSw.1).get 6 (.bool true) rfl; have sP7 := (hSw.1).get 7 (.int .i64 tf) rfl; have sP8 := (hSw.1).get 8 (.int .i64 tg) rfl; have sG := hSw.2; clear hSw; go_simp; try with_reducible rfl) ?_
            simp only [pA, pB, pC]
            refine tkR 9 71 rfl hS (fun w' hSw => by have sP0 := (hSw.1).get 0 (.slice f l c) rfl; have sP2 := (hSw.1).get 2 (.slice (some ⟨gb, go, none⟩) n d) rfl; have sP3 := (hSw.1).get 3 (.bool on1) rfl; have sP4 := (hSw.1).get 4 (.int .i64 of1) rfl; have sP5 := (hSw.1).get 5 (.int .i64 og1) rfl; have sP6 := (hSw.1).get 6 (.bool true) rfl; have sP7 := (hSw.1).get 7 (.int .i64 tf) rfl; have sP8 := (hSw.1).get 8 (.int .i64 tg) rfl; have sG := hSw.2; clear hSw; go_simp; try with_reducible rfl) ?_
            simp only [pA, pB, pC]
            refine tkR 10 72 rfl hS (fun w' hSw => by have sP0 := (hSw.1).get 0 (.slice f l c) rfl; have sP2 := (hSw.1).get 2 (.slice (some ⟨gb, go, none⟩) n d) rfl; have sP3 := (hSw.1).get 3 (.bool on1) rfl; have sP4 := (hSw.1).get 4 (.int .i64 of1) rfl; have sP5 := (hSw.1).get 5 (.int .i64 og1) rfl; have sP6 := (hSw.1).get 6 (.bool true) rfl; have sP7 := (hSw.1).get 7 (.int .i64 tf) rfl; have sP8 := (hSw.1).get 8 (.int .i64 tg) rfl; have sG := hSw.2; clear hSw; go_simp; try with_reducible rfl) ?_
            simp only [pA, pB, pC]
            refine tkR 11 73 rfl hS (fun w' hSw => by have sP0 := (hSw.1).get 0 (.slice f l c) rfl; have sP2 := (hSw.1).get 2 (.slice (some ⟨gb, go, none⟩) n d) rfl; have sP3 := (hSw.1).get 3 (.bool on1) rfl; have sP4 := (hSw.1).get 4 (.int .i64 of1) rfl; have sP5 := (hSw.1).get 5 (.int .i64 og1) rfl; have sP6 := (hSw.1).get 6 (.bool true) rfl; have sP7 := (hSw.1).get 7 (.int .i64 tf) rfl; have sP8 := (hSw.1).get 8 (.int .i64 tg) rfl; have sG := hSw.2; clear hSw; go_simp; try with_reducible rfl) ?_
            simp only [pA, pB, pC]
            refine tkR 12 74 rfl hS (fun w' hSw => by have sP0 := (hSw.1).get 0 (.slice f l c) rfl; have sP2 := (hSw.1).get 2 (.slice (some ⟨gb, go, none⟩) n d) rfl; have sP3 := (hSw.1).get 3 (.bool on1) rfl; have sP4 := (hSw.1).get 4 (.int .i64 of1) rfl; have sP5 := (hSw.1).get 5 (.int .i64 og1) rfl; have sP6 := (hSw.1).get 6 (.bool true) rfl; have sP7 := (hSw.1).get 7 (.int .i64 tf) rfl; have sP8 := (hSw.1).get 8 (.int .i64 tg) rfl; have sG := hSw.2; clear hSw; go_simp; try with_reducible rfl) ?_
            simp only [pA, pB, pC]
            refine tkR 14 76 rfl hS (fun w' hSw => by have sP0 := (hSw.1).get 0 (.slice f l c) rfl; have sP2 := (hSw.1).get 2 (.slice (some ⟨gb, go, none⟩) n d) rfl; have sP3 := (hSw.1).get 3 (.bool on1) rfl; have sP4 := (hSw.1).get 4 (.int .i64 of1) rfl; have sP5 := (hSw.1).get 5 (.int .i64 og1) rfl; have sP6 := (hSw.1).get 6 (.bool true) rfl; have sP7 := (hSw.1).get 7 (.int .i64 tf) rfl; have sP8 := (hSw.1).get 8 (.int .i64 tg) rfl; have sG := hSw.2; clear hSw; go_simp; try with_reducible rfl) ?_
            simp only [pA, pB, pC]
            refine wpAnyH_ready (rs := [13, 21, 22]) (by kernel_rfl) (by simp) ?_
            refine AllReadyH.cons (o := ⟨some 75, _, _, _, _, _⟩) rfl (fun K hK => ?_) ?_
            · go_simp
              refine (HWI.out _).mono ?_
              rintro e w15 ⟨rfl, rfl⟩
              refine hK.out _ _ ?_ (fun hS' => ?_)
              · (exact ⟨(by repeat' (first | with_reducible exact Pk | with_reducible exact hS.1 | with_reducible refine BoxAt.row ?_ (by first | omega | (simp; done) | (simp; omega)) | with_reducible refine BoxAt.alloc ?_ _ | with_reducible refine BoxAt.drew ?_ | with_reducible refine BoxAt.below ?_ hb20)), (by repeat' (first | with_reducible exact hpkk | with_reducible exact hS.2 | with_reducible refine cell_keep ?_ _ | with_reducible refine cell_drew ?_ | with_reducible refine cell_row (by first | omega | (simp; done) | (simp; omega)) ?_ | refine keepc hb20 ?_))⟩)
              clear hK K hS
              have hS := hS'
              clear hS'
              try simp only [Act.put, List.setIfInBounds_toArray, List.set_cons_zero, List.set_cons_succ]
              refine wpAnyH_ready (rs := [15, 21, 22]) (by kernel_rfl) (by simp) ?_
              refine AllReadyH.cons (o := ⟨some 77, _, _, _, _, _⟩) rfl (fun K hK => ?_) ?_
              · go_simp
                refine (HT.out _ (HXc.out.below (by go_grown))).mono ?_
                rintro e w20 ⟨f', c', rfl, hO20, hb20⟩
                have hsz20 := hb20.size
                simp at hsz20
                refine hK.out _ _ ?_ (fun hS' => ?_)
                · (exact ⟨(by repeat' (first | with_reducible exact Pk | with_reducible exact hS.1 | with_reducible refine BoxAt.row ?_ (by first | omega | (simp; done) | (simp; omega)) | with_reducible refine BoxAt.alloc ?_ _ | with_reducible refine BoxAt.drew ?_ | with_reducible refine BoxAt.below ?_ hb20)), (by repeat' (first | with_reducible exact hpkk | with_reducible exact hS.2 | with_reducible refine cell_keep ?_ _ | with_reducible refine cell_drew ?_ | with_reducible refine cell_row (by first | omega | (simp; done) | (simp; omega)) ?_ | refine keepc hb20 ?_))⟩)
                clear hK K hS
                have hS := hS'
                clear hS'
                try simp only [Act.put, List.setIfInBounds_toArray, List.set_cons_zero, List.set_cons_succ]
                refine tkR 16 61 rfl hS (fun w' hSw => by have sP0 := (hSw.1).get 0 (.slice f l c) rfl; have sP2 := (hSw.1).get 2 (.slice (some ⟨gb, go, none⟩) n d) rfl; have sP3 := (hSw.1).get 3 (.bool on1) rfl; have sP4 := (hSw.1).get 4 (.int .i64 of1) rfl; have sP5 := (hSw.1).get 5 (.int .i64 og1) rfl; have sP6 := (hSw.1).get 6 (.bool true) rfl; have sP7 := (hSw.1).get 7 (.int .i64 tf) rfl; have sP8 := (hSw.1).get 8 (.int .i64 tg) rfl; have sG := hSw.2; clear hSw; go_simp; try with_reducible rfl) ?_
                simp only [pA, pB, pC]
                refine tkR 17 78 rfl hS (fun w' hSw => by have sP0 := (hSw.1).get 0 (.slice f l c) rfl; have sP2 := (hSw.1).get 2 (.slice (some ⟨gb, go, none⟩) n d) rfl; have sP3 := (hSw.1).get 3 (.bool on1) rfl; have sP4 := (hSw.1).get 4 (.int .i64 of1) rfl; have sP5 := (hSw.1).get 5 (.int .i64 og1) rfl; have sP6 := (hSw.1).get 6 (.bool true) rfl; have sP7 := (hSw.1).get 7 (.int .i64 tf) rfl; have sP8 := (hSw.1).get 8 (.int .i64 tg) rfl; have sG := hSw.2; clear hSw; go_simp; try with_reducible rfl) ?_
                simp only [pA, pB, pC]
                refine tkR 18 79 rfl hS (fun w' hSw => by have sP0 := (hSw.1).get 0 (.slice f l c) rfl; have sP2 := (hSw.1).get 2 (.slice (some ⟨gb, go, none⟩) n d) rfl; have sP3 := (hSw.1).get 3 (.bool on1) rfl; have sP4 := (hSw.1).get 4 (.int .i64 of1) rfl; have sP5 := (hSw.1).get 5 (.int .i64 og1) rfl; have sP6 := (hSw.1).get 6 (.bool true) rfl; have sP7 := (hSw.1).get 7 (.int .i64 tf) rfl; have sP8 := (hSw.1).get 8 (.int .i64 tg) rfl; have sG := hSw.2; clear hSw; go_simp; try with_reducible rfl) ?_
                simp only [pA, pB, pC]
                refine tkR 19 80 rfl hS (fun w' hSw => by have sP0 := (hSw.1).get 0 (.slice f l c) rfl; have sP2 := (hSw.1).get 2 (.slice (some ⟨gb, go, none⟩) n d) rfl; have sP3 := (hSw.1).get 3 (.bool on1) rfl; have sP4 := (hSw.1).get 4 (.int .i64 of1) rfl; have sP5 := (hSw.1).get 5 (.int .i64 og1) rfl; have sP6 := (hSw.1).get 6 (.bool true) rfl; have sP7 := (hSw.1).get 7 (.int .i64 tf) rfl; have sP8 := (hSw.1).get 8 (.int .i64 tg) rfl; have sG := hSw.2; clear hSw; go_simp; try with_reducible rfl) ?_
                simp only [pA, pB, pC]
                refine tkR 20 81 rfl hS (fun w' hSw => by have sP0 := (hSw.1).get 0 (.slice f l c) rfl; have sP2 := (hSw.1).get 2 (.slice (some ⟨gb, go, none⟩) n d) rfl; have sP3 := (hSw.1).get 3 (.bool on1) rfl; have sP4 := (hSw.1).get 4 (.int .i64 of1) rfl; have sP5 := (hSw.1).get 5 (.int .i64 og1) rfl; have sP6 := (hSw.1).get 6 (.bool true) rfl; have sP7 := (hSw.1).get 7 (.int .i64 tf) rfl; have sP8 := (hSw.1).get 8 (.int .i64 tg) rfl; have sG := hSw.2; clear hSw; go_simp; try with_reducible rfl) ?_
                simp only [pA, pB, pC]
                refine wpAnyH_ready (rs := [21, 22]) (by kernel_rfl) (by simp) ?_
                refine AllReadyH.cons (o := ⟨some 7, _, _, _, _, _⟩) rfl (fun K hK => ?_) ?_
                · go_simp
                  refine hK.out _ _ ?_ (fun hS' => ?_)
                  · (exact ⟨(by repeat' (first | with_reducible exact Pk | with_reducible exact hS.1 | with_reducible refine BoxAt.row ?_ (by first | omega | (simp; done) | (simp; omega)) | with_reducible refine BoxAt.alloc ?_ _ | with_reducible refine BoxAt.drew ?_ | with_reducible refine BoxAt.below ?_ hb20)), (by repeat' (first | with_reducible exact hpkk | with_reducible exact hS.2 | with_reducible refine cell_keep ?_ _ | with_reducible refine cell_drew ?_ | with_reducible refine cell_row (by first | omega | (simp; done) | (simp; omega)) ?_ | refine keepc hb20 ?_))⟩)
                  clear hK K hS
                  have hS := hS'
                  clear hS'
                  try simp only [Act.put, List.setIfInBounds_toArray, List.set_cons_zero, List.set_cons_succ]
                  refine wpAnyH_ready (rs := [22]) (by kernel_rfl) (by simp) ?_
                  refine AllReadyH.cons (o := ⟨some 8, _, _, _, _, _⟩) rfl (fun K hK => ?_) AllReadyH.nil
                  go_simp
                  refine hK.out _ _ ?_ (fun hS' => ?_)
                  · (exact ⟨(by repeat' (first | with_reducible exact Pk | with_reducible exact hS.1 | with_reducible refine BoxAt.row ?_ (by first | omega | (simp; done) | (simp; omega)) | with_reducible refine BoxAt.alloc ?_ _ | with_reducible refine BoxAt.drew ?_ | with_reducible refine BoxAt.below ?_ hb20)), (by repeat' (first | with_reducible exact hpkk | with_reducible exact hS.2 | with_reducible refine cell_keep ?_ _ | with_reducible refine cell_drew ?_ | with_reducible refine cell_row (by first | omega | (simp; done) | (simp; omega)) ?_ | refine keepc hb20 ?_))⟩)
                  clear hK K hS
                  have hS := hS'
                  clear hS'
                  try simp only [Act.put, List.setIfInBounds_toArray, List.set_cons_zero, List.set_cons_succ]
                  refine wpAnyH_ready (rs := [23]) (by kernel_rfl) (by simp) ?_
                  refine AllReadyH.cons (o := ⟨none, _, _, _, _, _⟩) rfl (fun K hK => ?_) AllReadyH.nil
                  refine step_storeB rfl 40 _ _ rfl _ _ z9 40 rfl rfl (by kernel_rfl) rfl (by simp [Value.oneCell']) (by repeat' (first | (with_reducible refine BoxAt.newAt _ _ _ _ (by (simp; done))) | with_reducible refine BoxAt.putAny #[] ?_ rfl | (with_reducible refine BoxAt.row ?_ (by first | with_reducible assumption | omega | (simp; done) | (simp; omega))) | with_reducible refine BoxAt.alloc ?_ _ | with_reducible refine BoxAt.drew ?_ | with_reducible refine BoxAt.below ?_ hb20)) ?_
                  refine hK.out _ _ ?_ (fun hS' => ?_)
                  · (exact ⟨(by repeat' (first | with_reducible exact Pk | with_reducible exact hS.1 | with_reducible refine BoxAt.row ?_ (by first | omega | (simp; done) | (simp; omega)) | with_reducible refine BoxAt.alloc ?_ _ | with_reducible refine BoxAt.drew ?_ | with_reducible refine BoxAt.below ?_ hb20)), (by repeat' (first | with_reducible exact hpkk | with_reducible exact hS.2 | with_reducible refine cell_keep ?_ _ | with_reducible refine cell_drew ?_ | with_reducible refine cell_row (by first | omega | (simp; done) | (simp; omega)) ?_ | refine keepc hb20 ?_))⟩)
                  clear hK K hS
                  have hS := hS'
                  clear hS'
                  try simp only [Act.put]
                  refine wpAnyH_ready (rs := [24]) (by kernel_rfl) (by simp) ?_
                  refine AllReadyH.cons (o := ⟨none, _, _, _, _, _⟩) rfl (fun K hK => ?_) AllReadyH.nil
                  refine step_storeB rfl 42 _ _ rfl _ _ z5 42 rfl rfl (by kernel_rfl) rfl (by simp [Value.oneCell']) (by repeat' (first | (with_reducible refine BoxAt.newAt _ _ _ _ (by (simp; done))) | with_reducible refine BoxAt.putAny #[] ?_ rfl | (with_reducible refine BoxAt.row ?_ (by first | with_reducible assumption | omega | (simp; done) | (simp; omega))) | with_reducible refine BoxAt.alloc ?_ _ | with_reducible refine BoxAt.drew ?_ | with_reducible refine BoxAt.below ?_ hb20)) ?_
                  refine hK.out _ _ ?_ (fun hS' => ?_)
                  · (exact ⟨(by repeat' (first | with_reducible exact Pk | with_reducible exact hS.1 | with_reducible refine BoxAt.row ?_ (by first | omega | (simp; done) | (simp; omega)) | with_reducible refine BoxAt.alloc ?_ _ | with_reducible refine BoxAt.drew ?_ | with_reducible refine BoxAt.below ?_ hb20)), (by repeat' (first | with_reducible exact hpkk | with_reducible exact hS.2 | with_reducible refine cell_keep ?_ _ | with_reducible refine cell_drew ?_ | with_reducible refine cell_row (by first | omega | (simp; done) | (simp; omega)) ?_ | refine keepc hb20 ?_))⟩)
                  clear hK K hS
                  have hS := hS'
                  clear hS'
                  try simp only [Act.put]
                  refine tkR 25 9 rfl hS (fun w' hSw => by have sP0 := (hSw.1).get 0 (.slice f l c) rfl; have sP2 := (hSw.1).get 2 (.slice (some ⟨gb, go, none⟩) n d) rfl; have sP3 := (hSw.1).get 3 (.bool on1) rfl; have sP4 := (hSw.1).get 4 (.int .i64 of1) rfl; have sP5 := (hSw.1).get 5 (.int .i64 og1) rfl; have sP6 := (hSw.1).get 6 (.bool true) rfl; have sP7 := (hSw.1).get 7 (.int .i64 tf) rfl; have sP8 := (hSw.1).get 8 (.int .i64 tg) rfl; have sG := hSw.2; clear hSw; go_simp; try with_reducible rfl) ?_
                  simp only [pA, pB, pC]
                  refine tkR 26 10 rfl hS (fun w' hSw => by have sP0 := (hSw.1).get 0 (.slice f l c) rfl; have sP2 := (hSw.1).get 2 (.slice (some ⟨gb, go, none⟩) n d) rfl; have sP3 := (hSw.1).get 3 (.bool on1) rfl; have sP4 := (hSw.1).get 4 (.int .i64 of1) rfl; have sP5 := (hSw.1).get 5 (.int .i64 og1) rfl; have sP6 := (hSw.1).get 6 (.bool true) rfl; have sP7 := (hSw.1).get 7 (.int .i64 tf) rfl; have sP8 := (hSw.1).get 8 (.int .i64 tg) rfl; have sG := hSw.2; clear hSw; go_simp; try with_reducible rfl) ?_
                  simp only [pA, pB, pC]
                  refine wpAnyH_done (by kernel_rfl) ?_ _
                  show KK _ _
                  refine hKK _ _ (Met.intro (hJJ _ _ ?_))
                  (repeat apply Exists.intro)
                  refine ⟨?_, rfl⟩
                  refine ⟨w20.heap.size, w20.heap.size + 1, f', c', rfl, rfl, rfl, rfl, (by omega), (by omega), (by first | omega | (simp; done)), ?_, ?_, ?_, ?_⟩
                  · show Below _ _ _
                    repeat' (first | with_reducible exact Below.refl wr.heap.size wr | (with_reducible refine Below.rowB ?_ (by first | omega | (simp; done) | (simp; omega))) | with_reducible refine Below.setCell ?_ (by first | omega | (simp; done) | (simp; omega)) _ | with_reducible refine bel_alloc ?_ _ | with_reducible refine Below.drew ?_ | with_reducible refine bel_trans ?_ hb20)
                  · show BoxAt _ _ _ _
                    repeat' (first | (with_reducible refine BoxAt.newAt _ _ _ _ (by (simp; done))) | with_reducible refine BoxAt.putAny #[.int .i64 0, .int .i64 0, .bool false, .bool false, .bool false, .bool false, .bool false, .int .i64 0, .int .i64 0] ?_ rfl | (with_reducible refine BoxAt.row ?_ (by first | with_reducible assumption | omega | (simp; done) | (simp; omega))) | with_reducible refine BoxAt.alloc ?_ _ | with_reducible refine BoxAt.drew ?_ | with_reducible refine BoxAt.below ?_ hb20)
                  · show BoxAt _ _ _ _
                    repeat' (first | (with_reducible refine BoxAt.newAt _ _ _ _ (by (simp; done))) | with_reducible refine BoxAt.putAny #[.int .i64 0, .int .i64 0, .int .i64 0, .bool false, .int .i64 0] ?_ rfl | (with_reducible refine BoxAt.row ?_ (by first | with_reducible assumption | omega | (simp; done) | (simp; omega))) | with_reducible refine BoxAt.alloc ?_ _ | with_reducible refine BoxAt.drew ?_ | with_reducible refine BoxAt.below ?_ hb20)
                  · show OwnI _ _ _ _
                    have hO21 := OwnI.mono hO20 (base' := wr.heap.size) (by first | omega | (simp; done))
                    refine OwnI.mono (base := wr.heap.size) ?_ (by omega)
                    repeat' (first | with_reducible exact hO21 | (with_reducible refine OwnI.rowHi hO21 ?_ (by omega)) | (with_reducible refine OwnI.row ?_ (by first | omega | (simp; done) | (simp; omega))) | with_reducible refine OwnI.other ?_ _ _ (by first | with_reducible assumption | (simp; done) | (simp; omega)) | with_reducible refine OwnI.alloc ?_ _ | with_reducible refine OwnI.drew ?_)
                refine AllReadyH.cons (o := ⟨some 8, _, _, _, _, _⟩) rfl (fun K hK => ?_) AllReadyH.nil
                go_simp
                refine hK.out _ _ ?_ (fun hS' => ?_)
                · (exact ⟨(by repeat' (first | with_reducible exact Pk | with_reducible exact hS.1 | with_reducible refine BoxAt.row ?_ (by first | omega | (simp; done) | (simp; omega)) | with_reducible refine BoxAt.alloc ?_ _ | with_reducible refine BoxAt.drew ?_ | with_reducible refine BoxAt.below ?_ hb20)), (by repeat' (first | with_reducible exact hpkk | with_reducible exact hS.2 | with_reducible refine cell_keep ?_ _ | with_reducible refine cell_drew ?_ | with_reducible refine cell_row (by first | omega | (simp; done) | (simp; omega)) ?_ | refine keepc hb20 ?_))⟩)
                clear hK K hS
                have hS := hS'
                clear hS'
                try simp only [Act.put, List.setIfInBounds_toArray, List.set_cons_zero, List.set_cons_succ]
                refine wpAnyH_ready (rs := [21]) (by kernel_rfl) (by simp) ?_
                refine AllReadyH.cons (o := ⟨some 7, _, _, _, _, _⟩) rfl (fun K hK => ?_) AllReadyH.nil
                go_simp
                refine hK.out _ _ ?_ (fun hS' => ?_)
                · (exact ⟨(by repeat' (first | with_reducible exact Pk | with_reducible exact hS.1 | with_reducible refine BoxAt.row ?_ (by first | omega | (simp; done) | (simp; omega)) | with_reducible refine BoxAt.alloc ?_ _ | with_reducible refine BoxAt.drew ?_ | with_reducible refine BoxAt.below ?_ hb20)), (by repeat' (first | with_reducible exact hpkk | with_reducible exact hS.2 | with_reducible refine cell_keep ?_ _ | with_reducible refine cell_drew ?_ | with_reducible refine cell_row (by first | omega | (simp; done) | (simp; omega)) ?_ | refine keepc hb20 ?_))⟩)
                clear hK K hS
                have hS := hS'
                clear hS'
                try simp only [Act.put, List.setIfInBounds_toArray, List.set_cons_zero, List.set_cons_succ]
                refine wpAnyH_ready (rs := [23]) (by kernel_rfl) (by simp) ?_
                refine AllReadyH.cons (o := ⟨none, _, _, _, _, _⟩) rfl (fun K hK => ?_) AllReadyH.nil
                refine step_storeB rfl 40 _ _ rfl _ _ z9 40 rfl rfl (by kernel_rfl) rfl (by simp [Value.oneCell']) (by repeat' (first | (with_reducible refine BoxAt.newAt _ _ _ _ (by (simp; done))) | with_reducible refine BoxAt.putAny #[] ?_ rfl | (with_reducible refine BoxAt.row ?_ (by first | with_reducible assumption | omega | (simp; done) | (simp; omega))) | with_reducible refine BoxAt.alloc ?_ _ | with_reducible refine BoxAt.drew ?_ | with_reducible refine BoxAt.below ?_ hb20)) ?_
                refine hK.out _ _ ?_ (fun hS' => ?_)
                · (exact ⟨(by repeat' (first | with_reducible exact Pk | with_reducible exact hS.1 | with_reducible refine BoxAt.row ?_ (by first | omega | (simp; done) | (simp; omega)) | with_reducible refine BoxAt.alloc ?_ _ | with_reducible refine BoxAt.drew ?_ | with_reducible refine BoxAt.below ?_ hb20)), (by repeat' (first | with_reducible exact hpkk | with_reducible exact hS.2 | with_reducible refine cell_keep ?_ _ | with_reducible refine cell_drew ?_ | with_reducible refine cell_row (by first | omega | (simp; done) | (simp; omega)) ?_ | refine keepc hb20 ?_))⟩)
                clear hK K hS
                have hS := hS'
                clear hS'
                try simp only [Act.put]
                refine wpAnyH_ready (rs := [24]) (by kernel_rfl) (by simp) ?_
                refine AllReadyH.cons (o := ⟨none, _, _, _, _, _⟩) rfl (fun K hK => ?_) AllReadyH.nil
                refine step_storeB rfl 42 _ _ rfl _ _ z5 42 rfl rfl (by kernel_rfl) rfl (by simp [Value.oneCell']) (by repeat' (first | (with_reducible refine BoxAt.newAt _ _ _ _ (by (simp; done))) | with_reducible refine BoxAt.putAny #[] ?_ rfl | (with_reducible refine BoxAt.row ?_ (by first | with_reducible assumption | omega | (simp; done) | (simp; omega))) | with_reducible refine BoxAt.alloc ?_ _ | with_reducible refine BoxAt.drew ?_ | with_reducible refine BoxAt.below ?_ hb20)) ?_
                refine hK.out _ _ ?_ (fun hS' => ?_)
                · (exact ⟨(by repeat' (first | with_reducible exact Pk | with_reducible exact hS.1 | with_reducible refine BoxAt.row ?_ (by first | omega | (simp; done) | (simp; omega)) | with_reducible refine BoxAt.alloc ?_ _ | with_reducible refine BoxAt.drew ?_ | with_reducible refine BoxAt.below ?_ hb20)), (by repeat' (first | with_reducible exact hpkk | with_reducible exact hS.2 | with_reducible refine cell_keep ?_ _ | with_reducible refine cell_drew ?_ | with_reducible refine cell_row (by first | omega | (simp; done) | (simp; omega)) ?_ | refine keepc hb20 ?_))⟩)
                clear hK K hS
                have hS := hS'
                clear hS'
                try simp only [Act.put]
                refine tkR 25 9 rfl hS (fun w' hSw => by have sP0 := (hSw.1).get 0 (.slice f l c) rfl; have sP2 := (hSw.1).get 2 (.slice (some ⟨gb, go, none⟩) n d) rfl; have sP3 := (hSw.1).get 3 (.bool on1) rfl; have sP4 := (hSw.1).get 4 (.int .i64 of1) rfl; have sP5 := (hSw.1).get 5 (.int .i64 og1) rfl; have sP6 := (hSw.1).get 6 (.bool true) rfl; have sP7 := (hSw.1).get 7 (.int .i64 tf) rfl; have sP8 := (hSw.1).get 8 (.int .i64 tg) rfl; have sG := hSw.2; clear hSw; go_simp; try with_reducible rfl) ?_
                simp only [pA, pB, pC]
                refine tkR 26 10 rfl hS (fun w' hSw => by have sP0 := (hSw.1).get 0 (.slice f l c) rfl; have sP2 := (hSw.1).get 2 (.slice (some ⟨gb, go, none⟩) n d) rfl; have sP3 := (hSw.1).get 3 (.bool on1) rfl; have sP4 := (hSw.1).get 4 (.int .i64 of1) rfl; have sP5 := (hSw.1).get 5 (.int .i64 og1) rfl; have sP6 := (hSw.1).get 6 (.bool true) rfl; have sP7 := (hSw.1).get 7 (.int .i64 tf) rfl; have sP8 := (hSw.1).get 8 (.int .i64 tg) rfl; have sG := hSw.2; clear hSw; go_simp; try with_reducible rfl) ?_
                simp only [pA, pB, pC]
                refine wpAnyH_done (by kernel_rfl) ?_ _
                show KK _ _
                refine hKK _ _ (Met.intro (hJJ _ _ ?_))
                (repeat apply Exists.intro)
                refine ⟨?_, rfl⟩
                refine ⟨w20.heap.size + 1, w20.heap.size, f', c', rfl, rfl, rfl, rfl, (by omega), (by omega), (by first | omega | (simp; done)), ?_, ?_, ?_, ?_⟩
                · show Below _ _ _
                  repeat' (first | with_reducible exact Below.refl wr.heap.size wr | (with_reducible refine Below.rowB ?_ (by first | omega | (simp; done) | (simp; omega))) | with_reducible refine Below.setCell ?_ (by first | omega | (simp; done) | (simp; omega)) _ | with_reducible refine bel_alloc ?_ _ | with_reducible refine Below.drew ?_ | with_reducible refine bel_trans ?_ hb20)
                · show BoxAt _ _ _ _
                  repeat' (first | (with_reducible refine BoxAt.newAt _ _ _ _ (by (simp; done))) | with_reducible refine BoxAt.putAny #[.int .i64 0, .int .i64 0, .bool false, .bool false, .bool false, .bool false, .bool false, .int .i64 0, .int .i64 0] ?_ rfl | (with_reducible refine BoxAt.row ?_ (by first | with_reducible assumption | omega | (simp; done) | (simp; omega))) | with_reducible refine BoxAt.alloc ?_ _ | with_reducible refine BoxAt.drew ?_ | with_reducible refine BoxAt.below ?_ hb20)
                · show BoxAt _ _ _ _
                  repeat' (first | (with_reducible refine BoxAt.newAt _ _ _ _ (by (simp; done))) | with_reducible refine BoxAt.putAny #[.int .i64 0, .int .i64 0, .int .i64 0, .bool false, .int .i64 0] ?_ rfl | (with_reducible refine BoxAt.row ?_ (by first | with_reducible assumption | omega | (simp; done) | (simp; omega))) | with_reducible refine BoxAt.alloc ?_ _ | with_reducible refine BoxAt.drew ?_ | with_reducible refine BoxAt.below ?_ hb20)
                · show OwnI _ _ _ _
                  have hO21 := OwnI.mono hO20 (base' := wr.heap.size) (by first | omega | (simp; done))
                  refine OwnI.mono (base := wr.heap.size) ?_ (by omega)
                  repeat' (first | with_reducible exact hO21 | (with_reducible refine OwnI.rowHi hO21 ?_ (by omega)) | (with_reducible refine OwnI.row ?_ (by first | omega | (simp; done) | (simp; omega))) | with_reducible refine OwnI.other ?_ _ _ (by first | with_reducible assumption | (simp; done) | (simp; omega)) | with_reducible refine OwnI.alloc ?_ _ | with_reducible refine OwnI.drew ?_)
              refine AllReadyH.cons (o := ⟨some 7, _, _, _, _, _⟩) rfl (fun K hK => ?_) ?_
              · go_simp
                refine hK.out _ _ ?_ (fun hS' => ?_)
                · (exact ⟨(by repeat' (first | with_reducible exact Pk | with_reducible exact hS.1 | with_reducible refine BoxAt.row ?_ (by first | omega | (simp; done) | (simp; omega)) | with_reducible refine BoxAt.alloc ?_ _ | with_reducible refine BoxAt.drew ?_ | with_reducible refine BoxAt.below ?_ hb20)), (by repeat' (first | with_reducible exact hpkk | with_reducible exact hS.2 | with_reducible refine cell_keep ?_ _ | with_reducible refine cell_drew ?_ | with_reducible refine cell_row (by first | omega | (simp; done) | (simp; omega)) ?_ | refine keepc hb20 ?_))⟩)
                clear hK K hS
                have hS := hS'
                clear hS'
                try simp only [Act.put, List.setIfInBounds_toArray, List.set_cons_zero, List.set_cons_succ]
                refine wpAnyH_ready (rs := [15, 22]) (by kernel_rfl) (by simp) ?_
                refine AllReadyH.cons (o := ⟨some 77, _, _, _, _, _⟩) rfl (fun K hK => ?_) ?_
                · go_simp
                  refine (HT.out _ (HXc.out.below (by go_grown))).mono ?_
                  rintro e w20 ⟨f', c', rfl, hO20, hb20⟩
                  have hsz20 := hb20.size
                  simp at hsz20
                  refine hK.out _ _ ?_ (fun hS' => ?_)
                  · (exact ⟨(by repeat' (first | with_reducible exact Pk | with_reducible exact hS.1 | with_reducible refine BoxAt.row ?_ (by first | omega | (simp; done) | (simp; omega)) | with_reducible refine BoxAt.alloc ?_ _ | with_reducible refine BoxAt.drew ?_ | with_reducible refine BoxAt.below ?_ hb20)), (by repeat' (first | with_reducible exact hpkk | with_reducible exact hS.2 | with_reducible refine cell_keep ?_ _ | with_reducible refine cell_drew ?_ | with_reducible refine cell_row (by first | omega | (simp; done) | (simp; omega)) ?_ | refine keepc hb20 ?_))⟩)
                  clear hK K hS
                  have hS := hS'
                  clear hS'
                  try simp only [Act.put, List.setIfInBounds_toArray, List.set_cons_zero, List.set_cons_succ]
                  refine tkR 16 61 rfl hS (fun w' hSw => by have sP0 := (hSw.1).get 0 (.slice f l c) rfl; have sP2 := (hSw.1).get 2 (.slice (some ⟨gb, go, none⟩) n d) rfl; have sP3 := (hSw.1).get 3 (.bool on1) rfl; have sP4 := (hSw.1).get 4 (.int .i64 of1) rfl; have sP5 := (hSw.1).get 5 (.int .i64 og1) rfl; have sP6 := (hSw.1).get 6 (.bool true) rfl; have sP7 := (hSw.1).get 7 (.int .i64 tf) rfl; have sP8 := (hSw.1).get 8 (.int .i64 tg) rfl; have sG := hSw.2; clear hSw; go_simp; try with_reducible rfl) ?_
                  simp only [pA, pB, pC]
                  refine tkR 17 78 rfl hS (fun w' hSw => by have sP0 := (hSw.1).get 0 (.slice f l c) rfl; have sP2 := (hSw.1).get 2 (.slice (some ⟨gb, go, none⟩) n d) rfl; have sP3 := (hSw.1).get 3 (.bool on1) rfl; have sP4 := (hSw.1).get 4 (.int .i64 of1) rfl; have sP5 := (hSw.1).get 5 (.int .i64 og1) rfl; have sP6 := (hSw.1).get 6 (.bool true) rfl; have sP7 := (hSw.1).get 7 (.int .i64 tf) rfl; have sP8 := (hSw.1).get 8 (.int .i64 tg) rfl; have sG := hSw.2; clear hSw; go_simp; try with_reducible rfl) ?_
                  simp only [pA, pB, pC]
                  refine tkR 18 79 rfl hS (fun w' hSw => by have sP0 := (hSw.1).get 0 (.slice f l c) rfl; have sP2 := (hSw.1).get 2 (.slice (some ⟨gb, go, none⟩) n d) rfl; have sP3 := (hSw.1).get 3 (.bool on1) rfl; have sP4 := (hSw.1).get 4 (.int .i64 of1) rfl; have sP5 := (hSw.1).get 5 (.int .i64 og1) rfl; have sP6 := (hSw.1).get 6 (.bool true) rfl; have sP7 := (hSw.1).get 7 (.int .i64 tf) rfl; have sP8 := (hSw.1).get 8 (.int .i64 tg) rfl; have sG := hSw.2; clear hSw; go_simp; try with_reducible rfl) ?_
                  simp only [pA, pB, pC]
                  refine tkR 19 80 rfl hS (fun w' hSw => by have sP0 := (hSw.1).get 0 (.slice f l c) rfl; have sP2 := (hSw.1).get 2 (.slice (some ⟨gb, go, none⟩) n d) rfl; have sP3 := (hSw.1).get 3 (.bool on1) rfl; have sP4 := (hSw.1).get 4 (.int .i64 of1) rfl; have sP5 := (hSw.1).get 5 (.int .i64 og1) rfl; have sP6 := (hSw.1).get 6 (.bool true) rfl; have sP7 := (hSw.1).get 7 (.int .i64 tf) rfl; have sP8 := (hSw.1).get 8 (.int .i64 tg) rfl; have sG := hSw.2; clear hSw; go_simp; try with_reducible rfl) ?_
                  simp only [pA, pB, pC]
                  refine tkR 20 81 rfl hS (fun w' hSw => by have sP0 := (hSw.1).get 0 (.slice f l c) rfl; have sP2 := (hSw.1).get 2 (.slice (some ⟨gb, go, none⟩) n d) rfl; have sP3 := (hSw.1).get 3 (.bool on1) rfl; have sP4 := (hSw.1).get 4 (.int .i64 of1) rfl; have sP5 := (hSw.1).get 5 (.int .i64 og1) rfl; have sP6 := (hSw.1).get 6 (.bool true) rfl; have sP7 := (hSw.1).get 7 (.int .i64 tf) rfl; have sP8 := (hSw.1).get 8 (.int .i64 tg) rfl; have sG := hSw.2; clear hSw; go_simp; try with_reducible rfl) ?_
                  simp only [pA, pB, pC]
                  refine wpAnyH_ready (rs := [22]) (by kernel_rfl) (by simp) ?_
                  refine AllReadyH.cons (o := ⟨some 8, _, _, _, _, _⟩) rfl (fun K hK => ?_) AllReadyH.nil
                  go_simp
                  refine hK.out _ _ ?_ (fun hS' => ?_)
                  · (exact ⟨(by repeat' (first | with_reducible exact Pk | with_reducible exact hS.1 | with_reducible refine BoxAt.row ?_ (by first | omega | (simp; done) | (simp; omega)) | with_reducible refine BoxAt.alloc ?_ _ | with_reducible refine BoxAt.drew ?_ | with_reducible refine BoxAt.below ?_ hb20)), (by repeat' (first | with_reducible exact hpkk | with_reducible exact hS.2 | with_reducible refine cell_keep ?_ _ | with_reducible refine cell_drew ?_ | with_reducible refine cell_row (by first | omega | (simp; done) | (simp; omega)) ?_ | refine keepc hb20 ?_))⟩)
                  clear hK K hS
                  have hS := hS'
                  clear hS'
                  try simp only [Act.put, List.setIfInBounds_toArray, List.set_cons_zero, List.set_cons_succ]
                  refine wpAnyH_ready (rs := [23]) (by kernel_rfl) (by simp) ?_
                  refine AllReadyH.cons (o := ⟨none, _, _, _, _, _⟩) rfl (fun K hK => ?_) AllReadyH.nil
                  refine step_storeB rfl 40 _ _ rfl _ _ z9 40 rfl rfl (by kernel_rfl) rfl (by simp [Value.oneCell']) (by repeat' (first | (with_reducible refine BoxAt.newAt _ _ _ _ (by (simp; done))) | with_reducible refine BoxAt.putAny #[] ?_ rfl | (with_reducible refine BoxAt.row ?_ (by first | with_reducible assumption | omega | (simp; done) | (simp; omega))) | with_reducible refine BoxAt.alloc ?_ _ | with_reducible refine BoxAt.drew ?_ | with_reducible refine BoxAt.below ?_ hb20)) ?_
                  refine hK.out _ _ ?_ (fun hS' => ?_)
                  · (exact ⟨(by repeat' (first | with_reducible exact Pk | with_reducible exact hS.1 | with_reducible refine BoxAt.row ?_ (by first | omega | (simp; done) | (simp; omega)) | with_reducible refine BoxAt.alloc ?_ _ | with_reducible refine BoxAt.drew ?_ | with_reducible refine BoxAt.below ?_ hb20)), (by repeat' (first | with_reducible exact hpkk | with_reducible exact hS.2 | with_reducible refine cell_keep ?_ _ | with_reducible refine cell_drew ?_ | with_reducible refine cell_row (by first | omega | (simp; done) | (simp; omega)) ?_ | refine keepc hb20 ?_))⟩)
                  clear hK K hS
                  have hS := hS'
                  clear hS'
                  try simp only [Act.put]
                  refine wpAnyH_ready (rs := [24]) (by kernel_rfl) (by simp) ?_
                  refine AllReadyH.cons (o := ⟨none, _, _, _, _, _⟩) rfl (fun K hK => ?_) AllReadyH.nil
                  refine step_storeB rfl 42 _ _ rfl _ _ z5 42 rfl rfl (by kernel_rfl) rfl (by simp [Value.oneCell']) (by repeat' (first | (with_reducible refine BoxAt.newAt _ _ _ _ (by (simp; done))) | with_reducible refine BoxAt.putAny #[] ?_ rfl | (with_reducible refine BoxAt.row ?_ (by first | with_reducible assumption | omega | (simp; done) | (simp; omega))) | with_reducible refine BoxAt.alloc ?_ _ | with_reducible refine BoxAt.drew ?_ | with_reducible refine BoxAt.below ?_ hb20)) ?_
                  refine hK.out _ _ ?_ (fun hS' => ?_)
                  · (exact ⟨(by repeat' (first | with_reducible exact Pk | with_reducible exact hS.1 | with_reducible refine BoxAt.row ?_ (by first | omega | (simp; done) | (simp; omega)) | with_reducible refine BoxAt.alloc ?_ _ | with_reducible refine BoxAt.drew ?_ | with_reducible refine BoxAt.below ?_ hb20)), (by repeat' (first | with_reducible exact hpkk | with_reducible exact hS.2 | with_reducible refine cell_keep ?_ _ | with_reducible refine cell_drew ?_ | with_reducible refine cell_row (by first | omega | (simp; done) | (simp; omega)) ?_ | refine keepc hb20 ?_))⟩)
                  clear hK K hS
                  have hS := hS'
                  clear hS'
                  try simp only [Act.put]
                  refine tkR 25 9 rfl hS (fun w' hSw => by have sP0 := (hSw.1).get 0 (.slice f l c) rfl; have sP2 := (hSw.1).get 2 (.slice (some ⟨gb, go, none⟩) n d) rfl; have sP3 := (hSw.1).get 3 (.bool on1) rfl; have sP4 := (hSw.1).get 4 (.int .i64 of1) rfl; have sP5 := (hSw.1).get 5 (.int .i64 og1) rfl; have sP6 := (hSw.1).get 6 (.bool true) rfl; have sP7 := (hSw.1).get 7 (.int .i64 tf) rfl; have sP8 := (hSw.1).get 8 (.int .i64 tg) rfl; have sG := hSw.2; clear hSw; go_simp; try with_reducible rfl) ?_
                  simp only [pA, pB, pC]
                  refine tkR 26 10 rfl hS (fun w' hSw => by have sP0 := (hSw.1).get 0 (.slice f l c) rfl; have sP2 := (hSw.1).get 2 (.slice (some ⟨gb, go, none⟩) n d) rfl; have sP3 := (hSw.1).get 3 (.bool on1) rfl; have sP4 := (hSw.1).get 4 (.int .i64 of1) rfl; have sP5 := (hSw.1).get 5 (.int .i64 og1) rfl; have sP6 := (hSw.1).get 6 (.bool true) rfl; have sP7 := (hSw.1).get 7 (.int .i64 tf) rfl; have sP8 := (hSw.1).get 8 (.int .i64 tg) rfl; have sG := hSw.2; clear hSw; go_simp; try with_reducible rfl) ?_
                  simp only [pA, pB, pC]
                  refine wpAnyH_done (by kernel_rfl) ?_ _
                  show KK _ _
                  refine hKK _ _ (Met.intro (hJJ _ _ ?_))
                  (repeat apply Exists.intro)
                  refine ⟨?_, rfl⟩
                  refine ⟨wr.heap.size, w20.heap.size, f', c', rfl, rfl, rfl, rfl, (by omega), (by omega), (by first | omega | (simp; done)), ?_, ?_, ?_, ?_⟩
                  · show Below _ _ _
                    repeat' (first | with_reducible exact Below.refl wr.heap.size wr | (with_reducible refine Below.rowB ?_ (by first | omega | (simp; done) | (simp; omega))) | with_reducible refine Below.setCell ?_ (by first | omega | (simp; done) | (simp; omega)) _ | with_reducible refine bel_alloc ?_ _ | with_reducible refine Below.drew ?_ | with_reducible refine bel_trans ?_ hb20)
                  · show BoxAt _ _ _ _
                    repeat' (first | (with_reducible refine BoxAt.newAt _ _ _ _ (by (simp; done))) | with_reducible refine BoxAt.putAny #[.int .i64 0, .int .i64 0, .bool false, .bool false, .bool false, .bool false, .bool false, .int .i64 0, .int .i64 0] ?_ rfl | (with_reducible refine BoxAt.row ?_ (by first | with_reducible assumption | omega | (simp; done) | (simp; omega))) | with_reducible refine BoxAt.alloc ?_ _ | with_reducible refine BoxAt.drew ?_ | with_reducible refine BoxAt.below ?_ hb20)
                  · show BoxAt _ _ _ _
                    repeat' (first | (with_reducible refine BoxAt.newAt _ _ _ _ (by (simp; done))) | with_reducible refine BoxAt.putAny #[.int .i64 0, .int .i64 0, .int .i64 0, .bool false, .int .i64 0] ?_ rfl | (with_reducible refine BoxAt.row ?_ (by first | with_reducible assumption | omega | (simp; done) | (simp; omega))) | with_reducible refine BoxAt.alloc ?_ _ | with_reducible refine BoxAt.drew ?_ | with_reducible refine BoxAt.below ?_ hb20)
                  · show OwnI _ _ _ _
                    have hO21 := OwnI.mono hO20 (base' := wr.heap.size + 1) (by first | omega | (simp; done))
                    refine OwnI.mono (base := wr.heap.size + 1) ?_ (by omega)
                    repeat' (first | with_reducible exact hO21 | (with_reducible refine OwnI.rowHi hO21 ?_ (by omega)) | (with_reducible refine OwnI.row ?_ (by first | omega | (simp; done) | (simp; omega))) | with_reducible refine OwnI.other ?_ _ _ (by first | with_reducible assumption | (simp; done) | (simp; omega)) | with_reducible refine OwnI.alloc ?_ _ | with_reducible refine OwnI.drew ?_)
                refine AllReadyH.cons (o := ⟨some 8, _, _, _, _, _⟩) rfl (fun K hK => ?_) AllReadyH.nil
                go_simp
                refine hK.out _ _ ?_ (fun hS' => ?_)
                · (exact ⟨(by repeat' (first | with_reducible exact Pk | with_reducible exact hS.1 | with_reducible refine BoxAt.row ?_ (by first | omega | (simp; done) | (simp; omega)) | with_reducible refine BoxAt.alloc ?_ _ | with_reducible refine BoxAt.drew ?_ | with_reducible refine BoxAt.below ?_ hb20)), (by repeat' (first | with_reducible exact hpkk | with_reducible exact hS.2 | with_reducible refine cell_keep ?_ _ | with_reducible refine cell_drew ?_ | with_reducible refine cell_row (by first | omega | (simp; done) | (simp; omega)) ?_ | refine keepc hb20 ?_))⟩)
                clear hK K hS
                have hS := hS'
                clear hS'
                try simp only [Act.put, List.setIfInBounds_toArray, List.set_cons_zero, List.set_cons_succ]
                refine wpAnyH_ready (rs := [15]) (by kernel_rfl) (by simp) ?_
                refine AllReadyH.cons (o := ⟨some 77, _, _, _, _, _⟩) rfl (fun K hK => ?_) AllReadyH.nil
                go_simp
                refine (HT.out _ (HXc.out.below (by go_grown))).mono ?_
                rintro e w20 ⟨f', c', rfl, hO20, hb20⟩
                have hsz20 := hb20.size
                simp at hsz20
                refine hK.out _ _ ?_ (fun hS' => ?_)
                · (exact ⟨(by repeat' (first | with_reducible exact Pk | with_reducible exact hS.1 | with_reducible refine BoxAt.row ?_ (by first | omega | (simp; done) | (simp; omega)) | with_reducible refine BoxAt.alloc ?_ _ | with_reducible refine BoxAt.drew ?_ | with_reducible refine BoxAt.below ?_ hb20)), (by repeat' (first | with_reducible exact hpkk | with_reducible exact hS.2 | with_reducible refine cell_keep ?_ _ | with_reducible refine cell_drew ?_ | with_reducible refine cell_row (by first | omega | (simp; done) | (simp; omega)) ?_ | refine keepc hb20 ?_))⟩)
                clear hK K hS
                have hS := hS'
                clear hS'
                try simp only [Act.put, List.setIfInBounds_toArray, List.set_cons_zero, List.set_cons_succ]
                refine tkR 16 61 rfl hS (fun w' hSw => by have sP0 := (hSw.1).get 0 (.slice f l c) rfl; have sP2 := (hSw.1).get 2 (.slice (some ⟨gb, go, none⟩) n d) rfl; have sP3 := (hSw.1).get 3 (.bool on1) rfl; have sP4 := (hSw.1).get 4 (.int .i64 of1) rfl; have sP5 := (hSw.1).get 5 (.int .i64 og1) rfl; have sP6 := (hSw.1).get 6 (.bool true) rfl; have sP7 := (hSw.1).get 7 (.int .i64 tf) rfl; have sP8 := (hSw.1).get 8 (.int .i64 tg) rfl; have sG := hSw.2; clear hSw; go_simp; try with_reducible rfl) ?_
                simp only [pA, pB, pC]
                refine tkR 17 78 rfl hS (fun w' hSw => by have sP0 := (hSw.1).get 0 (.slice f l c) rfl; have sP2 := (hSw.1).get 2 (.slice (some ⟨gb, go, none⟩) n d) rfl; have sP3 := (hSw.1).get 3 (.bool on1) rfl; have sP4 := (hSw.1).get 4 (.int .i64 of1) rfl; have sP5 := (hSw.1).get 5 (.int .i64 og1) rfl; have sP6 := (hSw.1).get 6 (.bool true) rfl; have sP7 := (hSw.1).get 7 (.int .i64 tf) rfl; have sP8 := (hSw.1).get 8 (.int .i64 tg) rfl; have sG := hSw.2; clear hSw; go_simp; try with_reducible rfl) ?_
                simp only [pA, pB, pC]
                refine tkR 18 79 rfl hS (fun w' hSw => by have sP0 := (hSw.1).get 0 (.slice f l c) rfl; have sP2 := (hSw.1).get 2 (.slice (some ⟨gb, go, none⟩) n d) rfl; have sP3 := (hSw.1).get 3 (.bool on1) rfl; have sP4 := (hSw.1).get 4 (.int .i64 of1) rfl; have sP5 := (hSw.1).get 5 (.int .i64 og1) rfl; have sP6 := (hSw.1).get 6 (.bool true) rfl; have sP7 := (hSw.1).get 7 (.int .i64 tf) rfl; have sP8 := (hSw.1).get 8 (.int .i64 tg) rfl; have sG := hSw.2; clear hSw; go_simp; try with_reducible rfl) ?_
                simp only [pA, pB, pC]
                refine tkR 19 80 rfl hS (fun w' hSw => by have sP0 := (hSw.1).get 0 (.slice f l c) rfl; have sP2 := (hSw.1).get 2 (.slice (some ⟨gb, go, none⟩) n d) rfl; have sP3 := (hSw.1).get 3 (.bool on1) rfl; have sP4 := (hSw.1).get 4 (.int .i64 of1) rfl; have sP5 := (hSw.1).get 5 (.int .i64 og1) rfl; have sP6 := (hSw.1).get 6 (.bool true) rfl; have sP7 := (hSw.1).get 7 (.int .i64 tf) rfl; have sP8 := (hSw.1).get 8 (.int .i64 tg) rfl; have sG := hSw.2; clear hSw; go_simp; try with_reducible rfl) ?_
                simp only [pA, pB, pC]
                refine tkR 20 81 rfl hS (fun w' hSw => by have sP0 := (hSw.1).get 0 (.slice f l c) rfl; have sP2 := (hSw.1).get 2 (.slice (some ⟨gb, go, none⟩) n d) rfl; have sP3 := (hSw.1).get 3 (.bool on1) rfl; have sP4 := (hSw.1).get 4 (.int .i64 of1) rfl; have sP5 := (hSw.1).get 5 (.int .i64 og1) rfl; have sP6 := (hSw.1).get 6 (.bool true) rfl; have sP7 := (hSw.1).get 7 (.int .i64 tf) rfl; have sP8 := (hSw.1).get 8 (.int .i64 tg) rfl; have sG := hSw.2; clear hSw; go_simp; try with_reducible rfl) ?_
                simp only [pA, pB, pC]
                refine wpAnyH_ready (rs := [23]) (by kernel_rfl) (by simp) ?_
                refine AllReadyH.cons (o := ⟨none, _, _, _, _, _⟩) rfl (fun K hK => ?_) AllReadyH.nil
                refine step_storeB rfl 40 _ _ rfl _ _ z9 40 rfl rfl (by kernel_rfl) rfl (by simp [Value.oneCell']) (by repeat' (first | (with_reducible refine BoxAt.newAt _ _ _ _ (by (simp; done))) | with_reducible refine BoxAt.putAny #[] ?_ rfl | (with_reducible refine BoxAt.row ?_ (by first | with_reducible assumption | omega | (simp; done) | (simp; omega))) | with_reducible refine BoxAt.alloc ?_ _ | with_reducible refine BoxAt.drew ?_ | with_reducible refine BoxAt.below ?_ hb20)) ?_
                refine hK.out _ _ ?_ (fun hS' => ?_)
                · (exact ⟨(by repeat' (first | with_reducible exact Pk | with_reducible exact hS.1 | with_reducible refine BoxAt.row ?_ (by first | omega | (simp; done) | (simp; omega)) | with_reducible refine BoxAt.alloc ?_ _ | with_reducible refine BoxAt.drew ?_ | with_reducible refine BoxAt.below ?_ hb20)), (by repeat' (first | with_reducible exact hpkk | with_reducible exact hS.2 | with_reducible refine cell_keep ?_ _ | with_reducible refine cell_drew ?_ | with_reducible refine cell_row (by first | omega | (simp; done) | (simp; omega)) ?_ | refine keepc hb20 ?_))⟩)
                clear hK K hS
                have hS := hS'
                clear hS'
                try simp only [Act.put]
                refine wpAnyH_ready (rs := [24]) (by kernel_rfl) (by simp) ?_
                refine AllReadyH.cons (o := ⟨none, _, _, _, _, _⟩) rfl (fun K hK => ?_) AllReadyH.nil
                refine step_storeB rfl 42 _ _ rfl _ _ z5 42 rfl rfl (by kernel_rfl) rfl (by simp [Value.oneCell']) (by repeat' (first | (with_reducible refine BoxAt.newAt _ _ _ _ (by (simp; done))) | with_reducible refine BoxAt.putAny #[] ?_ rfl | (with_reducible refine BoxAt.row ?_ (by first | with_reducible assumption | omega | (simp; done) | (simp; omega))) | with_reducible refine BoxAt.alloc ?_ _ | with_reducible refine BoxAt.drew ?_ | with_reducible refine BoxAt.below ?_ hb20)) ?_
                refine hK.out _ _ ?_ (fun hS' => ?_)
                · (exact ⟨(by repeat' (first | with_reducible exact Pk | with_reducible exact hS.1 | with_reducible refine BoxAt.row ?_ (by first | omega | (simp; done) | (simp; omega)) | with_reducible refine BoxAt.alloc ?_ _ | with_reducible refine BoxAt.drew ?_ | with_reducible refine BoxAt.below ?_ hb20)), (by repeat' (first | with_reducible exact hpkk | with_reducible exact hS.2 | with_reducible refine cell_keep ?_ _ | with_reducible refine cell_drew ?_ | with_reducible refine cell_row (by first | omega | (simp; done) | (simp; omega)) ?_ | refine keepc hb20 ?_))⟩)
                clear hK K hS
                have hS := hS'
                clear hS'
                try simp only [Act.put]
                refine tkR 25 9 rfl hS (fun w' hSw => by have sP0 := (hSw.1).get 0 (.slice f l c) rfl; have sP2 := (hSw.1).get 2 (.slice (some ⟨gb, go, none⟩) n d) rfl; have sP3 := (hSw.1).get 3 (.bool on1) rfl; have sP4 := (hSw.1).get 4 (.int .i64 of1) rfl; have sP5 := (hSw.1).get 5 (.int .i64 og1) rfl; have sP6 := (hSw.1).get 6 (.bool true) rfl; have sP7 := (hSw.1).get 7 (.int .i64 tf) rfl; have sP8 := (hSw.1).get 8 (.int .i64 tg) rfl; have sG := hSw.2; clear hSw; go_simp; try with_reducible rfl) ?_
                simp only [pA, pB, pC]
                refine tkR 26 10 rfl hS (fun w' hSw => by have sP0 := (hSw.1).get 0 (.slice f l c) rfl; have sP2 := (hSw.1).get 2 (.slice (some ⟨gb, go, none⟩) n d) rfl; have sP3 := (hSw.1).get 3 (.bool on1) rfl; have sP4 := (hSw.1).get 4 (.int .i64 of1) rfl; have sP5 := (hSw.1).get 5 (.int .i64 og1) rfl; have sP6 := (hSw.1).get 6 (.bool true) rfl; have sP7 := (hSw.1).get 7 (.int .i64 tf) rfl; have sP8 := (hSw.1).get 8 (.int .i64 tg) rfl; have sG := hSw.2; clear hSw; go_simp; try with_reducible rfl) ?_
                simp only [pA, pB, pC]
                refine wpAnyH_done (by kernel_rfl) ?_ _
                show KK _ _
                refine hKK _ _ (Met.intro (hJJ _ _ ?_))
                (repeat apply Exists.intro)
                refine ⟨?_, rfl⟩
                refine ⟨wr.heap.size, wr.heap.size + 1, f', c', rfl, rfl, rfl, rfl, (by omega), (by omega), (by first | omega | (simp; done)), ?_, ?_, ?_, ?_⟩
                · show Below _ _ _
                  repeat' (first | with_reducible exact Below.refl wr.heap.size wr | (with_reducible refine Below.rowB ?_ (by first | omega | (simp; done) | (simp; omega))) | with_reducible refine Below.setCell ?_ (by first | omega | (simp; done) | (simp; omega)) _ | with_reducible refine bel_alloc ?_ _ | with_reducible refine Below.drew ?_ | with_reducible refine bel_trans ?_ hb20)
                · show BoxAt _ _ _ _
                  repeat' (first | (with_reducible refine BoxAt.newAt _ _ _ _ (by (simp; done))) | with_reducible refine BoxAt.putAny #[.int .i64 0, .int .i64 0, .bool false, .bool false, .bool false, .bool false, .bool false, .int .i64 0, .int .i64 0] ?_ rfl | (with_reducible refine BoxAt.row ?_ (by first | with_reducible assumption | omega | (simp; done) | (simp; omega))) | with_reducible refine BoxAt.alloc ?_ _ | with_reducible refine BoxAt.drew ?_ | with_reducible refine BoxAt.below ?_ hb20)
                · show BoxAt _ _ _ _
                  repeat' (first | (with_reducible refine BoxAt.newAt _ _ _ _ (by (simp; done))) | with_reducible refine BoxAt.putAny #[.int .i64 0, .int .i64 0, .int .i64 0, .bool false, .int .i64 0] ?_ rfl | (with_reducible refine BoxAt.row ?_ (by first | with_reducible assumption | omega | (simp; done) | (simp; omega))) | with_reducible refine BoxAt.alloc ?_ _ | with_reducible refine BoxAt.drew ?_ | with_reducible refine BoxAt.below ?_ hb20)
                · show OwnI _ _ _ _
                  have hO21 := OwnI.mono hO20 (base' := wr.heap.size + 1 + 1) (by first | omega | (simp; done))
                  refine OwnI.mono (base := wr.heap.size + 1 + 1) ?_ (by omega)
                  repeat' (first | with_reducible exact hO21 | (with_reducible refine OwnI.rowHi hO21 ?_ (by omega)) | (with_reducible refine OwnI.row ?_ (by first | omega | (simp; done) | (simp; omega))) | with_reducible refine OwnI.other ?_ _ _ (by first | with_reducible assumption | (simp; done) | (simp; omega)) | with_reducible refine OwnI.alloc ?_ _ | with_reducible refine OwnI.drew ?_)
              refine AllReadyH.cons (o := ⟨some 8, _, _, _, _, _⟩) rfl (fun K hK => ?_) AllReadyH.nil
              go_simp
              refine hK.out _ _ ?_ (fun hS' => ?_)
              · (exact ⟨(by repeat' (first | with_reducible exact Pk | with_reducible exact hS.1 | with_reducible refine BoxAt.row ?_ (by first | omega | (simp; done) | (simp; omega)) | with_reducible refine BoxAt.alloc ?_ _ | with_reducible refine BoxAt.drew ?_ | with_reducible refine BoxAt.below ?_ hb20)), (by repeat' (first | with_reducible exact hpkk | with_reducible exact hS.2 | with_reducible refine cell_keep ?_ _ | with_reducible refine cell_drew ?_ | with_reducible refine cell_row (by first | omega | (simp; done) | (simp; omega)) ?_ | refine keepc hb20 ?_))⟩)
              clear hK K hS
              have hS := hS'
              clear hS'
              try simp only [Act.put, List.setIfInBounds_toArray, List.set_cons_zero, List.set_cons_succ]
              refine wpAnyH_ready (rs := [15, 21]) (by kernel_rfl) (by simp) ?_
              refine AllReadyH.cons (o := ⟨some 77, _, _, _, _, _⟩) rfl (fun K hK => ?_) ?_
              · go_simp
                refine (HT.out _ (HXc.out.below (by go_grown))).mono ?_
                rintro e w20 ⟨f', c', rfl, hO20, hb20⟩
                have hsz20 := hb20.size
                simp at hsz20
                refine hK.out _ _ ?_ (fun hS' => ?_)
                · (exact ⟨(by repeat' (first | with_reducible exact Pk | with_reducible exact hS.1 | with_reducible refine BoxAt.row ?_ (by first | omega | (simp; done) | (simp; omega)) | with_reducible refine BoxAt.alloc ?_ _ | with_reducible refine BoxAt.drew ?_ | with_reducible refine BoxAt.below ?_ hb20)), (by repeat' (first | with_reducible exact hpkk | with_reducible exact hS.2 | with_reducible refine cell_keep ?_ _ | with_reducible refine cell_drew ?_ | with_reducible refine cell_row (by first | omega | (simp; done) | (simp; omega)) ?_ | refine keepc hb20 ?_))⟩)
                clear hK K hS
                have hS := hS'
                clear hS'
                try simp only [Act.put, List.setIfInBounds_toArray, List.set_cons_zero, List.set_cons_succ]
                refine tkR 16 61 rfl hS (fun w' hSw => by have sP0 := (hSw.1).get 0 (.slice f l c) rfl; have sP2 := (hSw.1).get 2 (.slice (some ⟨gb, go, none⟩) n d) rfl; have sP3 := (hSw.1).get 3 (.bool on1) rfl; have sP4 := (hSw.1).get 4 (.int .i64 of1) rfl; have sP5 := (hSw.1).get 5 (.int .i64 og1) rfl; have sP6 := (hSw.1).get 6 (.bool true) rfl; have sP7 := (hSw.1).get 7 (.int .i64 tf) rfl; have sP8 := (hSw.1).get 8 (.int .i64 tg) rfl; have sG := hSw.2; clear hSw; go_simp; try with_reducible rfl) ?_
                simp only [pA, pB, pC]
                refine tkR 17 78 rfl hS (fun w' hSw => by have sP0 := (hSw.1).get 0 (.slice f l c) rfl; have sP2 := (hSw.1).get 2 (.slice (some ⟨gb, go, none⟩) n d) rfl; have sP3 := (hSw.1).get 3 (.bool on1) rfl; have sP4 := (hSw.1).get 4 (.int .i64 of1) rfl; have sP5 := (hSw.1).get 5 (.int .i64 og1) rfl; have sP6 := (hSw.1).get 6 (.bool true) rfl; have sP7 := (hSw.1).get 7 (.int .i64 tf) rfl; have sP8 := (hSw.1).get 8 (.int .i64 tg) rfl; have sG := hSw.2; clear hSw; go_simp; try with_reducible rfl) ?_
                simp only [pA, pB, pC]
                refine tkR 18 79 rfl hS (fun w' hSw => by have sP0 := (hSw.1).get 0 (.slice f l c) rfl; have sP2 := (hSw.1).get 2 (.slice (some ⟨gb, go, none⟩) n d) rfl; have sP3 := (hSw.1).get 3 (.bool on1) rfl; have sP4 := (hSw.1).get 4 (.int .i64 of1) rfl; have sP5 := (hSw.1).get 5 (.int .i64 og1) rfl; have sP6 := (hSw.1).get 6 (.bool true) rfl; have sP7 := (hSw.1).get 7 (.int .i64 tf) rfl; have sP8 := (hSw.1).get 8 (.int .i64 tg) rfl; have sG := hSw.2; clear hSw; go_simp; try with_reducible rfl) ?_
                simp only [pA, pB, pC]
                refine tkR 19 80 rfl hS (fun w' hSw => by have sP0 := (hSw.1).get 0 (.slice f l c) rfl; have sP2 := (hSw.1).get 2 (.slice (some ⟨gb, go, none⟩) n d) rfl; have sP3 := (hSw.1).get 3 (.bool on1) rfl; have sP4 := (hSw.1).get 4 (.int .i64 of1) rfl; have sP5 := (hSw.1).get 5 (.int .i64 og1) rfl; have sP6 := (hSw.1).get 6 (.bool true) rfl; have sP7 := (hSw.1).get 7 (.int .i64 tf) rfl; have sP8 := (hSw.1).get 8 (.int .i64 tg) rfl; have sG := hSw.2; clear hSw; go_simp; try with_reducible rfl) ?_
                simp only [pA, pB, pC]
                refine tkR 20 81 rfl hS (fun w' hSw => by have sP0 := (hSw.1).get 0 (.slice f l c) rfl; have sP2 := (hSw.1).get 2 (.slice (some ⟨gb, go, none⟩) n d) rfl; have sP3 := (hSw.1).get 3 (.bool on1) rfl; have sP4 := (hSw.1).get 4 (.int .i64 of1) rfl; have sP5 := (hSw.1).get 5 (.int .i64 og1) rfl; have sP6 := (hSw.1).get 6 (.bool true) rfl; have sP7 := (hSw.1).get 7 (.int .i64 tf) rfl; have sP8 := (hSw.1).get 8 (.int .i64 tg) rfl; have sG := hSw.2; clear hSw; go_simp; try with_reducible rfl) ?_
                simp only [pA, pB, pC]
                refine wpAnyH_ready (rs := [21]) (by kernel_rfl) (by simp) ?_
                refine AllReadyH.cons (o := ⟨some 7, _, _, _, _, _⟩) rfl (fun K hK => ?_) AllReadyH.nil
                go_simp
                refine hK.out _ _ ?_ (fun hS' => ?_)
                · (exact ⟨(by repeat' (first | with_reducible exact Pk | with_reducible exact hS.1 | with_reducible refine BoxAt.row ?_ (by first | omega | (simp; done) | (simp; omega)) | with_reducible refine BoxAt.alloc ?_ _ | with_reducible refine BoxAt.drew ?_ | with_reducible refine BoxAt.below ?_ hb20)), (by repeat' (first | with_reducible exact hpkk | with_reducible exact hS.2 | with_reducible refine cell_keep ?_ _ | with_reducible refine cell_drew ?_ | with_reducible refine cell_row (by first | omega | (simp; done) | (simp; omega)) ?_ | refine keepc hb20 ?_))⟩)
                clear hK K hS
                have hS := hS'
                clear hS'
                try simp only [Act.put, List.setIfInBounds_toArray, List.set_cons_zero, List.set_cons_succ]
                refine wpAnyH_ready (rs := [23]) (by kernel_rfl) (by simp) ?_
                refine AllReadyH.cons (o := ⟨none, _, _, _, _, _⟩) rfl (fun K hK => ?_) AllReadyH.nil
                refine step_storeB rfl 40 _ _ rfl _ _ z9 40 rfl rfl (by kernel_rfl) rfl (by simp [Value.oneCell']) (by repeat' (first | (with_reducible refine BoxAt.newAt _ _ _ _ (by (simp; done))) | with_reducible refine BoxAt.putAny #[] ?_ rfl | (with_reducible refine BoxAt.row ?_ (by first | with_reducible assumption | omega | (simp; done) | (simp; omega))) | with_reducible refine BoxAt.alloc ?_ _ | with_reducible refine BoxAt.drew ?_ | with_reducible refine BoxAt.below ?_ hb20)) ?_
                refine hK.out _ _ ?_ (fun hS' => ?_)
                · (exact ⟨(by repeat' (first | with_reducible exact Pk | with_reducible exact hS.1 | with_reducible refine BoxAt.row ?_ (by first | omega | (simp; done) | (simp; omega)) | with_reducible refine BoxAt.alloc ?_ _ | with_reducible refine BoxAt.drew ?_ | with_reducible refine BoxAt.below ?_ hb20)), (by repeat' (first | with_reducible exact hpkk | with_reducible exact hS.2 | with_reducible refine cell_keep ?_ _ | with_reducible refine cell_drew ?_ | with_reducible refine cell_row (by first | omega | (simp; done) | (simp; omega)) ?_ | refine keepc hb20 ?_))⟩)
                clear hK K hS
                have hS := hS'
                clear hS'
                try simp only [Act.put]
                refine wpAnyH_ready (rs := [24]) (by kernel_rfl) (by simp) ?_
                refine AllReadyH.cons (o := ⟨none, _, _, _, _, _⟩) rfl (fun K hK => ?_) AllReadyH.nil
                refine step_storeB rfl 42 _ _ rfl _ _ z5 42 rfl rfl (by kernel_rfl) rfl (by simp [Value.oneCell']) (by repeat' (first | (with_reducible refine BoxAt.newAt _ _ _ _ (by (simp; done))) | with_reducible refine BoxAt.putAny #[] ?_ rfl | (with_reducible refine BoxAt.row ?_ (by first | with_reducible assumption | omega | (simp; done) | (simp; omega))) | with_reducible refine BoxAt.alloc ?_ _ | with_reducible refine BoxAt.drew ?_ | with_reducible refine BoxAt.below ?_ hb20)) ?_
                refine hK.out _ _ ?_ (fun hS' => ?_)
                · (exact ⟨(by repeat' (first | with_reducible exact Pk | with_reducible exact hS.1 | with_reducible refine BoxAt.row ?_ (by first | omega | (simp; done) | (simp; omega)) | with_reducible refine BoxAt.alloc ?_ _ | with_reducible refine BoxAt.drew ?_ | with_reducible refine BoxAt.below ?_ hb20)), (by repeat' (first | with_reducible exact hpkk | with_reducible exact hS.2 | with_reducible refine cell_keep ?_ _ | with_reducible refine cell_drew ?_ | with_reducible refine cell_row (by first | omega | (simp; done) | (simp; omega)) ?_ | refine keepc hb20 ?_))⟩)
                clear hK K hS
                have hS := hS'
                clear hS'
                try simp only [Act.put]
                refine tkR 25 9 rfl hS (fun w' hSw => by have sP0 := (hSw.1).get 0 (.slice f l c) rfl; have sP2 := (hSw.1).get 2 (.slice (some ⟨gb, go, none⟩) n d) rfl; have sP3 := (hSw.1).get 3 (.bool on1) rfl; have sP4 := (hSw.1).get 4 (.int .i64 of1) rfl; have sP5 := (hSw.1).get 5 (.int .i64 og1) rfl; have sP6 := (hSw.1).get 6 (.bool true) rfl; have sP7 := (hSw.1).get 7 (.int .i64 tf) rfl; have sP8 := (hSw.1).get 8 (.int .i64 tg) rfl; have sG := hSw.2; clear hSw; go_simp; try with_reducible rfl) ?_
                simp only [pA, pB, pC]
                refine tkR 26 10 rfl hS (fun w' hSw => by have sP0 := (hSw.1).get 0 (.slice f l c) rfl; have sP2 := (hSw.1).get 2 (.slice (some ⟨gb, go, none⟩) n d) rfl; have sP3 := (hSw.1).get 3 (.bool on1) rfl; have sP4 := (hSw.1).get 4 (.int .i64 of1) rfl; have sP5 := (hSw.1).get 5 (.int .i64 og1) rfl; have sP6 := (hSw.1).get 6 (.bool true) rfl; have sP7 := (hSw.1).get 7 (.int .i64 tf) rfl; have sP8 := (hSw.1).get 8 (.int .i64 tg) rfl; have sG := hSw.2; clear hSw; go_simp; try with_reducible rfl) ?_
                simp only [pA, pB, pC]
                refine wpAnyH_done (by kernel_rfl) ?_ _
                show KK _ _
                refine hKK _ _ (Met.intro (hJJ _ _ ?_))
                (repeat apply Exists.intro)
                refine ⟨?_, rfl⟩
                refine ⟨w20.heap.size, wr.heap.size, f', c', rfl, rfl, rfl, rfl, (by omega), (by omega), (by first | omega | (simp; done)), ?_, ?_, ?_, ?_⟩
                · show Below _ _ _
                  repeat' (first | with_reducible exact Below.refl wr.heap.size wr | (with_reducible refine Below.rowB ?_ (by first | omega | (simp; done) | (simp; omega))) | with_reducible refine Below.setCell ?_ (by first | omega | (simp; done) | (simp; omega)) _ | with_reducible refine bel_alloc ?_ _ | with_reducible refine Below.drew ?_ | with_reducible refine bel_trans ?_ hb20)
                · show BoxAt _ _ _ _
                  repeat' (first | (with_reducible refine BoxAt.newAt _ _ _ _ (by (simp; done))) | with_reducible refine BoxAt.putAny #[.int .i64 0, .int .i64 0, .bool false, .bool false, .bool false, .bool false, .bool false, .int .i64 0, .int .i64 0] ?_ rfl | (with_reducible refine BoxAt.row ?_ (by first | with_reducible assumption | omega | (simp; done) | (simp; omega))) | with_reducible refine BoxAt.alloc ?_ _ | with_reducible refine BoxAt.drew ?_ | with_reducible refine BoxAt.below ?_ hb20)
                · show BoxAt _ _ _ _
                  repeat' (first | (with_reducible refine BoxAt.newAt _ _ _ _ (by (simp; done))) | with_reducible refine BoxAt.putAny #[.int .i64 0, .int .i64 0, .int .i64 0, .bool false, .int .i64 0] ?_ rfl | (with_reducible refine BoxAt.row ?_ (by first | with_reducible assumption | omega | (simp; done) | (simp; omega))) | with_reducible refine BoxAt.alloc ?_ _ | with_reducible refine BoxAt.drew ?_ | with_reducible refine BoxAt.below ?_ hb20)
                · show OwnI _ _ _ _
                  have hO21 := OwnI.mono hO20 (base' := wr.heap.size + 1) (by first | omega | (simp; done))
                  refine OwnI.mono (base := wr.heap.size + 1) ?_ (by omega)
                  repeat' (first | with_reducible exact hO21 | (with_reducible refine OwnI.rowHi hO21 ?_ (by omega)) | (with_reducible refine OwnI.row ?_ (by first | omega | (simp; done) | (simp; omega))) | with_reducible refine OwnI.other ?_ _ _ (by first | with_reducible assumption | (simp; done) | (simp; omega)) | with_reducible refine OwnI.alloc ?_ _ | with_reducible refine OwnI.drew ?_)
              refine AllReadyH.cons (o := ⟨some 7, _, _, _, _, _⟩) rfl (fun K hK => ?_) AllReadyH.nil
              go_simp
              refine hK.out _ _ ?_ (fun hS' => ?_)
              · (exact ⟨(by repeat' (first | with_reducible exact Pk | with_reducible exact hS.1 | with_reducible refine BoxAt.row ?_ (by first | omega | (simp; done) | (simp; omega)) | with_reducible refine BoxAt.alloc ?_ _ | with_reducible refine BoxAt.drew ?_ | with_reducible refine BoxAt.below ?_ hb20)), (by repeat' (first | with_reducible exact hpkk | with_reducible exact hS.2 | with_reducible refine cell_keep ?_ _ | with_reducible refine cell_drew ?_ | with_reducible refine cell_row (by first | omega | (simp; done) | (simp; omega)) ?_ | refine keepc hb20 ?_))⟩)
              clear hK K hS
              have hS := hS'
              clear hS'
              try simp only [Act.put, List.setIfInBounds_toArray, List.set_cons_zero, List.set_cons_succ]
              refine wpAnyH_ready (rs := [15]) (by kernel_rfl) (by simp) ?_
              refine AllReadyH.cons (o := ⟨some 77, _, _, _, _, _⟩) rfl (fun K hK => ?_) AllReadyH.nil
              go_simp
              refine (HT.out _ (HXc.out.below (by go_grown))).mono ?_
              rintro e w20 ⟨f', c', rfl, hO20, hb20⟩
              have hsz20 := hb20.size
              simp at hsz20
              refine hK.out _ _ ?_ (fun hS' => ?_)
              · (exact ⟨(by repeat' (first | with_reducible exact Pk | with_reducible exact hS.1 | with_reducible refine BoxAt.row ?_ (by first | omega | (simp; done) | (simp; omega)) | with_reducible refine BoxAt.alloc ?_ _ | with_reducible refine BoxAt.drew ?_ | with_reducible refine BoxAt.below ?_ hb20)), (by repeat' (first | with_reducible exact hpkk | with_reducible exact hS.2 | with_reducible refine cell_keep ?_ _ | with_reducible refine cell_drew ?_ | with_reducible refine cell_row (by first | omega | (simp; done) | (simp; omega)) ?_ | refine keepc hb20 ?_))⟩)
              clear hK K hS
              have hS := hS'
              clear hS'
              try simp only [Act.put, List.setIfInBounds_toArray, List.set_cons_zero, List.set_cons_succ]
              refine tkR 16 61 rfl hS (fun w' hSw => by have sP0 := (hSw.1).get 0 (.slice f l c) rfl; have sP2 := (hSw.1).get 2 (.slice (some ⟨gb, go, none⟩) n d) rfl; have sP3 := (hSw.1).get 3 (.bool on1) rfl; have sP4 := (hSw.1).get 4 (.int .i64 of1) rfl; have sP5 := (hSw.1).get 5 (.int .i64 og1) rfl; have sP6 := (hSw.1).get 6 (.bool true) rfl; have sP7 := (hSw.1).get 7 (.int .i64 tf) rfl; have sP8 := (hSw.1).get 8 (.int .i64 tg) rfl; have sG := hSw.2; clear hSw; go_simp; try with_reducible rfl) ?_
              simp only [pA, pB, pC]
              refine tkR 17 78 rfl hS (fun w' hSw => by have sP0 := (hSw.1).get 0 (.slice f l c) rfl; have sP2 := (hSw.1).get 2 (.slice (some ⟨gb, go, none⟩) n d) rfl; have sP3 := (hSw.1).get 3 (.bool on1) rfl; have sP4 := (hSw.1).get 4 (.int .i64 of1) rfl; have sP5 := (hSw.1).get 5 (.int .i64 og1) rfl; have sP6 := (hSw.1).get 6 (.bool true) rfl; have sP7 := (hSw.1).get 7 (.int .i64 tf) rfl; have sP8 := (hSw.1).get 8 (.int .i64 tg) rfl; have sG := hSw.2; clear hSw; go_simp; try with_reducible rfl) ?_
              simp only [pA, pB, pC]
              refine tkR 18 79 rfl hS (fun w' hSw => by have sP0 := (hSw.1).get 0 (.slice f l c) rfl; have sP2 := (hSw.1).get 2 (.slice (some ⟨gb, go, none⟩) n d) rfl; have sP3 := (hSw.1).get 3 (.bool on1) rfl; have sP4 := (hSw.1).get 4 (.int .i64 of1) rfl; have sP5 := (hSw.1).get 5 (.int .i64 og1) rfl; have sP6 := (hSw.1).get 6 (.bool true) rfl; have sP7 := (hSw.1).get 7 (.int .i64 tf) rfl; have sP8 := (hSw.1).get 8 (.int .i64 tg) rfl; have sG := hSw.2; clear hSw; go_simp; try with_reducible rfl) ?_
              simp only [pA, pB, pC]
              refine tkR 19 80 rfl hS (fun w' hSw => by have sP0 := (hSw.1).get 0 (.slice f l c) rfl; have sP2 := (hSw.1).get 2 (.slice (some ⟨gb, go, none⟩) n d) rfl; have sP3 := (hSw.1).get 3 (.bool on1) rfl; have sP4 := (hSw.1).get 4 (.int .i64 of1) rfl; have sP5 := (hSw.1).get 5 (.int .i64 og1) rfl; have sP6 := (hSw.1).get 6 (.bool true) rfl; have sP7 := (hSw.1).get 7 (.int .i64 tf) rfl; have sP8 := (hSw.1).get 8 (.int .i64 tg) rfl; have sG := hSw.2; clear hSw; go_simp; try with_reducible rfl) ?_
              simp only [pA, pB, pC]
              refine tkR 20 81 rfl hS (fun w' hSw => by have sP0 := (hSw.1).get 0 (.slice f l c) rfl; have sP2 := (hSw.1).get 2 (.slice (some ⟨gb, go, none⟩) n d) rfl; have sP3 := (hSw.1).get 3 (.bool on1) rfl; have sP4 := (hSw.1).get 4 (.int .i64 of1) rfl; have sP5 := (hSw.1).get 5 (.int .i64 og1) rfl; have sP6 := (hSw.1).get 6 (.bool true) rfl; have sP7 := (hSw.1).get 7 (.int .i64 tf) rfl; have sP8 := (hSw.1).get 8 (.int .i64 tg) rfl; have sG := hSw.2; clear hSw; go_simp; try with_reducible rfl) ?_
              simp only [pA, pB, pC]
              refine wpAnyH_ready (rs := [23]) (by kernel_rfl) (by simp) ?_
              refine AllReadyH.cons (o := ⟨none, _, _, _, _, _⟩) rfl (fun K hK => ?_) AllReadyH.nil
              refine step_storeB rfl 40 _ _ rfl _ _ z9 40 rfl rfl (by kernel_rfl) rfl (by simp [Value.oneCell']) (by repeat' (first | (with_reducible refine BoxAt.newAt _ _ _ _ (by (simp; done))) | with_reducible refine BoxAt.putAny #[] ?_ rfl | (with_reducible refine BoxAt.row ?_ (by first | with_reducible assumption | omega | (simp; done) | (simp; omega))) | with_reducible refine BoxAt.alloc ?_ _ | with_reducible refine BoxAt.drew ?_ | with_reducible refine BoxAt.below ?_ hb20)) ?_
              refine hK.out _ _ ?_ (fun hS' => ?_)
              · (exact ⟨(by repeat' (first | with_reducible exact Pk | with_reducible exact hS.1 | with_reducible refine BoxAt.row ?_ (by first | omega | (simp; done) | (simp; omega)) | with_reducible refine BoxAt.alloc ?_ _ | with_reducible refine BoxAt.drew ?_ | with_reducible refine BoxAt.below ?_ hb20)), (by repeat' (first | with_reducible exact hpkk | with_reducible exact hS.2 | with_reducible refine cell_keep ?_ _ | with_reducible refine cell_drew ?_ | with_reducible refine cell_row (by first | omega | (simp; done) | (simp; omega)) ?_ | refine keepc hb20 ?_))⟩)
              clear hK K hS
              have hS := hS'
              clear hS'
              try simp only [Act.put]
              refine wpAnyH_ready (rs := [24]) (by kernel_rfl) (by simp) ?_
              refine AllReadyH.cons (o := ⟨none, _, _, _, _, _⟩) rfl (fun K hK => ?_) AllReadyH.nil
              refine step_storeB rfl 42 _ _ rfl _ _ z5 42 rfl rfl (by kernel_rfl) rfl (by simp [Value.oneCell']) (by repeat' (first | (with_reducible refine BoxAt.newAt _ _ _ _ (by (simp; done))) | with_reducible refine BoxAt.putAny #[] ?_ rfl | (with_reducible refine BoxAt.row ?_ (by first | with_reducible assumption | omega | (simp; done) | (simp; omega))) | with_reducible refine BoxAt.alloc ?_ _ | with_reducible refine BoxAt.drew ?_ | with_reducible refine BoxAt.below ?_ hb20)) ?_
              refine hK.out _ _ ?_ (fun hS' => ?_)
              · (exact ⟨(by repeat' (first | with_reducible exact Pk | with_reducible exact hS.1 | with_reducible refine BoxAt.row ?_ (by first | omega | (simp; done) | (simp; omega)) | with_reducible refine BoxAt.alloc ?_ _ | with_reducible refine BoxAt.drew ?_ | with_reducible refine BoxAt.below ?_ hb20)), (by repeat' (first | with_reducible exact hpkk | with_reducible exact hS.2 | with_reducible refine cell_keep ?_ _ | with_reducible refine cell_drew ?_ | with_reducible refine cell_row (by first | omega | (simp; done) | (simp; omega)) ?_ | refine keepc hb20 ?_))⟩)
              clear hK K hS
              have hS := hS'
              clear hS'
              try simp only [Act.put]
              refine tkR 25 9 rfl hS (fun w' hSw => by have sP0 := (hSw.1).get 0 (.slice f l c) rfl; have sP2 := (hSw.1).get 2 (.slice (some ⟨gb, go, none⟩) n d) rfl; have sP3 := (hSw.1).get 3 (.bool on1) rfl; have sP4 := (hSw.1).get 4 (.int .i64 of1) rfl; have sP5 := (hSw.1).get 5 (.int .i64 og1) rfl; have sP6 := (hSw.1).get 6 (.bool true) rfl; have sP7 := (hSw.1).get 7 (.int .i64 tf) rfl; have sP8 := (hSw.1).get 8 (.int .i64 tg) rfl; have sG := hSw.2; clear hSw; go_simp; try with_reducible rfl) ?_
              simp only [pA, pB, pC]
              refine tkR 26 10 rfl hS (fun w' hSw => by have sP0 := (hSw.1).get 0 (.slice f l c) rfl; have sP2 := (hSw.1).get 2 (.slice (some ⟨gb, go, none⟩) n d) rfl; have sP3 := (hSw.1).get 3 (.bool on1) rfl; have sP4 := (hSw.1).get 4 (.int .i64 of1) rfl; have sP5 := (hSw.1).get 5 (.int .i64 og1) rfl; have sP6 := (hSw.1).get 6 (.bool true) rfl; have sP7 := (hSw.1).get 7 (.int .i64 tf) rfl; have sP8 := (hSw.1).get 8 (.int .i64 tg) rfl; have sG := hSw.2; clear hSw; go_simp; try with_reducible rfl) ?_
              simp only [pA, pB, pC]
              refine wpAnyH_done (by kernel_rfl) ?_ _
              show KK _ _
              refine hKK _ _ (Met.intro (hJJ _ _ ?_))
              (repeat apply Exists.intro)
              refine ⟨?_, rfl⟩
              refine ⟨wr.heap.size + 1, wr.heap.size, f', c', rfl, rfl, rfl, rfl, (by omega), (by omega), (by first | omega | (simp; done)), ?_, ?_, ?_, ?_⟩
              · show Below _ _ _
                repeat' (first | with_reducible exact Below.refl wr.heap.size wr | (with_reducible refine Below.rowB ?_ (by first | omega | (simp; done) | (simp; omega))) | with_reducible refine Below.setCell ?_ (by first | omega | (simp; done) | (simp; omega)) _ | with_reducible refine bel_alloc ?_ _ | with_reducible refine Below.drew ?_ | with_reducible refine bel_trans ?_ hb20)
              · show BoxAt _ _ _ _
                repeat' (first | (with_reducible refine BoxAt.newAt _ _ _ _ (by (simp; done))) | with_reducible refine BoxAt.putAny #[.int .i64 0, .int .i64 0, .bool false, .bool false, .bool false, .bool false, .bool false, .int .i64 0, .int .i64 0] ?_ rfl | (with_reducible refine BoxAt.row ?_ (by first | with_reducible assumption | omega | (simp; done) | (simp; omega))) | with_reducible refine BoxAt.alloc ?_ _ | with_reducible refine BoxAt.drew ?_ | with_reducible refine BoxAt.below ?_ hb20)
              · show BoxAt _ _ _ _
                repeat' (first | (with_reducible refine BoxAt.newAt _ _ _ _ (by (simp; done))) | with_reducible refine BoxAt.putAny #[.int .i64 0, .int .i64 0, .int .i64 0, .bool false, .int .i64 0] ?_ rfl | (with_reducible refine BoxAt.row ?_ (by first | with_reducible assumption | omega | (simp; done) | (simp; omega))) | with_reducible refine BoxAt.alloc ?_ _ | with_reducible refine BoxAt.drew ?_ | with_reducible refine BoxAt.below ?_ hb20)
              · show OwnI _ _ _ _
                have hO21 := OwnI.mono hO20 (base' := wr.heap.size + 1 + 1) (by first | omega | (simp; done))
                refine OwnI.mono (base := wr.heap.size + 1 + 1) ?_ (by omega)
                repeat' (first | with_reducible exact hO21 | (with_reducible refine OwnI.rowHi hO21 ?_ (by omega)) | (with_reducible refine OwnI.row ?_ (by first | omega | (simp; done) | (simp; omega))) | with_reducible refine OwnI.other ?_ _ _ (by first | with_reducible assumption | (simp; done) | (simp; omega)) | with_reducible refine OwnI.alloc ?_ _ | with_reducible refine OwnI.drew ?_)
            refine AllReadyH.cons (o := ⟨some 7, _, _, _, _, _⟩) rfl (fun K hK => ?_) ?_
            · go_simp
              refine hK.out _ _ ?_ (fun hS' => ?_)
              · (exact ⟨(by repeat' (first | with_reducible exact Pk | with_reducible exact hS.1 | with_reducible refine BoxAt.row ?_ (by first | omega | (simp; done) | (simp; omega)) | with_reducible refine BoxAt.alloc ?_ _ | with_reducible refine BoxAt.drew ?_ | with_reducible refine BoxAt.below ?_ hb20)), (by repeat' (first | with_reducible exact hpkk | with_reducible exact hS.2 | with_reducible refine cell_keep ?_ _ | with_reducible refine cell_drew ?_ | with_reducible refine cell_row (by first | omega | (simp; done) | (simp; omega)) ?_ | refine keepc hb20 ?_))⟩)
              clear hK K hS
              have hS := hS'
              clear hS'
              try simp only [Act.put, List.setIfInBounds_toArray, List.set_cons_zero, List.set_cons_succ]
              refine wpAnyH_ready (rs := [13, 22]) (by kernel_rfl) (by simp) ?_
              refine AllReadyH.cons (o := ⟨some 75, _, _, _, _, _⟩) rfl (fun K hK => ?_) ?_
              · go_simp
                refine (HWI.out _).mono ?_
                rintro e w15 ⟨rfl, rfl⟩
                refine hK.out _ _ ?_ (fun hS' => ?_)
                · (exact ⟨(by repeat' (first | with_reducible exact Pk | with_reducible exact hS.1 | with_reducible refine BoxAt.row ?_ (by first | omega | (simp; done) | (simp; omega)) | with_reducible refine BoxAt.alloc ?_ _ | with_reducible refine BoxAt.drew ?_ | with_reducible refine BoxAt.below ?_ hb20)), (by repeat' (first | with_reducible exact hpkk | with_reducible exact hS.2 | with_reducible refine cell_keep ?_ _ | with_reducible refine cell_drew ?_ | with_reducible refine cell_row (by first | omega | (simp; done) | (simp; omega)) ?_ | refine keepc hb20 ?_))⟩)
                clear hK K hS
                have hS := hS'
                clear hS'
                try simp only [Act.put, List.setIfInBounds_toArray, List.set_cons_zero, List.set_cons_succ]
                refine wpAnyH_ready (rs := [15, 22]) (by kernel_rfl) (by simp) ?_
                refine AllReadyH.cons (o := ⟨some 77, _, _, _, _, _⟩) rfl (fun K hK => ?_) ?_
                · go_simp
                  refine (HT.out _ (HXc.out.below (by go_grown))).mono ?_
                  rintro e w20 ⟨f', c', rfl, hO20, hb20⟩
                  have hsz20 := hb20.size
                  simp at hsz20
                  refine hK.out _ _ ?_ (fun hS' => ?_)
                  · (exact ⟨(by repeat' (first | with_reducible exact Pk | with_reducible exact hS.1 | with_reducible refine BoxAt.row ?_ (by first | omega | (simp; done) | (simp; omega)) | with_reducible refine BoxAt.alloc ?_ _ | with_reducible refine BoxAt.drew ?_ | with_reducible refine BoxAt.below ?_ hb20)), (by repeat' (first | with_reducible exact hpkk | with_reducible exact hS.2 | with_reducible refine cell_keep ?_ _ | with_reducible refine cell_drew ?_ | with_reducible refine cell_row (by first | omega | (simp; done) | (simp; omega)) ?_ | refine keepc hb20 ?_))⟩)
                  clear hK K hS
                  have hS := hS'
                  clear hS'
                  try simp only [Act.put, List.setIfInBounds_toArray, List.set_cons_zero, List.set_cons_succ]
                  refine tkR 16 61 rfl hS (fun w' hSw => by have sP0 := (hSw.1).get 0 (.slice f l c) rfl; have sP2 := (hSw.1).get 2 (.slice (some ⟨gb, go, none⟩) n d) rfl; have sP3 := (hSw.1).get 3 (.bool on1) rfl; have sP4 := (hSw.1).get 4 (.int .i64 of1) rfl; have sP5 := (hSw.1).get 5 (.int .i64 og1) rfl; have sP6 := (hSw.1).get 6 (.bool true) rfl; have sP7 := (hSw.1).get 7 (.int .i64 tf) rfl; have sP8 := (hSw.1).get 8 (.int .i64 tg) rfl; have sG := hSw.2; clear hSw; go_simp; try with_reducible rfl) ?_
                  simp only [pA, pB, pC]
                  refine tkR 17 78 rfl hS (fun w' hSw => by have sP0 := (hSw.1).get 0 (.slice f l c) rfl; have sP2 := (hSw.1).get 2 (.slice (some ⟨gb, go, none⟩) n d) rfl; have sP3 := (hSw.1).get 3 (.bool on1) rfl; have sP4 := (hSw.1).get 4 (.int .i64 of1) rfl; have sP5 := (hSw.1).get 5 (.int .i64 og1) rfl; have sP6 := (hSw.1).get 6 (.bool true) rfl; have sP7 := (hSw.1).get 7 (.int .i64 tf) rfl; have sP8 := (hSw.1).get 8 (.int .i64 tg) rfl; have sG := hSw.2; clear hSw; go_simp; try with_reducible rfl) ?_
                  simp only [pA, pB, pC]
                  refine tkR 18 79 rfl hS (fun w' hSw => by have sP0 := (hSw.1).get 0 (.slice f l c) rfl; have sP2 := (hSw.1).get 2 (.slice (some ⟨gb, go, none⟩) n d) rfl; have sP3 := (hSw.1).get 3 (.bool on1) rfl; have sP4 := (hSw.1).get 4 (.int .i64 of1) rfl; have sP5 := (hSw.1).get 5 (.int .i64 og1) rfl; have sP6 := (hSw.1).get 6 (.bool true) rfl; have sP7 := (hSw.1).get 7 (.int .i64 tf) rfl; have sP8 := (hSw.1).get 8 (.int .i64 tg) rfl; have sG := hSw.2; clear hSw; go_simp; try with_reducible rfl) ?_
                  simp only [pA, pB, pC]
                  refine tkR 19 80 rfl hS (fun w' hSw => by have sP0 := (hSw.1).get 0 (.slice f l c) rfl; have sP2 := (hSw.1).get 2 (.slice (some ⟨gb, go, none⟩) n d) rfl; have sP3 := (hSw.1).get 3 (.bool on1) rfl; have sP4 := (hSw.1).get 4 (.int .i64 of1) rfl; have sP5 := (hSw.1).get 5 (.int .i64 og1) rfl; have sP6 := (hSw.1).get 6 (.bool true) rfl; have sP7 := (hSw.1).get 7 (.int .i64 tf) rfl; have sP8 := (hSw.1).get 8 (.int .i64 tg) rfl; have sG := hSw.2; clear hSw; go_simp; try with_reducible rfl) ?_
                  simp only [pA, pB, pC]
                  refine tkR 20 81 rfl hS (fun w' hSw => by have sP0 := (hSw.1).get 0 (.slice f l c) rfl; have sP2 := (hSw.1).get 2 (.slice (some ⟨gb, go, none⟩) n d) rfl; have sP3 := (hSw.1).get 3 (.bool on1) rfl; have sP4 := (hSw.1).get 4 (.int .i64 of1) rfl; have sP5 := (hSw.1).get 5 (.int .i64 og1) rfl; have sP6 := (hSw.1).get 6 (.bool true) rfl; have sP7 := (hSw.1).get 7 (.int .i64 tf) rfl; have sP8 := (hSw.1).get 8 (.int .i64 tg) rfl; have sG := hSw.2; clear hSw; go_simp; try with_reducible rfl) ?_
                  simp only [pA, pB, pC]
                  refine wpAnyH_ready (rs := [22]) (by kernel_rfl) (by simp) ?_
                  refine AllReadyH.cons (o := ⟨some 8, _, _, _, _, _⟩) rfl (fun K hK => ?_) AllReadyH.nil
                  go_simp
                  refine hK.out _ _ ?_ (fun hS' => ?_)
                  · (exact ⟨(by repeat' (first | with_reducible exact Pk | with_reducible exact hS.1 | with_reducible refine BoxAt.row ?_ (by first | omega | (simp; done) | (simp; omega)) | with_reducible refine BoxAt.alloc ?_ _ | with_reducible refine BoxAt.drew ?_ | with_reducible refine BoxAt.below ?_ hb20)), (by repeat' (first | with_reducible exact hpkk | with_reducible exact hS.2 | with_reducible refine cell_keep ?_ _ | with_reducible refine cell_drew ?_ | with_reducible refine cell_row (by first | omega | (simp; done) | (simp; omega)) ?_ | refine keepc hb20 ?_))⟩)
                  clear hK K hS
                  have hS := hS'
                  clear hS'
                  try simp only [Act.put, List.setIfInBounds_toArray, List.set_cons_zero, List.set_cons_succ]
                  refine wpAnyH_ready (rs := [23]) (by kernel_rfl) (by simp) ?_
                  refine AllReadyH.cons (o := ⟨none, _, _, _, _, _⟩) rfl (fun K hK => ?_) AllReadyH.nil
                  refine step_storeB rfl 40 _ _ rfl _ _ z9 40 rfl rfl (by kernel_rfl) rfl (by simp [Value.oneCell']) (by repeat' (first | (with_reducible refine BoxAt.newAt _ _ _ _ (by (simp; done))) | with_reducible refine BoxAt.putAny #[] ?_ rfl | (with_reducible refine BoxAt.row ?_ (by first | with_reducible assumption | omega | (simp; done) | (simp; omega))) | with_reducible refine BoxAt.alloc ?_ _ | with_reducible refine BoxAt.drew ?_ | with_reducible refine BoxAt.below ?_ hb20)) ?_
                  refine hK.out _ _ ?_ (fun hS' => ?_)
                  · (exact ⟨(by repeat' (first | with_reducible exact Pk | with_reducible exact hS.1 | with_reducible refine BoxAt.row ?_ (by first | omega | (simp; done) | (simp; omega)) | with_reducible refine BoxAt.alloc ?_ _ | with_reducible refine BoxAt.drew ?_ | with_reducible refine BoxAt.below ?_ hb20)), (by repeat' (first | with_reducible exact hpkk | with_reducible exact hS.2 | with_reducible refine cell_keep ?_ _ | with_reducible refine cell_drew ?_ | with_reducible refine cell_row (by first | omega | (simp; done) | (simp; omega)) ?_ | refine keepc hb20 ?_))⟩)
                  clear hK K hS
                  have hS := hS'
                  clear hS'
                  try simp only [Act.put]
                  refine wpAnyH_ready (rs := [24]) (by kernel_rfl) (by simp) ?_
                  refine AllReadyH.cons (o := ⟨none, _, _, _, _, _⟩) rfl (fun K hK => ?_) AllReadyH.nil
                  refine step_storeB rfl 42 _ _ rfl _ _ z5 42 rfl rfl (by kernel_rfl) rfl (by simp [Value.oneCell']) (by repeat' (first | (with_reducible refine BoxAt.newAt _ _ _ _ (by (simp; done))) | with_reducible refine BoxAt.putAny #[] ?_ rfl | (with_reducible refine BoxAt.row ?_ (by first | with_reducible assumption | omega | (simp; done) | (simp; omega))) | with_reducible refine BoxAt.alloc ?_ _ | with_reducible refine BoxAt.drew ?_ | with_reducible refine BoxAt.below ?_ hb20)) ?_
                  refine hK.out _ _ ?_ (fun hS' => ?_)
                  · (exact ⟨(by repeat' (first | with_reducible exact Pk | with_reducible exact hS.1 | with_reducible refine BoxAt.row ?_ (by first | omega | (simp; done) | (simp; omega)) | with_reducible refine BoxAt.alloc ?_ _ | with_reducible refine BoxAt.drew ?_ | with_reducible refine BoxAt.below ?_ hb20)), (by repeat' (first | with_reducible exact hpkk | with_reducible exact hS.2 | with_reducible refine cell_keep ?_ _ | with_reducible refine cell_drew ?_ | with_reducible refine cell_row (by first | omega | (simp; done) | (simp; omega)) ?_ | refine keepc hb20 ?_))⟩)
                  clear hK K hS
                  have hS := hS'
                  clear hS'
                  try simp only [Act.put]
                  refine tkR 25 9 rfl hS (fun w' hSw => by have sP0 := (hSw.1).get 0 (.slice f l c) rfl; have sP2 := (hSw.1).get 2 (.slice (some ⟨gb, go, none⟩) n d) rfl; have sP3 := (hSw.1).get 3 (.bool on1) rfl; have sP4 := (hSw.1).get 4 (.int .i64 of1) rfl; have sP5 := (hSw.1).get 5 (.int .i64 og1) rfl; have sP6 := (hSw.1).get 6 (.bool true) rfl; have sP7 := (hSw.1).get 7 (.int .i64 tf) rfl; have sP8 := (hSw.1).get 8 (.int .i64 tg) rfl; have sG := hSw.2; clear hSw; go_simp; try with_reducible rfl) ?_
                  simp only [pA, pB, pC]
                  refine tkR 26 10 rfl hS (fun w' hSw => by have sP0 := (hSw.1).get 0 (.slice f l c) rfl; have sP2 := (hSw.1).get 2 (.slice (some ⟨gb, go, none⟩) n d) rfl; have sP3 := (hSw.1).get 3 (.bool on1) rfl; have sP4 := (hSw.1).get 4 (.int .i64 of1) rfl; have sP5 := (hSw.1).get 5 (.int .i64 og1) rfl; have sP6 := (hSw.1).get 6 (.bool true) rfl; have sP7 := (hSw.1).get 7 (.int .i64 tf) rfl; have sP8 := (hSw.1).get 8 (.int .i64 tg) rfl; have sG := hSw.2; clear hSw; go_simp; try with_reducible rfl) ?_
                  simp only [pA, pB, pC]
                  refine wpAnyH_done (by kernel_rfl) ?_ _
                  show KK _ _
                  refine hKK _ _ (Met.intro (hJJ _ _ ?_))
                  (repeat apply Exists.intro)
                  refine ⟨?_, rfl⟩
                  refine ⟨wr.heap.size, w20.heap.size, f', c', rfl, rfl, rfl, rfl, (by omega), (by omega), (by first | omega | (simp; done)), ?_, ?_, ?_, ?_⟩
                  · show Below _ _ _
                    repeat' (first | with_reducible exact Below.refl wr.heap.size wr | (with_reducible refine Below.rowB ?_ (by first | omega | (simp; done) | (simp; omega))) | with_reducible refine Below.setCell ?_ (by first | omega | (simp; done) | (simp; omega)) _ | with_reducible refine bel_alloc ?_ _ | with_reducible refine Below.drew ?_ | with_reducible refine bel_trans ?_ hb20)
                  · show BoxAt _ _ _ _
                    repeat' (first | (with_reducible refine BoxAt.newAt _ _ _ _ (by (simp; done))) | with_reducible refine BoxAt.putAny #[.int .i64 0, .int .i64 0, .bool false, .bool false, .bool false, .bool false, .bool false, .int .i64 0, .int .i64 0] ?_ rfl | (with_reducible refine BoxAt.row ?_ (by first | with_reducible assumption | omega | (simp; done) | (simp; omega))) | with_reducible refine BoxAt.alloc ?_ _ | with_reducible refine BoxAt.drew ?_ | with_reducible refine BoxAt.below ?_ hb20)
                  · show BoxAt _ _ _ _
                    repeat' (first | (with_reducible refine BoxAt.newAt _ _ _ _ (by (simp; done))) | with_reducible refine BoxAt.putAny #[.int .i64 0, .int .i64 0, .int .i64 0, .bool false, .int .i64 0] ?_ rfl | (with_reducible refine BoxAt.row ?_ (by first | with_reducible assumption | omega | (simp; done) | (simp; omega))) | with_reducible refine BoxAt.alloc ?_ _ | with_reducible refine BoxAt.drew ?_ | with_reducible refine BoxAt.below ?_ hb20)
                  · show OwnI _ _ _ _
                    have hO21 := OwnI.mono hO20 (base' := wr.heap.size + 1) (by first | omega | (simp; done))
                    refine OwnI.mono (base := wr.heap.size + 1) ?_ (by omega)
                    repeat' (first | with_reducible exact hO21 | (with_reducible refine OwnI.rowHi hO21 ?_ (by omega)) | (with_reducible refine OwnI.row ?_ (by first | omega | (simp; done) | (simp; omega))) | with_reducible refine OwnI.other ?_ _ _ (by first | with_reducible assumption | (simp; done) | (simp; omega)) | with_reducible refine OwnI.alloc ?_ _ | with_reducible refine OwnI.drew ?_)
                refine AllReadyH.cons (o := ⟨some 8, _, _, _, _, _⟩) rfl (fun K hK => ?_) AllReadyH.nil
                go_simp
                refine hK.out _ _ ?_ (fun hS' => ?_)
                · (exact ⟨(by repeat' (first | with_reducible exact Pk | with_reducible exact hS.1 | with_reducible refine BoxAt.row ?_ (by first | omega | (simp; done) | (simp; omega)) | with_reducible refine BoxAt.alloc ?_ _ | with_reducible refine BoxAt.drew ?_ | with_reducible refine BoxAt.below ?_ hb20)), (by repeat' (first | with_reducible exact hpkk | with_reducible exact hS.2 | with_reducible refine cell_keep ?_ _ | with_reducible refine cell_drew ?_ | with_reducible refine cell_row (by first | omega | (simp; done) | (simp; omega)) ?_ | refine keepc hb20 ?_))⟩)
                clear hK K hS
                have hS := hS'
                clear hS'
                try simp only [Act.put, List.setIfInBounds_toArray, List.set_cons_zero, List.set_cons_succ]
                refine wpAnyH_ready (rs := [15]) (by kernel_rfl) (by simp) ?_
                refine AllReadyH.cons (o := ⟨some 77, _, _, _, _, _⟩) rfl (fun K hK => ?_) AllReadyH.nil
                go_simp
                refine (HT.out _ (HXc.out.below (by go_grown))).mono ?_
                rintro e w20 ⟨f', c', rfl, hO20, hb20⟩
                have hsz20 := hb20.size
                simp at hsz20
                refine hK.out _ _ ?_ (fun hS' => ?_)
                · (exact ⟨(by repeat' (first | with_reducible exact Pk | with_reducible exact hS.1 | with_reducible refine BoxAt.row ?_ (by first | omega | (simp; done) | (simp; omega)) | with_reducible refine BoxAt.alloc ?_ _ | with_reducible refine BoxAt.drew ?_ | with_reducible refine BoxAt.below ?_ hb20)), (by repeat' (first | with_reducible exact hpkk | with_reducible exact hS.2 | with_reducible refine cell_keep ?_ _ | with_reducible refine cell_drew ?_ | with_reducible refine cell_row (by first | omega | (simp; done) | (simp; omega)) ?_ | refine keepc hb20 ?_))⟩)
                clear hK K hS
                have hS := hS'
                clear hS'
                try simp only [Act.put, List.setIfInBounds_toArray, List.set_cons_zero, List.set_cons_succ]
                refine tkR 16 61 rfl hS (fun w' hSw => by have sP0 := (hSw.1).get 0 (.slice f l c) rfl; have sP2 := (hSw.1).get 2 (.slice (some ⟨gb, go, none⟩) n d) rfl; have sP3 := (hSw.1).get 3 (.bool on1) rfl; have sP4 := (hSw.1).get 4 (.int .i64 of1) rfl; have sP5 := (hSw.1).get 5 (.int .i64 og1) rfl; have sP6 := (hSw.1).get 6 (.bool true) rfl; have sP7 := (hSw.1).get 7 (.int .i64 tf) rfl; have sP8 := (hSw.1).get 8 (.int .i64 tg) rfl; have sG := hSw.2; clear hSw; go_simp; try with_reducible rfl) ?_
                simp only [pA, pB, pC]
                refine tkR 17 78 rfl hS (fun w' hSw => by have sP0 := (hSw.1).get 0 (.slice f l c) rfl; have sP2 := (hSw.1).get 2 (.slice (some ⟨gb, go, none⟩) n d) rfl; have sP3 := (hSw.1).get 3 (.bool on1) rfl; have sP4 := (hSw.1).get 4 (.int .i64 of1) rfl; have sP5 := (hSw.1).get 5 (.int .i64 og1) rfl; have sP6 := (hSw.1).get 6 (.bool true) rfl; have sP7 := (hSw.1).get 7 (.int .i64 tf) rfl; have sP8 := (hSw.1).get 8 (.int .i64 tg) rfl; have sG := hSw.2; clear hSw; go_simp; try with_reducible rfl) ?_
                simp only [pA, pB, pC]
                refine tkR 18 79 rfl hS (fun w' hSw => by have sP0 := (hSw.1).get 0 (.slice f l c) rfl; have sP2 := (hSw.1).get 2 (.slice (some ⟨gb, go, none⟩) n d) rfl; have sP3 := (hSw.1).get 3 (.bool on1) rfl; have sP4 := (hSw.1).get 4 (.int .i64 of1) rfl; have sP5 := (hSw.1).get 5 (.int .i64 og1) rfl; have sP6 := (hSw.1).get 6 (.bool true) rfl; have sP7 := (hSw.1).get 7 (.int .i64 tf) rfl; have sP8 := (hSw.1).get 8 (.int .i64 tg) rfl; have sG := hSw.2; clear hSw; go_simp; try with_reducible rfl) ?_
                simp only [pA, pB, pC]
                refine tkR 19 80 rfl hS (fun w' hSw => by have sP0 := (hSw.1).get 0 (.slice f l c) rfl; have sP2 := (hSw.1).get 2 (.slice (some ⟨gb, go, none⟩) n d) rfl; have sP3 := (hSw.1).get 3 (.bool on1) rfl; have sP4 := (hSw.1).get 4 (.int .i64 of1) rfl; have sP5 := (hSw.1).get 5 (.int .i64 og1) rfl; have sP6 := (hSw.1).get 6 (.bool true) rfl; have sP7 := (hSw.1).get 7 (.int .i64 tf) rfl; have sP8 := (hSw.1).get 8 (.int .i64 tg) rfl; have sG := hSw.2; clear hSw; go_simp; try with_reducible rfl) ?_
                simp only [pA, pB, pC]
                refine tkR 20 81 rfl hS (fun w' hSw => by have sP0 := (hSw.1).get 0 (.slice f l c) rfl; have sP2 := (hSw.1).get 2 (.slice (some ⟨gb, go, none⟩) n d) rfl; have sP3 := (hSw.1).get 3 (.bool on1) rfl; have sP4 := (hSw.1).get 4 (.int .i64 of1) rfl; have sP5 := (hSw.1).get 5 (.int .i64 og1) rfl; have sP6 := (hSw.1).get 6 (.bool true) rfl; have sP7 := (hSw.1).get 7 (.int .i64 tf) rfl; have sP8 := (hSw.1).get 8 (.int .i64 tg) rfl; have sG := hSw.2; clear hSw; go_simp; try with_reducible rfl) ?_
                simp only [pA, pB, pC]
                refine wpAnyH_ready (rs := [23]) (by kernel_rfl) (by simp) ?_
                refine AllReadyH.cons (o := ⟨none, _, _, _, _, _⟩) rfl (fun K hK => ?_) AllReadyH.nil
                refine step_storeB rfl 40 _ _ rfl _ _ z9 40 rfl rfl (by kernel_rfl) rfl (by simp [Value.oneCell']) (by repeat' (first | (with_reducible refine BoxAt.newAt _ _ _ _ (by (simp; done))) | with_reducible refine BoxAt.putAny #[] ?_ rfl | (with_reducible refine BoxAt.row ?_ (by first | with_reducible assumption | omega | (simp; done) | (simp; omega))) | with_reducible refine BoxAt.alloc ?_ _ | with_reducible refine BoxAt.drew ?_ | with_reducible refine BoxAt.below ?_ hb20)) ?_
                refine hK.out _ _ ?_ (fun hS' => ?_)
                · (exact ⟨(by repeat' (first | with_reducible exact Pk | with_reducible exact hS.1 | with_reducible refine BoxAt.row ?_ (by first | omega | (simp; done) | (simp; omega)) | with_reducible refine BoxAt.alloc ?_ _ | with_reducible refine BoxAt.drew ?_ | with_reducible refine BoxAt.below ?_ hb20)), (by repeat' (first | with_reducible exact hpkk | with_reducible exact hS.2 | with_reducible refine cell_keep ?_ _ | with_reducible refine cell_drew ?_ | with_reducible refine cell_row (by first | omega | (simp; done) | (simp; omega)) ?_ | refine keepc hb20 ?_))⟩)
                clear hK K hS
                have hS := hS'
                clear hS'
                try simp only [Act.put]
                refine wpAnyH_ready (rs := [24]) (by kernel_rfl) (by simp) ?_
                refine AllReadyH.cons (o := ⟨none, _, _, _, _, _⟩) rfl (fun K hK => ?_) AllReadyH.nil
                refine step_storeB rfl 42 _ _ rfl _ _ z5 42 rfl rfl (by kernel_rfl) rfl (by simp [Value.oneCell']) (by repeat' (first | (with_reducible refine BoxAt.newAt _ _ _ _ (by (simp; done))) | with_reducible refine BoxAt.putAny #[] ?_ rfl | (with_reducible refine BoxAt.row ?_ (by first | with_reducible assumption | omega | (simp; done) | (simp; omega))) | with_reducible refine BoxAt.alloc ?_ _ | with_reducible refine BoxAt.drew ?_ | with_reducible refine BoxAt.below ?_ hb20)) ?_
                refine hK.out _ _ ?_ (fun hS' => ?_)
                · (exact ⟨(by repeat' (first | with_reducible exact Pk | with_reducible exact hS.1 | with_reducible refine BoxAt.row ?_ (by first | omega | (simp; done) | (simp; omega)) | with_reducible refine BoxAt.alloc ?_ _ | with_reducible refine BoxAt.drew ?_ | with_reducible refine BoxAt.below ?_ hb20)), (by repeat' (first | with_reducible exact hpkk | with_reducible exact hS.2 | with_reducible refine cell_keep ?_ _ | with_reducible refine cell_drew ?_ | with_reducible refine cell_row (by first | omega | (simp; done) | (simp; omega)) ?_ | refine keepc hb20 ?_))⟩)
                clear hK K hS
                have hS := hS'
                clear hS'
                try simp only [Act.put]
                refine tkR 25 9 rfl hS (fun w' hSw => by have sP0 := (hSw.1).get 0 (.slice f l c) rfl; have sP2 := (hSw.1).get 2 (.slice (some ⟨gb, go, none⟩) n d) rfl; have sP3 := (hSw.1).get 3 (.bool on1) rfl; have sP4 := (hSw.1).get 4 (.int .i64 of1) rfl; have sP5 := (hSw.1).get 5 (.int .i64 og1) rfl; have sP6 := (hSw.1).get 6 (.bool true) rfl; have sP7 := (hSw.1).get 7 (.int .i64 tf) rfl; have sP8 := (hSw.1).get 8 (.int .i64 tg) rfl; have sG := hSw.2; clear hSw; go_simp; try with_reducible rfl) ?_
                simp only [pA, pB, pC]
                refine tkR 26 10 rfl hS (fun w' hSw => by have sP0 := (hSw.1).get 0 (.slice f l c) rfl; have sP2 := (hSw.1).get 2 (.slice (some ⟨gb, go, none⟩) n d) rfl; have sP3 := (hSw.1).get 3 (.bool on1) rfl; have sP4 := (hSw.1).get 4 (.int .i64 of1) rfl; have sP5 := (hSw.1).get 5 (.int .i64 og1) rfl; have sP6 := (hSw.1).get 6 (.bool true) rfl; have sP7 := (hSw.1).get 7 (.int .i64 tf) rfl; have sP8 := (hSw.1).get 8 (.int .i64 tg) rfl; have sG := hSw.2; clear hSw; go_simp; try with_reducible rfl) ?_
                simp only [pA, pB, pC]
                refine wpAnyH_done (by kernel_rfl) ?_ _
                show KK _ _
                refine hKK _ _ (Met.intro (hJJ _ _ ?_))
                (repeat apply Exists.intro)
                refine ⟨?_, rfl⟩
                refine ⟨wr.heap.size, wr.heap.size + 1, f', c', rfl, rfl, rfl, rfl, (by omega), (by omega), (by first | omega | (simp; done)), ?_, ?_, ?_, ?_⟩
                · show Below _ _ _
                  repeat' (first | with_reducible exact Below.refl wr.heap.size wr | (with_reducible refine Below.rowB ?_ (by first | omega | (simp; done) | (simp; omega))) | with_reducible refine Below.setCell ?_ (by first | omega | (simp; done) | (simp; omega)) _ | with_reducible refine bel_alloc ?_ _ | with_reducible refine Below.drew ?_ | with_reducible refine bel_trans ?_ hb20)
                · show BoxAt _ _ _ _
                  repeat' (first | (with_reducible refine BoxAt.newAt _ _ _ _ (by (simp; done))) | with_reducible refine BoxAt.putAny #[.int .i64 0, .int .i64 0, .bool false, .bool false, .bool false, .bool false, .bool false, .int .i64 0, .int .i64 0] ?_ rfl | (with_reducible refine BoxAt.row ?_ (by first | with_reducible assumption | omega | (simp; done) | (simp; omega))) | with_reducible refine BoxAt.alloc ?_ _ | with_reducible refine BoxAt.drew ?_ | with_reducible refine BoxAt.below ?_ hb20)
                · show BoxAt _ _ _ _
                  repeat' (first | (with_reducible refine BoxAt.newAt _ _ _ _ (by (simp; done))) | with_reducible refine BoxAt.putAny #[.int .i64 0, .int .i64 0, .int .i64 0, .bool false, .int .i64 0] ?_ rfl | (with_reducible refine BoxAt.row ?_ (by first | with_reducible assumption | omega | (simp; done) | (simp; omega))) | with_reducible refine BoxAt.alloc ?_ _ | with_reducible refine BoxAt.drew ?_ | with_reducible refine BoxAt.below ?_ hb20)
                · show OwnI _ _ _ _
                  have hO21 := OwnI.mono hO20 (base' := wr.heap.size + 1 + 1) (by first | omega | (simp; done))
                  refine OwnI.mono (base := wr.heap.size + 1 + 1) ?_ (by omega)
                  repeat' (first | with_reducible exact hO21 | (with_reducible refine OwnI.rowHi hO21 ?_ (by omega)) | (with_reducible refine OwnI.row ?_ (by first | omega | (simp; done) | (simp; omega))) | with_reducible refine OwnI.other ?_ _ _ (by first | with_reducible assumption | (simp; done) | (simp; omega)) | with_reducible refine OwnI.alloc ?_ _ | with_reducible refine OwnI.drew ?_)
              refine AllReadyH.cons (o := ⟨some 8, _, _, _, _, _⟩) rfl (fun K hK => ?_) AllReadyH.nil
              go_simp
              refine hK.out _ _ ?_ (fun hS' => ?_)
              · (exact ⟨(by repeat' (first | with_reducible exact Pk | with_reducible exact hS.1 | with_reducible refine BoxAt.row ?_ (by first | omega | (simp; done) | (simp; omega)) | with_reducible refine BoxAt.alloc ?_ _ | with_reducible refine BoxAt.drew ?_ | with_reducible refine BoxAt.below ?_ hb20)), (by repeat' (first | with_reducible exact hpkk | with_reducible exact hS.2 | with_reducible refine cell_keep ?_ _ | with_reducible refine cell_drew ?_ | with_reducible refine cell_row (by first | omega | (simp; done) | (simp; omega)) ?_ | refine keepc hb20 ?_))⟩)
              clear hK K hS
              have hS := hS'
              clear hS'
              try simp only [Act.put, List.setIfInBounds_toArray, List.set_cons_zero, List.set_cons_succ]
              refine wpAnyH_ready (rs := [13]) (by kernel_rfl) (by simp) ?_
              refine AllReadyH.cons (o := ⟨some 75, _, _, _, _, _⟩) rfl (fun K hK => ?_) AllReadyH.nil
              go_simp
              refine (HWI.out _).mono ?_
              rintro e w15 ⟨rfl, rfl⟩
              refine hK.out _ _ ?_ (fun hS' => ?_)
              · (exact ⟨(by repeat' (first | with_reducible exact Pk | with_reducible exact hS.1 | with_reducible refine BoxAt.row ?_ (by first | omega | (simp; done) | (simp; omega)) | with_reducible refine BoxAt.alloc ?_ _ | with_reducible refine BoxAt.drew ?_ | with_reducible refine BoxAt.below ?_ hb20)), (by repeat' (first | with_reducible exact hpkk | with_reducible exact hS.2 | with_reducible refine cell_keep ?_ _ | with_reducible refine cell_drew ?_ | with_reducible refine cell_row (by first | omega | (simp; done) | (simp; omega)) ?_ | refine keepc hb20 ?_))⟩)
              clear hK K hS
              have hS := hS'
              clear hS'
              try simp only [Act.put, List.setIfInBounds_toArray, List.set_cons_zero, List.set_cons_succ]
              refine wpAnyH_ready (rs := [15]) (by kernel_rfl) (by simp) ?_
              refine AllReadyH.cons (o := ⟨some 77, _, _, _, _, _⟩) rfl (fun K hK => ?_) AllReadyH.nil
              go_simp
              refine (HT.out _ (HXc.out.below (by go_grown))).mono ?_
              rintro e w20 ⟨f', c', rfl, hO20, hb20⟩
              have hsz20 := hb20.size
              simp at hsz20
              refine hK.out _ _ ?_ (fun hS' => ?_)
              · (exact ⟨(by repeat' (first | with_reducible exact Pk | with_reducible exact hS.1 | with_reducible refine BoxAt.row ?_ (by first | omega | (simp; done) | (simp; omega)) | with_reducible refine BoxAt.alloc ?_ _ | with_reducible refine BoxAt.drew ?_ | with_reducible refine BoxAt.below ?_ hb20)), (by repeat' (first | with_reducible exact hpkk | with_reducible exact hS.2 | with_reducible refine cell_keep ?_ _ | with_reducible refine cell_drew ?_ | with_reducible refine cell_row (by first | omega | (simp; done) | (simp; omega)) ?_ | refine keepc hb20 ?_))⟩)
              clear hK K hS
              have hS := hS'
              clear hS'
              try simp only [Act.put, List.setIfInBounds_toArray, List.set_cons_zero, List.set_cons_succ]
              refine tkR 16 61 rfl hS (fun w' hSw => by have sP0 := (hSw.1).get 0 (.slice f l c) rfl; have sP2 := (hSw.1).get 2 (.slice (some ⟨gb, go, none⟩) n d) rfl; have sP3 := (hSw.1).get 3 (.bool on1) rfl; have sP4 := (hSw.1).get 4 (.int .i64 of1) rfl; have sP5 := (hSw.1).get 5 (.int .i64 og1) rfl; have sP6 := (hSw.1).get 6 (.bool true) rfl; have sP7 := (hSw.1).get 7 (.int .i64 tf) rfl; have sP8 := (hSw.1).get 8 (.int .i64 tg) rfl; have sG := hSw.2; clear hSw; go_simp; try with_reducible rfl) ?_
              simp only [pA, pB, pC]
              refine tkR 17 78 rfl hS (fun w' hSw => by have sP0 := (hSw.1).get 0 (.slice f l c) rfl; have sP2 := (hSw.1).get 2 (.slice (some ⟨gb, go, none⟩) n d) rfl; have sP3 := (hSw.1).get 3 (.bool on1) rfl; have sP4 := (hSw.1).get 4 (.int .i64 of1) rfl; have sP5 := (hSw.1).get 5 (.int .i64 og1) rfl; have sP6 := (hSw.1).get 6 (.bool true) rfl; have sP7 := (hSw.1).get 7 (.int .i64 tf) rfl; have sP8 := (hSw.1).get 8 (.int .i64 tg) rfl; have sG := hSw.2; clear hSw; go_simp; try with_reducible rfl) ?_
              simp only [pA, pB, pC]
              refine tkR 18 79 rfl hS (fun w' hSw => by have sP0 := (hSw.1).get 0 (.slice f l c) rfl; have sP2 := (hSw.1).get 2 (.slice (some ⟨gb, go, none⟩) n d) rfl; have sP3 := (hSw.1).get 3 (.bool on1) rfl; have sP4 := (hSw.1).get 4 (.int .i64 of1) rfl; have sP5 := (hSw.1).get 5 (.int .i64 og1) rfl; have sP6 := (hSw.1).get 6 (.bool true) rfl; have sP7 := (hSw.1).get 7 (.int .i64 tf) rfl; have sP8 := (hSw.1).get 8 (.int .i64 tg) rfl; have sG := hSw.2; clear hSw; go_simp; try with_reducible rfl) ?_
              simp only [pA, pB, pC]
              refine tkR 19 80 rfl hS (fun w' hSw => by have sP0 := (hSw.1).get 0 (.slice f l c) rfl; have sP2 := (hSw.1).get 2 (.slice (some ⟨gb, go, none⟩) n d) rfl; have sP3 := (hSw.1).get 3 (.bool on1) rfl; have sP4 := (hSw.1).get 4 (.int .i64 of1) rfl; have sP5 := (hSw.1).get 5 (.int .i64 og1) rfl; have sP6 := (hSw.1).get 6 (.bool true) rfl; have sP7 := (hSw.1).get 7 (.int .i64 tf) rfl; have sP8 := (hSw.1).get 8 (.int .i64 tg) rfl; have sG := hSw.2; clear hSw; go_simp; try with_reducible rfl) ?_
              simp only [pA, pB, pC]
              refine tkR 20 81 rfl hS (fun w' hSw => by have sP0 := (hSw.1).get 0 (.slice f l c) rfl; have sP2 := (hSw.1).get 2 (.slice (some ⟨gb, go, none⟩) n d) rfl; have sP3 := (hSw.1).get 3 (.bool on1) rfl; have sP4 := (hSw.1).get 4 (.int .i64 of1) rfl; have sP5 := (hSw.1).get 5 (.int .i64 og1) rfl; have sP6 := (hSw.1).get 6 (.bool true) rfl; have sP7 := (hSw.1).get 7 (.int .i64 tf) rfl; have sP8 := (hSw.1).get 8 (.int .i64 tg) rfl; have sG := hSw.2; clear hSw; go_simp; try with_reducible rfl) ?_
              simp only [pA, pB, pC]
              refine wpAnyH_ready (rs := [23]) (by kernel_rfl) (by simp) ?_
              refine AllReadyH.cons (o := ⟨none, _, _, _, _, _⟩) rfl (fun K hK => ?_) AllReadyH.nil
              refine step_storeB rfl 40 _ _ rfl _ _ z9 40 rfl rfl (by kernel_rfl) rfl (by simp [Value.oneCell']) (by repeat' (first | (with_reducible refine BoxAt.newAt _ _ _ _ (by (simp; done))) | with_reducible refine BoxAt.putAny #[] ?_ rfl | (with_reducible refine BoxAt.row ?_ (by first | with_reducible assumption | omega | (simp; done) | (simp; omega))) | with_reducible refine BoxAt.alloc ?_ _ | with_reducible refine BoxAt.drew ?_ | with_reducible refine BoxAt.below ?_ hb20)) ?_
              refine hK.out _ _ ?_ (fun hS' => ?_)
              · (exact ⟨(by repeat' (first | with_reducible exact Pk | with_reducible exact hS.1 | with_reducible refine BoxAt.row ?_ (by first | omega | (simp; done) | (simp; omega)) | with_reducible refine BoxAt.alloc ?_ _ | with_reducible refine BoxAt.drew ?_ | with_reducible refine BoxAt.below ?_ hb20)), (by repeat' (first | with_reducible exact hpkk | with_reducible exact hS.2 | with_reducible refine cell_keep ?_ _ | with_reducible refine cell_drew ?_ | with_reducible refine cell_row (by first | omega | (simp; done) | (simp; omega)) ?_ | refine keepc hb20 ?_))⟩)
              clear hK K hS
              have hS := hS'
              clear hS'
              try simp only [Act.put]
              refine wpAnyH_ready (rs := [24]) (by kernel_rfl) (by simp) ?_
              refine AllReadyH.cons (o := ⟨none, _, _, _, _, _⟩) rfl (fun K hK => ?_) AllReadyH.nil
              refine step_storeB rfl 42 _ _ rfl _ _ z5 42 rfl rfl (by kernel_rfl) rfl (by simp [Value.oneCell']) (by repeat' (first | (with_reducible refine BoxAt.newAt _ _ _ _ (by (simp; done))) | with_reducible refine BoxAt.putAny #[] ?_ rfl | (with_reducible refine BoxAt.row ?_ (by first | with_reducible assumption | omega | (simp; done) | (simp; omega))) | with_reducible refine BoxAt.alloc ?_ _ | with_reducible refine BoxAt.drew ?_ | with_reducible refine BoxAt.below ?_ hb20)) ?_
              refine hK.out _ _ ?_ (fun hS' => ?_)
              · (exact ⟨(by repeat' (first | with_reducible exact Pk | with_reducible exact hS.1 | with_reducible refine BoxAt.row ?_ (by first | omega | (simp; done) | (simp; omega)) | with_reducible refine BoxAt.alloc ?_ _ | with_reducible refine BoxAt.drew ?_ | with_reducible refine BoxAt.below ?_ hb20)), (by repeat' (first | with_reducible exact hpkk | with_reducible exact hS.2 | with_reducible refine cell_keep ?_ _ | with_reducible refine cell_drew ?_ | with_reducible refine cell_row (by first | omega | (simp; done) | (simp; omega)) ?_ | refine keepc hb20 ?_))⟩)
              clear hK K hS
              have hS := hS'
              clear hS'
              try simp only [Act.put]
              refine tkR 25 9 rfl hS (fun w' hSw => by have sP0 := (hSw.1).get 0 (.slice f l c) rfl; have sP2 := (hSw.1).get 2 (.slice (some ⟨gb, go, none⟩) n d) rfl; have sP3 := (hSw.1).get 3 (.bool on1) rfl; have sP4 := (hSw.1).get 4 (.int .i64 of1) rfl; have sP5 := (hSw.1).get 5 (.int .i64 og1) rfl; have sP6 := (hSw.1).get 6 (.bool true) rfl; have sP7 := (hSw.1).get 7 (.int .i64 tf) rfl; have sP8 := (hSw.1).get 8 (.int .i64 tg) rfl; have sG := hSw.2; clear hSw; go_simp; try with_reducible rfl) ?_
              simp only [pA, pB, pC]
              refine tkR 26 10 rfl hS (fun w' hSw => by have sP0 := (hSw.1).get 0 (.slice f l c) rfl; have sP2 := (hSw.1).get 2 (.slice (some ⟨gb, go, none⟩) n d) rfl; have sP3 := (hSw.1).get 3 (.bool on1) rfl; have sP4 := (hSw.1).get 4 (.int .i64 of1) rfl; have sP5 := (hSw.1).get 5 (.int .i64 og1) rfl; have sP6 := (hSw.1).get 6 (.bool true) rfl; have sP7 := (hSw.1).get 7 (.int .i64 tf) rfl; have sP8 := (hSw.1).get 8 (.int .i64 tg) rfl; have sG := hSw.2; clear hSw; go_simp; try with_reducible rfl) ?_
              simp only [pA, pB, pC]
              refine wpAnyH_done (by kernel_rfl) ?_ _
              show KK _ _
              refine hKK _ _ (Met.intro (hJJ _ _ ?_))
              (repeat apply Exists.intro)
              refine ⟨?_, rfl⟩
              refine ⟨wr.heap.size, wr.heap.size + 1, f', c', rfl, rfl, rfl, rfl, (by omega), (by omega), (by first | omega | (simp; done)), ?_, ?_, ?_, ?_⟩
              · show Below _ _ _
                repeat' (first | with_reducible exact Below.refl wr.heap.size wr | (with_reducible refine Below.rowB ?_ (by first | omega | (simp; done) | (simp; omega))) | with_reducible refine Below.setCell ?_ (by first | omega | (simp; done) | (simp; omega)) _ | with_reducible refine bel_alloc ?_ _ | with_reducible refine Below.drew ?_ | with_reducible refine bel_trans ?_ hb20)
              · show BoxAt _ _ _ _
                repeat' (first | (with_reducible refine BoxAt.newAt _ _ _ _ (by (simp; done))) | with_reducible refine BoxAt.putAny #[.int .i64 0, .int .i64 0, .bool false, .bool false, .bool false, .bool false, .bool false, .int .i64 0, .int .i64 0] ?_ rfl | (with_reducible refine BoxAt.row ?_ (by first | with_reducible assumption | omega | (simp; done) | (simp; omega))) | with_reducible refine BoxAt.alloc ?_ _ | with_reducible refine BoxAt.drew ?_ | with_reducible refine BoxAt.below ?_ hb20)
              · show BoxAt _ _ _ _
                repeat' (first | (with_reducible refine BoxAt.newAt _ _ _ _ (by (simp; done))) | with_reducible refine BoxAt.putAny #[.int .i64 0, .int .i64 0, .int .i64 0, .bool false, .int .i64 0] ?_ rfl | (with_reducible refine BoxAt.row ?_ (by first | with_reducible assumption | omega | (simp; done) | (simp; omega))) | with_reducible refine BoxAt.alloc ?_ _ | with_reducible refine BoxAt.drew ?_ | with_reducible refine BoxAt.below ?_ hb20)
              · show OwnI _ _ _ _
                have hO21 := OwnI.mono hO20 (base' := wr.heap.size + 1 + 1) (by first | omega | (simp; done))
                refine OwnI.mono (base := wr.heap.size + 1 + 1) ?_ (by omega)
                repeat' (first | with_reducible exact hO21 | (with_reducible refine OwnI.rowHi hO21 ?_ (by omega)) | (with_reducible refine OwnI.row ?_ (by first | omega | (simp; done) | (simp; omega))) | with_reducible refine OwnI.other ?_ _ _ (by first | with_reducible assumption | (simp; done) | (simp; omega)) | with_reducible refine OwnI.alloc ?_ _ | with_reducible refine OwnI.drew ?_)
            refine AllReadyH.cons (o := ⟨some 8, _, _, _, _, _⟩) rfl (fun K hK => ?_) AllReadyH.nil
            go_simp
            refine hK.out _ _ ?_ (fun hS' => ?_)
            · (exact ⟨(by repeat' (first | with_reducible exact Pk | with_reducible exact hS.1 | with_reducible refine BoxAt.row ?_ (by first | omega | (simp; done) | (simp; omega)) | with_reducible refine BoxAt.alloc ?_ _ | with_reducible refine BoxAt.drew ?_ | with_reducible refine BoxAt.below ?_ hb20)), (by repeat' (first | with_reducible exact hpkk | with_reducible exact hS.2 | with_reducible refine cell_keep ?_ _ | with_reducible refine cell_drew ?_ | with_reducible refine cell_row (by first | omega | (simp; done) | (simp; omega)) ?_ | refine keepc hb20 ?_))⟩)
            clear hK K hS
            have hS := hS'
            clear hS'
            try simp only [Act.put, List.setIfInBounds_toArray, List.set_cons_zero, List.set_cons_succ]
            refine wpAnyH_ready (rs := [13, 21]) (by kernel_rfl) (by simp) ?_
            refine AllReadyH.cons (o := ⟨some 75, _, _, _, _, _⟩) rfl (fun K hK => ?_) ?_
            · go_simp
              refine (HWI.out _).mono ?_
              rintro e w15 ⟨rfl, rfl⟩
              refine hK.out _ _ ?_ (fun hS' => ?_)
              · (exact ⟨(by repeat' (first | with_reducible exact Pk | with_reducible exact hS.1 | with_reducible refine BoxAt.row ?_ (by first | omega | (simp; done) | (simp; omega)) | with_reducible refine BoxAt.alloc ?_ _ | with_reducible refine BoxAt.drew ?_ | with_reducible refine BoxAt.below ?_ hb20)), (by repeat' (first | with_reducible exact hpkk | with_reducible exact hS.2 | with_reducible refine cell_keep ?_ _ | with_reducible refine cell_drew ?_ | with_reducible refine cell_row (by first | omega | (simp; done) | (simp; omega)) ?_ | refine keepc hb20 ?_))⟩)
              clear hK K hS
              have hS := hS'
              clear hS'
              try simp only [Act.put, List.setIfInBounds_toArray, List.set_cons_zero, List.set_cons_succ]
              refine wpAnyH_ready (rs := [15, 21]) (by kernel_rfl) (by simp) ?_
              refine AllReadyH.cons (o := ⟨some 77, _, _, _, _, _⟩) rfl (fun K hK => ?_) ?_
              · go_simp
                refine (HT.out _ (HXc.out.below (by go_grown))).mono ?_
                rintro e w20 ⟨f', c', rfl, hO20, hb20⟩
                have hsz20 := hb20.size
                simp at hsz20
                refine hK.out _ _ ?_ (fun hS' => ?_)
                · (exact ⟨(by repeat' (first | with_reducible exact Pk | with_reducible exact hS.1 | with_reducible refine BoxAt.row ?_ (by first | omega | (simp; done) | (simp; omega)) | with_reducible refine BoxAt.alloc ?_ _ | with_reducible refine BoxAt.drew ?_ | with_reducible refine BoxAt.below ?_ hb20)), (by repeat' (first | with_reducible exact hpkk | with_reducible exact hS.2 | with_reducible refine cell_keep ?_ _ | with_reducible refine cell_drew ?_ | with_reducible refine cell_row (by first | omega | (simp; done) | (simp; omega)) ?_ | refine keepc hb20 ?_))⟩)
                clear hK K hS
                have hS := hS'
                clear hS'
                try simp only [Act.put, List.setIfInBounds_toArray, List.set_cons_zero, List.set_cons_succ]
                refine tkR 16 61 rfl hS (fun w' hSw => by have sP0 := (hSw.1).get 0 (.slice f l c) rfl; have sP2 := (hSw.1).get 2 (.slice (some ⟨gb, go, none⟩) n d) rfl; have sP3 := (hSw.1).get 3 (.bool on1) rfl; have sP4 := (hSw.1).get 4 (.int .i64 of1) rfl; have sP5 := (hSw.1).get 5 (.int .i64 og1) rfl; have sP6 := (hSw.1).get 6 (.bool true) rfl; have sP7 := (hSw.1).get 7 (.int .i64 tf) rfl; have sP8 := (hSw.1).get 8 (.int .i64 tg) rfl; have sG := hSw.2; clear hSw; go_simp; try with_reducible rfl) ?_
                simp only [pA, pB, pC]
                refine tkR 17 78 rfl hS (fun w' hSw => by have sP0 := (hSw.1).get 0 (.slice f l c) rfl; have sP2 := (hSw.1).get 2 (.slice (some ⟨gb, go, none⟩) n d) rfl; have sP3 := (hSw.1).get 3 (.bool on1) rfl; have sP4 := (hSw.1).get 4 (.int .i64 of1) rfl; have sP5 := (hSw.1).get 5 (.int .i64 og1) rfl; have sP6 := (hSw.1).get 6 (.bool true) rfl; have sP7 := (hSw.1).get 7 (.int .i64 tf) rfl; have sP8 := (hSw.1).get 8 (.int .i64 tg) rfl; have sG := hSw.2; clear hSw; go_simp; try with_reducible rfl) ?_
                simp only [pA, pB, pC]
                refine tkR 18 79 rfl hS (fun w' hSw => by have sP0 := (hSw.1).get 0 (.slice f l c) rfl; have sP2 := (hSw.1).get 2 (.slice (some ⟨gb, go, none⟩) n d) rfl; have sP3 := (hSw.1).get 3 (.bool on1) rfl; have sP4 := (hSw.1).get 4 (.int .i64 of1) rfl; have sP5 := (hSw.1).get 5 (.int .i64 og1) rfl; have sP6 := (hSw.1).get 6 (.bool true) rfl; have sP7 := (hSw.1).get 7 (.int .i64 tf) rfl; have sP8 := (hSw.1).get 8 (.int .i64 tg) rfl; have sG := hSw.2; clear hSw; go_simp; try with_reducible rfl) ?_
                simp only [pA, pB, pC]
                refine tkR 19 80 rfl hS (fun w' hSw => by have sP0 := (hSw.1).get 0 (.slice f l c) rfl; have sP2 := (hSw.1).get 2 (.slice (some ⟨gb, go, none⟩) n d) rfl; have sP3 := (hSw.1).get 3 (.bool on1) rfl; have sP4 := (hSw.1).get 4 (.int .i64 of1) rfl; have sP5 := (hSw.1).get 5 (.int .i64 og1) rfl; have sP6 := (hSw.1).get 6 (.bool true) rfl; have sP7 := (hSw.1).get 7 (.int .i64 tf) rfl; have sP8 := (hSw.1).get 8 (.int .i64 tg) rfl; have sG := hSw.2; clear hSw; go_simp; try with_reducible rfl) ?_
                simp only [pA, pB, pC]
                refine tkR 20 81 rfl hS (fun w' hSw => by have sP0 := (hSw.1).get 0 (.slice f l c) rfl; have sP2 := (hSw.1).get 2 (.slice (some ⟨gb, go, none⟩) n d) rfl; have sP3 := (hSw.1).get 3 (.bool on1) rfl; have sP4 := (hSw.1).get 4 (.int .i64 of1) rfl; have sP5 := (hSw.1).get 5 (.int .i64 og1) rfl; have sP6 := (hSw.1).get 6 (.bool true) rfl; have sP7 := (hSw.1).get 7 (.int .i64 tf) rfl; have sP8 := (hSw.1).get 8 (.int .i64 tg) rfl; have sG := hSw.2; clear hSw; go_simp; try with_reducible rfl) ?_
                simp only [pA, pB, pC]
                refine wpAnyH_ready (rs := [21]) (by kernel_rfl) (by simp) ?_
                refine AllReadyH.cons (o := ⟨some 7, _, _, _, _, _⟩) rfl (fun K hK => ?_) AllReadyH.nil
                go_simp
                refine hK.out _ _ ?_ (fun hS' => ?_)
                · (exact ⟨(by repeat' (first | with_reducible exact Pk | with_reducible exact hS.1 | with_reducible refine BoxAt.row ?_ (by first | omega | (simp; done) | (simp; omega)) | with_reducible refine BoxAt.alloc ?_ _ | with_reducible refine BoxAt.drew ?_ | with_reducible refine BoxAt.below ?_ hb20)), (by repeat' (first | with_reducible exact hpkk | with_reducible exact hS.2 | with_reducible refine cell_keep ?_ _ | with_reducible refine cell_drew ?_ | with_reducible refine cell_row (by first | omega | (simp; done) | (simp; omega)) ?_ | refine keepc hb20 ?_))⟩)
                clear hK K hS
                have hS := hS'
                clear hS'
                try simp only [Act.put, List.setIfInBounds_toArray, List.set_cons_zero, List.set_cons_succ]
                refine wpAnyH_ready (rs := [23]) (by kernel_rfl) (by simp) ?_
                refine AllReadyH.cons (o := ⟨none, _, _, _, _, _⟩) rfl (fun K hK => ?_) AllReadyH.nil
                refine step_storeB rfl 40 _ _ rfl _ _ z9 40 rfl rfl (by kernel_rfl) rfl (by simp [Value.oneCell']) (by repeat' (first | (with_reducible refine BoxAt.newAt _ _ _ _ (by (simp; done))) | with_reducible refine BoxAt.putAny #[] ?_ rfl | (with_reducible refine BoxAt.row ?_ (by first | with_reducible assumption | omega | (simp; done) | (simp; omega))) | with_reducible refine BoxAt.alloc ?_ _ | with_reducible refine BoxAt.drew ?_ | with_reducible refine BoxAt.below ?_ hb20)) ?_
                refine hK.out _ _ ?_ (fun hS' => ?_)
                · (exact ⟨(by repeat' (first | with_reducible exact Pk | with_reducible exact hS.1 | with_reducible refine BoxAt.row ?_ (by first | omega | (simp; done) | (simp; omega)) | with_reducible refine BoxAt.alloc ?_ _ | with_reducible refine BoxAt.drew ?_ | with_reducible refine BoxAt.below ?_ hb20)), (by repeat' (first | with_reducible exact hpkk | with_reducible exact hS.2 | with_reducible refine cell_keep ?_ _ | with_reducible refine cell_drew ?_ | with_reducible refine cell_row (by first | omega | (simp; done) | (simp; omega)) ?_ | refine keepc hb20 ?_))⟩)
                clear hK K hS
                have hS := hS'
                clear hS'
                try simp only [Act.put]
                refine wpAnyH_ready (rs := [24]) (by kernel_rfl) (by simp) ?_
                refine AllReadyH.cons (o := ⟨none, _, _, _, _, _⟩) rfl (fun K hK => ?_) AllReadyH.nil
                refine step_storeB rfl 42 _ _ rfl _ _ z5 42 rfl rfl (by kernel_rfl) rfl (by simp [Value.oneCell']) (by repeat' (first | (with_reducible refine BoxAt.newAt _ _ _ _ (by (simp; done))) | with_reducible refine BoxAt.putAny #[] ?_ rfl | (with_reducible refine BoxAt.row ?_ (by first | with_reducible assumption | omega | (simp; done) | (simp; omega))) | with_reducible refine BoxAt.alloc ?_ _ | with_reducible refine BoxAt.drew ?_ | with_reducible refine BoxAt.below ?_ hb20)) ?_
                refine hK.out _ _ ?_ (fun hS' => ?_)
                · (exact ⟨(by repeat' (first | with_reducible exact Pk | with_reducible exact hS.1 | with_reducible refine BoxAt.row ?_ (by first | omega | (simp; done) | (simp; omega)) | with_reducible refine BoxAt.alloc ?_ _ | with_reducible refine BoxAt.drew ?_ | with_reducible refine BoxAt.below ?_ hb20)), (by repeat' (first | with_reducible exact hpkk | with_reducible exact hS.2 | with_reducible refine cell_keep ?_ _ | with_reducible refine cell_drew ?_ | with_reducible refine cell_row (by first | omega | (simp; done) | (simp; omega)) ?_ | refine keepc hb20 ?_))⟩)
                clear hK K hS
                have hS := hS'
                clear hS'
                try simp only [Act.put]
                refine tkR 25 9 rfl hS (fun w' hSw => by have sP0 := (hSw.1).get 0 (.slice f l c) rfl; have sP2 := (hSw.1).get 2 (.slice (some ⟨gb, go, none⟩) n d) rfl; have sP3 := (hSw.1).get 3 (.bool on1) rfl; have sP4 := (hSw.1).get 4 (.int .i64 of1) rfl; have sP5 := (hSw.1).get 5 (.int .i64 og1) rfl; have sP6 := (hSw.1).get 6 (.bool true) rfl; have sP7 := (hSw.1).get 7 (.int .i64 tf) rfl; have sP8 := (hSw.1).get 8 (.int .i64 tg) rfl; have sG := hSw.2; clear hSw; go_simp; try with_reducible rfl) ?_
                simp only [pA, pB, pC]
                refine tkR 26 10 rfl hS (fun w' hSw => by have sP0 := (hSw.1).get 0 (.slice f l c) rfl; have sP2 := (hSw.1).get 2 (.slice (some ⟨gb, go, none⟩) n d) rfl; have sP3 := (hSw.1).get 3 (.bool on1) rfl; have sP4 := (hSw.1).get 4 (.int .i64 of1) rfl; have sP5 := (hSw.1).get 5 (.int .i64 og1) rfl; have sP6 := (hSw.1).get 6 (.bool true) rfl; have sP7 := (hSw.1).get 7 (.int .i64 tf) rfl; have sP8 := (hSw.1).get 8 (.int .i64 tg) rfl; have sG := hSw.2; clear hSw; go_simp; try with_reducible rfl) ?_
                simp only [pA, pB, pC]
                refine wpAnyH_done (by kernel_rfl) ?_ _
                show KK _ _
                refine hKK _ _ (Met.intro (hJJ _ _ ?_))
                (repeat apply Exists.intro)
                refine ⟨?_, rfl⟩
                refine ⟨w20.heap.size, wr.heap.size, f', c', rfl, rfl, rfl, rfl, (by omega), (by omega), (by first | omega | (simp; done)), ?_, ?_, ?_, ?_⟩
                · show Below _ _ _
                  repeat' (first | with_reducible exact Below.refl wr.heap.size wr | (with_reducible refine Below.rowB ?_ (by first | omega | (simp; done) | (simp; omega))) | with_reducible refine Below.setCell ?_ (by first | omega | (simp; done) | (simp; omega)) _ | with_reducible refine bel_alloc ?_ _ | with_reducible refine Below.drew ?_ | with_reducible refine bel_trans ?_ hb20)
                · show BoxAt _ _ _ _
                  repeat' (first | (with_reducible refine BoxAt.newAt _ _ _ _ (by (simp; done))) | with_reducible refine BoxAt.putAny #[.int .i64 0, .int .i64 0, .bool false, .bool false, .bool false, .bool false, .bool false, .int .i64 0, .int .i64 0] ?_ rfl | (with_reducible refine BoxAt.row ?_ (by first | with_reducible assumption | omega | (simp; done) | (simp; omega))) | with_reducible refine BoxAt.alloc ?_ _ | with_reducible refine BoxAt.drew ?_ | with_reducible refine BoxAt.below ?_ hb20)
                · show BoxAt _ _ _ _
                  repeat' (first | (with_reducible refine BoxAt.newAt _ _ _ _ (by (simp; done))) | with_reducible refine BoxAt.putAny #[.int .i64 0, .int .i64 0, .int .i64 0, .bool false, .int .i64 0] ?_ rfl | (with_reducible refine BoxAt.row ?_ (by first | with_reducible assumption | omega | (simp; done) | (simp; omega))) | with_reducible refine BoxAt.alloc ?_ _ | with_reducible refine BoxAt.drew ?_ | with_reducible refine BoxAt.below ?_ hb20)
                · show OwnI _ _ _ _
                  have hO21 := OwnI.mono hO20 (base' := wr.heap.size + 1) (by first | omega | (simp; done))
                  refine OwnI.mono (base := wr.heap.size + 1) ?_ (by omega)
                  repeat' (first | with_reducible exact hO21 | (with_reducible refine OwnI.rowHi hO21 ?_ (by omega)) | (with_reducible refine OwnI.row ?_ (by first | omega | (simp; done) | (simp; omega))) | with_reducible refine OwnI.other ?_ _ _ (by first | with_reducible assumption | (simp; done) | (simp; omega)) | with_reducible refine OwnI.alloc ?_ _ | with_reducible refine OwnI.drew ?_)
              refine AllReadyH.cons (o := ⟨some 7, _, _, _, _, _⟩) rfl (fun K hK => ?_) AllReadyH.nil
              go_simp
              refine hK.out _ _ ?_ (fun hS' => ?_)
              · (exact ⟨(by repeat' (first | with_reducible exact Pk | with_reducible exact hS.1 | with_reducible refine BoxAt.row ?_ (by first | omega | (simp; done) | (simp; omega)) | with_reducible refine BoxAt.alloc ?_ _ | with_reducible refine BoxAt.drew ?_ | with_reducible refine BoxAt.below ?_ hb20)), (by repeat' (first | with_reducible exact hpkk | with_reducible exact hS.2 | with_reducible refine cell_keep ?_ _ | with_reducible refine cell_drew ?_ | with_reducible refine cell_row (by first | omega | (simp; done) | (simp; omega)) ?_ | refine keepc hb20 ?_))⟩)
              clear hK K hS
              have hS := hS'
              clear hS'
              try simp only [Act.put, List.setIfInBounds_toArray, List.set_cons_zero, List.set_cons_succ]
              refine wpAnyH_ready (rs := [15]) (by kernel_rfl) (by simp) ?_
              refine AllReadyH.cons (o := ⟨some 77, _, _, _, _, _⟩) rfl (fun K hK => ?_) AllReadyH.nil
              go_simp
              refine (HT.out _ (HXc.out.below (by go_grown))).mono ?_
              rintro e w20 ⟨f', c', rfl, hO20, hb20⟩
              have hsz20 := hb20.size
              simp at hsz20
              refine hK.out _ _ ?_ (fun hS' => ?_)
              · (exact ⟨(by repeat' (first | with_reducible exact Pk | with_reducible exact hS.1 | with_reducible refine BoxAt.row ?_ (by first | omega | (simp; done) | (simp; omega)) | with_reducible refine BoxAt.alloc ?_ _ | with_reducible refine BoxAt.drew ?_ | with_reducible refine BoxAt.below ?_ hb20)), (by repeat' (first | with_reducible exact hpkk | with_reducible exact hS.2 | with_reducible refine cell_keep ?_ _ | with_reducible refine cell_drew ?_ | with_reducible refine cell_row (by first | omega | (simp; done) | (simp; omega)) ?_ | refine keepc hb20 ?_))⟩)
              clear hK K hS
              have hS := hS'
              clear hS'
              try simp only [Act.put, List.setIfInBounds_toArray, List.set_cons_zero, List.set_cons_succ]
              refine tkR 16 61 rfl hS (fun w' hSw => by have sP0 := (hSw.1).get 0 (.slice f l c) rfl; have sP2 := (hSw.1).get 2 (.slice (some ⟨gb, go, none⟩) n d) rfl; have sP3 := (hSw.1).get 3 (.bool on1) rfl; have sP4 := (hSw.1).get 4 (.int .i64 of1) rfl; have sP5 := (hSw.1).get 5 (.int .i64 og1) rfl; have sP6 := (hSw.1).get 6 (.bool true) rfl; have sP7 := (hSw.1).get 7 (.int .i64 tf) rfl; have sP8 := (hSw.1).get 8 (.int .i64 tg) rfl; have sG := hSw.2; clear hSw; go_simp; try with_reducible rfl) ?_
              simp only [pA, pB, pC]
              refine tkR 17 78 rfl hS (fun w' hSw => by have sP0 := (hSw.1).get 0 (.slice f l c) rfl; have sP2 := (hSw.1).get 2 (.slice (some ⟨gb, go, none⟩) n d) rfl; have sP3 := (hSw.1).get 3 (.bool on1) rfl; have sP4 := (hSw.1).get 4 (.int .i64 of1) rfl; have sP5 := (hSw.1).get 5 (.int .i64 og1) rfl; have sP6 := (hSw.1).get 6 (.bool true) rfl; have sP7 := (hSw.1).get 7 (.int .i64 tf) rfl; have sP8 := (hSw.1).get 8 (.int .i64 tg) rfl; have sG := hSw.2; clear hSw; go_simp; try with_reducible rfl) ?_
              simp only [pA, pB, pC]
              refine tkR 18 79 rfl hS (fun w' hSw => by have sP0 := (hSw.1).get 0 (.slice f l c) rfl; have sP2 := (hSw.1).get 2 (.slice (some ⟨gb, go, none⟩) n d) rfl; have sP3 := (hSw.1).get 3 (.bool on1) rfl; have sP4 := (hSw.1).get 4 (.int .i64 of1) rfl; have sP5 := (hSw.1).get 5 (.int .i64 og1) rfl; have sP6 := (hSw.1).get 6 (.bool true) rfl; have sP7 := (hSw.1).get 7 (.int .i64 tf) rfl; have sP8 := (hSw.1).get 8 (.int .i64 tg) rfl; have sG := hSw.2; clear hSw; go_simp; try with_reducible rfl) ?_
              simp only [pA, pB, pC]
              refine tkR 19 80 rfl hS (fun w' hSw => by have sP0 := (hSw.1).get 0 (.slice f l c) rfl; have sP2 := (hSw.1).get 2 (.slice (some ⟨gb, go, none⟩) n d) rfl; have sP3 := (hSw.1).get 3 (.bool on1) rfl; have sP4 := (hSw.1).get 4 (.int .i64 of1) rfl; have sP5 := (hSw.1).get 5 (.int .i64 og1) rfl; have sP6 := (hSw.1).get 6 (.bool true) rfl; have sP7 := (hSw.1).get 7 (.int .i64 tf) rfl; have sP8 := (hSw.1).get 8 (.int .i64 tg) rfl; have sG := hSw.2; clear hSw; go_simp; try with_reducible rfl) ?_
              simp only [pA, pB, pC]
              refine tkR 20 81 rfl hS (fun w' hSw => by have sP0 := (hSw.1).get 0 (.slice f l c) rfl; have sP2 := (hSw.1).get 2 (.slice (some ⟨gb, go, none⟩) n d) rfl; have sP3 := (hSw.1).get 3 (.bool on1) rfl; have sP4 := (hSw.1).get 4 (.int .i64 of1) rfl; have sP5 := (hSw.1).get 5 (.int .i64 og1) rfl; have sP6 := (hSw.1).get 6 (.bool true) rfl; have sP7 := (hSw.1).get 7 (.int .i64 tf) rfl; have sP8 := (hSw.1).get 8 (.int .i64 tg) rfl; have sG := hSw.2; clear hSw; go_simp; try with_reducible rfl) ?_
              simp only [pA, pB, pC]
              refine wpAnyH_ready (rs := [23]) (by kernel_rfl) (by simp) ?_
              refine AllReadyH.cons (o := ⟨none, _, _, _, _, _⟩) rfl (fun K hK => ?_) AllReadyH.nil
              refine step_storeB rfl 40 _ _ rfl _ _ z9 40 rfl rfl (by kernel_rfl) rfl (by simp [Value.oneCell']) (by repeat' (first | (with_reducible refine BoxAt.newAt _ _ _ _ (by (simp; done))) | with_reducible refine BoxAt.putAny #[] ?_ rfl | (with_reducible refine BoxAt.row ?_ (by first | with_reducible assumption | omega | (simp; done) | (simp; omega))) | with_reducible refine BoxAt.alloc ?_ _ | with_reducible refine BoxAt.drew ?_ | with_reducible refine BoxAt.below ?_ hb20)) ?_
              refine hK.out _ _ ?_ (fun hS' => ?_)
              · (exact ⟨(by repeat' (first | with_reducible exact Pk | with_reducible exact hS.1 | with_reducible refine BoxAt.row ?_ (by first | omega | (simp; done) | (simp; omega)) | with_reducible refine BoxAt.alloc ?_ _ | with_reducible refine BoxAt.drew ?_ | with_reducible refine BoxAt.below ?_ hb20)), (by repeat' (first | with_reducible exact hpkk | with_reducible exact hS.2 | with_reducible refine cell_keep ?_ _ | with_reducible refine cell_drew ?_ | with_reducible refine cell_row (by first | omega | (simp; done) | (simp; omega)) ?_ | refine keepc hb20 ?_))⟩)
              clear hK K hS
              have hS := hS'
              clear hS'
              try simp only [Act.put]
              refine wpAnyH_ready (rs := [24]) (by kernel_rfl) (by simp) ?_
              refine AllReadyH.cons (o := ⟨none, _, _, _, _, _⟩) rfl (fun K hK => ?_) AllReadyH.nil
              refine step_storeB rfl 42 _ _ rfl _ _ z5 42 rfl rfl (by kernel_rfl) rfl (by simp [Value.oneCell']) (by repeat' (first | (with_reducible refine BoxAt.newAt _ _ _ _ (by (simp; done))) | with_reducible refine BoxAt.putAny #[] ?_ rfl | (with_reducible refine BoxAt.row ?_ (by first | with_reducible assumption | omega | (simp; done) | (simp; omega))) | with_reducible refine BoxAt.alloc ?_ _ | with_reducible refine BoxAt.drew ?_ | with_reducible refine BoxAt.below ?_ hb20)) ?_
              refine hK.out _ _ ?_ (fun hS' => ?_)
              · (exact ⟨(by repeat' (first | with_reducible exact Pk | with_reducible exact hS.1 | with_reducible refine BoxAt.row ?_ (by first | omega | (simp; done) | (simp; omega)) | with_reducible refine BoxAt.alloc ?_ _ | with_reducible refine BoxAt.drew ?_ | with_reducible refine BoxAt.below ?_ hb20)), (by repeat' (first | with_reducible exact hpkk | with_reducible exact hS.2 | with_reducible refine cell_keep ?_ _ | with_reducible refine cell_drew ?_ | with_reducible refine cell_row (by first | omega | (simp; done) | (simp; omega)) ?_ | refine keepc hb20 ?_))⟩)
              clear hK K hS
              have hS := hS'
              clear hS'
              try simp only [Act.put]
              refine tkR 25 9 rfl hS (fun w' hSw => by have sP0 := (hSw.1).get 0 (.slice f l c) rfl; have sP2 := (hSw.1).get 2 (.slice (some ⟨gb, go, none⟩) n d) rfl; have sP3 := (hSw.1).get 3 (.bool on1) rfl; have sP4 := (hSw.1).get 4 (.int .i64 of1) rfl; have sP5 := (hSw.1).get 5 (.int .i64 og1) rfl; have sP6 := (hSw.1).get 6 (.bool true) rfl; have sP7 := (hSw.1).get 7 (.int .i64 tf) rfl; have sP8 := (hSw.1).get 8 (.int .i64 tg) rfl; have sG := hSw.2; clear hSw; go_simp; try with_reducible rfl) ?_
              simp only [pA, pB, pC]
              refine tkR 26 10 rfl hS (fun w' hSw => by have sP0 := (hSw.1).get 0 (.slice f l c) rfl; have sP2 := (hSw.1).get 2 (.slice (some ⟨gb, go, none⟩) n d) rfl; have sP3 := (hSw.1).get 3 (.bool on1) rfl; have sP4 := (hSw.1).get 4 (.int .i64 of1) rfl; have sP5 := (hSw.1).get 5 (.int .i64 og1) rfl; have sP6 := (hSw.1).get 6 (.bool true) rfl; have sP7 := (hSw.1).get 7 (.int .i64 tf) rfl; have sP8 := (hSw.1).get 8 (.int .i64 tg) rfl; have sG := hSw.2; clear hSw; go_simp; try with_reducible rfl) ?_
              simp only [pA, pB, pC]
              refine wpAnyH_done (by kernel_rfl) ?_ _
              show KK _ _
              refine hKK _ _ (Met.intro (hJJ _ _ ?_))
              (repeat apply Exists.intro)
              refine ⟨?_, rfl⟩
              refine ⟨wr.heap.size + 1, wr.heap.size, f', c', rfl, rfl, rfl, rfl, (by omega), (by omega), (by first | omega | (simp; done)), ?_, ?_, ?_, ?_⟩
              · show Below _ _ _
                repeat' (first | with_reducible exact Below.refl wr.heap.size wr | (with_reducible refine Below.rowB ?_ (by first | omega | (simp; done) | (simp; omega))) | with_reducible refine Below.setCell ?_ (by first | omega | (simp; done) | (simp; omega)) _ | with_reducible refine bel_alloc ?_ _ | with_reducible refine Below.drew ?_ | with_reducible refine bel_trans ?_ hb20)
              · show BoxAt _ _ _ _
                repeat' (first | (with_reducible refine BoxAt.newAt _ _ _ _ (by (simp; done))) | with_reducible refine BoxAt.putAny #[.int .i64 0, .int .i64 0, .bool false, .bool false, .bool false, .bool false, .bool false, .int .i64 0, .int .i64 0] ?_ rfl | (with_reducible refine BoxAt.row ?_ (by first | with_reducible assumption | omega | (simp; done) | (simp; omega))) | with_reducible refine BoxAt.alloc ?_ _ | with_reducible refine BoxAt.drew ?_ | with_reducible refine BoxAt.below ?_ hb20)
              · show BoxAt _ _ _ _
                repeat' (first | (with_reducible refine BoxAt.newAt _ _ _ _ (by (simp; done))) | with_reducible refine BoxAt.putAny #[.int .i64 0, .int .i64 0, .int .i64 0, .bool false, .int .i64 0] ?_ rfl | (with_reducible refine BoxAt.row ?_ (by first | with_reducible assumption | omega | (simp; done) | (simp; omega))) | with_reducible refine BoxAt.alloc ?_ _ | with_reducible refine BoxAt.drew ?_ | with_reducible refine BoxAt.below ?_ hb20)
              · show OwnI _ _ _ _
                have hO21 := OwnI.mono hO20 (base' := wr.heap.size + 1 + 1) (by first | omega | (simp; done))
                refine OwnI.mono (base := wr.heap.size + 1 + 1) ?_ (by omega)
                repeat' (first | with_reducible exact hO21 | (with_reducible refine OwnI.rowHi hO21 ?_ (by omega)) | (with_reducible refine OwnI.row ?_ (by first | omega | (simp; done) | (simp; omega))) | with_reducible refine OwnI.other ?_ _ _ (by first | with_reducible assumption | (simp; done) | (simp; omega)) | with_reducible refine OwnI.alloc ?_ _ | with_reducible refine OwnI.drew ?_)
            refine AllReadyH.cons (o := ⟨some 7, _, _, _, _, _⟩) rfl (fun K hK => ?_) AllReadyH.nil
            go_simp
            refine hK.out _ _ ?_ (fun hS' => ?_)
            · (exact ⟨(by repeat' (first | with_reducible exact Pk | with_reducible exact hS.1 | with_reducible refine BoxAt.row ?_ (by first | omega | (simp; done) | (simp; omega)) | with_reducible refine BoxAt.alloc ?_ _ | with_reducible refine BoxAt.drew ?_ | with_reducible refine BoxAt.below ?_ hb20)), (by repeat' (first | with_reducible exact hpkk | with_reducible exact hS.2 | with_reducible refine cell_keep ?_ _ | with_reducible refine cell_drew ?_ | with_reducible refine cell_row (by first | omega | (simp; done) | (simp; omega)) ?_ | refine keepc hb20 ?_))⟩)
            clear hK K hS
            have hS := hS'
            clear hS'
            try simp only [Act.put, List.setIfInBounds_toArray, List.set_cons_zero, List.set_cons_succ]
            refine wpAnyH_ready (rs := [13]) (by kernel_rfl) (by simp) ?_
            refine AllReadyH.cons (o := ⟨some 75, _, _, _, _, _⟩) rfl (fun K hK => ?_) AllReadyH.nil
            go_simp
            refine (HWI.out _).mono ?_
            rintro e w15 ⟨rfl, rfl⟩
            refine hK.out _ _ ?_ (fun hS' => ?_)
            · (exact ⟨(by repeat' (first | with_reducible exact Pk | with_reducible exact hS.1 | with_reducible refine BoxAt.row ?_ (by first | omega | (simp; done) | (simp; omega)) | with_reducible refine BoxAt.alloc ?_ _ | with_reducible refine BoxAt.drew ?_ | with_reducible refine BoxAt.below ?_ hb20)), (by repeat' (first | with_reducible exact hpkk | with_reducible exact hS.2 | with_reducible refine cell_keep ?_ _ | with_reducible refine cell_drew ?_ | with_reducible refine cell_row (by first | omega | (simp; done) | (simp; omega)) ?_ | refine keepc hb20 ?_))⟩)
            clear hK K hS
            have hS := hS'
            clear hS'
            try simp only [Act.put, List.setIfInBounds_toArray, List.set_cons_zero, List.set_cons_succ]
            refine wpAnyH_ready (rs := [15]) (by kernel_rfl) (by simp) ?_
            refine AllReadyH.cons (o := ⟨some 77, _, _, _, _, _⟩) rfl (fun K hK => ?_) AllReadyH.nil
            go_simp
            refine (HT.out _ (HXc.out.below (by go_grown))).mono ?_
            rintro e w20 ⟨f', c', rfl, hO20, hb20⟩
            have hsz20 := hb20.size
            simp at hsz20
            refine hK.out _ _ ?_ (fun hS' => ?_)
            · (exact ⟨(by repeat' (first | with_reducible exact Pk | with_reducible exact hS.1 | with_reducible refine BoxAt.row ?_ (by first | omega | (simp; done) | (simp; omega)) | with_reducible refine BoxAt.alloc ?_ _ | with_reducible refine BoxAt.drew ?_ | with_reducible refine BoxAt.below ?_ hb20)), (by repeat' (first | with_reducible exact hpkk | with_reducible exact hS.2 | with_reducible refine cell_keep ?_ _ | with_reducible refine cell_drew ?_ | with_reducible refine cell_row (by first | omega | (simp; done) | (simp; omega)) ?_ | refine keepc hb20 ?_))⟩)
            clear hK K hS
            have hS := hS'
            clear hS'
            try simp only [Act.put, List.setIfInBounds_toArray, List.set_cons_zero, List.set_cons_succ]
            refine tkR 16 61 rfl hS (fun w' hSw => by have sP0 := (hSw.1).get 0 (.slice f l c) rfl; have sP2 := (hSw.1).get 2 (.slice (some ⟨gb, go, none⟩) n d) rfl; have sP3 := (hSw.1).get 3 (.bool on1) rfl; have sP4 := (hSw.1).get 4 (.int .i64 of1) rfl; have sP5 := (hSw.1).get 5 (.int .i64 og1) rfl; have sP6 := (hSw.1).get 6 (.bool true) rfl; have sP7 := (hSw.1).get 7 (.int .i64 tf) rfl; have sP8 := (hSw.1).get 8 (.int .i64 tg) rfl; have sG := hSw.2; clear hSw; go_simp; try with_reducible rfl) ?_
            simp only [pA, pB, pC]
            refine tkR 17 78 rfl hS (fun w' hSw => by have sP0 := (hSw.1).get 0 (.slice f l c) rfl; have sP2 := (hSw.1).get 2 (.slice (some ⟨gb, go, none⟩) n d) rfl; have sP3 := (hSw.1).get 3 (.bool on1) rfl; have sP4 := (hSw.1).get 4 (.int .i64 of1) rfl; have sP5 := (hSw.1).get 5 (.int .i64 og1) rfl; have sP6 := (hSw.1).get 6 (.bool true) rfl; have sP7 := (hSw.1).get 7 (.int .i64 tf) rfl; have sP8 := (hSw.1).get 8 (.int .i64 tg) rfl; have sG := hSw.2; clear hSw; go_simp; try with_reducible rfl) ?_
            simp only [pA, pB, pC]
            refine tkR 18 79 rfl hS (fun w' hSw => by have sP0 := (hSw.1).get 0 (.slice f l c) rfl; have sP2 := (hSw.1).get 2 (.slice (some ⟨gb, go, none⟩) n d) rfl; have sP3 := (hSw.1).get 3 (.bool on1) rfl; have sP4 := (hSw.1).get 4 (.int .i64 of1) rfl; have sP5 := (hSw.1).get 5 (.int .i64 og1) rfl; have sP6 := (hSw.1).get 6 (.bool true) rfl; have sP7 := (hSw.1).get 7 (.int .i64 tf) rfl; have sP8 := (hSw.1).get 8 (.int .i64 tg) rfl; have sG := hSw.2; clear hSw; go_simp; try with_reducible rfl) ?_
            simp only [pA, pB, pC]
            refine tkR 19 80 rfl hS (fun w' hSw => by have sP0 := (hSw.1).get 0 (.slice f l c) rfl; have sP2 := (hSw.1).get 2 (.slice (some ⟨gb, go, none⟩) n d) rfl; have sP3 := (hSw.1).get 3 (.bool on1) rfl; have sP4 := (hSw.1).get 4 (.int .i64 of1) rfl; have sP5 := (hSw.1).get 5 (.int .i64 og1) rfl; have sP6 := (hSw.1).get 6 (.bool true) rfl; have sP7 := (hSw.1).get 7 (.int .i64 tf) rfl; have sP8 := (hSw.1).get 8 (.int .i64 tg) rfl; have sG := hSw.2; clear hSw; go_simp; try with_reducible rfl) ?_
            simp only [pA, pB, pC]
            refine tkR 20 81 rfl hS (fun w' hSw => by have sP0 := (hSw.1).get 0 (.slice f l c) rfl; have sP2 := (hSw.1).get 2 (.slice (some ⟨gb, go, none⟩) n d) rfl; have sP3 := (hSw.1).get 3 (.bool on1) rfl; have sP4 := (hSw.1).get 4 (.int .i64 of1) rfl; have sP5 := (hSw.1).get 5 (.int .i64 og1) rfl; have sP6 := (hSw.1).get 6 (.bool true) rfl; have sP7 := (hSw.1).get 7 (.int .i64 tf) rfl; have sP8 := (hSw.1).get 8 (.int .i64 tg) rfl; have sG := hSw.2; clear hSw; go_simp; try with_reducible rfl) ?_
            simp only [pA, pB, pC]
            refine wpAnyH_ready (rs := [23]) (by kernel_rfl) (by simp) ?_
            refine AllReadyH.cons (o := ⟨none, _, _, _, _, _⟩) rfl (fun K hK => ?_) AllReadyH.nil
            refine step_storeB rfl 40 _ _ rfl _ _ z9 40 rfl rfl (by kernel_rfl) rfl (by simp [Value.oneCell']) (by repeat' (first | (with_reducible refine BoxAt.newAt _ _ _ _ (by (simp; done))) | with_reducible refine BoxAt.putAny #[] ?_ rfl | (with_reducible refine BoxAt.row ?_ (by first | with_reducible assumption | omega | (simp; done) | (simp; omega))) | with_reducible refine BoxAt.alloc ?_ _ | with_reducible refine BoxAt.drew ?_ | with_reducible refine BoxAt.below ?_ hb20)) ?_
            refine hK.out _ _ ?_ (fun hS' => ?_)
            · (exact ⟨(by repeat' (first | with_reducible exact Pk | with_reducible exact hS.1 | with_reducible refine BoxAt.row ?_ (by first | omega | (simp; done) | (simp; omega)) | with_reducible refine BoxAt.alloc ?_ _ | with_reducible refine BoxAt.drew ?_ | with_reducible refine BoxAt.below ?_ hb20)), (by repeat' (first | with_reducible exact hpkk | with_reducible exact hS.2 | with_reducible refine cell_keep ?_ _ | with_reducible refine cell_drew ?_ | with_reducible refine cell_row (by first | omega | (simp; done) | (simp; omega)) ?_ | refine keepc hb20 ?_))⟩)
            clear hK K hS
            have hS := hS'
            clear hS'
            try simp only [Act.put]
            refine wpAnyH_ready (rs := [24]) (by kernel_rfl) (by simp) ?_
            refine AllReadyH.cons (o := ⟨none, _, _, _, _, _⟩) rfl (fun K hK => ?_) AllReadyH.nil
            refine step_storeB rfl 42 _ _ rfl _ _ z5 42 rfl rfl (by kernel_rfl) rfl (by simp [Value.oneCell']) (by repeat' (first | (with_reducible refine BoxAt.newAt _ _ _ _ (by (simp; done))) | with_reducible refine BoxAt.putAny #[] ?_ rfl | (with_reducible refine BoxAt.row ?_ (by first | with_reducible assumption | omega | (simp; done) | (simp; omega))) | with_reducible refine BoxAt.alloc ?_ _ | with_reducible refine BoxAt.drew ?_ | with_reducible refine BoxAt.below ?_ hb20)) ?_
            refine hK.out _ _ ?_ (fun hS' => ?_)
            · (exact ⟨(by repeat' (first | with_reducible exact Pk | with_reducible exact hS.1 | with_reducible refine BoxAt.row ?_ (by first | omega | (simp; done) | (simp; omega)) | with_reducible refine BoxAt.alloc ?_ _ | with_reducible refine BoxAt.drew ?_ | with_reducible refine BoxAt.below ?_ hb20)), (by repeat' (first | with_reducible exact hpkk | with_reducible exact hS.2 | with_reducible refine cell_keep ?_ _ | with_reducible refine cell_drew ?_ | with_reducible refine cell_row (by first | omega | (simp; done) | (simp; omega)) ?_ | refine keepc hb20 ?_))⟩)
            clear hK K hS
            have hS := hS'
            clear hS'
            try simp only [Act.put]
            refine tkR 25 9 rfl hS (fun w' hSw => by have sP0 := (hSw.1).get 0 (.slice f l c) rfl; have sP2 := (hSw.1).get 2 (.slice (some ⟨gb, go, none⟩) n d) rfl; have sP3 := (hSw.1).get 3 (.bool on1) rfl; have sP4 := (hSw.1).get 4 (.int .i64 of1) rfl; have sP5 := (hSw.1).get 5 (.int .i64 og1) rfl; have sP6 := (hSw.1).get 6 (.bool true) rfl; have sP7 := (hSw.1).get 7 (.int .i64 tf) rfl; have sP8 := (hSw.1).get 8 (.int .i64 tg) rfl; have sG := hSw.2; clear hSw; go_simp; try with_reducible rfl) ?_
            simp only [pA, pB, pC]
            refine tkR 26 10 rfl hS (fun w' hSw => by have sP0 := (hSw.1).get 0 (.slice f l c) rfl; have sP2 := (hSw.1).get 2 (.slice (some ⟨gb, go, none⟩) n d) rfl; have sP3 := (hSw.1).get 3 (.bool on1) rfl; have sP4 := (hSw.1).get 4 (.int .i64 of1) rfl; have sP5 := (hSw.1).get 5 (.int .i64 og1) rfl; have sP6 := (hSw.1).get 6 (.bool true) rfl; have sP7 := (hSw.1).get 7 (.int .i64 tf) rfl; have sP8 := (hSw.1).get 8 (.int .i64 tg) rfl; have sG := hSw.2; clear hSw; go_simp; try with_reducible rfl) ?_
            simp only [pA, pB, pC]
            refine wpAnyH_done (by kernel_rfl) ?_ _
            show KK _ _
            refine hKK _ _ (Met.intro (hJJ _ _ ?_))
            (repeat apply Exists.intro)
            refine ⟨?_, rfl⟩
            refine ⟨wr.heap.size + 1, wr.heap.size, f', c', rfl, rfl, rfl, rfl, (by omega), (by omega), (by first | omega | (simp; done)), ?_, ?_, ?_, ?_⟩
            · show Below _ _ _
              repeat' (first | with_reducible exact Below.refl wr.heap.size wr | (with_reducible refine Below.rowB ?_ (by first | omega | (simp; done) | (simp; omega))) | with_reducible refine Below.setCell ?_ (by first | omega | (simp; done) | (simp; omega)) _ | with_reducible refine bel_alloc ?_ _ | with_reducible refine Below.drew ?_ | with_reducible refine bel_trans ?_ hb20)
            · show BoxAt _ _ _ _
              repeat' (first | (with_reducible refine BoxAt.newAt _ _ _ _ (by (simp; done))) | with_reducible refine BoxAt.putAny #[.int .i64 0, .int .i64 0, .bool false, .bool false, .bool false, .bool false, .bool false, .int .i64 0, .int .i64 0] ?_ rfl | (with_reducible refine BoxAt.row ?_ (by first | with_reducible assumption | omega | (simp; done) | (simp; omega))) | with_reducible refine BoxAt.alloc ?_ _ | with_reducible refine BoxAt.drew ?_ | with_reducible refine BoxAt.below ?_ hb20)
            · show BoxAt _ _ _ _
              repeat' (first | (with_reducible refine BoxAt.newAt _ _ _ _ (by (simp; done))) | with_reducible refine BoxAt.putAny #[.int .i64 0, .int .i64 0, .int .i64 0, .bool false, .int .i64 0] ?_ rfl | (with_reducible refine BoxAt.row ?_ (by first | with_reducible assumption | omega | (simp; done) | (simp; omega))) | with_reducible refine BoxAt.alloc ?_ _ | with_reducible refine BoxAt.drew ?_ | with_reducible refine BoxAt.below ?_ hb20)
            · show OwnI _ _ _ _
              have hO21 := OwnI.mono hO20 (base' := wr.heap.size + 1 + 1) (by first | omega | (simp; done))
              refine OwnI.mono (base := wr.heap.size + 1 + 1) ?_ (by omega)
              repeat' (first | with_reducible exact hO21 | (with_reducible refine OwnI.rowHi hO21 ?_ (by omega)) | (with_reducible refine OwnI.row ?_ (by first | omega | (simp; done) | (simp; omega))) | with_reducible refine OwnI.other ?_ _ _ (by first | with_reducible assumption | (simp; done) | (simp; omega)) | with_reducible refine OwnI.alloc ?_ _ | with_reducible refine OwnI.drew ?_)
          case rest =>
            clear Pk hpkk hlPk hlGk
            obtain ⟨bH, bF, f', c', rfl, rfl, rfl, rfl, hbH, hbF, hHF, HBx, H20, F20, O20⟩ := hcut
            obtain ⟨w20, rfl⟩ : ∃ w20 : World, w20 = wc := ⟨_, rfl⟩
            have HX20 := Lib.hid (HXc.out.below HBx.out)
            have P20 := Lib.hid (X2.out.below HBx.out)
            have B20 := Lib.hid (bel_trans HB.out HBx.out)
            have T20 := Lib.hid (T2.out.below HBx.out)
            have L20 := Lib.hid (L2.out.below HBx.out)
            obtain ⟨nr, hnr⟩ : ∃ nr, nr = R.length := ⟨_, rfl⟩
            have HNR := Lib.hid hnr
            rw [← hnr] at O20 hln ⊢
            clear HBx HB X2 hpk2 HXc HT T2 L2 hnr
            go_wp2_with fail
            refine (lnum7_any _ _).mono ?_
            rintro e w21 ⟨rfl, rfl⟩
            go_wp2_with fail
            go_loopw [11] (fun s11 wi => ∃ (j m : Nat), j ≤ nr ∧ s11 = .int .i64 j ∧ wi = w20.drewN m) (fun s11 _ => nr - (intOf s11).toNat)
            case atStart => exact ⟨0, 0, Nat.zero_le _, rfl, rfl⟩
            case round =>
              obtain ⟨j, m, hj, rfl, rfl⟩ := hrel
              by_cases hjn : j < nr
              · have j1 : (0 : Int) ≤ (j : Int) := by omega
                have j2 : (j : Int) < (nr : Int) := by omega
                have hjR : j < R.length := by rw [← HNR.out]; exact hjn
                obtain ⟨b, o, rfl, hc⟩ := (O20.out.drewN m).ints.2.get j hjR
                have hx := HRT.out (R.getD j 0) (by rw [List.getD_eq_getElem?_getD, List.getElem?_eq_getElem hjR]; exact List.getElem_mem hjR)
                clear hjR
                generalize R.getD j 0 = x at *
                have HI1 := Lib.hid (fun W (h : IntsAt W ft T) => inI_any ft nt ct T x W (by have := HNT.out; omega) HNT.out h)
                have HI2 := Lib.hid (fun W (h : IntsAt W fl L) => inI_any fl nl cl L x W (by have := HNL.out; omega) HNL.out h)
                go_wp2_with fail
                refine (HI1.out _ (T20.out.drewN m).ints.2).mono ?_
                rintro e w6 ⟨jz, rfl, hj1, hj2, m6, rfl⟩
                clear HI1
                by_cases hz : x ∈ T
                · have hjz := hj1 hz
                  have dj : decide (jz < 0) = false := decide_eq_false (by omega)
                  clear hj1 hj2 hz hx HI2 hc
                  go_wp2
                  go_roundw
                  case rel => exact ⟨j + 1, m + m6, by omega, by go_num, by first | rfl | rw [drewN_add]⟩
                  case measure => (simp [intOf] <;> omega)
                · have hjz := hj2 hz
                  subst hjz
                  have hxL : x ∈ L := hx.resolve_left hz
                  have hc7 := keepc (below_drewN (Below.refl _ _) (m + m6)) (show w20.cell? ⟨b, o + j, none⟩ = some (.int .i64 x) from hc)
                  clear hj1 hj2 hz hx hc
                  go_wp2_with fail
                  refine (HI2.out _ (L20.out.drewN (m + m6)).ints.2).mono ?_
                  rintro e w7 ⟨jy, rfl, hj1, hj2, m7, rfl⟩
                  have hjy := hj1 hxL
                  have dj : decide (jy < 0) = false := decide_eq_false (by omega)
                  clear HI2 hj1 hj2 hxL hc7
                  go_wp2
                  go_roundw
                  case rel => exact ⟨j + 1, m + m6 + m7, by omega, by go_num, by first | rfl | rw [drewN_add] | rw [drewN_add, drewN_add]⟩
                  case measure => (simp [intOf] <;> omega)
              · have P21 := Lib.hid (P20.out.below (below_drewN (Below.refl _ _) m))
                have H21 := Lib.hid (H20.out.below (below_drewN (Below.refl _ _) m))
                have F21 := Lib.hid (F20.out.below (below_drewN (Below.refl _ _) m))
                have B21 := Lib.hid (below_drewN B20.out m)
                have HX21 := Lib.hid (HX20.out.below (below_drewN (Below.refl _ _) m))
                obtain ⟨w21, hw21⟩ : ∃ w21, w21 = w20.drewN m := ⟨_, rfl⟩
                rw [← hw21] at P21 H21 F21 B21 HX21 ⊢
                clear hw21 P20 H20 F20 B20 HX20 T20 L20 O20 HRT
                by_cases hk0 : fk = 0
                · subst hk0
                  obtain ⟨⟨hm0, hm1⟩, hmk, hmf⟩ := HCK.out rfl
                  clear HCK
                  have HPH := Lib.hid (fun W => page_any hm' W)
                  rw [numB_iff.2 ⟨hm0, hm1⟩] at HPH
                  have HMA := Lib.hid (HMR.out hm' acc w21 HX21.out hm0 hm1)
                  obtain ⟨qb, hqb⟩ : ∃ qb, Mf hm' acc = qb := ⟨_, rfl⟩
                  rw [hqb] at HMA hmk hmf
                  clear hqb hm0 hm1
                  obtain ⟨⟨xf, xm, ⟨xr, xw, xx, xa, xn, xs⟩, xl⟩, ⟨yk, ys, yl, yw, yp⟩, R2⟩ := qb
                  simp only at hmk hmf
                  subst hmk hmf
                  unfold WalkEnd hitV fltV at HMA
                  simp only at HMA
                  have Fc0 := F21.out.get 0 (.int .i64 0) rfl
                  have Hc0 := H21.out.get 0 (.int .i64 xf) rfl
                  have Hc1 := H21.out.get 1 (.int .i64 hm') rfl
                  go_wp2_with fail
                  refine (HPH.out _).mono ?_
                  rintro e w22 ⟨rfl, rfl⟩
                  have Pc0 := P21.out.get 0 (.slice f l c) rfl
                  have Pc6 := P21.out.get 6 (.bool true) rfl
                  have Pc7 := P21.out.get 7 (.int .i64 tf) rfl
                  have Pc8 := P21.out.get 8 (.int .i64 tg) rfl
                  go_wp2_with fail
                  refine HMA.out.mono ?_
                  rintro e w30 ⟨f9, c9, rfl, hO9, hb90⟩
                  clear hO9 HMA HPH HX21
                  have P23 := Lib.hid (P21.out.below hb90)
                  have H23 := Lib.hid (H21.out.below hb90)
                  have F23 := Lib.hid (F21.out.below hb90)
                  have B23 := Lib.hid (bel_trans B21.out hb90)
                  clear Fc0 Hc0 Hc1 Pc0 Pc6 Pc7 Pc8
                  clear P21 H21 F21 B21 hb90
                  go_upto_region 22 with fail
                  have P24 := Lib.hid (((P23.out.alloc (.cells #[.int .i64 xf, .int .i64 xm, .bool xr, .bool xw, .bool xx, .bool xa, .bool xn, .int .i64 xs, .int .i64 xl] 40)).alloc (.cells #[.int .i64 0, .int .i64 ys, .int .i64 yl, .bool yw, .int .i64 yp] 42)))
                  have H24 := Lib.hid (((H23.out.alloc (.cells #[.int .i64 xf, .int .i64 xm, .bool xr, .bool xw, .bool xx, .bool xa, .bool xn, .int .i64 xs, .int .i64 xl] 40)).alloc (.cells #[.int .i64 0, .int .i64 ys, .int .i64 yl, .bool yw, .int .i64 yp] 42)))
                  have F24 := Lib.hid (((F23.out.alloc (.cells #[.int .i64 xf, .int .i64 xm, .bool xr, .bool xw, .bool xx, .bool xa, .bool xn, .int .i64 xs, .int .i64 xl] 40)).alloc (.cells #[.int .i64 0, .int .i64 ys, .int .i64 yl, .bool yw, .int .i64 yp] 42)))
                  have X24 := Lib.hid (((BoxAt.newAt (w30) #[.int .i64 xf, .int .i64 xm, .bool xr, .bool xw, .bool xx, .bool xa, .bool xn, .int .i64 xs, .int .i64 xl] 40 (w30.heap.size) (by first | rfl | (simp; done) | (simp; omega))).alloc (.cells #[.int .i64 0, .int .i64 ys, .int .i64 yl, .bool yw, .int .i64 yp] 42)))
                  have Y24 := Lib.hid ((BoxAt.newAt ((w30).alloc (.cells #[.int .i64 xf, .int .i64 xm, .bool xr, .bool xw, .bool xx, .bool xa, .bool xn, .int .i64 xs, .int .i64 xl] 40)) #[.int .i64 0, .int .i64 ys, .int .i64 yl, .bool yw, .int .i64 yp] 42 (w30.heap.size + 1) (by first | rfl | (simp; done) | (simp; omega))))
                  have B24 := Lib.hid ((bel_alloc (bel_alloc B23.out (.cells #[.int .i64 xf, .int .i64 xm, .bool xr, .bool xw, .bool xx, .bool xa, .bool xn, .int .i64 xs, .int .i64 xl] 40)) (.cells #[.int .i64 0, .int .i64 ys, .int .i64 yl, .bool yw, .int .i64 yp] 42)))
                  clear P23 H23 F23 B23
                  obtain ⟨W31, hW31⟩ : ∃ W31, W31 = ((w30).alloc (.cells #[.int .i64 xf, .int .i64 xm, .bool xr, .bool xw, .bool xx, .bool xa, .bool xn, .int .i64 xs, .int .i64 xl] 40)).alloc (.cells #[.int .i64 0, .int .i64 ys, .int .i64 yl, .bool yw, .int .i64 yp] 42) := ⟨_, rfl⟩
                  obtain ⟨bX, hbX⟩ : ∃ bX, bX = w30.heap.size := ⟨_, rfl⟩
                  rw [← hW31] at P24 H24 F24 X24 Y24 B24 ⊢
                  rw [← hbX] at X24 Y24 ⊢
                  clear hW31 hbX
                  have Xc0 := X24.out.get 0 (.int .i64 xf) rfl
                  have Yc0 := Y24.out.get 0 (.int .i64 0) rfl
                  have Hc0 := H24.out.get 0 (.int .i64 xf) rfl
                  go_wp2
                  go_roundw
                  case rel => exact ⟨acc + 1, by omega, by omega, by go_num, B24.out⟩
                  case measure => (simp [intOf] <;> omega)
                · have dk : decide (fk = 0) = false := decide_eq_false hk0
                  have bk : (fk == 0) = false := by rw [beq_int]; exact dk
                  clear HCK
                  have Fc0 := F21.out.get 0 (.int .i64 fk) rfl
                  go_wp2
                  go_roundw
                  case rel => exact ⟨acc + 1, by omega, by omega, by go_num, B21.out⟩
                  case measure => (simp [intOf] <;> omega)
        · have e2 : decide (acc ≤ 2) = false := decide_eq_false hst
          have HB := Lib.hid hb
          clear hb
          go_wp2
          go_roundw
          case rel => exact ⟨k + 1, by omega, by go_num, HB.out⟩
          case measure => simp [intOf]; omega
    · by_cases hq : k < n
      · have hq' : ¬ (k < 10) := by omega
        have HB := Lib.hid hb
        clear hb
        go_wp2_with (go_at_call 13; refine (HW7.out _).mono ?_; rintro e w2 ⟨rfl, hb2⟩)
        go_ret
        exact ⟨rfl, bel_trans (bel_trans B10.out HB.out) hb2⟩
      · have HB := Lib.hid hb
        clear hb
        go_wp2_with (go_at_call 13; refine (HW7.out _).mono ?_; rintro e w2 ⟨rfl, hb2⟩)
        go_ret
        exact ⟨rfl, bel_trans (bel_trans B10.out HB.out) hb2⟩
theorem nconf_walk (PT : TransC) (f g : Option Addr) (l c n d : Nat) (X : Nat → BitVec 64) (P : Nat → Int) (fr : Int) (on1 : Bool) (of1 og1 : Int) (on2 : Bool) (tf tg ac : Int) (w : World) (hX : WordsAt w f l X) (hP : NumsAt w g n P) (hlc : l ≤ c) (hh : heavy5 l n = false) :
    Calls Tryz.prog 3 #[.agg #[.slice f l c, .int .i64 fr, .slice g n d, .bool on1, .int .i64 of1, .int .i64 og1, .bool on2, .int .i64 tf, .int .i64 tg, .int .i64 ac]] w fun e w' => e = .returned (.bool true) ∧ Below w.heap.size w w' := by
  cases hA : mayN l tf 0 0
  · exact nconf_nomay f g l c n d fr on1 of1 og1 on2 tf tg ac w hh hA
  · cases hO : numB of1 4095
    · exact nconf_nopage f g l c n d fr on1 of1 og1 on2 tf tg ac w hh hA hO
    · cases on2
      · exact nconf_off f g l c n d fr on1 of1 og1 tf tg ac w hh hA hO
      · exact nconf_on PT f g l c n d X P fr on1 of1 og1 tf tg ac w hX hP hlc hh hA hO
end Go.Proofs.YtalbblaicmdhmaaGreat
