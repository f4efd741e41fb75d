/- The walk of MemExact. -/
import Derived.Test.YtpnkhijbfnnggaaExactM
namespace Go.Proofs.Ytpnkhijbfnnggaa
open Go.ChangeShapes Go.WideShapes Go.ChangeAt Go.RowKit Go.Deep

set_option maxRecDepth 100000 in
set_option maxHeartbeats 16000000 in
theorem exact_walk (f g : Option Addr) (l cap n d : Nat) (X : Nat → BitVec 64) (A : Nat → ActV) (w : World) (hl : l ≤ 1000000000000000) (hn : n ≤ 1000000000000000) (hX : WordsAt w f l X) (hA : ActsAt w g n A) :
    Calls Try.prog 3 #[.agg #[.slice f l cap, .slice g n d]] w fun e w' => e = .returned (.bool true) ∧ Below w.heap.size w w' := by
  obtain ⟨W, hW⟩ : ∃ W, W = w.alloc (.cells #[.slice f l cap, .slice g n d] 27) := ⟨_, rfl⟩
  have hb1 : Below w.heap.size w W := by rw [hW]; exact bel_alloc (Below.refl w.heap.size w) _
  have L0 : Loc W w.heap.size 0 (.slice f l cap) := by rw [hW]; exact Loc.new _ _ _ _ 0 _ rfl rfl
  have L1 : Loc W w.heap.size 1 (.slice g n d) := by rw [hW]; exact Loc.new _ _ _ _ 1 _ rfl rfl
  have HH := Lib.hid (heavy_any f g l cap n d A W hl hn (hA.below hb1))
  have HX := Lib.hid hX
  have HA := Lib.hid hA
  clear hX hA
  go_enter Try.func3, Try.ntmps3
  go_wp2_with fail
  rw [← hW]
  refine HH.out.mono ?_
  rintro e w1 ⟨⟨r, rfl, hr⟩, hb2⟩
  have HB1 := Lib.hid (bel_trans hb1 hb2)
  have HL0 := Lib.hid (L0.below hb2)
  have HL1 := Lib.hid (L1.below hb2)
  have HR := Lib.hid hr
  clear hr hb1 hb2 L0 L1 hW HH
  have c0 := HL0.out.cell
  cases r with
  | true =>
    go_wp2_with fail
    go_ret
    exact ⟨rfl, HB1.out⟩
  | false =>
    obtain ⟨hl3, hn3, hA3⟩ := HR.out rfl
    have HA3 := Lib.hid hA3
    clear HR hA3
    go_wp2_with fail
    refine (copyM_any f l cap X w1 (by omega) (HX.out.below HB1.out)).mono ?_
    rintro e w2 ⟨f2, c2, rfl, hO2, hb2⟩
    have hsz0 := HL0.out.lt
    have hsz1 := hb2.size
    have HB2 := Lib.hid (bel_alloc (bel_trans HB1.out hb2) (.cells #[.slice f2 l c2] 24))
    have HP0 := Lib.hid ((HL0.out.below hb2).alloc (.cells #[.slice f2 l c2] 24))
    have HP1 := Lib.hid ((HL1.out.below hb2).alloc (.cells #[.slice f2 l c2] 24))
    have HM := Lib.hid (Loc.new w2 #[.slice f2 l c2] 24 w2.heap.size 0 _ rfl rfl)
    have HO := Lib.hid (hO2.below (bel_alloc (Below.refl _ _) (.cells #[.slice f2 l c2] 24))).words
    have HC := Lib.hid hO2.cap
    clear hO2 hb2 c0 HL0 HL1 HB1
    go_wp2
    go_loopw [4] (fun i wr => ∃ (k : Nat) (fm : Option Addr) (lm cm : Nat) (Y : Nat → BitVec 64), k ≤ n ∧ i = .int .i64 k ∧ lm ≤ 3000 ∧ lm ≤ cm ∧ Below w.heap.size w wr ∧ Hid (Loc wr w.heap.size 0 (.slice f l cap)) ∧ Hid (Loc wr w.heap.size 1 (.slice g n d)) ∧ Hid (Loc wr w2.heap.size 0 (.slice fm lm cm)) ∧ Hid (WordsAt wr fm lm Y)) (fun i _ => n - (intOf i).toNat)
    case atStart => exact ⟨0, f2, l, c2, X, Nat.zero_le _, rfl, hl3, HC.out, HB2.out, HP0, HP1, HM, HO⟩
    case round =>
      obtain ⟨k, fm, lm, cm, Y, hk, rfl, hlm, hcm, hb, HP4, HP5, HM4, HY4⟩ := hrel
      have c0 := HP4.out.cell
      have c1 := HP5.out.cell
      have HB := Lib.hid hb
      have hszr := HM4.out.lt
      clear hb HB2 HP0 HP1 HM HO HC
      by_cases hlt : k < n ∧ k < 15
      · obtain ⟨hlt, hlt'⟩ := hlt
        obtain ⟨b, o, rfl, ha⟩ := HA.out k hlt
        have ha2 := ha.below HB.out
        obtain ⟨x0, x1, x2, x3, x4, hnums, hlen, ha1, ha0⟩ := ha2
        have hl30 := HA3.out k hlt
        generalize A k = q at *
        have i1 : (0 : Int) ≤ (k : Int) := by omega
        have i2 : (k : Int) < (n : Int) := by omega
        obtain ⟨W1, hW1⟩ : ∃ W1, W1 = wr.alloc (.cells #[.int .i64 q.d, .int .i64 q.a, .int .i64 q.s, .int .u64 (u q.v), .slice q.f q.l q.c] 33) := ⟨_, rfl⟩
        have hB1 : Below wr.heap.size wr W1 := by rw [hW1]; exact bel_alloc (Below.refl _ _) _
        cases hM : okM lm
        · have m1 := HM4.out.cell
          have m2 := cell_keep m1 (.cells #[.int .i64 q.d, .int .i64 q.a, .int .i64 q.s, .int .u64 (u q.v), .slice q.f q.l q.c] 33)
          have HQ0 : Hid (Loc W1 wr.heap.size 0 (.int .i64 q.d)) := by rw [hW1]; exact Loc.new _ _ _ _ 0 _ rfl rfl
          have HQ1 : Hid (Loc W1 wr.heap.size 1 (.int .i64 q.a)) := by rw [hW1]; exact Loc.new _ _ _ _ 1 _ rfl rfl
          have HQ2 : Hid (Loc W1 wr.heap.size 2 (.int .i64 q.s)) := by rw [hW1]; exact Loc.new _ _ _ _ 2 _ rfl rfl
          have HQ3 : Hid (Loc W1 wr.heap.size 3 (.int .u64 (u q.v))) := by rw [hW1]; exact Loc.new _ _ _ _ 3 _ rfl rfl
          have HQ4 : Hid (Loc W1 wr.heap.size 4 (.slice q.f q.l q.c)) := by rw [hW1]; exact Loc.new _ _ _ _ 4 _ rfl rfl
          have HHB1 := Lib.hid hB1
          have HNU := Lib.hid (hnums.below hB1)
          clear hB1 hnums ha
          go_wp2_with fail
          rw [← hW1]
          refine (rmem_any fm lm cm W1).mono ?_
          rintro e W2 ⟨rfl, hW2⟩
          have hB2 : Below W1.heap.size W1 W2 := by rw [hW2]; exact bel_alloc (Below.refl _ _) _
          have hBr2 : Below wr.heap.size wr W2 := bel_trans HHB1.out hB2
          have m3 := (HM4.out.below hBr2).cell
          have HCP := Lib.hid (copyM_any fm lm cm Y W2 (by omega) (HY4.out.below hBr2))
          have HBr2 := Lib.hid hBr2
          have HHB2 := Lib.hid hB2
          clear hB2 hBr2 hW1 hW2 x0 x1 x2 x3 x4 m1 m2 c0 c1
          go_wp2_with fail
          refine HCP.out.mono ?_
          rintro e w3 ⟨fi, ci, rfl, hO3, hb3⟩
          obtain ⟨W4, hW4⟩ : ∃ W4, W4 = w3.alloc (.cells #[.slice fi lm ci] 24) := ⟨_, rfl⟩
          have hB4 : Below W2.heap.size W2 W4 := by rw [hW4]; exact bel_alloc hb3 _
          have hBr4 : Below wr.heap.size wr W4 := bel_trans HBr2.out hB4
          have Mi : Loc W4 w3.heap.size 0 (.slice fi lm ci) := by rw [hW4]; exact Loc.new _ _ _ _ 0 _ rfl rfl
          have HI4 : Hid (WordsAt W4 fi lm Y) := by rw [hW4]; exact (hO3.below (bel_alloc (Below.refl _ _) _)).words
          have hci := hO3.cap
          have hsz3 := (bel_trans HHB1.out (bel_trans HHB2.out hb3)).size
          have hsz1 : wr.heap.size < W1.heap.size := HQ0.out.lt
          have hszA : W1.heap.size ≤ w3.heap.size := (bel_trans HHB2.out hb3).size
          have hB14 := Lib.hid (bel_trans HHB2.out hB4)
          have HBr4 := Lib.hid hBr4
          have HMi := Lib.hid Mi
          have n3 := cell_new w3 #[.slice fi lm ci] 24 0
          clear hO3 hb3 hB4 hBr4 Mi HCP HBr2 m3
          go_wp2_with fail
          rw [← hW4]
          refine (frames_any fi lm ci W4).mono ?_
          rw [hM]
          rintro e w5 ⟨rfl, hb5⟩
          have n5 := (HMi.out.below hb5).cell
          have HB45 := Lib.hid hb5
          clear hb5 hW4 n3
          go_wp2_with fail
          refine (check_any fi lm ci w5).mono ?_
          rw [hM]
          rintro e w6 ⟨rfl, hb6⟩
          have HB46 := Lib.hid (bel_trans HB45.out hb6)
          have m6 := ((HM4.out.below HBr4.out).below HB46.out).cell
          clear hb6 HB45 n5
          obtain ⟨w7, rfl⟩ : ∃ w7 : World, w7 = w6 := ⟨_, rfl⟩
          have hB47 : Below W4.heap.size W4 w7 := HB46.out
          obtain ⟨W8, hW8⟩ : ∃ W8, W8 = (w7.alloc (.cells #[.slice none 0 0] 24)).alloc (.cells #[.slice none 0 0] 24) := ⟨_, rfl⟩
          have hB78 : Below w7.heap.size w7 W8 := by rw [hW8]; exact bel_alloc (bel_alloc (Below.refl _ _) _) _
          have hB48 := bel_trans hB47 hB78
          have hB18 := bel_trans hB14.out hB48
          have hBr8 := bel_trans HBr4.out hB48
          have Qw : Loc W8 w7.heap.size 0 (.slice none 0 0) := by rw [hW8]; exact (Loc.new _ _ _ _ 0 _ rfl rfl).alloc _
          have Qx : Loc W8 (w7.heap.size + 1) 0 (.slice none 0 0) := by rw [hW8]; exact Loc.new _ _ _ _ 0 _ (by simp) rfl
          have hsz48 := hB47.size
          have hszi := HMi.out.lt
          have HE : Hid (ExAt W8 ⟨w.heap.size, w2.heap.size, wr.heap.size, w3.heap.size, w7.heap.size, w7.heap.size + 1⟩ (.slice f l cap) (.slice (some ⟨b, o, none⟩) n d) q (.slice fm lm cm) (.slice fi lm ci) (.slice none 0 0) (.slice none 0 0)) :=
            ⟨HP4.out.below hBr8, HP5.out.below hBr8, HM4.out.below hBr8, HQ1.out.below hB18, HQ2.out.below hB18, HQ3.out.below hB18, HQ4.out.below hB18, HMi.out.below hB48, Qw, Qx⟩
          have HAP : Hid (Blks.Apart ⟨w.heap.size, w2.heap.size, wr.heap.size, w3.heap.size, w7.heap.size, w7.heap.size + 1⟩) := ⟨by simp only; omega, by simp only; omega, by simp only; omega, by simp only; omega, by simp only; omega⟩
          have HBW := Lib.hid (bel_trans HB.out hBr8)
          have HY7 := Lib.hid (HY4.out.below (bel_trans HBr4.out hB47))
          have HI7 := Lib.hid (HI4.out.below hB47)
          have HY8 := Lib.hid (HY7.out.below hB78)
          have HI8 := Lib.hid (HI7.out.below hB78)
          have HN8 := Lib.hid (HNU.out.below hB18)
          have HN7 := Lib.hid (HNU.out.below (bel_trans hB14.out hB47))
          have z0 := (HQ0.out.below (bel_trans hB14.out hB47)).cell
          have z1 := cell_keep z0 (.cells #[.slice none 0 0] 24)
          have z2 := cell_keep z1 (.cells #[.slice none 0 0] 24)
          have hszx := Qx.lt
          clear hB47 hB78 hB48 hB18 hBr8 Qw Qx HQ0 HQ1 HQ2 HQ3 HQ4 HMi HHB1 HHB2 hB14 HBr4 HNU HI4 HB46 m6
          go_wp2_with (first
            | (go_at_call 14; refine (num_any _ _).mono ?_; rintro e w6x ⟨rfl, rfl⟩))
          rw [← hW8]
          refine (within_any _ _ _ (by omega) (by omega)).mono ?_
          rintro e w9 ⟨rfl, rfl⟩
          have d0 := within_lo q.d 8 (by omega)
          have d1 := within_hi q.d 8 (by omega)
          generalize withinV q.d 8 = dd at d0 d1
          clear hW8 z0 z1 z2
          have HAPX := Lib.hid HAP.out
          have HPR : Hid (Pre W8 w w7 ⟨w.heap.size, w2.heap.size, wr.heap.size, w3.heap.size, w7.heap.size, w7.heap.size + 1⟩ (.slice f l cap) (.slice (some ⟨b, o, none⟩) n d) q fm lm cm fi ci Y (.slice none 0 0)) := ⟨HAP.out, HBW.out, Nat.le_refl _, Nat.le_refl _, HE.out, HY8.out, HI8.out, HN8.out, HY7.out, HI7.out, HN7.out⟩
          clear HAP HBW HE HY8 HI8 HN8 HY7 HI7 HN7
          go_upto_block 2 with fail
          go_cut [10, 13] (fun s10 s13 wx => ∃ (kk : Int) (fw : Option Addr) (cw : Nat) (fx : Option Addr) (cx lx : Nat) (Z : Nat → BitVec 64), s10 = .int .i64 kk ∧ s13 = .int .i64 kk ∧ Hid (Told wx w ⟨w.heap.size, w2.heap.size, wr.heap.size, w3.heap.size, w7.heap.size, w7.heap.size + 1⟩ (.slice f l cap) (.slice (some ⟨b, o, none⟩) n d) q fm lm cm fi ci Y fw cw fx cx lx Z))
          case first =>
            by_cases h4 : dd = 4
            · as_aux_lemma =>
                have t4 : (dd == 4) = true := by simp; omega
                clear h4
                have ei0 := HPR.out.at_.i.cell
                have ea10 := HPR.out.at_.a1.cell
                have ea20 := HPR.out.at_.a2.cell
                dsimp only at ei0 ea10 ea20
                have HMW := Lib.hid (read_err fi lm ci q.a q.s 1 W8 (by rw [hM]; rfl) (by omega))
                go_wp2_with fail
                refine HMW.out.mono ?_
                rintro e w10 ⟨rfl, hb10⟩
                have HTT := Lib.hid (HPR.out.call hb10).told_nil
                clear hb10 HMW ei0 ea10 ea20
                go_wp2_with fail
                go_meet
                exact ⟨1, none, 0, none, 0, 0, Y, rfl, rfl, HTT⟩
            · skip
              by_cases h5 : dd = 5
              · as_aux_lemma =>
                  have t4 : (dd == 4) = false := by simp; omega
                  have t5 : (dd == 5) = true := by simp; omega
                  clear h4 h5
                  have ei0 := HPR.out.at_.i.cell
                  have ea40 := HPR.out.at_.a4.cell
                  dsimp only at ei0 ea40
                  have HMW := Lib.hid (zero_err fi q.f lm ci q.l q.c q.N 1 W8 HPR.out.nums (by omega) (by rw [hM]; rfl) (fun h => absurd (hM.symm.trans h) (by simp)))
                  go_wp2_with fail
                  refine HMW.out.mono ?_
                  rintro e w10 ⟨rfl, hb10⟩
                  have P10 := HPR.out.call hb10
                  have ex2 := P10.at_.x.cell
                  dsimp only at ex2
                  have gx2 := P10.at_.x.free
                  dsimp only at gx2
                  have HTT := Lib.hid P10.told_errx
                  clear P10 hb10 HMW ei0 ea40
                  go_wp2_with fail
                  go_meet
                  exact ⟨1, none, 0, none, 0, 0, Y, rfl, rfl, HTT⟩
              · skip
                by_cases h6 : dd = 6
                · as_aux_lemma =>
                    have t4 : (dd == 4) = false := by simp; omega
                    have t5 : (dd == 5) = false := by simp; omega
                    have t6 : (dd == 6) = true := by simp; omega
                    clear h4 h5 h6
                    have ei0 := HPR.out.at_.i.cell
                    have ea10 := HPR.out.at_.a1.cell
                    have ea20 := HPR.out.at_.a2.cell
                    dsimp only at ei0 ea10 ea20
                    have HMW := Lib.hid (copy_err fi lm ci q.a q.s 1 W8 (by rw [hM]; rfl) (fun h => absurd (hM.symm.trans h) (by simp)))
                    go_wp2_with fail
                    refine HMW.out.mono ?_
                    rintro e w10 ⟨rfl, hb10⟩
                    have P10 := HPR.out.call hb10
                    have ex2 := P10.at_.x.cell
                    dsimp only at ex2
                    have gx2 := P10.at_.x.free
                    dsimp only at gx2
                    have HTT := Lib.hid P10.told_errx
                    clear P10 hb10 HMW ei0 ea10 ea20
                    go_wp2_with fail
                    go_meet
                    exact ⟨1, none, 0, none, 0, 0, Y, rfl, rfl, HTT⟩
                · skip
                  by_cases h7 : dd = 7
                  · as_aux_lemma =>
                      have t4 : (dd == 4) = false := by simp; omega
                      have t5 : (dd == 5) = false := by simp; omega
                      have t6 : (dd == 6) = false := by simp; omega
                      have t7 : (dd == 7) = true := by simp; omega
                      clear h4 h5 h6 h7
                      have ei0 := HPR.out.at_.i.cell
                      have ea10 := HPR.out.at_.a1.cell
                      dsimp only at ei0 ea10
                      have HMW := Lib.hid (frame_err fi lm ci q.a 1 W8 (by rw [hM]; rfl) (fun h => absurd (hM.symm.trans h) (by simp)))
                      go_wp2_with fail
                      refine HMW.out.mono ?_
                      rintro e w9 ⟨rfl, hb9⟩
                      have HP9 := Lib.hid (HPR.out.call hb9)
                      clear hb9 HMW ei0 ea10
                      have HEQ := Lib.hid (eqW_any none none 0 0 0 Y w9 (by omega) (CellsAt.empty _ _ _) (CellsAt.empty _ _ _))
                      go_wp2_with fail
                      refine HEQ.out.mono ?_
                      rintro e wq ⟨rfl, mq, rfl⟩
                      have HSP := Lib.hid (spoil_any w9.heap.size none 0 0 Y (w9.drewN mq) (by omega) (Nat.le_refl _) (OwnW.nil _ _ _))
                      go_wp2_with fail
                      refine HSP.out.mono ?_
                      rintro e wz ⟨rfl, hbz⟩
                      have HTT := Lib.hid (HP9.out.call (V' := wz) ((below_drewN (Below.refl _ _) mq).trans hbz)).told_nil
                      clear hbz HSP HEQ
                      go_wp2_with fail
                      go_meet
                      exact ⟨1, none, 0, none, 0, 0, Y, rfl, rfl, HTT⟩
                  · skip
                    as_aux_lemma =>
                      have t4 : (dd == 4) = false := by simp; omega
                      have t5 : (dd == 5) = false := by simp; omega
                      have t6 : (dd == 6) = false := by simp; omega
                      have t7 : (dd == 7) = false := by simp; omega
                      clear h4 h5 h6 h7
                      have ei0 := HPR.out.at_.i.cell
                      have ea10 := HPR.out.at_.a1.cell
                      have ea20 := HPR.out.at_.a2.cell
                      have ea30 := HPR.out.at_.a3.cell
                      dsimp only at ei0 ea10 ea20 ea30
                      have HMW := Lib.hid (write_err fi lm ci q.a q.s 1 q.v W8 (by rw [hM]; rfl) (by omega))
                      go_wp2_with fail
                      refine HMW.out.mono ?_
                      rintro e w10 ⟨rfl, hb10⟩
                      have P10 := HPR.out.call hb10
                      have ex2 := P10.at_.x.cell
                      dsimp only at ex2
                      have gx2 := P10.at_.x.free
                      dsimp only at gx2
                      have HTT := Lib.hid P10.told_errx
                      clear P10 hb10 HMW ei0 ea10 ea20 ea30
                      go_wp2_with fail
                      go_meet
                      exact ⟨1, none, 0, none, 0, 0, Y, rfl, rfl, HTT⟩
          case rest =>
            as_aux_lemma =>
              obtain ⟨kk, fw, cw, fx, cx, lx, Z, rfl, rfl, HT⟩ := hcut
              have hsh := HT.out.short
              have em := HT.out.at_.m.cell
              have ei := HT.out.at_.i.cell
              have ew := HT.out.at_.w.cell
              have ex := HT.out.at_.x.cell
              dsimp only at em ei ew ex
              have kb : (kk != kk) = false := by simp
              obtain ⟨B, w1x, hbx, hw1B, hBw, y1, i1x, zz1, zzW, hOx⟩ := HT.out.own
              dsimp only at hbx
              have HQ1 := Lib.hid (eqM_any fx fw lx cx cw Z wc (by omega) hOx.words zzW)
              have Hy1 := Lib.hid y1
              have Hi1 := Lib.hid i1x
              have Hz1 := Lib.hid zz1
              have HzW := Lib.hid zzW
              have HOx := Lib.hid hOx
              clear y1 i1x zz1 zzW hOx
              go_wp2_with (first
                | (go_at_call 14; refine (num_any _ _).mono ?_; rintro e wn ⟨rfl, rfl⟩))
              refine HQ1.out.mono ?_
              rintro e w10 ⟨rfl, hb10⟩
              have E10 := HT.out.at_.below hb10
              have em1 := E10.m.cell
              have ei1 := E10.i.cell
              dsimp only at em1 ei1
              have HQ2 := Lib.hid (eqM_any fi fm lm ci cm Y w10 (by omega) (HT.out.input.below hb10) (HT.out.words.below hb10))
              have HB10 := Lib.hid hb10
              clear hb10 HQ1 E10
              go_wp2_with fail
              refine HQ2.out.mono ?_
              rintro e w11 ⟨rfl, hb11⟩
              have hbc := bel_trans HB10.out hb11
              have hsz11 := hbc.size
              have E11 := HT.out.at_.below hbc
              have ex1 := E11.x.cell
              dsimp only at ex1
              have HE11 := Lib.hid E11
              have HQ3 := Lib.hid (spoil_any B fx lx cx Z w11 (by omega) (by omega) (HOx.out.below hbc))
              have HBC := Lib.hid hbc
              clear hb11 hbc E11 HQ2 em1 ei1 em ei ew ex
              go_wp2_with fail
              refine HQ3.out.mono ?_
              rintro e w12 ⟨rfl, hb12⟩
              have E12 := HE11.out.under HAPX.out hb12 hbx
              have HE12 := Lib.hid E12
              have em2 := E12.m.cell
              have ei2 := E12.i.cell
              dsimp only at em2 ei2
              have Y12 := CellsAt.under2 Hy1.out (HT.out.words.below HBC.out) hb12 hw1B
              have I12 := CellsAt.under2 Hi1.out (HT.out.input.below HBC.out) hb12 hw1B
              have Z12 := CellsAt.under2 Hz1.out (HzW.out.below HBC.out) hb12 hw1B
              have HB12 := Lib.hid ((bel_trans HT.out.below HBC.out).trans (hb12.mono (by omega)))
              have HQ4 := Lib.hid (eqM_any fi fm lm ci cm Y w12 (by omega) I12 Y12)
              have HY12 := Lib.hid Y12
              have HZ12 := Lib.hid Z12
              clear hb12 E12 Y12 I12 Z12 HQ3 ex1 HE11
              go_wp2_with fail
              refine HQ4.out.mono ?_
              rintro e w13 ⟨rfl, hb13⟩
              have HE13 := Lib.hid (HE12.out.below hb13)
              have HB13 := Lib.hid (bel_trans HB12.out hb13)
              have HY13 := Lib.hid (HY12.out.below hb13)
              have HZ13 := Lib.hid (HZ12.out.below hb13)
              clear hb13 HQ4 em2 ei2 HE12 HB12 HY12 HZ12
              by_cases hupd : kk = 0 ∧ dd ≠ 4 ∧ dd ≠ 7
              · obtain ⟨hk0, hk4, hk7⟩ := hupd
                subst hk0
                have t4 : (dd != 4) = true := by simpa using hk4
                have t7 : (dd != 7) = true := by simpa using hk7
                have ew3 := HE13.out.w.cell
                have em3 := HE13.out.m.cell
                have gm3 := HE13.out.m.free
                dsimp only at ew3 em3 gm3
                clear hk4 hk7 kb
                go_wp2_with fail
                refine (copyM_any fw lx cw Z w13 (by omega) HZ13.out).mono ?_
                rintro e w14 ⟨f14, c14, rfl, hO14, hb14⟩
                have E14 := HE13.out.below hb14
                have em4 := E14.m.cell
                have gm4 := E14.m.free
                dsimp only at em4 gm4
                have E15 := E14.setM HAPX.out (.slice f14 lx c14)
                have hms := HE13.out.m.lt
                dsimp only at hms E15
                have HE15 := Lib.hid E15
                have HO15 := Lib.hid (hO14.other w2.heap.size 0 (.slice f14 lx c14) hms).words
                have hc14 := hO14.cap
                have HB15 := Lib.hid ((bel_trans HB13.out hb14).setCell (p := ⟨w2.heap.size, 0, none⟩) (by simp only; omega) (.slice f14 lx c14))
                clear hO14 hb14 E14 E15 ew3 em3 gm3 hms
                go_wp2_with fail
                go_roundw
                case rel => exact ⟨k + 1, f14, lx, c14, Z, by omega, by go_num, hsh, hc14, HB15.out, HE15.out.p0, HE15.out.p1, HE15.out.m, HO15⟩
                case measure => simp [intOf]; omega
              · by_cases hk0 : kk = 0
                · by_cases hk4 : dd = 4
                  · have t4 : (dd != 4) = false := by simpa using hk4
                    subst hk0
                    clear hupd hk4 kb
                    go_wp2_with fail
                    go_roundw
                    case rel => exact ⟨k + 1, fm, lm, cm, Y, by omega, by go_num, hlm, hcm, HB13.out, HE13.out.p0, HE13.out.p1, HE13.out.m, HY13⟩
                    case measure => simp [intOf]; omega
                  · have t4 : (dd != 4) = true := by simpa using hk4
                    have t7 : (dd != 7) = false := by
                      have : dd = 7 := by
                        by_cases h7 : dd = 7
                        · exact h7
                        · exact absurd ⟨hk0, hk4, h7⟩ hupd
                      simpa using this
                    subst hk0
                    clear hupd hk4 kb
                    go_wp2_with fail
                    go_roundw
                    case rel => exact ⟨k + 1, fm, lm, cm, Y, by omega, by go_num, hlm, hcm, HB13.out, HE13.out.p0, HE13.out.p1, HE13.out.m, HY13⟩
                    case measure => simp [intOf]; omega
                · have t0 : (kk == 0) = false := by simpa using hk0
                  clear hupd hk0 kb
                  go_wp2_with fail
                  go_roundw
                  case rel => exact ⟨k + 1, fm, lm, cm, Y, by omega, by go_num, hlm, hcm, HB13.out, HE13.out.p0, HE13.out.p1, HE13.out.m, HY13⟩
                  case measure => simp [intOf]; omega
        · have okl := okM_true hM
          have m1 := HM4.out.cell
          have m2 := cell_keep m1 (.cells #[.int .i64 q.d, .int .i64 q.a, .int .i64 q.s, .int .u64 (u q.v), .slice q.f q.l q.c] 33)
          have HQ0 : Hid (Loc W1 wr.heap.size 0 (.int .i64 q.d)) := by rw [hW1]; exact Loc.new _ _ _ _ 0 _ rfl rfl
          have HQ1 : Hid (Loc W1 wr.heap.size 1 (.int .i64 q.a)) := by rw [hW1]; exact Loc.new _ _ _ _ 1 _ rfl rfl
          have HQ2 : Hid (Loc W1 wr.heap.size 2 (.int .i64 q.s)) := by rw [hW1]; exact Loc.new _ _ _ _ 2 _ rfl rfl
          have HQ3 : Hid (Loc W1 wr.heap.size 3 (.int .u64 (u q.v))) := by rw [hW1]; exact Loc.new _ _ _ _ 3 _ rfl rfl
          have HQ4 : Hid (Loc W1 wr.heap.size 4 (.slice q.f q.l q.c)) := by rw [hW1]; exact Loc.new _ _ _ _ 4 _ rfl rfl
          have HHB1 := Lib.hid hB1
          have HNU := Lib.hid (hnums.below hB1)
          clear hB1 hnums ha
          go_wp2_with fail
          rw [← hW1]
          refine (rmem_any fm lm cm W1).mono ?_
          rintro e W2 ⟨rfl, hW2⟩
          have hB2 : Below W1.heap.size W1 W2 := by rw [hW2]; exact bel_alloc (Below.refl _ _) _
          have hBr2 : Below wr.heap.size wr W2 := bel_trans HHB1.out hB2
          have m3 := (HM4.out.below hBr2).cell
          have HCP := Lib.hid (copyM_any fm lm cm Y W2 (by omega) (HY4.out.below hBr2))
          have HBr2 := Lib.hid hBr2
          have HHB2 := Lib.hid hB2
          clear hB2 hBr2 hW1 hW2 x0 x1 x2 x3 x4 m1 m2 c0 c1
          go_wp2_with fail
          refine HCP.out.mono ?_
          rintro e w3 ⟨fi, ci, rfl, hO3, hb3⟩
          obtain ⟨W4, hW4⟩ : ∃ W4, W4 = w3.alloc (.cells #[.slice fi lm ci] 24) := ⟨_, rfl⟩
          have hB4 : Below W2.heap.size W2 W4 := by rw [hW4]; exact bel_alloc hb3 _
          have hBr4 : Below wr.heap.size wr W4 := bel_trans HBr2.out hB4
          have Mi : Loc W4 w3.heap.size 0 (.slice fi lm ci) := by rw [hW4]; exact Loc.new _ _ _ _ 0 _ rfl rfl
          have HI4 : Hid (WordsAt W4 fi lm Y) := by rw [hW4]; exact (hO3.below (bel_alloc (Below.refl _ _) _)).words
          have hci := hO3.cap
          have hsz3 := (bel_trans HHB1.out (bel_trans HHB2.out hb3)).size
          have hsz1 : wr.heap.size < W1.heap.size := HQ0.out.lt
          have hszA : W1.heap.size ≤ w3.heap.size := (bel_trans HHB2.out hb3).size
          have hB14 := Lib.hid (bel_trans HHB2.out hB4)
          have HBr4 := Lib.hid hBr4
          have HMi := Lib.hid Mi
          have n3 := cell_new w3 #[.slice fi lm ci] 24 0
          clear hO3 hb3 hB4 hBr4 Mi HCP HBr2 m3
          go_wp2_with fail
          rw [← hW4]
          refine (frames_any fi lm ci W4).mono ?_
          rw [hM]
          rintro e w5 ⟨rfl, hb5⟩
          have n5 := (HMi.out.below hb5).cell
          have HB45 := Lib.hid hb5
          clear hb5 hW4 n3
          go_wp2_with fail
          refine (check_any fi lm ci w5).mono ?_
          rw [hM]
          rintro e w6 ⟨rfl, hb6⟩
          have HB46 := Lib.hid (bel_trans HB45.out hb6)
          have m6 := ((HM4.out.below HBr4.out).below HB46.out).cell
          clear hb6 HB45 n5
          go_wp2_with (first
            | (go_at_call 14; refine (num_any _ _).mono ?_; rintro e w6x ⟨rfl, rfl⟩))
          refine (rframes_any fm lm cm w6 (by omega)).mono ?_
          rintro e w7 ⟨rfl, hw7⟩
          have hB47 : Below W4.heap.size W4 w7 := by rw [hw7]; exact bel_alloc HB46.out _
          obtain ⟨W8, hW8⟩ : ∃ W8, W8 = (w7.alloc (.cells #[.slice none 0 0] 24)).alloc (.cells #[.slice none 0 0] 24) := ⟨_, rfl⟩
          have hB78 : Below w7.heap.size w7 W8 := by rw [hW8]; exact bel_alloc (bel_alloc (Below.refl _ _) _) _
          have hB48 := bel_trans hB47 hB78
          have hB18 := bel_trans hB14.out hB48
          have hBr8 := bel_trans HBr4.out hB48
          have Qw : Loc W8 w7.heap.size 0 (.slice none 0 0) := by rw [hW8]; exact (Loc.new _ _ _ _ 0 _ rfl rfl).alloc _
          have Qx : Loc W8 (w7.heap.size + 1) 0 (.slice none 0 0) := by rw [hW8]; exact Loc.new _ _ _ _ 0 _ (by simp) rfl
          have hsz48 := hB47.size
          have hszi := HMi.out.lt
          have HE : Hid (ExAt W8 ⟨w.heap.size, w2.heap.size, wr.heap.size, w3.heap.size, w7.heap.size, w7.heap.size + 1⟩ (.slice f l cap) (.slice (some ⟨b, o, none⟩) n d) q (.slice fm lm cm) (.slice fi lm ci) (.slice none 0 0) (.slice none 0 0)) :=
            ⟨HP4.out.below hBr8, HP5.out.below hBr8, HM4.out.below hBr8, HQ1.out.below hB18, HQ2.out.below hB18, HQ3.out.below hB18, HQ4.out.below hB18, HMi.out.below hB48, Qw, Qx⟩
          have HAP : Hid (Blks.Apart ⟨w.heap.size, w2.heap.size, wr.heap.size, w3.heap.size, w7.heap.size, w7.heap.size + 1⟩) := ⟨by simp only; omega, by simp only; omega, by simp only; omega, by simp only; omega, by simp only; omega⟩
          have HBW := Lib.hid (bel_trans HB.out hBr8)
          have HY7 := Lib.hid (HY4.out.below (bel_trans HBr4.out hB47))
          have HI7 := Lib.hid (HI4.out.below hB47)
          have HY8 := Lib.hid (HY7.out.below hB78)
          have HI8 := Lib.hid (HI7.out.below hB78)
          have HN8 := Lib.hid (HNU.out.below hB18)
          have HN7 := Lib.hid (HNU.out.below (bel_trans hB14.out hB47))
          have z0 := (HQ0.out.below (bel_trans hB14.out hB47)).cell
          have z1 := cell_keep z0 (.cells #[.slice none 0 0] 24)
          have z2 := cell_keep z1 (.cells #[.slice none 0 0] 24)
          have hszx := Qx.lt
          clear hB47 hB78 hB48 hB18 hBr8 Qw Qx hw7 HQ0 HQ1 HQ2 HQ3 HQ4 HMi HHB1 HHB2 hB14 HBr4 HNU HI4 HB46 m6
          go_wp2_with fail
          rw [← hW8]
          refine (within_any _ _ _ (by omega) (by omega)).mono ?_
          rintro e w9 ⟨rfl, rfl⟩
          have d0 := within_lo q.d 8 (by omega)
          have d1 := within_hi q.d 8 (by omega)
          generalize withinV q.d 8 = dd at d0 d1
          clear hW8 z0 z1 z2
          have HAPX := Lib.hid HAP.out
          have HPR : Hid (Pre W8 w w7 ⟨w.heap.size, w2.heap.size, wr.heap.size, w3.heap.size, w7.heap.size, w7.heap.size + 1⟩ (.slice f l cap) (.slice (some ⟨b, o, none⟩) n d) q fm lm cm fi ci Y (.slice none 0 0)) := ⟨HAP.out, HBW.out, Nat.le_refl _, Nat.le_refl _, HE.out, HY8.out, HI8.out, HN8.out, HY7.out, HI7.out, HN7.out⟩
          clear HAP HBW HE HY8 HI8 HN8 HY7 HI7 HN7
          go_upto_block 2 with fail
          go_cut [10, 13] (fun s10 s13 wx => ∃ (kk : Int) (fw : Option Addr) (cw : Nat) (fx : Option Addr) (cx lx : Nat) (Z : Nat → BitVec 64), s10 = .int .i64 kk ∧ s13 = .int .i64 kk ∧ Hid (Told wx w ⟨w.heap.size, w2.heap.size, wr.heap.size, w3.heap.size, w7.heap.size, w7.heap.size + 1⟩ (.slice f l cap) (.slice (some ⟨b, o, none⟩) n d) q fm lm cm fi ci Y fw cw fx cx lx Z))
          case first =>
            by_cases h4 : dd = 4
            · as_aux_lemma =>
                have t4 : (dd == 4) = true := by simp; omega
                clear h4
                by_cases hE : mayE lm q.a q.s = 0
                · have em0 := HPR.out.at_.m.cell
                  have ei0 := HPR.out.at_.i.cell
                  have ea10 := HPR.out.at_.a1.cell
                  have ea20 := HPR.out.at_.a2.cell
                  have ea30 := HPR.out.at_.a3.cell
                  have ea40 := HPR.out.at_.a4.cell
                  dsimp only at em0 ei0 ea10 ea20 ea30 ea40
                  have HMW := Lib.hid (read_ok fi lm ci Y q.a q.s W8 HPR.out.input hM hE)
                  go_wp2_with fail
                  refine HMW.out.mono ?_
                  rintro e w9 ⟨rfl, hb9⟩
                  have P9 := HPR.out.call hb9
                  clear em0 ei0 ea10 ea20 ea30 ea40 hb9 HMW
                  have HP9 := Lib.hid P9
                  have em1 := P9.at_.m.cell
                  have ea11 := P9.at_.a1.cell
                  have ea21 := P9.at_.a2.cell
                  dsimp only at em1 ea11 ea21
                  clear P9
                  go_wp2_with fail
                  refine (rmay_any fm lm cm q.a q.s w9 (by omega)).mono ?_
                  rw [hE]
                  rintro e w10 ⟨rfl, hw10⟩
                  have P10 := HP9.out.call (V' := w10) (by rw [hw10]; exact bel_alloc (Below.refl _ _) _)
                  have HP10 := Lib.hid P10
                  have em2 := P10.at_.m.cell
                  have ea12 := P10.at_.a1.cell
                  have ea22 := P10.at_.a2.cell
                  dsimp only at em2 ea12 ea22
                  have HRR := Lib.hid (rread_ok fm lm cm Y q.a q.s w10 P10.words hM hE)
                  clear P10 hw10 em1 ea11 ea21
                  go_wp2_with fail
                  refine HRR.out.mono ?_
                  rintro e w11 ⟨rfl, hb11⟩
                  have HTT := Lib.hid (HP10.out.call hb11).told_nil
                  clear hb11 HRR em2 ea12 ea22
                  go_wp2_with fail
                  go_meet
                  exact ⟨0, none, 0, none, 0, 0, Y, rfl, rfl, HTT⟩
                · have hk' : (mayE lm q.a q.s == 0) = false := by simpa using hE
                  have em0 := HPR.out.at_.m.cell
                  have ei0 := HPR.out.at_.i.cell
                  have ea10 := HPR.out.at_.a1.cell
                  have ea20 := HPR.out.at_.a2.cell
                  have ea30 := HPR.out.at_.a3.cell
                  have ea40 := HPR.out.at_.a4.cell
                  dsimp only at em0 ei0 ea10 ea20 ea30 ea40
                  have HMW := Lib.hid (read_err fi lm ci q.a q.s (mayE lm q.a q.s) W8 (by rw [if_pos hM]) hE)
                  go_wp2_with fail
                  refine HMW.out.mono ?_
                  rintro e w9 ⟨rfl, hb9⟩
                  have P9 := HPR.out.call hb9
                  clear em0 ei0 ea10 ea20 ea30 ea40 hb9 HMW
                  have HP9 := Lib.hid P9
                  have em1 := P9.at_.m.cell
                  have ea11 := P9.at_.a1.cell
                  have ea21 := P9.at_.a2.cell
                  dsimp only at em1 ea11 ea21
                  clear P9
                  go_wp2_with fail
                  refine (rmay_any fm lm cm q.a q.s w9 (by omega)).mono ?_
                  rintro e w10 ⟨rfl, hw10⟩
                  have HTT := Lib.hid (HP9.out.call (V' := w10) (by rw [hw10]; exact bel_alloc (Below.refl _ _) _)).told_nil
                  generalize mayE lm q.a q.s = kk at hk' ⊢
                  clear hw10 em1 ea11 ea21
                  go_wp2_with fail
                  go_meet
                  exact ⟨kk, none, 0, none, 0, 0, Y, rfl, rfl, HTT⟩
            · skip
              by_cases h5 : dd = 5
              · as_aux_lemma =>
                  have t4 : (dd == 4) = false := by simp; omega
                  have t5 : (dd == 5) = true := by simp; omega
                  clear h4 h5
                  by_cases hF : allF lm q.N q.l
                  · have em0 := HPR.out.at_.m.cell
                    have ei0 := HPR.out.at_.i.cell
                    have ea10 := HPR.out.at_.a1.cell
                    have ea20 := HPR.out.at_.a2.cell
                    have ea30 := HPR.out.at_.a3.cell
                    have ea40 := HPR.out.at_.a4.cell
                    dsimp only at em0 ei0 ea10 ea20 ea30 ea40
                    go_wp2_with fail
                    refine (there_any fm q.f lm cm q.l q.c q.N W8 HPR.out.nums (by omega) (by omega)).mono ?_
                    rintro e w9 ⟨⟨r, rfl, hr⟩, hb9⟩
                    obtain rfl := hr.2 hF
                    have P9 := HPR.out.call hb9
                    have hs9 := hb9.size
                    clear em0 ei0 ea10 ea20 ea30 ea40 hb9 hr
                    have HP9 := Lib.hid P9
                    have em1 := P9.at_.m.cell
                    have ea41 := P9.at_.a4.cell
                    dsimp only at em1 ea41
                    have HWR := Lib.hid (rzero_ok fm q.f lm cm q.l q.c Y q.N w9 P9.words P9.nums (by omega) hM hF)
                    clear P9
                    go_wp2_with fail
                    refine HWR.out.mono ?_
                    rintro e w10 ⟨fw, cw, rfl, hOw, hb10⟩
                    have P10 := HP9.out.call hb10
                    have ew2 := P10.at_.w.cell
                    dsimp only at ew2
                    have gw2 := P10.at_.w.free
                    dsimp only at gw2
                    obtain ⟨V, hV⟩ : ∃ V, V = w10.setCell ⟨w7.heap.size, 0, none⟩ (.slice fw lm cw) := ⟨_, rfl⟩
                    have PV : Pre V w w7 ⟨w.heap.size, w2.heap.size, wr.heap.size, w3.heap.size, w7.heap.size, w7.heap.size + 1⟩ (.slice f l cap) (.slice (some ⟨b, o, none⟩) n d) q fm lm cm fi ci Y (.slice fw lm cw) := by rw [hV]; exact P10.want _
                    have HOV : Hid (OwnW V w9.heap.size (.slice fw lm cw) lm (zerV Y q.N q.l)) := by rw [hV]; exact hOw.other _ _ _ (by omega)
                    have HPV := Lib.hid PV
                    have ei3 := PV.at_.i.cell
                    have ea43 := PV.at_.a4.cell
                    dsimp only at ei3 ea43
                    rw [hV] at ei3 ea43
                    have HMW := Lib.hid (zero_ok fi q.f lm ci q.l q.c Y q.N V PV.input PV.nums (by omega) hM hF)
                    clear P10 PV hOw hb10 HWR em1 ea41
                    go_wp2_with fail
                    rw [← hV]
                    refine HMW.out.mono ?_
                    rintro e w11 ⟨fx, cx, rfl, hOx, hb11⟩
                    have P11 := HPV.out.call hb11
                    have ex4 := P11.at_.x.cell
                    dsimp only at ex4
                    have gx4 := P11.at_.x.free
                    dsimp only at gx4
                    have HTT := Lib.hid (HPV.out.told_mem HOV.out (show w7.heap.size + 1 < w9.heap.size by omega) hb11 hOx (by omega))
                    clear P11 hOx hb11 HMW ei3 ea43 hV ew2 gw2
                    go_wp2_with fail
                    go_meet
                    exact ⟨0, fw, cw, fx, cx, lm, _, rfl, rfl, HTT⟩
                  · have em0 := HPR.out.at_.m.cell
                    have ei0 := HPR.out.at_.i.cell
                    have ea10 := HPR.out.at_.a1.cell
                    have ea20 := HPR.out.at_.a2.cell
                    have ea30 := HPR.out.at_.a3.cell
                    have ea40 := HPR.out.at_.a4.cell
                    dsimp only at em0 ei0 ea10 ea20 ea30 ea40
                    go_wp2_with fail
                    refine (there_any fm q.f lm cm q.l q.c q.N W8 HPR.out.nums (by omega) (by omega)).mono ?_
                    rintro e w9 ⟨⟨r, rfl, hr⟩, hb9⟩
                    obtain rfl : r = false := by
                      cases r
                      · rfl
                      · exact absurd (hr.1 rfl) hF
                    have P9 := HPR.out.call hb9
                    clear em0 ei0 ea10 ea20 ea30 ea40 hb9 hr
                    have HP9 := Lib.hid P9
                    have ei1 := P9.at_.i.cell
                    have ea41 := P9.at_.a4.cell
                    dsimp only at ei1 ea41
                    have HMW := Lib.hid (zero_err fi q.f lm ci q.l q.c q.N 2 w9 P9.nums (by omega) (by rw [if_pos hM]) (fun _ => hF))
                    clear P9
                    go_wp2_with fail
                    refine HMW.out.mono ?_
                    rintro e w10 ⟨rfl, hb10⟩
                    have P10 := HP9.out.call hb10
                    have ex2 := P10.at_.x.cell
                    dsimp only at ex2
                    have gx2 := P10.at_.x.free
                    dsimp only at gx2
                    have HTT := Lib.hid P10.told_errx
                    clear P10 hb10 HMW ei1 ea41
                    go_wp2_with fail
                    go_meet
                    exact ⟨2, none, 0, none, 0, 0, Y, rfl, rfl, HTT⟩
              · skip
                by_cases h6 : dd = 6
                · as_aux_lemma =>
                    have t4 : (dd == 4) = false := by simp; omega
                    have t5 : (dd == 5) = false := by simp; omega
                    have t6 : (dd == 6) = true := by simp; omega
                    clear h4 h5 h6
                    by_cases hF : allF lm (pairN q.a q.s) 2
                    · have em0 := HPR.out.at_.m.cell
                      have ei0 := HPR.out.at_.i.cell
                      have ea10 := HPR.out.at_.a1.cell
                      have ea20 := HPR.out.at_.a2.cell
                      dsimp only at em0 ei0 ea10 ea20
                      obtain ⟨W9, hW9⟩ : ∃ W9, W9 = W8.alloc (.cells #[.int .i64 q.a, .int .i64 q.s] 3) := ⟨_, rfl⟩
                      have hb9 : Below W8.heap.size W8 W9 := by rw [hW9]; exact bel_alloc (Below.refl _ _) _
                      have hN9 : NumsAt W9 (some ⟨W8.heap.size, 0, none⟩) 2 (pairN q.a q.s) := by rw [hW9]; exact nums2 W8 q.a q.s
                      have HTH := Lib.hid (there_any fm (some ⟨W8.heap.size, 0, none⟩) lm cm 2 2 (pairN q.a q.s) W9 hN9 (by omega) (by omega))
                      have HP9 := Lib.hid (HPR.out.call hb9)
                      have hs9 := hb9.size
                      clear hb9 hN9
                      go_wp2_with fail
                      rw [← hW9]
                      refine HTH.out.mono ?_
                      rintro e w10 ⟨⟨r, rfl, hr⟩, hb10⟩
                      obtain rfl := hr.2 hF
                      have HFF := Lib.hid hF
                      obtain ⟨x0, x1⟩ := hF 0 (by omega)
                      obtain ⟨y0, y1⟩ := hF 1 (by omega)
                      simp only [pairN, if_true, Nat.one_ne_zero, if_false] at x0 x1 y0 y1
                      clear hF
                      have P10 := HP9.out.call hb10
                      obtain ⟨bb, oo, rfl, hbb, _⟩ := P10.words.pos (by omega)
                      have hs10 := hb10.size
                      have HP10 := Lib.hid P10
                      have em1 := P10.at_.m.cell
                      dsimp only at em1
                      have HCP := Lib.hid (copyM_any (some ⟨bb, oo, none⟩) lm cm Y w10 (by omega) P10.words)
                      clear hr hb10 hW9 HTH P10 em0 ei0 ea10 ea20
                      go_wp2_with fail
                      refine HCP.out.mono ?_
                      rintro e w11 ⟨fw, cw, rfl, hOw, hb11⟩
                      obtain ⟨gw, cw', hv, hgw, _, _, _⟩ := hOw.pos (by omega)
                      simp at hv
                      obtain ⟨rfl, rfl⟩ := hv
                      have P11 := HP10.out.call hb11
                      have ew2 := P11.at_.w.cell
                      dsimp only at ew2
                      have gw2 := P11.at_.w.free
                      dsimp only at gw2
                      have HPV : Hid (Pre (w11.setCell ⟨w7.heap.size, 0, none⟩ (.slice (some ⟨gw, 0, none⟩) lm cw)) w w7 ⟨w.heap.size, w2.heap.size, wr.heap.size, w3.heap.size, w7.heap.size, w7.heap.size + 1⟩ (.slice f l cap) (.slice (some ⟨b, o, none⟩) n d) q (some ⟨bb, oo, none⟩) lm cm fi ci Y (.slice (some ⟨gw, 0, none⟩) lm cw)) := P11.want _
                      have HOV : Hid (OwnW (w11.setCell ⟨w7.heap.size, 0, none⟩ (.slice (some ⟨gw, 0, none⟩) lm cw)) w10.heap.size (.slice (some ⟨gw, 0, none⟩) lm cw) lm Y) := hOw.other _ _ _ (by omega)
                      clear P11 hOw hb11 HCP em1
                      go_wp2_with fail
                      obtain ⟨wo, rfl⟩ : ∃ wo : World, wo = wr := ⟨_, rfl⟩
                      go_loopw [18] (fun i wv => ∃ (j : Nat), j ≤ 8 ∧ i = .int .i64 j ∧ Hid (Pre wv w w7 ⟨w.heap.size, w2.heap.size, wo.heap.size, w3.heap.size, w7.heap.size, w7.heap.size + 1⟩ (.slice f l cap) (.slice (some ⟨b, o, none⟩) n d) q (some ⟨bb, oo, none⟩) lm cm fi ci Y (.slice (some ⟨gw, 0, none⟩) lm cw)) ∧ Hid (OwnW wv w10.heap.size (.slice (some ⟨gw, 0, none⟩) lm cw) lm (movV Y (q.a * 8).toNat (q.s * 8).toNat j))) (fun i _ => 8 - (intOf i).toNat)
                      case atStart => exact ⟨0, Nat.zero_le _, rfl, HPV, by rw [movV_zero]; exact HOV⟩
                      case round =>
                        obtain ⟨j, hj, rfl, HPW, HOW⟩ := hrel
                        by_cases hj8 : j < 8
                        · have ew5 := cell_drew HPW.out.at_.w.cell
                          have em5 := cell_drew HPW.out.at_.m.cell
                          have ea15 := cell_drew HPW.out.at_.a1.cell
                          have ea25 := cell_drew HPW.out.at_.a2.cell
                          dsimp only at ew5 em5 ea15 ea25
                          obtain ⟨b9, o9, hf9, _, hmm⟩ := HPW.out.words.pos (by omega)
                          simp at hf9
                          obtain ⟨rfl, rfl⟩ := hf9
                          have ev5 := cell_drew (hmm ((q.a * 8).toNat + j) (by omega))
                          have uv5 := hmm ((q.a * 8).toNat + j) (by omega)
                          have uw5 := HPW.out.at_.w.cell
                          have um5 := HPW.out.at_.m.cell
                          have ua15 := HPW.out.at_.a1.cell
                          have ua25 := HPW.out.at_.a2.cell
                          dsimp only at uw5 um5 ua15 ua25
                          obtain ⟨g9, c9, hv9, _, _, _, hcc⟩ := HOW.out.pos (by omega)
                          simp at hv9
                          obtain ⟨rfl, rfl⟩ := hv9
                          have eg5 := cell_drew (hcc ((q.s * 8).toNat + j) (by omega))
                          have fg5 := frozen_drew (HOW.out.frozen ((q.s * 8).toNat + j))
                          have hn1 : w7.heap.size ≠ gw := by omega
                          have hn2 : wo.heap.size ≠ gw := by omega
                          have hn3 : w2.heap.size ≠ gw := by omega
                          have hn4 : bb ≠ gw := by omega
                          have z1 : IntKind.i64.wrap (q.a * 8) = q.a * 8 := IntWalk.i64_in _ (by omega)
                          have z2 : IntKind.i64.wrap (q.a * 8 + (j : Int)) = q.a * 8 + (j : Int) := IntWalk.i64_in _ (by omega)
                          have z3 : (q.a * 8 + (j : Int)).toNat = (q.a * 8).toNat + j := by omega
                          have z4 : 0 ≤ q.a * 8 + (j : Int) := by omega
                          have z5 : q.a * 8 + (j : Int) < (lm : Int) := by omega
                          have v1 : IntKind.i64.wrap (q.s * 8) = q.s * 8 := IntWalk.i64_in _ (by omega)
                          have v2 : IntKind.i64.wrap (q.s * 8 + (j : Int)) = q.s * 8 + (j : Int) := IntWalk.i64_in _ (by omega)
                          have v3 : (q.s * 8 + (j : Int)).toNat = (q.s * 8).toNat + j := by omega
                          have v4 : 0 ≤ q.s * 8 + (j : Int) := by omega
                          have v5 : q.s * 8 + (j : Int) < (lm : Int) := by omega
                          have hj9 : (j : Int) < 8 := by omega
                          clear hmm hcc
                          go_wp2_with fail
                          go_region_held3 (fun w' => w'.cell? ⟨w7.heap.size, 0, none⟩ = some (.slice (some ⟨gw, 0, none⟩) lm cw) ∧ w'.cell? ⟨wo.heap.size, 2, none⟩ = some (.int .i64 q.s) ∧ w'.cell? ⟨w2.heap.size, 0, none⟩ = some (.slice (some ⟨bb, oo, none⟩) lm cm) ∧ w'.cell? ⟨wo.heap.size, 1, none⟩ = some (.int .i64 q.a) ∧ w'.cell? ⟨bb, oo + ((q.a * 8).toNat + j), none⟩ = some (.int .u64 (u (Y ((q.a * 8).toNat + j)))))
                            (refine ⟨?_, ?_, ?_, ?_, ?_⟩ <;> (repeat (first | with_reducible assumption | with_reducible refine cell_drew ?_ | with_reducible refine cell_set _ hn1 ?_ | with_reducible refine cell_set _ hn2 ?_ | with_reducible refine cell_set _ hn3 ?_ | with_reducible refine cell_set _ hn4 ?_))) (first | fail)
                          clear z1 z2 z3 z4 z5 v1 v2 v3 v4 v5
                          go_wp2_with fail
                          go_roundw
                          case rel =>
                            refine ⟨j + 1, by omega, by go_num, HPW.out.poke gw _ _ (by simp only; omega), ?_⟩
                            have := (HOW.out.stored ((q.s * 8).toNat + j) (Y ((q.a * 8).toNat + j))).drew
                            rw [movV_succ] at this
                            exact this
                          case measure => simp [intOf]; omega
                        · obtain rfl : j = 8 := by omega
                          have ei5 := HPW.out.at_.i.cell
                          have ea15 := HPW.out.at_.a1.cell
                          have ea25 := HPW.out.at_.a2.cell
                          dsimp only at ei5 ea15 ea25
                          have HMW := Lib.hid (copy_ok fi lm ci Y q.a q.s wr HPW.out.input hM HFF.out)
                          go_wp2_with fail
                          refine HMW.out.mono ?_
                          rintro e w12 ⟨fx, cx, rfl, hOx, hb12⟩
                          have P12 := HPW.out.call hb12
                          have ex6 := P12.at_.x.cell
                          have gx6 := P12.at_.x.free
                          dsimp only at ex6 gx6
                          have HTT := Lib.hid (HPW.out.told_mem HOW.out (show w7.heap.size + 1 < w10.heap.size by omega) hb12 hOx (by omega))
                          clear P12 hOx hb12 HMW ei5 ea15 ea25
                          go_wp2_with fail
                          go_meet
                          exact ⟨0, some ⟨gw, 0, none⟩, cw, fx, cx, lm, _, rfl, rfl, HTT⟩
                    · have em0 := HPR.out.at_.m.cell
                      have ei0 := HPR.out.at_.i.cell
                      have ea10 := HPR.out.at_.a1.cell
                      have ea20 := HPR.out.at_.a2.cell
                      dsimp only at em0 ei0 ea10 ea20
                      obtain ⟨W9, hW9⟩ : ∃ W9, W9 = W8.alloc (.cells #[.int .i64 q.a, .int .i64 q.s] 3) := ⟨_, rfl⟩
                      have hb9 : Below W8.heap.size W8 W9 := by rw [hW9]; exact bel_alloc (Below.refl _ _) _
                      have hN9 : NumsAt W9 (some ⟨W8.heap.size, 0, none⟩) 2 (pairN q.a q.s) := by rw [hW9]; exact nums2 W8 q.a q.s
                      have HTH := Lib.hid (there_any fm (some ⟨W8.heap.size, 0, none⟩) lm cm 2 2 (pairN q.a q.s) W9 hN9 (by omega) (by omega))
                      have HP9 := Lib.hid (HPR.out.call hb9)
                      have hs9 := hb9.size
                      clear hb9 hN9
                      go_wp2_with fail
                      rw [← hW9]
                      refine HTH.out.mono ?_
                      rintro e w10 ⟨⟨r, rfl, hr⟩, hb10⟩
                      obtain rfl : r = false := by
                        cases r
                        · rfl
                        · exact absurd (hr.1 rfl) hF
                      have P10 := HP9.out.call hb10
                      have HP10 := Lib.hid P10
                      have ei1 := P10.at_.i.cell
                      have ea11 := P10.at_.a1.cell
                      have ea21 := P10.at_.a2.cell
                      dsimp only at ei1 ea11 ea21
                      have HMW := Lib.hid (copy_err fi lm ci q.a q.s 2 w10 (by rw [if_pos hM]) (fun _ => hF))
                      clear hr hb10 hW9 HTH P10 em0 ei0 ea10 ea20
                      go_wp2_with fail
                      refine HMW.out.mono ?_
                      rintro e w11 ⟨rfl, hb11⟩
                      have P11 := HP10.out.call hb11
                      have ex2 := P11.at_.x.cell
                      dsimp only at ex2
                      have gx2 := P11.at_.x.free
                      dsimp only at gx2
                      have HTT := Lib.hid P11.told_errx
                      clear P11 hb11 HMW ei1 ea11 ea21
                      go_wp2_with fail
                      go_meet
                      exact ⟨2, none, 0, none, 0, 0, Y, rfl, rfl, HTT⟩
                · skip
                  by_cases h7 : dd = 7
                  · as_aux_lemma =>
                      have t4 : (dd == 4) = false := by simp; omega
                      have t5 : (dd == 5) = false := by simp; omega
                      have t6 : (dd == 6) = false := by simp; omega
                      have t7 : (dd == 7) = true := by simp; omega
                      clear h4 h5 h6 h7
                      by_cases hF : 0 ≤ q.a ∧ q.a < (lm : Int) / 8
                      · have em0 := HPR.out.at_.m.cell
                        have ei0 := HPR.out.at_.i.cell
                        have ea10 := HPR.out.at_.a1.cell
                        dsimp only at em0 ei0 ea10
                        have HMW := Lib.hid (frame_ok fi lm ci Y q.a W8 HPR.out.input hci hM hF.1 hF.2)
                        go_wp2_with fail
                        refine HMW.out.mono ?_
                        rintro e w9 ⟨f9, c9, rfl, hO9, hb9⟩
                        have P9 := HPR.out.call hb9
                        have HP9 := Lib.hid P9
                        have em1 := P9.at_.m.cell
                        have ea11 := P9.at_.a1.cell
                        dsimp only at em1 ea11
                        obtain ⟨W10, hW10⟩ : ∃ W10, W10 = w9.alloc (.cells #[.int .i64 q.a] 3) := ⟨_, rfl⟩
                        have hb910 : Below w9.heap.size w9 W10 := by rw [hW10]; exact bel_alloc (Below.refl _ _) _
                        have hN10 : NumsAt W10 (some ⟨w9.heap.size, 0, none⟩) 1 (fun _ => q.a) := by rw [hW10]; exact nums1 w9 q.a
                        have HTH := Lib.hid (there_any fm (some ⟨w9.heap.size, 0, none⟩) lm cm 1 1 (fun _ => q.a) W10 hN10 (by omega) (by omega))
                        have HB910 := Lib.hid hb910
                        clear P9 HMW em0 ei0 ea10 hb910 hN10
                        go_wp2_with fail
                        rw [← hW10]
                        refine HTH.out.mono ?_
                        rintro e w11 ⟨⟨r, rfl, hr⟩, hb11⟩
                        obtain rfl := hr.2 (fun j _ => hF)
                        have hb9x := bel_trans HB910.out hb11
                        have P11 := HP9.out.call hb9x
                        have HP11 := Lib.hid P11
                        have HO11 := Lib.hid (hO9.below hb9x)
                        obtain ⟨bb, oo, rfl, _, hmm⟩ := P11.words.pos (by omega)
                        have HMM := Lib.hid hmm
                        have hs9 := hb9.size
                        have em2 := P11.at_.m.cell
                        have ea12 := P11.at_.a1.cell
                        dsimp only at em2 ea12
                        have hB8 := Lib.hid (bel_trans hb9 hb9x)
                        obtain ⟨f0, f1⟩ := hF
                        have z1 : IntKind.i64.wrap (q.a * 8) = q.a * 8 := IntWalk.i64_in _ (by omega)
                        have z2 : IntKind.i64.wrap (q.a * 8 + 8) = q.a * 8 + 8 := IntWalk.i64_in _ (by omega)
                        have z3 : 0 ≤ q.a * 8 := by omega
                        have z4 : q.a * 8 ≤ q.a * 8 + 8 := by omega
                        have z5 : q.a * 8 + 8 ≤ (cm : Int) := by omega
                        have z6 : 0 ≤ q.a * 8 + 8 := by omega
                        have HL8 : Hid ((q.a * 8 + 8).toNat - (q.a * 8).toNat = 8) := by show _ = _; omega
                        have HNE : Hid ((q.a * 8).toNat + 8 ≤ lm) := by show _ ≤ _; omega
                        clear P11 hmm hr hb11 hb9x hb9 hO9 em1 ea11 hW10 HTH
                        go_wp2_with fail
                        go_quiet (fail)
                        rw [HL8.out]
                        have hwm : ∀ m, WordsAt (w11.drewN m) (some ⟨bb, oo + (q.a * 8).toNat, none⟩) 8 (frV Y q.a) := by
                          intro m j hj
                          refine ⟨bb, _, rfl, ?_⟩
                          rw [Nat.add_assoc]
                          have := HNE.out
                          exact HMM.out ((q.a * 8).toNat + j) (by omega)
                        have hlw : ∀ m, WordsAt (w11.drewN m) f9 8 (frV Y q.a) := fun m => (HO11.out.below (below_drewN (Below.refl _ _) m)).words
                        have hsp : ∀ m, W8.heap.size ≤ (w11.drewN m).heap.size ∧ OwnW (w11.drewN m) W8.heap.size (.slice f9 8 c9) 8 (frV Y q.a) := fun m => ⟨hB8.out.size, HO11.out.below (below_drewN (Below.refl _ _) m)⟩
                        have HWM := Lib.hid hwm
                        have HLW := Lib.hid hlw
                        have HSP := Lib.hid hsp
                        clear hwm hlw hsp z1 z2 z3 z4 z5 z6
                        go_wp2_with fail
                        refine (eqW_any f9 _ 8 c9 _ (frV Y q.a) _ (by omega) (HLW.out _) (HWM.out _)).mono ?_
                        rintro e wq ⟨rfl, mq, rfl⟩
                        go_wp2_with fail
                        refine (spoil_any W8.heap.size f9 8 c9 _ _ (by omega) (HSP.out _).1 (HSP.out _).2).mono ?_
                        rintro e wz ⟨rfl, hbz⟩
                        have HTT := Lib.hid (HPR.out.call (V' := wz) ((below_drewN hB8.out _).trans hbz)).told_nil
                        clear hbz HSP HWM HLW
                        go_wp2_with fail
                        go_meet
                        exact ⟨0, none, 0, none, 0, 0, Y, rfl, rfl, HTT⟩
                      · have em0 := HPR.out.at_.m.cell
                        have ei0 := HPR.out.at_.i.cell
                        have ea10 := HPR.out.at_.a1.cell
                        dsimp only at em0 ei0 ea10
                        have HMW := Lib.hid (frame_err fi lm ci q.a 2 W8 (by rw [if_pos hM]) (fun _ => hF))
                        go_wp2_with fail
                        refine HMW.out.mono ?_
                        rintro e w9 ⟨rfl, hb9⟩
                        have P9 := HPR.out.call hb9
                        have HP9 := Lib.hid P9
                        have em1 := P9.at_.m.cell
                        have ea11 := P9.at_.a1.cell
                        dsimp only at em1 ea11
                        obtain ⟨W10, hW10⟩ : ∃ W10, W10 = w9.alloc (.cells #[.int .i64 q.a] 3) := ⟨_, rfl⟩
                        have hb910 : Below w9.heap.size w9 W10 := by rw [hW10]; exact bel_alloc (Below.refl _ _) _
                        have hN10 : NumsAt W10 (some ⟨w9.heap.size, 0, none⟩) 1 (fun _ => q.a) := by rw [hW10]; exact nums1 w9 q.a
                        have HTH := Lib.hid (there_any fm (some ⟨w9.heap.size, 0, none⟩) lm cm 1 1 (fun _ => q.a) W10 hN10 (by omega) (by omega))
                        have HB910 := Lib.hid hb910
                        clear P9 HMW em0 ei0 ea10 hb910 hN10
                        go_wp2_with fail
                        rw [← hW10]
                        refine HTH.out.mono ?_
                        rintro e w11 ⟨⟨r, rfl, hr⟩, hb11⟩
                        obtain rfl : r = false := by
                          cases r
                          · rfl
                          · exact absurd (hr.1 rfl 0 (by omega)) hF
                        have HP11 := Lib.hid (HP9.out.call (bel_trans HB910.out hb11))
                        clear hr hb11 hW10 HTH HB910 em1 ea11
                        have HEQ := Lib.hid (eqW_any none none 0 0 0 Y w11 (by omega) (CellsAt.empty _ _ _) (CellsAt.empty _ _ _))
                        go_wp2_with fail
                        refine HEQ.out.mono ?_
                        rintro e wq ⟨rfl, mq, rfl⟩
                        have HSP := Lib.hid (spoil_any w11.heap.size none 0 0 Y (w11.drewN mq) (by omega) (Nat.le_refl _) (OwnW.nil _ _ _))
                        go_wp2_with fail
                        refine HSP.out.mono ?_
                        rintro e wz ⟨rfl, hbz⟩
                        have HTT := Lib.hid (HP11.out.call (V' := wz) ((below_drewN (Below.refl _ _) mq).trans hbz)).told_nil
                        clear hbz HSP HEQ
                        go_wp2_with fail
                        go_meet
                        exact ⟨2, none, 0, none, 0, 0, Y, rfl, rfl, HTT⟩
                  · skip
                    as_aux_lemma =>
                      have t4 : (dd == 4) = false := by simp; omega
                      have t5 : (dd == 5) = false := by simp; omega
                      have t6 : (dd == 6) = false := by simp; omega
                      have t7 : (dd == 7) = false := by simp; omega
                      clear h4 h5 h6 h7
                      by_cases hE : mayE lm q.a q.s = 0
                      · have em0 := HPR.out.at_.m.cell
                        have ei0 := HPR.out.at_.i.cell
                        have ea10 := HPR.out.at_.a1.cell
                        have ea20 := HPR.out.at_.a2.cell
                        have ea30 := HPR.out.at_.a3.cell
                        have ea40 := HPR.out.at_.a4.cell
                        dsimp only at em0 ei0 ea10 ea20 ea30 ea40
                        go_wp2_with fail
                        refine (rmay_any fm lm cm q.a q.s W8 (by omega)).mono ?_
                        rw [hE]
                        rintro e w9 ⟨rfl, hw9⟩
                        have P9 := HPR.out.call (V' := w9) (by rw [hw9]; exact bel_alloc (Below.refl _ _) _)
                        have hs9 : W8.heap.size ≤ w9.heap.size := by rw [hw9]; simp
                        clear em0 ei0 ea10 ea20 ea30 ea40 hw9
                        have HP9 := Lib.hid P9
                        have em1 := P9.at_.m.cell
                        have ei1 := P9.at_.i.cell
                        have ea11 := P9.at_.a1.cell
                        have ea21 := P9.at_.a2.cell
                        have ea31 := P9.at_.a3.cell
                        have ea41 := P9.at_.a4.cell
                        dsimp only at em1 ei1 ea11 ea21 ea31 ea41
                        have HWR := Lib.hid (rwrite_ok fm lm cm Y q.a q.s q.v w9 P9.words hM hE)
                        clear P9
                        go_wp2_with fail
                        refine HWR.out.mono ?_
                        rintro e w10 ⟨fw, cw, rfl, hOw, hb10⟩
                        have P10 := HP9.out.call hb10
                        have ew2 := P10.at_.w.cell
                        dsimp only at ew2
                        have gw2 := P10.at_.w.free
                        dsimp only at gw2
                        obtain ⟨V, hV⟩ : ∃ V, V = w10.setCell ⟨w7.heap.size, 0, none⟩ (.slice fw lm cw) := ⟨_, rfl⟩
                        have PV : Pre V w w7 ⟨w.heap.size, w2.heap.size, wr.heap.size, w3.heap.size, w7.heap.size, w7.heap.size + 1⟩ (.slice f l cap) (.slice (some ⟨b, o, none⟩) n d) q fm lm cm fi ci Y (.slice fw lm cw) := by rw [hV]; exact P10.want _
                        have HOV : Hid (OwnW V w9.heap.size (.slice fw lm cw) lm (wrV Y q.a q.s q.v)) := by rw [hV]; exact hOw.other _ _ _ (by omega)
                        have HPV := Lib.hid PV
                        have ei3 := PV.at_.i.cell
                        have ea13 := PV.at_.a1.cell
                        have ea23 := PV.at_.a2.cell
                        have ea33 := PV.at_.a3.cell
                        dsimp only at ei3 ea13 ea23 ea33
                        rw [hV] at ei3 ea13 ea23 ea33
                        have HMW := Lib.hid (write_ok fi lm ci Y q.a q.s q.v V PV.input hM hE)
                        clear P10 PV hOw hb10 HWR em1 ei1 ea11 ea21 ea31 ea41
                        go_wp2_with fail
                        rw [← hV]
                        refine HMW.out.mono ?_
                        rintro e w11 ⟨fx, cx, rfl, hOx, hb11⟩
                        have P11 := HPV.out.call hb11
                        have ex4 := P11.at_.x.cell
                        dsimp only at ex4
                        have gx4 := P11.at_.x.free
                        dsimp only at gx4
                        have HTT := Lib.hid (HPV.out.told_mem HOV.out (show w7.heap.size + 1 < w9.heap.size by omega) hb11 hOx (by omega))
                        clear P11 hOx hb11 HMW ei3 ea13 ea23 ea33 hV ew2 gw2
                        go_wp2_with fail
                        go_meet
                        exact ⟨0, fw, cw, fx, cx, lm, _, rfl, rfl, HTT⟩
                      · have hk' : (mayE lm q.a q.s == 0) = false := by simpa using hE
                        have em0 := HPR.out.at_.m.cell
                        have ei0 := HPR.out.at_.i.cell
                        have ea10 := HPR.out.at_.a1.cell
                        have ea20 := HPR.out.at_.a2.cell
                        have ea30 := HPR.out.at_.a3.cell
                        have ea40 := HPR.out.at_.a4.cell
                        dsimp only at em0 ei0 ea10 ea20 ea30 ea40
                        go_wp2_with fail
                        refine (rmay_any fm lm cm q.a q.s W8 (by omega)).mono ?_
                        rintro e w9 ⟨rfl, hw9⟩
                        have P9 := HPR.out.call (V' := w9) (by rw [hw9]; exact bel_alloc (Below.refl _ _) _)
                        clear em0 ei0 ea10 ea20 ea30 ea40 hw9
                        have HP9 := Lib.hid P9
                        have ei1 := P9.at_.i.cell
                        have ea11 := P9.at_.a1.cell
                        have ea21 := P9.at_.a2.cell
                        have ea31 := P9.at_.a3.cell
                        dsimp only at ei1 ea11 ea21 ea31
                        have HMW := Lib.hid (write_err fi lm ci q.a q.s (mayE lm q.a q.s) q.v w9 (by rw [if_pos hM]) hE)
                        generalize mayE lm q.a q.s = kk at hk' HMW
                        clear P9
                        go_wp2_with fail
                        refine HMW.out.mono ?_
                        rintro e w10 ⟨rfl, hb10⟩
                        have P10 := HP9.out.call hb10
                        have ex2 := P10.at_.x.cell
                        dsimp only at ex2
                        have gx2 := P10.at_.x.free
                        dsimp only at gx2
                        have HTT := Lib.hid P10.told_errx
                        clear P10 hb10 HMW ei1 ea11 ea21 ea31
                        go_wp2_with fail
                        go_meet
                        exact ⟨kk, none, 0, none, 0, 0, Y, rfl, rfl, HTT⟩
          case rest =>
            as_aux_lemma =>
              obtain ⟨kk, fw, cw, fx, cx, lx, Z, rfl, rfl, HT⟩ := hcut
              have hsh := HT.out.short
              have em := HT.out.at_.m.cell
              have ei := HT.out.at_.i.cell
              have ew := HT.out.at_.w.cell
              have ex := HT.out.at_.x.cell
              dsimp only at em ei ew ex
              have kb : (kk != kk) = false := by simp
              obtain ⟨B, w1x, hbx, hw1B, hBw, y1, i1x, zz1, zzW, hOx⟩ := HT.out.own
              dsimp only at hbx
              have HQ1 := Lib.hid (eqM_any fx fw lx cx cw Z wc (by omega) hOx.words zzW)
              have Hy1 := Lib.hid y1
              have Hi1 := Lib.hid i1x
              have Hz1 := Lib.hid zz1
              have HzW := Lib.hid zzW
              have HOx := Lib.hid hOx
              clear y1 i1x zz1 zzW hOx
              go_wp2_with (first
                | (go_at_call 14; refine (num_any _ _).mono ?_; rintro e wn ⟨rfl, rfl⟩))
              refine HQ1.out.mono ?_
              rintro e w10 ⟨rfl, hb10⟩
              have E10 := HT.out.at_.below hb10
              have em1 := E10.m.cell
              have ei1 := E10.i.cell
              dsimp only at em1 ei1
              have HQ2 := Lib.hid (eqM_any fi fm lm ci cm Y w10 (by omega) (HT.out.input.below hb10) (HT.out.words.below hb10))
              have HB10 := Lib.hid hb10
              clear hb10 HQ1 E10
              go_wp2_with fail
              refine HQ2.out.mono ?_
              rintro e w11 ⟨rfl, hb11⟩
              have hbc := bel_trans HB10.out hb11
              have hsz11 := hbc.size
              have E11 := HT.out.at_.below hbc
              have ex1 := E11.x.cell
              dsimp only at ex1
              have HE11 := Lib.hid E11
              have HQ3 := Lib.hid (spoil_any B fx lx cx Z w11 (by omega) (by omega) (HOx.out.below hbc))
              have HBC := Lib.hid hbc
              clear hb11 hbc E11 HQ2 em1 ei1 em ei ew ex
              go_wp2_with fail
              refine HQ3.out.mono ?_
              rintro e w12 ⟨rfl, hb12⟩
              have E12 := HE11.out.under HAPX.out hb12 hbx
              have HE12 := Lib.hid E12
              have em2 := E12.m.cell
              have ei2 := E12.i.cell
              dsimp only at em2 ei2
              have Y12 := CellsAt.under2 Hy1.out (HT.out.words.below HBC.out) hb12 hw1B
              have I12 := CellsAt.under2 Hi1.out (HT.out.input.below HBC.out) hb12 hw1B
              have Z12 := CellsAt.under2 Hz1.out (HzW.out.below HBC.out) hb12 hw1B
              have HB12 := Lib.hid ((bel_trans HT.out.below HBC.out).trans (hb12.mono (by omega)))
              have HQ4 := Lib.hid (eqM_any fi fm lm ci cm Y w12 (by omega) I12 Y12)
              have HY12 := Lib.hid Y12
              have HZ12 := Lib.hid Z12
              clear hb12 E12 Y12 I12 Z12 HQ3 ex1 HE11
              go_wp2_with fail
              refine HQ4.out.mono ?_
              rintro e w13 ⟨rfl, hb13⟩
              have HE13 := Lib.hid (HE12.out.below hb13)
              have HB13 := Lib.hid (bel_trans HB12.out hb13)
              have HY13 := Lib.hid (HY12.out.below hb13)
              have HZ13 := Lib.hid (HZ12.out.below hb13)
              clear hb13 HQ4 em2 ei2 HE12 HB12 HY12 HZ12
              by_cases hupd : kk = 0 ∧ dd ≠ 4 ∧ dd ≠ 7
              · obtain ⟨hk0, hk4, hk7⟩ := hupd
                subst hk0
                have t4 : (dd != 4) = true := by simpa using hk4
                have t7 : (dd != 7) = true := by simpa using hk7
                have ew3 := HE13.out.w.cell
                have em3 := HE13.out.m.cell
                have gm3 := HE13.out.m.free
                dsimp only at ew3 em3 gm3
                clear hk4 hk7 kb
                go_wp2_with fail
                refine (copyM_any fw lx cw Z w13 (by omega) HZ13.out).mono ?_
                rintro e w14 ⟨f14, c14, rfl, hO14, hb14⟩
                have E14 := HE13.out.below hb14
                have em4 := E14.m.cell
                have gm4 := E14.m.free
                dsimp only at em4 gm4
                have E15 := E14.setM HAPX.out (.slice f14 lx c14)
                have hms := HE13.out.m.lt
                dsimp only at hms E15
                have HE15 := Lib.hid E15
                have HO15 := Lib.hid (hO14.other w2.heap.size 0 (.slice f14 lx c14) hms).words
                have hc14 := hO14.cap
                have HB15 := Lib.hid ((bel_trans HB13.out hb14).setCell (p := ⟨w2.heap.size, 0, none⟩) (by simp only; omega) (.slice f14 lx c14))
                clear hO14 hb14 E14 E15 ew3 em3 gm3 hms
                go_wp2_with fail
                go_roundw
                case rel => exact ⟨k + 1, f14, lx, c14, Z, by omega, by go_num, hsh, hc14, HB15.out, HE15.out.p0, HE15.out.p1, HE15.out.m, HO15⟩
                case measure => simp [intOf]; omega
              · by_cases hk0 : kk = 0
                · by_cases hk4 : dd = 4
                  · have t4 : (dd != 4) = false := by simpa using hk4
                    subst hk0
                    clear hupd hk4 kb
                    go_wp2_with fail
                    go_roundw
                    case rel => exact ⟨k + 1, fm, lm, cm, Y, by omega, by go_num, hlm, hcm, HB13.out, HE13.out.p0, HE13.out.p1, HE13.out.m, HY13⟩
                    case measure => simp [intOf]; omega
                  · have t4 : (dd != 4) = true := by simpa using hk4
                    have t7 : (dd != 7) = false := by
                      have : dd = 7 := by
                        by_cases h7 : dd = 7
                        · exact h7
                        · exact absurd ⟨hk0, hk4, h7⟩ hupd
                      simpa using this
                    subst hk0
                    clear hupd hk4 kb
                    go_wp2_with fail
                    go_roundw
                    case rel => exact ⟨k + 1, fm, lm, cm, Y, by omega, by go_num, hlm, hcm, HB13.out, HE13.out.p0, HE13.out.p1, HE13.out.m, HY13⟩
                    case measure => simp [intOf]; omega
                · have t0 : (kk == 0) = false := by simpa using hk0
                  clear hupd hk0 kb
                  go_wp2_with fail
                  go_roundw
                  case rel => exact ⟨k + 1, fm, lm, cm, Y, by omega, by go_num, hlm, hcm, HB13.out, HE13.out.p0, HE13.out.p1, HE13.out.m, HY13⟩
                  case measure => simp [intOf]; omega
      · by_cases hq : k < n
        · have hq' : ¬ (k < 15) := by omega
          go_wp2_with (go_at_call 31; refine (wakes_any _).mono ?_; rintro e w7 ⟨rfl, hb7⟩)
          go_ret
          exact ⟨rfl, bel_trans HB.out hb7⟩
        · go_wp2_with (go_at_call 31; refine (wakes_any _).mono ?_; rintro e w7 ⟨rfl, hb7⟩)
          go_ret
          exact ⟨rfl, bel_trans HB.out hb7⟩
end Go.Proofs.Ytpnkhijbfnnggaa
