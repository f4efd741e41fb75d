/- Stage 12: the walk of AluDoes. -/
import Derived.Test.YthmcamgbnjfklaaAd
set_option linter.all false
namespace Go.Proofs.Ythmcamgbnjfklaa
open Go.ChangeShapes Go.WideShapes Go.ChangeAt Go.RowKit Go.Deep

theorem row_one {w : World} {b o : Nat} {v : Value} (h : w.cell? ⟨b, o, none⟩ = some v) : RowAt w b o 1 #[v] :=
  ⟨cell_block h, fun j hj => by
    obtain rfl : j = 0 := by omega
    exact h⟩
theorem two_words {W : World} {b : Nat} {t : TypeId} {x y : BitVec 64} (h : BoxAt W b #[.int .u64 (u x), .int .u64 (u y)] t) : WordsAt W (some ⟨b, 0, none⟩) 2 (fun j => if j = 0 then x else y) := by
  intro j hj
  refine ⟨b, 0, rfl, ?_⟩
  match j, hj with
  | 0, _ => exact h.get 0 _ rfl
  | 1, _ => exact h.get 1 _ rfl
theorem sum_two (x y : BitVec 64) : sumX (fun j => if j = 0 then x else y) 2 = x + y := by
  simp [sumX]
set_option maxRecDepth 100000 in
set_option maxHeartbeats 3200000 in
theorem does12_walk (PD : AluDoC) (PS : AluSumC) (f : Option Addr) (l c : Nat) (w : World) (q : Nat → Q12) (hl : l ≤ 1000000000000000) (hq : SeqAt 8 ask12V Ok12 w f l q) :
    Calls Try.prog 3 #[.slice f l c] w fun e w' => e = .returned (.bool true) ∧ Below w.heap.size w w' := by
  have HQ := Lib.hid hq
  have HWK := Lib.hid (fun W => wakes12_any PD W)
  have PD := Lib.hid PD
  clear hq
  have PS := Lib.hid PS
  have htw : w.heap.size ≤ w.heap.size := Nat.le_refl _
  have B0 := Lib.hid (Below.refl w.heap.size w)
  go_enter Try.func3, Try.ntmps3
  go_wp2
  go_loopw [3] (fun i wr => ∃ (j : Nat), j ≤ l ∧ i = .int .i64 j ∧ Hid (Below w.heap.size w wr)) (fun i _ => l - (intOf i).toNat)
  case atStart => exact ⟨0, by omega, rfl, B0.out⟩
  case round =>
    clear B0
    obtain ⟨j, hkj, rfl, Br⟩ := hrel
    obtain ⟨mr, hmr⟩ : ∃ mr, mr = wr.heap.size := ⟨_, rfl⟩
    have hgwr : w.heap.size ≤ mr := by rw [hmr]; exact Br.out.size
    have hsr : mr ≤ wr.heap.size := by omega
    clear hmr
    by_cases hltj : j < l
    · have ik0j : (0 : Int) ≤ (j : Int) := by omega
      have ik1j : (j : Int) < (l : Int) := by omega
      have ikwj : IntKind.i64.wrap ((j : Int) + 1) = (j : Int) + 1 := IntWalk.i64_in _ (by omega)
      by_cases hlij : j < 15
      rotate_left
      · have dlj : decide ((j : Int) < 15) = false := decide_eq_false (by omega)
        go_wp2_with fail
        refine (HWK.out _).mono ?_
        rintro e w1 ⟨rfl, hb1⟩
        have hz1 := hb1.size
        have B1 := Lib.hid ((bel_trans Br.out hb1))
        skip
        have hs1 : mr ≤ w1.heap.size := by omega
        clear Br hsr hb1 hz1
        go_wp2
        go_ret
        exact ⟨rfl, B1.out⟩
      have dlj : decide ((j : Int) < 15) = true := decide_eq_true (by omega)
      obtain ⟨b, o, rfl, hr, hok⟩ := HQ.out j hltj
      have HRq := Lib.hid (show RowAt w b (o + j * 8) 8 (ask12V (q j)) from hr)
      have HOK := Lib.hid hok
      have hbq : b < w.heap.size := hr.lt
      clear hr hok
      generalize q j = qj at *
      obtain ⟨⟨xo, xd, xn, xm, xi⟩, xa, xb, xf, xl, xc, xX⟩ := qj
      unfold ask12V at HRq
      simp only at HRq
      by_cases hx5 : (xl : Int) ≤ 500
      · have d5 : decide (500 < (xl : Int)) = false := decide_eq_false (by omega)
        have yq := (HRq.out.below Br.out)
        have yq0 := yq.get0 (.int .i64 xo) (by decide) rfl
        have yq1 := yq.get 1 (.int .i64 xd) (by decide) rfl
        have yq2 := yq.get 2 (.int .i64 xn) (by decide) rfl
        have yq3 := yq.get 3 (.int .i64 xm) (by decide) rfl
        have yq4 := yq.get 4 (.int .i64 xi) (by decide) rfl
        have yq5 := yq.get 5 (.int .u64 (u xa)) (by decide) rfl
        have yq6 := yq.get 6 (.int .u64 (u xb)) (by decide) rfl
        have yq7 := yq.get 7 (.slice xf xl xc) (by decide) rfl
        clear yq
        go_upto_region 5 with fail
        clear yq0 yq1 yq2 yq3 yq4 yq5 yq6 yq7
        have P1 := Lib.hid ((BoxAt.newAt (wr) #[.int .i64 xo, .int .i64 xd, .int .i64 xn, .int .i64 xm, .int .i64 xi, .int .u64 (u xa), .int .u64 (u xb), .slice xf xl xc] 28 (wr.heap.size) (by first | omega | (simp; done) | (simp; omega))))
        have B1 := Lib.hid ((bel_alloc Br.out (.cells #[.int .i64 xo, .int .i64 xd, .int .i64 xn, .int .i64 xm, .int .i64 xi, .int .u64 (u xa), .int .u64 (u xb), .slice xf xl xc] 28)))
        obtain ⟨g1, hg1⟩ : ∃ g1, g1 = wr.heap.size := ⟨_, rfl⟩
        obtain ⟨W1, hW1⟩ : ∃ W1, W1 = (wr).alloc (.cells #[.int .i64 xo, .int .i64 xd, .int .i64 xn, .int .i64 xm, .int .i64 xi, .int .u64 (u xa), .int .u64 (u xb), .slice xf xl xc] 28) := ⟨_, rfl⟩
        have hs1 : g1 + 1 ≤ W1.heap.size := by rw [hW1, hg1]; simp
        rw [← hW1] at P1 B1 ⊢
        have hb1 : mr ≤ g1 := by omega
        rw [← hg1] at P1 ⊢
        clear hg1
        clear hW1 Br hsr
        have Pc7 := P1.out.get 7 (.slice xf xl xc) rfl
        go_wp2
        clear Pc7
        go_loopw [5] (fun i wr => ∃ (k : Nat), k ≤ 18 ∧ i = .int .i64 k ∧ Hid (BoxAt wr (g1) #[.int .i64 xo, .int .i64 xd, .int .i64 xn, .int .i64 xm, .int .i64 xi, .int .u64 (u xa), .int .u64 (u xb), .slice xf xl xc] 28) ∧ Hid (Below w.heap.size w wr)) (fun i _ => 18 - (intOf i).toNat)
        case atStart => exact ⟨0, by omega, rfl, P1.out, B1.out⟩
        case round =>
          clear P1 B1
          obtain ⟨k, hkk, rfl, Ps, Bs⟩ := hrel
          obtain ⟨ms, hms⟩ : ∃ ms, ms = wr.heap.size := ⟨_, rfl⟩
          have hgPs : g1 + 1 ≤ ms := by rw [hms]; exact Ps.out.lt
          have hgws : w.heap.size ≤ ms := by rw [hms]; exact Bs.out.size
          have hss : ms ≤ wr.heap.size := by omega
          clear hms
          by_cases hltk : k < 18
          · have ik0k : (0 : Int) ≤ (k : Int) := by omega
            have ik1k : (k : Int) < (18 : Int) := by omega
            have ikwk : IntKind.i64.wrap ((k : Int) + 1) = (k : Int) + 1 := IntWalk.i64_in _ (by omega)
            have HD := Lib.hid (fun W => PD.out ⟨k, xd, xn, xm, xi⟩ xa xb W)
            have HR := Lib.hid (fun W => rdo_any ⟨k, xd, xn, xm, xi⟩ xa xb W)
            have HM := Lib.hid (fun W => rmaydo_any ⟨k, xd, xn, xm, xi⟩ W)
            simp only at HR HD
            generalize doI k xi xa xb = rr at *
            generalize mayDo ⟨k, xd, xn, xm, xi⟩ = mb at *
            unfold insV at HD HR HM
            simp only at HD HR HM
            cases mb
            · rw [if_neg (by decide), if_neg (by decide)] at HD
              have Pc0 := Ps.out.get 0 (.int .i64 xo) rfl
              have Pc1 := Ps.out.get 1 (.int .i64 xd) rfl
              have Pc2 := Ps.out.get 2 (.int .i64 xn) rfl
              have Pc3 := Ps.out.get 3 (.int .i64 xm) rfl
              have Pc4 := Ps.out.get 4 (.int .i64 xi) rfl
              go_upto_region 11 with fail
              clear Pc0 Pc1 Pc2 Pc3 Pc4
              have P2 := Lib.hid ((Ps.out.alloc (.cells #[.int .i64 xo, .int .i64 xd, .int .i64 xn, .int .i64 xm, .int .i64 xi] 24)))
              have X2 := Lib.hid ((BoxAt.newAt (wr) #[.int .i64 xo, .int .i64 xd, .int .i64 xn, .int .i64 xm, .int .i64 xi] 24 (wr.heap.size) (by first | omega | (simp; done) | (simp; omega))))
              have B2 := Lib.hid ((bel_alloc Bs.out (.cells #[.int .i64 xo, .int .i64 xd, .int .i64 xn, .int .i64 xm, .int .i64 xi] 24)))
              obtain ⟨g2, hg2⟩ : ∃ g2, g2 = wr.heap.size := ⟨_, rfl⟩
              obtain ⟨W2, hW2⟩ : ∃ W2, W2 = (wr).alloc (.cells #[.int .i64 xo, .int .i64 xd, .int .i64 xn, .int .i64 xm, .int .i64 xi] 24) := ⟨_, rfl⟩
              have hs2 : g2 + 1 ≤ W2.heap.size := by rw [hW2, hg2]; simp
              rw [← hW2] at P2 X2 B2 ⊢
              have hb2 : ms ≤ g2 := by omega
              rw [← hg2] at X2 ⊢
              clear hg2
              clear hW2 Ps Bs hss
              have Xc0 := X2.out.get 0 (.int .i64 xo) rfl
              have Xz0 := X2.out.free 0
              go_upto_region 12 with fail
              clear Xc0 Xz0
              have P3 := Lib.hid ((P2.out.other ⟨g2, 0, none⟩ (.int .i64 k) (show g1 ≠ g2 by omega)))
              have X3 := Lib.hid ((X2.out.set 0 (.int .i64 k) #[.int .i64 k, .int .i64 xd, .int .i64 xn, .int .i64 xm, .int .i64 xi] rfl))
              have B3 := Lib.hid ((Below.setCell B2.out (p := ⟨g2, 0, none⟩) (show w.heap.size ≤ g2 by omega) (.int .i64 k)))
              obtain ⟨W3, hW3⟩ : ∃ W3, W3 = (W2).setCell ⟨g2, 0, none⟩ (.int .i64 k) := ⟨_, rfl⟩
              have hs3 : g2 + 1 ≤ W3.heap.size := by rw [hW3]; first | (simp [World.setCell]; omega) | (simp [World.setCell, World.setRow]; omega) | exact hs2
              rw [← hW3] at P3 X3 B3 ⊢
              clear hW3 P2 X2 B2 hs2
              have Xc0 := X3.out.get 0 (.int .i64 k) rfl
              have Xc1 := X3.out.get 1 (.int .i64 xd) rfl
              have Xc2 := X3.out.get 2 (.int .i64 xn) rfl
              have Xc3 := X3.out.get 3 (.int .i64 xm) rfl
              have Xc4 := X3.out.get 4 (.int .i64 xi) rfl
              have Pc5 := P3.out.get 5 (.int .u64 (u xa)) rfl
              have Pc6 := P3.out.get 6 (.int .u64 (u xb)) rfl
              go_wp2_with fail
              refine (HD.out _).mono ?_
              rintro e w4 ⟨rfl, hb4⟩
              have hz4 := hb4.size
              have P4 := Lib.hid (P3.out.below hb4)
              have X4 := Lib.hid (X3.out.below hb4)
              have B4 := Lib.hid ((bel_trans B3.out hb4))
              skip
              have hs4 : g2 + 1 ≤ w4.heap.size := by omega
              clear Xc0 Xc1 Xc2 Xc3 Xc4 Pc5 Pc6
              clear P3 X3 B3 hs3 hb4 hz4
              have Xc0 := X4.out.get 0 (.int .i64 k) rfl
              have Xc1 := X4.out.get 1 (.int .i64 xd) rfl
              have Xc2 := X4.out.get 2 (.int .i64 xn) rfl
              have Xc3 := X4.out.get 3 (.int .i64 xm) rfl
              have Xc4 := X4.out.get 4 (.int .i64 xi) rfl
              go_wp2_with fail
              refine (HM.out _).mono ?_
              rintro e w5 ⟨rfl, hb5⟩
              have hz5 := hb5.size
              have P5 := Lib.hid (P4.out.below hb5)
              have X5 := Lib.hid (X4.out.below hb5)
              have B5 := Lib.hid ((bel_trans B4.out hb5))
              skip
              have hs5 : g2 + 1 ≤ w5.heap.size := by omega
              clear Xc0 Xc1 Xc2 Xc3 Xc4
              clear P4 X4 B4 hs4 hb5 hz5
              go_wp2_with fail
              refine (lnum12_any _ _).mono ?_
              rintro e w6 ⟨rfl, rfl⟩
              go_wp2
              go_roundw
              case rel => exact ⟨k + 1, by omega, by go_num, P5.out, B5.out⟩
              case measure => simp [intOf] <;> omega
            · rw [if_pos rfl, if_pos rfl] at HD
              have Pc0 := Ps.out.get 0 (.int .i64 xo) rfl
              have Pc1 := Ps.out.get 1 (.int .i64 xd) rfl
              have Pc2 := Ps.out.get 2 (.int .i64 xn) rfl
              have Pc3 := Ps.out.get 3 (.int .i64 xm) rfl
              have Pc4 := Ps.out.get 4 (.int .i64 xi) rfl
              go_upto_region 11 with fail
              clear Pc0 Pc1 Pc2 Pc3 Pc4
              have P2 := Lib.hid ((Ps.out.alloc (.cells #[.int .i64 xo, .int .i64 xd, .int .i64 xn, .int .i64 xm, .int .i64 xi] 24)))
              have X2 := Lib.hid ((BoxAt.newAt (wr) #[.int .i64 xo, .int .i64 xd, .int .i64 xn, .int .i64 xm, .int .i64 xi] 24 (wr.heap.size) (by first | omega | (simp; done) | (simp; omega))))
              have B2 := Lib.hid ((bel_alloc Bs.out (.cells #[.int .i64 xo, .int .i64 xd, .int .i64 xn, .int .i64 xm, .int .i64 xi] 24)))
              obtain ⟨g2, hg2⟩ : ∃ g2, g2 = wr.heap.size := ⟨_, rfl⟩
              obtain ⟨W2, hW2⟩ : ∃ W2, W2 = (wr).alloc (.cells #[.int .i64 xo, .int .i64 xd, .int .i64 xn, .int .i64 xm, .int .i64 xi] 24) := ⟨_, rfl⟩
              have hs2 : g2 + 1 ≤ W2.heap.size := by rw [hW2, hg2]; simp
              rw [← hW2] at P2 X2 B2 ⊢
              have hb2 : ms ≤ g2 := by omega
              rw [← hg2] at X2 ⊢
              clear hg2
              clear hW2 Ps Bs hss
              have Xc0 := X2.out.get 0 (.int .i64 xo) rfl
              have Xz0 := X2.out.free 0
              go_upto_region 12 with fail
              clear Xc0 Xz0
              have P3 := Lib.hid ((P2.out.other ⟨g2, 0, none⟩ (.int .i64 k) (show g1 ≠ g2 by omega)))
              have X3 := Lib.hid ((X2.out.set 0 (.int .i64 k) #[.int .i64 k, .int .i64 xd, .int .i64 xn, .int .i64 xm, .int .i64 xi] rfl))
              have B3 := Lib.hid ((Below.setCell B2.out (p := ⟨g2, 0, none⟩) (show w.heap.size ≤ g2 by omega) (.int .i64 k)))
              obtain ⟨W3, hW3⟩ : ∃ W3, W3 = (W2).setCell ⟨g2, 0, none⟩ (.int .i64 k) := ⟨_, rfl⟩
              have hs3 : g2 + 1 ≤ W3.heap.size := by rw [hW3]; first | (simp [World.setCell]; omega) | (simp [World.setCell, World.setRow]; omega) | exact hs2
              rw [← hW3] at P3 X3 B3 ⊢
              clear hW3 P2 X2 B2 hs2
              have Xc0 := X3.out.get 0 (.int .i64 k) rfl
              have Xc1 := X3.out.get 1 (.int .i64 xd) rfl
              have Xc2 := X3.out.get 2 (.int .i64 xn) rfl
              have Xc3 := X3.out.get 3 (.int .i64 xm) rfl
              have Xc4 := X3.out.get 4 (.int .i64 xi) rfl
              have Pc5 := P3.out.get 5 (.int .u64 (u xa)) rfl
              have Pc6 := P3.out.get 6 (.int .u64 (u xb)) rfl
              go_wp2_with fail
              refine (HD.out _).mono ?_
              rintro e w4 ⟨rfl, hb4⟩
              have hz4 := hb4.size
              have P4 := Lib.hid (P3.out.below hb4)
              have X4 := Lib.hid (X3.out.below hb4)
              have B4 := Lib.hid ((bel_trans B3.out hb4))
              skip
              have hs4 : g2 + 1 ≤ w4.heap.size := by omega
              clear Xc0 Xc1 Xc2 Xc3 Xc4 Pc5 Pc6
              clear P3 X3 B3 hs3 hb4 hz4
              have Xc0 := X4.out.get 0 (.int .i64 k) rfl
              have Xc1 := X4.out.get 1 (.int .i64 xd) rfl
              have Xc2 := X4.out.get 2 (.int .i64 xn) rfl
              have Xc3 := X4.out.get 3 (.int .i64 xm) rfl
              have Xc4 := X4.out.get 4 (.int .i64 xi) rfl
              go_wp2_with fail
              refine (HM.out _).mono ?_
              rintro e w5 ⟨rfl, hb5⟩
              have hz5 := hb5.size
              have P5 := Lib.hid (P4.out.below hb5)
              have X5 := Lib.hid (X4.out.below hb5)
              have B5 := Lib.hid ((bel_trans B4.out hb5))
              skip
              have hs5 : g2 + 1 ≤ w5.heap.size := by omega
              clear Xc0 Xc1 Xc2 Xc3 Xc4
              clear P4 X4 B4 hs4 hb5 hz5
              have Xc0 := X5.out.get 0 (.int .i64 k) rfl
              have Xc1 := X5.out.get 1 (.int .i64 xd) rfl
              have Xc2 := X5.out.get 2 (.int .i64 xn) rfl
              have Xc3 := X5.out.get 3 (.int .i64 xm) rfl
              have Xc4 := X5.out.get 4 (.int .i64 xi) rfl
              have Pc5 := P5.out.get 5 (.int .u64 (u xa)) rfl
              have Pc6 := P5.out.get 6 (.int .u64 (u xb)) rfl
              go_wp2_with fail
              refine (HR.out _).mono ?_
              rintro e w6 ⟨rfl, hb6⟩
              have hz6 := hb6.size
              have P6 := Lib.hid (P5.out.below hb6)
              have X6 := Lib.hid (X5.out.below hb6)
              have B6 := Lib.hid ((bel_trans B5.out hb6))
              skip
              have hs6 : g2 + 1 ≤ w6.heap.size := by omega
              clear Xc0 Xc1 Xc2 Xc3 Xc4 Pc5 Pc6
              clear P5 X5 B5 hs5 hb6 hz6
              go_wp2_with fail
              refine (lnum12_any _ _).mono ?_
              rintro e w7 ⟨rfl, rfl⟩
              go_wp2
              go_roundw
              case rel => exact ⟨k + 1, by omega, by go_num, P6.out, B6.out⟩
              case measure => simp [intOf] <;> omega
          · go_wp2
            go_loopw [12, 11] (fun i i0 wr => ∃ (e : Nat), e ≤ xl ∧ i = .int .i64 e ∧ i0 = .int .u64 (u (sumX xX e)) ∧ Hid (BoxAt wr (g1) #[.int .i64 xo, .int .i64 xd, .int .i64 xn, .int .i64 xm, .int .i64 xi, .int .u64 (u xa), .int .u64 (u xb), .slice xf xl xc] 28) ∧ Hid (Below w.heap.size w wr)) (fun i _ _ => xl - (intOf i).toNat)
            case atStart => exact ⟨0, by omega, rfl, rfl, Ps.out, Bs.out⟩
            case round =>
              clear Ps Bs
              obtain ⟨e, hke, rfl, rfl, Pt, Bt⟩ := hrel
              obtain ⟨mt, hmt⟩ : ∃ mt, mt = wr.heap.size := ⟨_, rfl⟩
              have hgPt : g1 + 1 ≤ mt := by rw [hmt]; exact Pt.out.lt
              have hgwt : w.heap.size ≤ mt := by rw [hmt]; exact Bt.out.size
              have hst : mt ≤ wr.heap.size := by omega
              clear hmt
              by_cases hlte : e < xl
              · have ik0e : (0 : Int) ≤ (e : Int) := by omega
                have ik1e : (e : Int) < (xl : Int) := by omega
                have ikwe : IntKind.i64.wrap ((e : Int) + 1) = (e : Int) + 1 := IntWalk.i64_in _ (by omega)
                obtain ⟨bw, ow, hxf, hw⟩ := HOK.out.words e hlte
                simp only at hxf hw
                subst hxf
                obtain ⟨we, hwe⟩ : ∃ we, xX e = we := ⟨_, rfl⟩
                have HNE := Lib.hid (show sumX xX (e + 1) = sumX xX e + we from by rw [← hwe]; rfl)
                rw [hwe] at hw
                have HRwe := Lib.hid (row_one hw)
                have hbw : bw < w.heap.size := cell_block hw
                clear hw hwe
                generalize sumX xX e = se at *
                have hne := HNE.out.symm
                have Pc7 := Pt.out.get 7 (.slice (some ⟨bw, ow, none⟩) xl xc) rfl
                have ywe := (HRwe.out.below Bt.out)
                have ywe0 := ywe.get0 (.int .u64 (u we)) (by decide) rfl
                clear ywe
                go_wp2
                go_roundw
                case rel => exact ⟨e + 1, by omega, by go_num, rfl, Pt.out, Bt.out⟩
                case measure => simp [intOf] <;> omega
              · obtain rfl : e = xl := by omega
                have HS1 := Lib.hid (fun W (hB : Below w.heap.size w W) => PS.out xf e xc xX W (HOK.out.words.below hB) (by omega))
                have HS2 := Lib.hid (fun b2 W (h : WordsAt W (some ⟨b2, 0, none⟩) 2 (fun j => if j = 0 then xa else xb)) => PS.out (some ⟨b2, 0, none⟩) 2 2 _ W h (by decide))
                rw [sum_two] at HS2
                have HS3 := Lib.hid (fun W => PS.out none 0 0 (fun _ => 0#64) W (fun j hj => absurd hj (by omega)) (by decide))
                rw [show u (sumX (fun _ => 0#64) 0) = 0 from by show u 0#64 = 0; decide] at HS3
                generalize sumX xX e = se at *
                obtain ⟨sm, hsm⟩ : ∃ sm, xa + xb = sm := ⟨_, rfl⟩
                rw [hsm] at HS2
                have Pc7 := Pt.out.get 7 (.slice xf e xc) rfl
                go_upto_region 23 with fail
                clear Pc7
                refine wp_region_held_drew (S := (fun w' => BoxAt w' (g1) #[.int .i64 xo, .int .i64 xd, .int .i64 xn, .int .i64 xm, .int .i64 xi, .int .u64 (u xa), .int .u64 (u xb), .slice xf e xc] 28)) (by kernel_rfl) (Pt.out.drew) (fun hS => ?_)
                refine tkR 0 79 (v := .pointer (some ⟨g1, 7, none⟩)) rfl hS (fun _ _ => by kernel_rfl) ?_
                refine tkR 1 80 (v := .slice xf e xc) rfl hS (fun _ h => run_ld1 26 (.tmp 79) g1 7 (by kernel_rfl) (by kernel_rfl) Try.underlying26 rfl ((h).get 7 (.slice xf e xc) rfl)) ?_
                refine tkR 3 82 (v := .int .u64 (u se)) rfl hS (fun _ _ => by kernel_rfl) ?_
                try simp only [Act.put, List.setIfInBounds_toArray, List.set_cons_zero, List.set_cons_succ]
                refine wpAnyH_ready (rs := [2]) (by kernel_rfl) (by simp) ?_
                refine AllReadyH.cons (o := ⟨some 81, _, _, _, _, _⟩) rfl (fun K hK => ?_) AllReadyH.nil
                go_simp
                refine (HS1.out _ (Below.drew Bt.out)).mono ?_
                rintro e w2 ⟨rfl, hb2⟩
                have hz2 := hb2.size
                try simp at hz2
                refine hK.out _ _ ?_ (fun hS' => ?_)
                · exact (hS.below hb2)
                clear hK K hS
                have hS := hS'
                clear hS'
                try simp only [Act.put, List.setIfInBounds_toArray, List.set_cons_zero, List.set_cons_succ]
                try simp only [Act.put, List.setIfInBounds_toArray, List.set_cons_zero, List.set_cons_succ]
                refine wpAnyH_take (i := 4) (oi := ⟨some 83, _, _, _, _, _⟩) (v := ?_) rfl (by kernel_rfl) (by kernel_rfl) (by kernel_rfl) (fun _ _ _ h => h) (Or.inl ⟨by rfl, ?_⟩) hS ?_
                rotate_left
                · (intro w' hSw; clear hSw; go_simp; try with_reducible rfl)
                simp only [Act.put, List.setIfInBounds_toArray, List.set_cons_zero, List.set_cons_succ]
                refine tkR 5 84 (v := .bool false) rfl hS (fun _ _ => by kernel_rfl) ?_
                try simp only [Act.put, List.setIfInBounds_toArray, List.set_cons_zero, List.set_cons_succ]
                refine wpAnyH_take (i := 6) (oi := ⟨some 85, _, _, _, _, _⟩) (v := ?_) rfl (by kernel_rfl) (by kernel_rfl) (by kernel_rfl) (fun _ _ _ h => h) (Or.inl ⟨by rfl, ?_⟩) hS ?_
                rotate_left
                · (intro w' hSw; clear hSw; go_simp; try with_reducible rfl)
                simp only [Act.put, List.setIfInBounds_toArray, List.set_cons_zero, List.set_cons_succ]
                try simp only [Act.put, List.setIfInBounds_toArray, List.set_cons_zero, List.set_cons_succ]
                refine wpAnyH_take (i := 7) (oi := ⟨some 86, _, _, _, _, _⟩) (v := ?_) rfl (by kernel_rfl) (by kernel_rfl) (by kernel_rfl) (fun _ _ _ h => h) (Or.inl ⟨by rfl, ?_⟩) hS ?_
                rotate_left
                · (intro w' hSw; have c0_5 := (hSw).get 5 (.int .u64 (u xa)) rfl; clear hSw; go_simp; try with_reducible rfl)
                simp only [Act.put, List.setIfInBounds_toArray, List.set_cons_zero, List.set_cons_succ]
                try simp only [Act.put, List.setIfInBounds_toArray, List.set_cons_zero, List.set_cons_succ]
                refine wpAnyH_take (i := 8) (oi := ⟨some 87, _, _, _, _, _⟩) (v := ?_) rfl (by kernel_rfl) (by kernel_rfl) (by kernel_rfl) (fun _ _ _ h => h) (Or.inl ⟨by rfl, ?_⟩) hS ?_
                rotate_left
                · (intro w' hSw; clear hSw; go_simp; try with_reducible rfl)
                simp only [Act.put, List.setIfInBounds_toArray, List.set_cons_zero, List.set_cons_succ]
                try simp only [Act.put, List.setIfInBounds_toArray, List.set_cons_zero, List.set_cons_succ]
                refine wpAnyH_take (i := 9) (oi := ⟨some 88, _, _, _, _, _⟩) (v := ?_) rfl (by kernel_rfl) (by kernel_rfl) (by kernel_rfl) (fun _ _ _ h => h) (Or.inl ⟨by rfl, ?_⟩) hS ?_
                rotate_left
                · (intro w' hSw; have c0_6 := (hSw).get 6 (.int .u64 (u xb)) rfl; clear hSw; go_simp; try with_reducible rfl)
                simp only [Act.put, List.setIfInBounds_toArray, List.set_cons_zero, List.set_cons_succ]
                try simp only [Act.put, List.setIfInBounds_toArray, List.set_cons_zero, List.set_cons_succ]
                refine wpAnyH_take (i := 12) (oi := ⟨some 91, _, _, _, _, _⟩) (v := ?_) rfl (by kernel_rfl) (by kernel_rfl) (by kernel_rfl) (fun _ _ _ h => h) (Or.inl ⟨by rfl, ?_⟩) hS ?_
                rotate_left
                · (intro w' hSw; clear hSw; go_simp; try with_reducible rfl)
                simp only [Act.put, List.setIfInBounds_toArray, List.set_cons_zero, List.set_cons_succ]
                try simp only [Act.put, List.setIfInBounds_toArray, List.set_cons_zero, List.set_cons_succ]
                refine wpAnyH_take (i := 13) (oi := ⟨some 92, _, _, _, _, _⟩) (v := ?_) rfl (by kernel_rfl) (by kernel_rfl) (by kernel_rfl) (fun _ _ _ h => h) (Or.inl ⟨by rfl, ?_⟩) hS ?_
                rotate_left
                · (intro w' hSw; have c0_5 := (hSw).get 5 (.int .u64 (u xa)) rfl; clear hSw; go_simp; try with_reducible rfl)
                simp only [Act.put, List.setIfInBounds_toArray, List.set_cons_zero, List.set_cons_succ]
                try simp only [Act.put, List.setIfInBounds_toArray, List.set_cons_zero, List.set_cons_succ]
                refine wpAnyH_take (i := 14) (oi := ⟨some 93, _, _, _, _, _⟩) (v := ?_) rfl (by kernel_rfl) (by kernel_rfl) (by kernel_rfl) (fun _ _ _ h => h) (Or.inl ⟨by rfl, ?_⟩) hS ?_
                rotate_left
                · (intro w' hSw; clear hSw; go_simp; try with_reducible rfl)
                simp only [Act.put, List.setIfInBounds_toArray, List.set_cons_zero, List.set_cons_succ]
                try simp only [Act.put, List.setIfInBounds_toArray, List.set_cons_zero, List.set_cons_succ]
                refine wpAnyH_take (i := 15) (oi := ⟨some 94, _, _, _, _, _⟩) (v := ?_) rfl (by kernel_rfl) (by kernel_rfl) (by kernel_rfl) (fun _ _ _ h => h) (Or.inl ⟨by rfl, ?_⟩) hS ?_
                rotate_left
                · (intro w' hSw; have c0_6 := (hSw).get 6 (.int .u64 (u xb)) rfl; clear hSw; go_simp; try with_reducible rfl)
                simp only [Act.put, List.setIfInBounds_toArray, List.set_cons_zero, List.set_cons_succ]
                try simp only [Act.put, List.setIfInBounds_toArray, List.set_cons_zero, List.set_cons_succ]
                refine wpAnyH_take (i := 16) (oi := ⟨some 95, _, _, _, _, _⟩) (v := ?_) rfl (by kernel_rfl) (by kernel_rfl) (by kernel_rfl) (fun _ _ _ h => h) (Or.inl ⟨by rfl, ?_⟩) hS ?_
                rotate_left
                · (intro w' hSw; clear hSw; go_simp; try with_reducible rfl)
                simp only [Act.put, List.setIfInBounds_toArray, List.set_cons_zero, List.set_cons_succ]
                try simp only [Act.put, List.setIfInBounds_toArray, List.set_cons_zero, List.set_cons_succ]
                refine wpAnyH_ready (rs := [10]) (by kernel_rfl) (by simp) ?_
                refine AllReadyH.cons (o := ⟨some 89, _, _, _, _, _⟩) rfl (fun K hK => ?_) AllReadyH.nil
                go_simp
                refine hK.out _ _ ?_ (fun hS' => ?_)
                · exact (hS.alloc _)
                clear hK K hS
                have hS := hS'
                clear hS'
                try simp only [Act.put, List.setIfInBounds_toArray, List.set_cons_zero, List.set_cons_succ]
                try simp only [Act.put, List.setIfInBounds_toArray, List.set_cons_zero, List.set_cons_succ]
                refine wpAnyH_ready (rs := [11]) (by kernel_rfl) (by simp) ?_
                refine AllReadyH.cons (o := ⟨some 90, _, _, _, _, _⟩) rfl (fun K hK => ?_) AllReadyH.nil
                go_simp
                refine (HS2.out _ _ (two_words (BoxAt.newAt (w2) #[.int .u64 (u xa), .int .u64 (u xb)] 25 (w2.heap.size) (by first | omega | (simp; done) | (simp; omega))))).mono ?_
                rintro e w3 ⟨rfl, hb3⟩
                have hz3 := hb3.size
                try simp at hz3
                refine hK.out _ _ ?_ (fun hS' => ?_)
                · exact (hS.below hb3)
                clear hK K hS
                have hS := hS'
                clear hS'
                try simp only [Act.put, List.setIfInBounds_toArray, List.set_cons_zero, List.set_cons_succ]
                try simp only [Act.put, List.setIfInBounds_toArray, List.set_cons_zero, List.set_cons_succ]
                refine wpAnyH_take (i := 17) (oi := ⟨some 96, _, _, _, _, _⟩) (v := ?_) rfl (by kernel_rfl) (by kernel_rfl) (by kernel_rfl) (fun _ _ _ h => h) (Or.inl ⟨by rfl, ?_⟩) hS ?_
                rotate_left
                · (intro w' hSw; clear hSw; go_simp; try with_reducible rfl)
                simp only [Act.put, List.setIfInBounds_toArray, List.set_cons_zero, List.set_cons_succ]
                try simp only [Act.put, List.setIfInBounds_toArray, List.set_cons_zero, List.set_cons_succ]
                refine wpAnyH_take (i := 18) (oi := ⟨some 97, _, _, _, _, _⟩) (v := ?_) rfl (by kernel_rfl) (by kernel_rfl) (by kernel_rfl) (fun _ _ _ h => h) (Or.inl ⟨by rfl, ?_⟩) hS ?_
                rotate_left
                · (intro w' hSw; clear hSw; go_simp; try with_reducible rfl)
                simp only [Act.put, List.setIfInBounds_toArray, List.set_cons_zero, List.set_cons_succ]
                refine tkR 19 98 (v := .bool false) rfl hS (fun _ _ => by kernel_rfl) ?_
                try simp only [Act.put, List.setIfInBounds_toArray, List.set_cons_zero, List.set_cons_succ]
                refine wpAnyH_ready (rs := [20]) (by kernel_rfl) (by simp) ?_
                refine AllReadyH.cons (o := ⟨some 99, _, _, _, _, _⟩) rfl (fun K hK => ?_) AllReadyH.nil
                go_simp
                refine (HS3.out _).mono ?_
                rintro e w4 ⟨rfl, hb4⟩
                have hz4 := hb4.size
                try simp at hz4
                refine hK.out _ _ ?_ (fun hS' => ?_)
                · exact (hS.below hb4)
                clear hK K hS
                have hS := hS'
                clear hS'
                try simp only [Act.put, List.setIfInBounds_toArray, List.set_cons_zero, List.set_cons_succ]
                try simp only [Act.put, List.setIfInBounds_toArray, List.set_cons_zero, List.set_cons_succ]
                refine wpAnyH_take (i := 21) (oi := ⟨some 100, _, _, _, _, _⟩) (v := ?_) rfl (by kernel_rfl) (by kernel_rfl) (by kernel_rfl) (fun _ _ _ h => h) (Or.inl ⟨by rfl, ?_⟩) hS ?_
                rotate_left
                · (intro w' hSw; clear hSw; go_simp; try with_reducible rfl)
                simp only [Act.put, List.setIfInBounds_toArray, List.set_cons_zero, List.set_cons_succ]
                try simp only [Act.put, List.setIfInBounds_toArray, List.set_cons_zero, List.set_cons_succ]
                refine wpAnyH_take (i := 22) (oi := ⟨some 101, _, _, _, _, _⟩) (v := ?_) rfl (by kernel_rfl) (by kernel_rfl) (by kernel_rfl) (fun _ _ _ h => h) (Or.inl ⟨by rfl, ?_⟩) hS ?_
                rotate_left
                · (intro w' hSw; clear hSw; go_simp; try with_reducible rfl)
                simp only [Act.put, List.setIfInBounds_toArray, List.set_cons_zero, List.set_cons_succ]
                refine wpAnyH_done (by kernel_rfl) ?_ _
                try simp only [Act.put, List.setIfInBounds_toArray, List.set_cons_zero, List.set_cons_succ]
                have P5 := Lib.hid ((((((Pt.out.drew).below hb2).alloc (.cells #[.int .u64 (u xa), .int .u64 (u xb)] 25)).below hb3).below hb4))
                have S895 := Lib.hid ((((BoxAt.newAt (w2) #[.int .u64 (u xa), .int .u64 (u xb)] 25 (w2.heap.size) (by first | omega | (simp; done) | (simp; omega))).below hb3).below hb4))
                have B5 := Lib.hid ((bel_trans (bel_trans (bel_alloc (bel_trans (Below.drew Bt.out) hb2) (.cells #[.int .u64 (u xa), .int .u64 (u xb)] 25)) hb3) hb4))
                obtain ⟨g5, hg5⟩ : ∃ g5, g5 = w2.heap.size := ⟨_, rfl⟩
                obtain ⟨W5, hW5⟩ : ∃ W5, W5 = w4 := ⟨_, rfl⟩
                have hs5 : g5 + 1 ≤ W5.heap.size := by rw [hW5, hg5]; first | omega | (simp; omega)
                rw [← hW5] at P5 S895 B5 ⊢
                have hb5 : mt ≤ g5 := by omega
                rw [← hg5] at S895 ⊢
                clear hg5
                clear hW5 Pt Bt hst
                go_wp2
                go_roundw
                case rel => exact ⟨j + 1, by omega, by go_num, B5.out⟩
                case measure => simp [intOf] <;> omega
      · have d5 : decide (500 < (xl : Int)) = true := decide_eq_true (by omega)
        have yq := (HRq.out.below Br.out)
        have yq0 := yq.get0 (.int .i64 xo) (by decide) rfl
        have yq1 := yq.get 1 (.int .i64 xd) (by decide) rfl
        have yq2 := yq.get 2 (.int .i64 xn) (by decide) rfl
        have yq3 := yq.get 3 (.int .i64 xm) (by decide) rfl
        have yq4 := yq.get 4 (.int .i64 xi) (by decide) rfl
        have yq5 := yq.get 5 (.int .u64 (u xa)) (by decide) rfl
        have yq6 := yq.get 6 (.int .u64 (u xb)) (by decide) rfl
        have yq7 := yq.get 7 (.slice xf xl xc) (by decide) rfl
        clear yq
        go_upto_region 5 with fail
        clear yq0 yq1 yq2 yq3 yq4 yq5 yq6 yq7
        have P1 := Lib.hid ((BoxAt.newAt (wr) #[.int .i64 xo, .int .i64 xd, .int .i64 xn, .int .i64 xm, .int .i64 xi, .int .u64 (u xa), .int .u64 (u xb), .slice xf xl xc] 28 (wr.heap.size) (by first | omega | (simp; done) | (simp; omega))))
        have B1 := Lib.hid ((bel_alloc Br.out (.cells #[.int .i64 xo, .int .i64 xd, .int .i64 xn, .int .i64 xm, .int .i64 xi, .int .u64 (u xa), .int .u64 (u xb), .slice xf xl xc] 28)))
        obtain ⟨g1, hg1⟩ : ∃ g1, g1 = wr.heap.size := ⟨_, rfl⟩
        obtain ⟨W1, hW1⟩ : ∃ W1, W1 = (wr).alloc (.cells #[.int .i64 xo, .int .i64 xd, .int .i64 xn, .int .i64 xm, .int .i64 xi, .int .u64 (u xa), .int .u64 (u xb), .slice xf xl xc] 28) := ⟨_, rfl⟩
        have hs1 : g1 + 1 ≤ W1.heap.size := by rw [hW1, hg1]; simp
        rw [← hW1] at P1 B1 ⊢
        have hb1 : mr ≤ g1 := by omega
        rw [← hg1] at P1 ⊢
        clear hg1
        clear hW1 Br hsr
        have Pc7 := P1.out.get 7 (.slice xf xl xc) rfl
        go_wp2
        go_ret
        exact ⟨rfl, B1.out⟩
    · go_wp2_with fail
      refine (HWK.out _).mono ?_
      rintro e w1 ⟨rfl, hb1⟩
      have hz1 := hb1.size
      have B1 := Lib.hid ((bel_trans Br.out hb1))
      skip
      have hs1 : mr ≤ w1.heap.size := by omega
      clear Br hsr hb1 hz1
      go_wp2
      go_ret
      exact ⟨rfl, B1.out⟩
end Go.Proofs.Ythmcamgbnjfklaa
