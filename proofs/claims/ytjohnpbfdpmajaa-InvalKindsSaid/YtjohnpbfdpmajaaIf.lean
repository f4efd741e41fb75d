/- Stage 10: InvalKinds walked. -/
import Derived.Test.YtjohnpbfdpmajaaIe
set_option linter.all false
namespace Go.Proofs.Ytjohnpbfdpmajaa
open Go.ChangeShapes Go.WideShapes Go.ChangeAt Go.RowKit Go.Deep

set_option maxRecDepth 100000 in
set_option maxHeartbeats 3200000 in
theorem kinds_walk (ft g f : Option Addr) (nt ct m d l c : Nat) (T : List Tlh) (D : List Inv) (E : List Ety) (w : World) (hn : nt = T.length) (hn2 : nt ≤ 1000000000000000) (hT : RowsAt KT w ft T) (hTT : ∀ t ∈ T, TlbAt w t) (hD : m = D.length ∧ m ≤ 1000000000000000 ∧ RowsAt KI w g D ∧ (m ≤ d ∧ d ≤ maxLen ∧ (g = none → d = 0))) (hE : l = E.length ∧ l ≤ 1000000000000000 ∧ RowsAt KE w f E) :
    Calls Try.prog 6 #[.agg #[.slice ft nt ct, .slice g m d, .slice f l c]] w fun r w' => r = .returned (.bool true) ∧ Below w.heap.size w w' := by
  have HH := Lib.hid (fun W (hB : Below w.heap.size w W) => heavyC ft g f nt ct m d l c T W hn hn2 hD.2.1 hE.2.1 (hT.below hB) (fun x hx => by obtain ⟨_, _, _, h1, _, _, h2, _⟩ := hTT x hx; exact ⟨h1, h2⟩))
  have HD := Lib.hid hD.2.2.1
  have HO := Lib.hid hD.1
  have HL := Lib.hid hE.2.2
  have HN := Lib.hid hE.1
  have hm2 := hD.2.1
  have hl2 := hE.2.1
  have HDC := Lib.hid hD.2.2.2
  clear hn hT hTT hD hE
  have htw : w.heap.size ≤ w.heap.size := Nat.le_refl _
  have B0 := Lib.hid (Below.refl w.heap.size w)
  go_enter Try.func6, Try.ntmps6
  go_upto_region 1 with fail
  have P1 := Lib.hid ((BoxAt.newAt (w) #[.slice ft nt ct, .slice g m d, .slice f l c] 26 (w.heap.size) (by first | omega | (simp; done) | (simp; omega))))
  have B1 := Lib.hid ((bel_alloc B0.out (.cells #[.slice ft nt ct, .slice g m d, .slice f l c] 26)))
  obtain ⟨g1, hg1⟩ : ∃ g1, g1 = w.heap.size := ⟨_, rfl⟩
  obtain ⟨W1, hW1⟩ : ∃ W1, W1 = (w).alloc (.cells #[.slice ft nt ct, .slice g m d, .slice f l c] 26) := ⟨_, rfl⟩
  have hs1 : g1 + 1 ≤ W1.heap.size := by rw [hW1, hg1]; simp
  rw [← hW1] at P1 B1 ⊢
  have hb1 : w.heap.size ≤ g1 := by omega
  rw [← hg1] at P1 ⊢
  clear hg1
  clear hW1 B0
  have Pc0 := P1.out.get 0 (.slice ft nt ct) rfl
  have Pc1 := P1.out.get 1 (.slice g m d) rfl
  have Pc2 := P1.out.get 2 (.slice f l c) rfl
  go_wp2_with fail
  refine (HH.out _ B1.out).mono ?_
  rintro e w2 hh2
  unfold HeavyEnd at hh2
  obtain ⟨hv, rfl, hvq, hb2⟩ := hh2
  have HVQ := Lib.hid hvq
  clear hvq
  have hz2 := hb2.size
  have P2 := Lib.hid (P1.out.below hb2)
  have B2 := Lib.hid ((bel_trans B1.out hb2))
  skip
  have hs2 : g1 + 1 ≤ w2.heap.size := by omega
  clear Pc0 Pc1 Pc2
  clear P1 B1 hs1 hb2 hz2
  cases hv
  · go_wp2
    go_loopw [3] (fun i wr => ∃ (k : Nat), k ≤ l ∧ i = .int .i64 k ∧ Hid (BoxAt wr (g1) #[.slice ft nt ct, .slice g m d, .slice f l c] 26) ∧ Hid (Below w.heap.size w wr)) (fun i _ => l - (intOf i).toNat)
    case atStart => exact ⟨0, by omega, rfl, P2.out, B2.out⟩
    case round =>
      clear P2 B2
      obtain ⟨k, hkk, rfl, Pr, Br⟩ := hrel
      obtain ⟨mr, hmr⟩ : ∃ mr, mr = wr.heap.size := ⟨_, rfl⟩
      have hgPr : g1 + 1 ≤ mr := by rw [hmr]; exact Pr.out.lt
      have hgwr : w.heap.size ≤ mr := by rw [hmr]; exact Br.out.size
      have hsr : mr ≤ wr.heap.size := by omega
      clear hmr
      by_cases hltk : k < l
      · have ik0k : (0 : Int) ≤ (k : Int) := by omega
        have ik1k : (k : Int) < (l : Int) := by omega
        have ikwk : IntKind.i64.wrap ((k : Int) + 1) = (k : Int) + 1 := IntWalk.i64_in _ (by omega)
        by_cases hlik : k < 12
        rotate_left
        · have dlk : decide ((k : Int) < 12) = false := decide_eq_false (by omega)
          have Pc2 := Pr.out.get 2 (.slice f l c) rfl
          go_wp2_with fail
          refine (wakes10_any _).mono ?_
          rintro e w3 ⟨rfl, hb3⟩
          have hz3 := hb3.size
          have P3 := Lib.hid (Pr.out.below hb3)
          have B3 := Lib.hid ((bel_trans Br.out hb3))
          skip
          have hs3 : mr ≤ w3.heap.size := by omega
          clear Pc2
          clear Pr Br hsr hb3 hz3
          go_wp2
          go_ret
          exact ⟨rfl, B3.out⟩
        have dlk : decide ((k : Int) < 12) = true := decide_eq_true (by omega)
        obtain ⟨xe, hxe⟩ := rows_some HN.out hltk
        obtain ⟨be, oe, rfl, hre⟩ := HL.out k xe hxe
        have HRXE := Lib.hid (show RowAt w be (oe + k * 14) 14 #[.int .i64 xe.k, .int .i64 xe.vm, .int .i64 xe.sp, .bool xe.al, .int .i64 xe.pg, .int .i64 xe.lv, .int .i64 xe.fr, .int .i64 xe.mi, .bool xe.t.r, .bool xe.t.w, .bool xe.t.x, .bool xe.t.a, .bool xe.t.n, .int .i64 xe.t.s] from hre)
        have hbe : be < w.heap.size := hre.lt
        clear hre hxe
        have HE9 := Lib.hid (fun W => entry9_any xe W)
        obtain ⟨o2, ho2⟩ : ∃ o2, o2 = mayEn xe := ⟨_, rfl⟩
        rw [← ho2] at HE9
        have HO2 := Lib.hid ho2
        clear ho2
        unfold entV entC at HE9
        have Pc2 := Pr.out.get 2 (.slice (some ⟨be, oe, none⟩) l c) rfl
        have yXE := (HRXE.out.below Br.out)
        have yXE0 := yXE.get0 (.int .i64 xe.k) (by decide) rfl
        have yXE1 := yXE.get 1 (.int .i64 xe.vm) (by decide) rfl
        have yXE2 := yXE.get 2 (.int .i64 xe.sp) (by decide) rfl
        have yXE3 := yXE.get 3 (.bool xe.al) (by decide) rfl
        have yXE4 := yXE.get 4 (.int .i64 xe.pg) (by decide) rfl
        have yXE5 := yXE.get 5 (.int .i64 xe.lv) (by decide) rfl
        have yXE6 := yXE.get 6 (.int .i64 xe.fr) (by decide) rfl
        have yXE7 := yXE.get 7 (.int .i64 xe.mi) (by decide) rfl
        have yXE8 := yXE.get 8 (.bool xe.t.r) (by decide) rfl
        have yXE9 := yXE.get 9 (.bool xe.t.w) (by decide) rfl
        have yXE10 := yXE.get 10 (.bool xe.t.x) (by decide) rfl
        have yXE11 := yXE.get 11 (.bool xe.t.a) (by decide) rfl
        have yXE12 := yXE.get 12 (.bool xe.t.n) (by decide) rfl
        have yXE13 := yXE.get 13 (.int .i64 xe.t.s) (by decide) rfl
        clear yXE
        go_upto_region 7 with fail
        clear Pc2 yXE0 yXE1 yXE2 yXE3 yXE4 yXE5 yXE6 yXE7 yXE8 yXE9 yXE10 yXE11 yXE12 yXE13
        have P3 := Lib.hid ((Pr.out.alloc (.cells #[.int .i64 xe.k, .int .i64 xe.vm, .int .i64 xe.sp, .bool xe.al, .int .i64 xe.pg, .int .i64 xe.lv, .int .i64 xe.fr, .int .i64 xe.mi, .bool xe.t.r, .bool xe.t.w, .bool xe.t.x, .bool xe.t.a, .bool xe.t.n, .int .i64 xe.t.s] 36)))
        have E3 := Lib.hid ((BoxAt.newAt (wr) #[.int .i64 xe.k, .int .i64 xe.vm, .int .i64 xe.sp, .bool xe.al, .int .i64 xe.pg, .int .i64 xe.lv, .int .i64 xe.fr, .int .i64 xe.mi, .bool xe.t.r, .bool xe.t.w, .bool xe.t.x, .bool xe.t.a, .bool xe.t.n, .int .i64 xe.t.s] 36 (wr.heap.size) (by first | omega | (simp; done) | (simp; omega))))
        have B3 := Lib.hid ((bel_alloc Br.out (.cells #[.int .i64 xe.k, .int .i64 xe.vm, .int .i64 xe.sp, .bool xe.al, .int .i64 xe.pg, .int .i64 xe.lv, .int .i64 xe.fr, .int .i64 xe.mi, .bool xe.t.r, .bool xe.t.w, .bool xe.t.x, .bool xe.t.a, .bool xe.t.n, .int .i64 xe.t.s] 36)))
        obtain ⟨g3, hg3⟩ : ∃ g3, g3 = wr.heap.size := ⟨_, rfl⟩
        obtain ⟨W3, hW3⟩ : ∃ W3, W3 = (wr).alloc (.cells #[.int .i64 xe.k, .int .i64 xe.vm, .int .i64 xe.sp, .bool xe.al, .int .i64 xe.pg, .int .i64 xe.lv, .int .i64 xe.fr, .int .i64 xe.mi, .bool xe.t.r, .bool xe.t.w, .bool xe.t.x, .bool xe.t.a, .bool xe.t.n, .int .i64 xe.t.s] 36) := ⟨_, rfl⟩
        have hs3 : g3 + 1 ≤ W3.heap.size := by rw [hW3, hg3]; simp
        rw [← hW3] at P3 E3 B3 ⊢
        have hb3 : mr ≤ g3 := by omega
        rw [← hg3] at E3 ⊢
        clear hg3
        clear hW3 Pr Br hsr
        have Ec0 := E3.out.get 0 (.int .i64 xe.k) rfl
        have Ec1 := E3.out.get 1 (.int .i64 xe.vm) rfl
        have Ec2 := E3.out.get 2 (.int .i64 xe.sp) rfl
        have Ec3 := E3.out.get 3 (.bool xe.al) rfl
        have Ec4 := E3.out.get 4 (.int .i64 xe.pg) rfl
        have Ec5 := E3.out.get 5 (.int .i64 xe.lv) rfl
        have Ec6 := E3.out.get 6 (.int .i64 xe.fr) rfl
        have Ec7 := E3.out.get 7 (.int .i64 xe.mi) rfl
        have Ec8 := E3.out.get 8 (.bool xe.t.r) rfl
        have Ec9 := E3.out.get 9 (.bool xe.t.w) rfl
        have Ec10 := E3.out.get 10 (.bool xe.t.x) rfl
        have Ec11 := E3.out.get 11 (.bool xe.t.a) rfl
        have Ec12 := E3.out.get 12 (.bool xe.t.n) rfl
        have Ec13 := E3.out.get 13 (.int .i64 xe.t.s) rfl
        go_wp2_with fail
        refine (HE9.out _).mono ?_
        rintro e w4 ⟨rfl, hb4⟩
        have hz4 := hb4.size
        have P4 := Lib.hid (P3.out.below hb4)
        have E4 := Lib.hid (E3.out.below hb4)
        have B4 := Lib.hid ((bel_trans B3.out hb4))
        skip
        have hs4 : g3 + 1 ≤ w4.heap.size := by omega
        clear Ec0 Ec1 Ec2 Ec3 Ec4 Ec5 Ec6 Ec7 Ec8 Ec9 Ec10 Ec11 Ec12 Ec13
        clear P3 E3 B3 hs3 hb4 hz4
        cases o2
        · go_wp2
          go_roundw
          case rel => exact ⟨k + 1, by omega, by go_num, P4.out, B4.out⟩
          case measure => simp [intOf] <;> omega
        have HEM := Lib.hid (show mayEn xe = true from HO2.out.symm)
        go_wp2
        go_loopw [5] (fun i wr => ∃ (j : Nat), j ≤ 7 ∧ 1 ≤ j ∧ i = .int .i64 j ∧ Hid (BoxAt wr (g1) #[.slice ft nt ct, .slice g m d, .slice (some ⟨be, oe, none⟩) l c] 26) ∧ Hid (BoxAt wr (g3) #[.int .i64 xe.k, .int .i64 xe.vm, .int .i64 xe.sp, .bool xe.al, .int .i64 xe.pg, .int .i64 xe.lv, .int .i64 xe.fr, .int .i64 xe.mi, .bool xe.t.r, .bool xe.t.w, .bool xe.t.x, .bool xe.t.a, .bool xe.t.n, .int .i64 xe.t.s] 36) ∧ Hid (Below w.heap.size w wr)) (fun i _ => 7 - (intOf i).toNat)
        case atStart => exact ⟨1, by omega, by omega, rfl, P4.out, E4.out, B4.out⟩
        case round =>
          clear P4 E4 B4
          obtain ⟨j, hkj, hlj, rfl, Ps, Es, Bs⟩ := hrel
          obtain ⟨ms, hms⟩ : ∃ ms, ms = wr.heap.size := ⟨_, rfl⟩
          have hgPs : g1 + 1 ≤ ms := by rw [hms]; exact Ps.out.lt
          have hgEs : g3 + 1 ≤ ms := by rw [hms]; exact Es.out.lt
          have hgws : w.heap.size ≤ ms := by rw [hms]; exact Bs.out.size
          have hss : ms ≤ wr.heap.size := by omega
          clear hms
          by_cases hltj : j < 7
          · have ik0j : (0 : Int) ≤ (j : Int) := by omega
            have ik1j : (j : Int) < (7 : Int) := by omega
            have ikwj : IntKind.i64.wrap ((j : Int) + 1) = (j : Int) + 1 := IntWalk.i64_in _ (by omega)
            have hj6 : 1 ≤ (j : Int) ∧ (j : Int) ≤ 6 := by omega
            obtain ⟨he1, he2, he3⟩ := mayEn_nums HEM.out
            obtain ⟨ov, hov⟩ : ∃ ov, ov = (xe.vm + 1) % 16 := ⟨_, rfl⟩
            have hwv : IntKind.i64.wrap (xe.vm + 1) = xe.vm + 1 := IntWalk.i64_in _ (by omega)
            have hwm : Int.tmod (xe.vm + 1) 16 = ov := by rw [Int.tmod_eq_emod_of_nonneg (by omega), ← hov]
            obtain ⟨fp, hfp⟩ : ∃ fp, fp = 4095 - xe.pg := ⟨_, rfl⟩
            have hwf : IntKind.i64.wrap (4095 - xe.pg) = fp := by rw [← hfp]; exact IntWalk.i64_in _ (by omega)
            have HK1 := Lib.hid (fun W => takesC ⟨j, xe.vm, xe.sp, xe.pg⟩ xe W)
            have HK2 := Lib.hid (fun W => takesC ⟨j, ov, xe.sp, xe.pg⟩ xe W)
            have HK3 := Lib.hid (fun W => takesC ⟨j, xe.vm, xe.sp, fp⟩ xe W)
            unfold takesR at HK1 HK2 HK3
            rw [mayIn_mk hj6 he1 he2 he3, HEM.out, mine_takes HEM.out hj6] at HK1
            rw [mayIn_mk hj6 (by omega) he2 he3, HEM.out, other_takes (by omega)] at HK2
            rw [mayIn_mk hj6 he1 he2 (by omega), HEM.out] at HK3
            have HF := Lib.hid (fun hd => far_takes (j := j) HEM.out hj6 (by rw [← hfp]; exact hd))
            generalize takeB ⟨j, xe.vm, xe.sp, fp⟩ xe = dv at *
            simp only [Bool.and_self, if_true] at HK1 HK2 HK3
            obtain ⟨av, hav⟩ : ∃ av, av = wantK j (decide (xe.k = 2)) xe.al := ⟨_, rfl⟩
            rw [← hav] at HK1
            have HAV := Lib.hid hav
            obtain ⟨bv, hbv⟩ : ∃ bv, bv = decide ((j : Int) = 1) := ⟨_, rfl⟩
            rw [← hbv] at HK2
            have HBV := Lib.hid hbv
            clear hav hbv hov hfp he1 he2 he3 hj6
            unfold invV invC entV entC at HK1 HK2 HK3
            have Ec1 := Es.out.get 1 (.int .i64 xe.vm) rfl
            have Ec2 := Es.out.get 2 (.int .i64 xe.sp) rfl
            have Ec4 := Es.out.get 4 (.int .i64 xe.pg) rfl
            go_upto_region 12 with fail
            clear Ec1 Ec2 Ec4
            have P5 := Lib.hid ((Ps.out.alloc (.cells #[.int .i64 j, .int .i64 xe.vm, .int .i64 xe.sp, .int .i64 xe.pg] 32)))
            have E5 := Lib.hid ((Es.out.alloc (.cells #[.int .i64 j, .int .i64 xe.vm, .int .i64 xe.sp, .int .i64 xe.pg] 32)))
            have M5 := Lib.hid ((BoxAt.newAt (wr) #[.int .i64 j, .int .i64 xe.vm, .int .i64 xe.sp, .int .i64 xe.pg] 32 (wr.heap.size) (by first | omega | (simp; done) | (simp; omega))))
            have B5 := Lib.hid ((bel_alloc Bs.out (.cells #[.int .i64 j, .int .i64 xe.vm, .int .i64 xe.sp, .int .i64 xe.pg] 32)))
            obtain ⟨g5, hg5⟩ : ∃ g5, g5 = wr.heap.size := ⟨_, rfl⟩
            obtain ⟨W5, hW5⟩ : ∃ W5, W5 = (wr).alloc (.cells #[.int .i64 j, .int .i64 xe.vm, .int .i64 xe.sp, .int .i64 xe.pg] 32) := ⟨_, rfl⟩
            have hs5 : g5 + 1 ≤ W5.heap.size := by rw [hW5, hg5]; simp
            rw [← hW5] at P5 E5 M5 B5 ⊢
            have hb5 : ms ≤ g5 := by omega
            rw [← hg5] at M5 ⊢
            clear hg5
            clear hW5 Ps Es Bs hss
            have Mc0 := M5.out.get 0 (.int .i64 j) rfl
            have Mc1 := M5.out.get 1 (.int .i64 xe.vm) rfl
            have Mc2 := M5.out.get 2 (.int .i64 xe.sp) rfl
            have Mc3 := M5.out.get 3 (.int .i64 xe.pg) rfl
            have Ec0 := E5.out.get 0 (.int .i64 xe.k) rfl
            have Ec1 := E5.out.get 1 (.int .i64 xe.vm) rfl
            have Ec2 := E5.out.get 2 (.int .i64 xe.sp) rfl
            have Ec3 := E5.out.get 3 (.bool xe.al) rfl
            have Ec4 := E5.out.get 4 (.int .i64 xe.pg) rfl
            have Ec5 := E5.out.get 5 (.int .i64 xe.lv) rfl
            have Ec6 := E5.out.get 6 (.int .i64 xe.fr) rfl
            have Ec7 := E5.out.get 7 (.int .i64 xe.mi) rfl
            have Ec8 := E5.out.get 8 (.bool xe.t.r) rfl
            have Ec9 := E5.out.get 9 (.bool xe.t.w) rfl
            have Ec10 := E5.out.get 10 (.bool xe.t.x) rfl
            have Ec11 := E5.out.get 11 (.bool xe.t.a) rfl
            have Ec12 := E5.out.get 12 (.bool xe.t.n) rfl
            have Ec13 := E5.out.get 13 (.int .i64 xe.t.s) rfl
            go_wp2_with fail
            refine (HK1.out _).mono ?_
            rintro e w6 ⟨rfl, hb6⟩
            have hz6 := hb6.size
            have P6 := Lib.hid (P5.out.below hb6)
            have E6 := Lib.hid (E5.out.below hb6)
            have M6 := Lib.hid (M5.out.below hb6)
            have B6 := Lib.hid ((bel_trans B5.out hb6))
            skip
            have hs6 : g5 + 1 ≤ w6.heap.size := by omega
            clear Mc0 Mc1 Mc2 Mc3 Ec0 Ec1 Ec2 Ec3 Ec4 Ec5 Ec6 Ec7 Ec8 Ec9 Ec10 Ec11 Ec12 Ec13
            clear P5 E5 M5 B5 hs5 hb6 hz6
            have Mc0 := M6.out.get 0 (.int .i64 j) rfl
            have Mc1 := M6.out.get 1 (.int .i64 xe.vm) rfl
            have Mc2 := M6.out.get 2 (.int .i64 xe.sp) rfl
            have Mc3 := M6.out.get 3 (.int .i64 xe.pg) rfl
            go_upto_region 14 with fail
            clear Mc0 Mc1 Mc2 Mc3
            have P7 := Lib.hid ((P6.out.alloc (.cells #[.int .i64 j, .int .i64 xe.vm, .int .i64 xe.sp, .int .i64 xe.pg] 32)))
            have E7 := Lib.hid ((E6.out.alloc (.cells #[.int .i64 j, .int .i64 xe.vm, .int .i64 xe.sp, .int .i64 xe.pg] 32)))
            have M7 := Lib.hid ((M6.out.alloc (.cells #[.int .i64 j, .int .i64 xe.vm, .int .i64 xe.sp, .int .i64 xe.pg] 32)))
            have O7 := Lib.hid ((BoxAt.newAt (w6) #[.int .i64 j, .int .i64 xe.vm, .int .i64 xe.sp, .int .i64 xe.pg] 32 (w6.heap.size) (by first | omega | (simp; done) | (simp; omega))))
            have B7 := Lib.hid ((bel_alloc B6.out (.cells #[.int .i64 j, .int .i64 xe.vm, .int .i64 xe.sp, .int .i64 xe.pg] 32)))
            obtain ⟨g7, hg7⟩ : ∃ g7, g7 = w6.heap.size := ⟨_, rfl⟩
            obtain ⟨W7, hW7⟩ : ∃ W7, W7 = (w6).alloc (.cells #[.int .i64 j, .int .i64 xe.vm, .int .i64 xe.sp, .int .i64 xe.pg] 32) := ⟨_, rfl⟩
            have hs7 : g7 + 1 ≤ W7.heap.size := by rw [hW7, hg7]; simp
            rw [← hW7] at P7 E7 M7 O7 B7 ⊢
            have hb7 : g5 + 1 ≤ g7 := by omega
            rw [← hg7] at O7 ⊢
            clear hg7
            clear hW7 P6 E6 M6 B6 hs6
            have Ec1 := E7.out.get 1 (.int .i64 xe.vm) rfl
            have Oc1 := O7.out.get 1 (.int .i64 xe.vm) rfl
            have Oz1 := O7.out.free 1
            go_upto_region 15 with fail
            clear Ec1 Oc1 Oz1
            have P8 := Lib.hid ((P7.out.other ⟨g7, 1, none⟩ (.int .i64 ov) (show g1 ≠ g7 by omega)))
            have E8 := Lib.hid ((E7.out.other ⟨g7, 1, none⟩ (.int .i64 ov) (show g3 ≠ g7 by omega)))
            have M8 := Lib.hid ((M7.out.other ⟨g7, 1, none⟩ (.int .i64 ov) (show g5 ≠ g7 by omega)))
            have O8 := Lib.hid ((O7.out.set 1 (.int .i64 ov) #[.int .i64 j, .int .i64 ov, .int .i64 xe.sp, .int .i64 xe.pg] rfl))
            have B8 := Lib.hid ((Below.setCell B7.out (p := ⟨g7, 1, none⟩) (show w.heap.size ≤ g7 by omega) (.int .i64 ov)))
            obtain ⟨W8, hW8⟩ : ∃ W8, W8 = (W7).setCell ⟨g7, 1, none⟩ (.int .i64 ov) := ⟨_, rfl⟩
            have hs8 : g7 + 1 ≤ W8.heap.size := by rw [hW8]; first | (simp [World.setCell]; omega) | (simp [World.setCell, World.setRow]; omega) | exact hs7
            rw [← hW8] at P8 E8 M8 O8 B8 ⊢
            clear hW8 P7 E7 M7 O7 B7 hs7
            have Oc0 := O8.out.get 0 (.int .i64 j) rfl
            have Oc1 := O8.out.get 1 (.int .i64 ov) rfl
            have Oc2 := O8.out.get 2 (.int .i64 xe.sp) rfl
            have Oc3 := O8.out.get 3 (.int .i64 xe.pg) rfl
            have Ec0 := E8.out.get 0 (.int .i64 xe.k) rfl
            have Ec1 := E8.out.get 1 (.int .i64 xe.vm) rfl
            have Ec2 := E8.out.get 2 (.int .i64 xe.sp) rfl
            have Ec3 := E8.out.get 3 (.bool xe.al) rfl
            have Ec4 := E8.out.get 4 (.int .i64 xe.pg) rfl
            have Ec5 := E8.out.get 5 (.int .i64 xe.lv) rfl
            have Ec6 := E8.out.get 6 (.int .i64 xe.fr) rfl
            have Ec7 := E8.out.get 7 (.int .i64 xe.mi) rfl
            have Ec8 := E8.out.get 8 (.bool xe.t.r) rfl
            have Ec9 := E8.out.get 9 (.bool xe.t.w) rfl
            have Ec10 := E8.out.get 10 (.bool xe.t.x) rfl
            have Ec11 := E8.out.get 11 (.bool xe.t.a) rfl
            have Ec12 := E8.out.get 12 (.bool xe.t.n) rfl
            have Ec13 := E8.out.get 13 (.int .i64 xe.t.s) rfl
            go_wp2_with fail
            refine (HK2.out _).mono ?_
            rintro e w9 ⟨rfl, hb9⟩
            have hz9 := hb9.size
            have P9 := Lib.hid (P8.out.below hb9)
            have E9 := Lib.hid (E8.out.below hb9)
            have M9 := Lib.hid (M8.out.below hb9)
            have O9 := Lib.hid (O8.out.below hb9)
            have B9 := Lib.hid ((bel_trans B8.out hb9))
            skip
            have hs9 : g7 + 1 ≤ w9.heap.size := by omega
            clear Oc0 Oc1 Oc2 Oc3 Ec0 Ec1 Ec2 Ec3 Ec4 Ec5 Ec6 Ec7 Ec8 Ec9 Ec10 Ec11 Ec12 Ec13
            clear P8 E8 M8 O8 B8 hs8 hb9 hz9
            have Mc0 := M9.out.get 0 (.int .i64 j) rfl
            have Mc1 := M9.out.get 1 (.int .i64 xe.vm) rfl
            have Mc2 := M9.out.get 2 (.int .i64 xe.sp) rfl
            have Mc3 := M9.out.get 3 (.int .i64 xe.pg) rfl
            go_upto_region 17 with fail
            clear Mc0 Mc1 Mc2 Mc3
            have P10 := Lib.hid ((P9.out.alloc (.cells #[.int .i64 j, .int .i64 xe.vm, .int .i64 xe.sp, .int .i64 xe.pg] 32)))
            have E10 := Lib.hid ((E9.out.alloc (.cells #[.int .i64 j, .int .i64 xe.vm, .int .i64 xe.sp, .int .i64 xe.pg] 32)))
            have M10 := Lib.hid ((M9.out.alloc (.cells #[.int .i64 j, .int .i64 xe.vm, .int .i64 xe.sp, .int .i64 xe.pg] 32)))
            have O10 := Lib.hid ((O9.out.alloc (.cells #[.int .i64 j, .int .i64 xe.vm, .int .i64 xe.sp, .int .i64 xe.pg] 32)))
            have F10 := Lib.hid ((BoxAt.newAt (w9) #[.int .i64 j, .int .i64 xe.vm, .int .i64 xe.sp, .int .i64 xe.pg] 32 (w9.heap.size) (by first | omega | (simp; done) | (simp; omega))))
            have B10 := Lib.hid ((bel_alloc B9.out (.cells #[.int .i64 j, .int .i64 xe.vm, .int .i64 xe.sp, .int .i64 xe.pg] 32)))
            obtain ⟨g10, hg10⟩ : ∃ g10, g10 = w9.heap.size := ⟨_, rfl⟩
            obtain ⟨W10, hW10⟩ : ∃ W10, W10 = (w9).alloc (.cells #[.int .i64 j, .int .i64 xe.vm, .int .i64 xe.sp, .int .i64 xe.pg] 32) := ⟨_, rfl⟩
            have hs10 : g10 + 1 ≤ W10.heap.size := by rw [hW10, hg10]; simp
            rw [← hW10] at P10 E10 M10 O10 F10 B10 ⊢
            have hb10 : g7 + 1 ≤ g10 := by omega
            rw [← hg10] at F10 ⊢
            clear hg10
            clear hW10 P9 E9 M9 O9 B9 hs9
            have Ec4 := E10.out.get 4 (.int .i64 xe.pg) rfl
            have Fc3 := F10.out.get 3 (.int .i64 xe.pg) rfl
            have Fz3 := F10.out.free 3
            go_upto_region 18 with fail
            clear Ec4 Fc3 Fz3
            have P11 := Lib.hid ((P10.out.other ⟨g10, 3, none⟩ (.int .i64 fp) (show g1 ≠ g10 by omega)))
            have E11 := Lib.hid ((E10.out.other ⟨g10, 3, none⟩ (.int .i64 fp) (show g3 ≠ g10 by omega)))
            have M11 := Lib.hid ((M10.out.other ⟨g10, 3, none⟩ (.int .i64 fp) (show g5 ≠ g10 by omega)))
            have O11 := Lib.hid ((O10.out.other ⟨g10, 3, none⟩ (.int .i64 fp) (show g7 ≠ g10 by omega)))
            have F11 := Lib.hid ((F10.out.set 3 (.int .i64 fp) #[.int .i64 j, .int .i64 xe.vm, .int .i64 xe.sp, .int .i64 fp] rfl))
            have B11 := Lib.hid ((Below.setCell B10.out (p := ⟨g10, 3, none⟩) (show w.heap.size ≤ g10 by omega) (.int .i64 fp)))
            obtain ⟨W11, hW11⟩ : ∃ W11, W11 = (W10).setCell ⟨g10, 3, none⟩ (.int .i64 fp) := ⟨_, rfl⟩
            have hs11 : g10 + 1 ≤ W11.heap.size := by rw [hW11]; first | (simp [World.setCell]; omega) | (simp [World.setCell, World.setRow]; omega) | exact hs10
            rw [← hW11] at P11 E11 M11 O11 F11 B11 ⊢
            clear hW11 P10 E10 M10 O10 F10 B10 hs10
            have Fc0 := F11.out.get 0 (.int .i64 j) rfl
            have Fc1 := F11.out.get 1 (.int .i64 xe.vm) rfl
            have Fc2 := F11.out.get 2 (.int .i64 xe.sp) rfl
            have Fc3 := F11.out.get 3 (.int .i64 fp) rfl
            have Ec0 := E11.out.get 0 (.int .i64 xe.k) rfl
            have Ec1 := E11.out.get 1 (.int .i64 xe.vm) rfl
            have Ec2 := E11.out.get 2 (.int .i64 xe.sp) rfl
            have Ec3 := E11.out.get 3 (.bool xe.al) rfl
            have Ec4 := E11.out.get 4 (.int .i64 xe.pg) rfl
            have Ec5 := E11.out.get 5 (.int .i64 xe.lv) rfl
            have Ec6 := E11.out.get 6 (.int .i64 xe.fr) rfl
            have Ec7 := E11.out.get 7 (.int .i64 xe.mi) rfl
            have Ec8 := E11.out.get 8 (.bool xe.t.r) rfl
            have Ec9 := E11.out.get 9 (.bool xe.t.w) rfl
            have Ec10 := E11.out.get 10 (.bool xe.t.x) rfl
            have Ec11 := E11.out.get 11 (.bool xe.t.a) rfl
            have Ec12 := E11.out.get 12 (.bool xe.t.n) rfl
            have Ec13 := E11.out.get 13 (.int .i64 xe.t.s) rfl
            go_wp2_with fail
            refine (HK3.out _).mono ?_
            rintro e w12 ⟨rfl, hb12⟩
            have hz12 := hb12.size
            have P12 := Lib.hid (P11.out.below hb12)
            have E12 := Lib.hid (E11.out.below hb12)
            have M12 := Lib.hid (M11.out.below hb12)
            have O12 := Lib.hid (O11.out.below hb12)
            have F12 := Lib.hid (F11.out.below hb12)
            have B12 := Lib.hid ((bel_trans B11.out hb12))
            skip
            have hs12 : g10 + 1 ≤ w12.heap.size := by omega
            clear Fc0 Fc1 Fc2 Fc3 Ec0 Ec1 Ec2 Ec3 Ec4 Ec5 Ec6 Ec7 Ec8 Ec9 Ec10 Ec11 Ec12 Ec13
            clear P11 E11 M11 O11 F11 B11 hs11 hb12 hz12
            go_upto_region 19 with fail
            obtain rfl | rfl | rfl | rfl | rfl | rfl : j = 1 ∨ j = 2 ∨ j = 3 ∨ j = 4 ∨ j = 5 ∨ j = 6 := by omega
            · as_aux_lemma =>
                obtain rfl : bv = true := HBV.out
                have cj : (((1 : Nat) : Int)) = 1 := rfl
                skip
                obtain rfl : av = true := HAV.out
                go_wp2_with fail
                refine (num10_any _ _).mono ?_
                rintro e w13 ⟨rfl, rfl⟩
                go_wp2_with fail
                refine (num10_any _ _).mono ?_
                rintro e w14 ⟨rfl, rfl⟩
                go_wp2_with fail
                refine (num10_any _ _).mono ?_
                rintro e w15 ⟨rfl, rfl⟩
                have Ec0 := E12.out.get 0 (.int .i64 xe.k) rfl
                go_upto_region 23 with fail
                clear Ec0
                cases dv
                · go_wp2
                  go_roundw
                  case rel => exact ⟨1 + 1, by omega, by omega, by first | rfl | go_num, P12.out, E12.out, B12.out⟩
                  case measure => simp [intOf] <;> omega
                · have hfar := HF.out rfl
                  clear hfar
                  go_wp2
                  go_roundw
                  case rel => exact ⟨1 + 1, by omega, by omega, by first | rfl | go_num, P12.out, E12.out, B12.out⟩
                  case measure => simp [intOf] <;> omega
            · as_aux_lemma =>
                obtain rfl : bv = false := HBV.out
                have cj : (((2 : Nat) : Int)) = 2 := rfl
                skip
                obtain rfl : av = true := HAV.out
                go_wp2_with fail
                refine (num10_any _ _).mono ?_
                rintro e w13 ⟨rfl, rfl⟩
                go_wp2_with fail
                refine (num10_any _ _).mono ?_
                rintro e w14 ⟨rfl, rfl⟩
                go_wp2_with fail
                refine (num10_any _ _).mono ?_
                rintro e w15 ⟨rfl, rfl⟩
                have Ec0 := E12.out.get 0 (.int .i64 xe.k) rfl
                go_upto_region 23 with fail
                clear Ec0
                cases dv
                · go_wp2
                  go_roundw
                  case rel => exact ⟨2 + 1, by omega, by omega, by first | rfl | go_num, P12.out, E12.out, B12.out⟩
                  case measure => simp [intOf] <;> omega
                · have hfar := HF.out rfl
                  clear hfar
                  go_wp2
                  go_roundw
                  case rel => exact ⟨2 + 1, by omega, by omega, by first | rfl | go_num, P12.out, E12.out, B12.out⟩
                  case measure => simp [intOf] <;> omega
            · as_aux_lemma =>
                obtain rfl : bv = false := HBV.out
                have cj : (((3 : Nat) : Int)) = 3 := rfl
                skip
                cases hm : decide (xe.k = 2)
                · obtain rfl : av = true := by have := HAV.out; rw [hm] at this; exact this
                  have em : (xe.k == 2) = false := (beq_int _ _).trans hm
                  go_wp2_with fail
                  refine (num10_any _ _).mono ?_
                  rintro e w13 ⟨rfl, rfl⟩
                  go_wp2_with fail
                  refine (num10_any _ _).mono ?_
                  rintro e w14 ⟨rfl, rfl⟩
                  go_wp2_with fail
                  refine (num10_any _ _).mono ?_
                  rintro e w15 ⟨rfl, rfl⟩
                  have Ec0 := E12.out.get 0 (.int .i64 xe.k) rfl
                  go_upto_region 23 with fail
                  clear Ec0
                  cases dv
                  · go_wp2
                    go_roundw
                    case rel => exact ⟨3 + 1, by omega, by omega, by first | rfl | go_num, P12.out, E12.out, B12.out⟩
                    case measure => simp [intOf] <;> omega
                  · have hfar := HF.out rfl
                    clear hfar
                    go_wp2
                    go_roundw
                    case rel => exact ⟨3 + 1, by omega, by omega, by first | rfl | go_num, P12.out, E12.out, B12.out⟩
                    case measure => simp [intOf] <;> omega
                · obtain rfl : av = false := by have := HAV.out; rw [hm] at this; exact this
                  have em : (xe.k == 2) = true := (beq_int _ _).trans hm
                  go_wp2_with fail
                  refine (num10_any _ _).mono ?_
                  rintro e w13 ⟨rfl, rfl⟩
                  go_wp2_with fail
                  refine (num10_any _ _).mono ?_
                  rintro e w14 ⟨rfl, rfl⟩
                  go_wp2_with fail
                  refine (num10_any _ _).mono ?_
                  rintro e w15 ⟨rfl, rfl⟩
                  have Ec0 := E12.out.get 0 (.int .i64 xe.k) rfl
                  go_upto_region 23 with fail
                  clear Ec0
                  cases dv
                  · go_wp2
                    go_roundw
                    case rel => exact ⟨3 + 1, by omega, by omega, by first | rfl | go_num, P12.out, E12.out, B12.out⟩
                    case measure => simp [intOf] <;> omega
                  · have hfar := HF.out rfl
                    clear hfar
                    go_wp2
                    go_roundw
                    case rel => exact ⟨3 + 1, by omega, by omega, by first | rfl | go_num, P12.out, E12.out, B12.out⟩
                    case measure => simp [intOf] <;> omega
            · as_aux_lemma =>
                obtain rfl : bv = false := HBV.out
                have cj : (((4 : Nat) : Int)) = 4 := rfl
                skip
                cases hm : decide (xe.k = 2)
                · obtain rfl : av = !xe.al := by have := HAV.out; rw [hm] at this; exact this
                  have em : (xe.k == 2) = false := (beq_int _ _).trans hm
                  go_wp2_with fail
                  refine (num10_any _ _).mono ?_
                  rintro e w13 ⟨rfl, rfl⟩
                  go_wp2_with fail
                  refine (num10_any _ _).mono ?_
                  rintro e w14 ⟨rfl, rfl⟩
                  go_wp2_with fail
                  refine (num10_any _ _).mono ?_
                  rintro e w15 ⟨rfl, rfl⟩
                  have Ec0 := E12.out.get 0 (.int .i64 xe.k) rfl
                  have Ec3 := E12.out.get 3 (.bool xe.al) rfl
                  go_upto_region 23 with fail
                  clear Ec0 Ec3
                  cases dv
                  · go_wp2
                    go_roundw
                    case rel => exact ⟨4 + 1, by omega, by omega, by first | rfl | go_num, P12.out, E12.out, B12.out⟩
                    case measure => simp [intOf] <;> omega
                  · have hfar := HF.out rfl
                    clear hfar
                    go_wp2
                    go_roundw
                    case rel => exact ⟨4 + 1, by omega, by omega, by first | rfl | go_num, P12.out, E12.out, B12.out⟩
                    case measure => simp [intOf] <;> omega
                · obtain rfl : av = false := by have := HAV.out; rw [hm] at this; exact this
                  have em : (xe.k == 2) = true := (beq_int _ _).trans hm
                  go_wp2_with fail
                  refine (num10_any _ _).mono ?_
                  rintro e w13 ⟨rfl, rfl⟩
                  go_wp2_with fail
                  refine (num10_any _ _).mono ?_
                  rintro e w14 ⟨rfl, rfl⟩
                  go_wp2_with fail
                  refine (num10_any _ _).mono ?_
                  rintro e w15 ⟨rfl, rfl⟩
                  have Ec0 := E12.out.get 0 (.int .i64 xe.k) rfl
                  go_upto_region 23 with fail
                  clear Ec0
                  cases dv
                  · go_wp2
                    go_roundw
                    case rel => exact ⟨4 + 1, by omega, by omega, by first | rfl | go_num, P12.out, E12.out, B12.out⟩
                    case measure => simp [intOf] <;> omega
                  · have hfar := HF.out rfl
                    clear hfar
                    go_wp2
                    go_roundw
                    case rel => exact ⟨4 + 1, by omega, by omega, by first | rfl | go_num, P12.out, E12.out, B12.out⟩
                    case measure => simp [intOf] <;> omega
            · as_aux_lemma =>
                obtain rfl : bv = false := HBV.out
                have cj : (((5 : Nat) : Int)) = 5 := rfl
                skip
                cases hm : decide (xe.k = 2)
                · obtain rfl : av = true := by have := HAV.out; rw [hm] at this; exact this
                  have em : (xe.k == 2) = false := (beq_int _ _).trans hm
                  go_wp2_with fail
                  refine (num10_any _ _).mono ?_
                  rintro e w13 ⟨rfl, rfl⟩
                  go_wp2_with fail
                  refine (num10_any _ _).mono ?_
                  rintro e w14 ⟨rfl, rfl⟩
                  go_wp2_with fail
                  refine (num10_any _ _).mono ?_
                  rintro e w15 ⟨rfl, rfl⟩
                  have Ec0 := E12.out.get 0 (.int .i64 xe.k) rfl
                  go_upto_region 23 with fail
                  clear Ec0
                  cases dv
                  · go_wp2
                    go_roundw
                    case rel => exact ⟨5 + 1, by omega, by omega, by first | rfl | go_num, P12.out, E12.out, B12.out⟩
                    case measure => simp [intOf] <;> omega
                  · have hfar := HF.out rfl
                    have e1 : (xe.k == 1) = false := by rw [beq_int]; exact decide_eq_false (hfar.2 rfl)
                    clear hfar
                    have Ec0 := E12.out.get 0 (.int .i64 xe.k) rfl
                    go_wp2
                    go_roundw
                    case rel => exact ⟨5 + 1, by omega, by omega, by first | rfl | go_num, P12.out, E12.out, B12.out⟩
                    case measure => simp [intOf] <;> omega
                · obtain rfl : av = false := by have := HAV.out; rw [hm] at this; exact this
                  have em : (xe.k == 2) = true := (beq_int _ _).trans hm
                  go_wp2_with fail
                  refine (num10_any _ _).mono ?_
                  rintro e w13 ⟨rfl, rfl⟩
                  go_wp2_with fail
                  refine (num10_any _ _).mono ?_
                  rintro e w14 ⟨rfl, rfl⟩
                  go_wp2_with fail
                  refine (num10_any _ _).mono ?_
                  rintro e w15 ⟨rfl, rfl⟩
                  have Ec0 := E12.out.get 0 (.int .i64 xe.k) rfl
                  go_upto_region 23 with fail
                  clear Ec0
                  cases dv
                  · go_wp2
                    go_roundw
                    case rel => exact ⟨5 + 1, by omega, by omega, by first | rfl | go_num, P12.out, E12.out, B12.out⟩
                    case measure => simp [intOf] <;> omega
                  · have hfar := HF.out rfl
                    have e1 : (xe.k == 1) = false := by rw [beq_int]; exact decide_eq_false (hfar.2 rfl)
                    clear hfar
                    have Ec0 := E12.out.get 0 (.int .i64 xe.k) rfl
                    go_wp2
                    go_roundw
                    case rel => exact ⟨5 + 1, by omega, by omega, by first | rfl | go_num, P12.out, E12.out, B12.out⟩
                    case measure => simp [intOf] <;> omega
            · as_aux_lemma =>
                obtain rfl : bv = false := HBV.out
                have cj : (((6 : Nat) : Int)) = 6 := rfl
                skip
                cases hm : decide (xe.k = 2)
                · obtain rfl : av = false := by have := HAV.out; rw [hm] at this; exact this
                  have em : (xe.k == 2) = false := (beq_int _ _).trans hm
                  go_wp2_with fail
                  refine (num10_any _ _).mono ?_
                  rintro e w13 ⟨rfl, rfl⟩
                  go_wp2_with fail
                  refine (num10_any _ _).mono ?_
                  rintro e w14 ⟨rfl, rfl⟩
                  go_wp2_with fail
                  refine (num10_any _ _).mono ?_
                  rintro e w15 ⟨rfl, rfl⟩
                  have Ec0 := E12.out.get 0 (.int .i64 xe.k) rfl
                  go_upto_region 23 with fail
                  clear Ec0
                  cases dv
                  · go_wp2
                    go_roundw
                    case rel => exact ⟨6 + 1, by omega, by omega, by first | rfl | go_num, P12.out, E12.out, B12.out⟩
                    case measure => simp [intOf] <;> omega
                  · have hfar := HF.out rfl
                    exact absurd rfl hfar.1
                · obtain rfl : av = true := by have := HAV.out; rw [hm] at this; exact this
                  have em : (xe.k == 2) = true := (beq_int _ _).trans hm
                  go_wp2_with fail
                  refine (num10_any _ _).mono ?_
                  rintro e w13 ⟨rfl, rfl⟩
                  go_wp2_with fail
                  refine (num10_any _ _).mono ?_
                  rintro e w14 ⟨rfl, rfl⟩
                  go_wp2_with fail
                  refine (num10_any _ _).mono ?_
                  rintro e w15 ⟨rfl, rfl⟩
                  have Ec0 := E12.out.get 0 (.int .i64 xe.k) rfl
                  go_upto_region 23 with fail
                  clear Ec0
                  cases dv
                  · go_wp2
                    go_roundw
                    case rel => exact ⟨6 + 1, by omega, by omega, by first | rfl | go_num, P12.out, E12.out, B12.out⟩
                    case measure => simp [intOf] <;> omega
                  · have hfar := HF.out rfl
                    exact absurd rfl hfar.1
          · go_wp2
            go_roundw
            case rel => exact ⟨k + 1, by omega, by go_num, Ps.out, Bs.out⟩
            case measure => simp [intOf] <;> omega
      · have Pc2 := Pr.out.get 2 (.slice f l c) rfl
        go_wp2_with fail
        refine (wakes10_any _).mono ?_
        rintro e w3 ⟨rfl, hb3⟩
        have hz3 := hb3.size
        have P3 := Lib.hid (Pr.out.below hb3)
        have B3 := Lib.hid ((bel_trans Br.out hb3))
        skip
        have hs3 : mr ≤ w3.heap.size := by omega
        clear Pc2
        clear Pr Br hsr hb3 hz3
        go_wp2
        go_ret
        exact ⟨rfl, B3.out⟩
  go_wp2
  go_ret
  exact ⟨rfl, B2.out⟩
end Go.Proofs.Ytjohnpbfdpmajaa
