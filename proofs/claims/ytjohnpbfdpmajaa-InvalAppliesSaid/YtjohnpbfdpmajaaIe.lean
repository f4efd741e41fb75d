/- Stage 10: InvalTakes and InvalKinds walked. -/
import Derived.Test.YtjohnpbfdpmajaaId
set_option linter.all false
namespace Go.Proofs.Ytjohnpbfdpmajaa
open Go.ChangeShapes Go.WideShapes Go.ChangeAt Go.RowKit Go.Deep

theorem mayIn_pg {i : Inv} (h : mayIn i = true) : 0 ≤ i.pg ∧ i.pg ≤ 4095 := mayPl_pg (mayIn_pl h)
theorem mayEn_nums {e : Ety} (h : mayEn e = true) : (0 ≤ e.vm ∧ e.vm ≤ 15) ∧ (0 ≤ e.sp ∧ e.sp ≤ 15) ∧ (0 ≤ e.pg ∧ e.pg ≤ 4095) := by
  unfold mayEn at h
  simp only [Bool.and_eq_true] at h
  exact ⟨numB_iff.1 h.1, numB_iff.1 h.2.1, numB_iff.1 h.2.2.1⟩
theorem mayIn_mk {k vm sp pg : Int} (hk : 1 ≤ k ∧ k ≤ 6) (h1 : 0 ≤ vm ∧ vm ≤ 15) (h2 : 0 ≤ sp ∧ sp ≤ 15) (h3 : 0 ≤ pg ∧ pg ≤ 4095) : mayIn ⟨k, vm, sp, pg⟩ = true := by
  unfold mayIn
  simp only [Bool.and_eq_true, decide_eq_true_eq]
  exact ⟨hk.1, hk.2, numB_iff.2 h1, numB_iff.2 h2, numB_iff.2 h3⟩
/-- What is to be of an entry and what takes its own away, by kind. -/
def wantK (j : Int) (mid al : Bool) : Bool :=
  decide (j = 1) || (decide (j = 2) || ((decide (j = 6) && mid) || (((decide (j = 3) || decide (j = 5)) && !mid) || (decide (j = 4) && (!mid && !al)))))
theorem mine_takes {j : Int} {e : Ety} (h : mayEn e = true) (hj : 1 ≤ j ∧ j ≤ 6) : takeB ⟨j, e.vm, e.sp, e.pg⟩ e = wantK j (decide (e.k = 2)) e.al := by
  have hab : e.k = 3 → abvP e.lv e.pg = e.pg := fun hk => by
    rw [mayEn_two] at h
    unfold kindE at h
    rw [hk] at h
    simp at h
    exact h.2.2.2.1
  have hj6 : j = 1 ∨ j = 2 ∨ j = 3 ∨ j = 4 ∨ j = 5 ∨ j = 6 := by omega
  unfold takeB takeM wantK
  rcases hj6 with rfl | rfl | rfl | rfl | rfl | rfl <;> simp
  by_cases hk : e.k = 3
  · simp [hk, hab hk]
  · simp [hk]
theorem other_takes {j vm : Int} {e : Ety} (hv : ¬ e.vm = vm) : takeB ⟨j, vm, e.sp, e.pg⟩ e = decide (j = 1) := by
  unfold takeB
  simp [hv]
theorem far_takes {j : Int} {e : Ety} (h : mayEn e = true) (hj : 1 ≤ j ∧ j ≤ 6) (hd : takeB ⟨j, e.vm, e.sp, 4095 - e.pg⟩ e = true) : ¬ j = 6 ∧ (j = 5 → ¬ e.k = 1) := by
  have hne : ¬ e.pg = 4095 - e.pg := by omega
  unfold takeB takeM at hd
  refine ⟨?_, ?_⟩
  · rintro rfl
    simp [hne] at hd
  · rintro rfl hk
    simp [hk, hne] at hd
set_option maxRecDepth 100000 in
set_option maxHeartbeats 3200000 in
theorem takes_walk (ft g f : Option Addr) (nt ct m d l c : Nat) (T : List Tlh) (D : List Inv) (E : List Ety) (w : World) (hn : nt = T.length) (hn2 : nt ≤ 1000000000000000) (hT : RowsAt KT w ft T) (hTT : ∀ t ∈ T, TlbAt w t) (hD : m = D.length ∧ m ≤ 1000000000000000 ∧ RowsAt KI w g D ∧ (m ≤ d ∧ d ≤ maxLen ∧ (g = none → d = 0))) (hE : l = E.length ∧ l ≤ 1000000000000000 ∧ RowsAt KE w f E) :
    Calls Try.prog 3 #[.agg #[.slice ft nt ct, .slice g m d, .slice f l c]] w fun r w' => r = .returned (.bool true) ∧ Below w.heap.size w w' := by
  have HH := Lib.hid (fun W (hB : Below w.heap.size w W) => heavyC ft g f nt ct m d l c T W hn hn2 hD.2.1 hE.2.1 (hT.below hB) (fun x hx => by obtain ⟨_, _, _, h1, _, _, h2, _⟩ := hTT x hx; exact ⟨h1, h2⟩))
  have HD := Lib.hid hD.2.2.1
  have HO := Lib.hid hD.1
  have HL := Lib.hid hE.2.2
  have HN := Lib.hid hE.1
  have hm2 := hD.2.1
  have hl2 := hE.2.1
  have HDC := Lib.hid hD.2.2.2
  clear hn hT hTT hD hE
  have htw : w.heap.size ≤ w.heap.size := Nat.le_refl _
  have B0 := Lib.hid (Below.refl w.heap.size w)
  go_enter Try.func3, Try.ntmps3
  go_upto_region 1 with fail
  have P1 := Lib.hid ((BoxAt.newAt (w) #[.slice ft nt ct, .slice g m d, .slice f l c] 26 (w.heap.size) (by first | omega | (simp; done) | (simp; omega))))
  have B1 := Lib.hid ((bel_alloc B0.out (.cells #[.slice ft nt ct, .slice g m d, .slice f l c] 26)))
  obtain ⟨g1, hg1⟩ : ∃ g1, g1 = w.heap.size := ⟨_, rfl⟩
  obtain ⟨W1, hW1⟩ : ∃ W1, W1 = (w).alloc (.cells #[.slice ft nt ct, .slice g m d, .slice f l c] 26) := ⟨_, rfl⟩
  have hs1 : g1 + 1 ≤ W1.heap.size := by rw [hW1, hg1]; simp
  rw [← hW1] at P1 B1 ⊢
  have hb1 : w.heap.size ≤ g1 := by omega
  rw [← hg1] at P1 ⊢
  clear hg1
  clear hW1 B0
  have Pc0 := P1.out.get 0 (.slice ft nt ct) rfl
  have Pc1 := P1.out.get 1 (.slice g m d) rfl
  have Pc2 := P1.out.get 2 (.slice f l c) rfl
  go_wp2_with fail
  refine (HH.out _ B1.out).mono ?_
  rintro e w2 hh2
  unfold HeavyEnd at hh2
  obtain ⟨hv, rfl, hvq, hb2⟩ := hh2
  have HVQ := Lib.hid hvq
  clear hvq
  have hz2 := hb2.size
  have P2 := Lib.hid (P1.out.below hb2)
  have B2 := Lib.hid ((bel_trans B1.out hb2))
  skip
  have hs2 : g1 + 1 ≤ w2.heap.size := by omega
  clear Pc0 Pc1 Pc2
  clear P1 B1 hs1 hb2 hz2
  cases hv
  · go_wp2
    go_loopw [3] (fun i wr => ∃ (k : Nat), k ≤ m ∧ i = .int .i64 k ∧ Hid (BoxAt wr (g1) #[.slice ft nt ct, .slice g m d, .slice f l c] 26) ∧ Hid (Below w.heap.size w wr)) (fun i _ => m - (intOf i).toNat)
    case atStart => exact ⟨0, by omega, rfl, P2.out, B2.out⟩
    case round =>
      clear P2 B2
      obtain ⟨k, hkk, rfl, Pr, Br⟩ := hrel
      obtain ⟨mr, hmr⟩ : ∃ mr, mr = wr.heap.size := ⟨_, rfl⟩
      have hgPr : g1 + 1 ≤ mr := by rw [hmr]; exact Pr.out.lt
      have hgwr : w.heap.size ≤ mr := by rw [hmr]; exact Br.out.size
      have hsr : mr ≤ wr.heap.size := by omega
      clear hmr
      by_cases hltk : k < m
      · have ik0k : (0 : Int) ≤ (k : Int) := by omega
        have ik1k : (k : Int) < (m : Int) := by omega
        have ikwk : IntKind.i64.wrap ((k : Int) + 1) = (k : Int) + 1 := IntWalk.i64_in _ (by omega)
        by_cases hlik : k < 12
        rotate_left
        · have dlk : decide ((k : Int) < 12) = false := decide_eq_false (by omega)
          have Pc1 := Pr.out.get 1 (.slice g m d) rfl
          go_wp2_with fail
          refine (wakes10_any _).mono ?_
          rintro e w3 ⟨rfl, hb3⟩
          have hz3 := hb3.size
          have P3 := Lib.hid (Pr.out.below hb3)
          have B3 := Lib.hid ((bel_trans Br.out hb3))
          skip
          have hs3 : mr ≤ w3.heap.size := by omega
          clear Pc1
          clear Pr Br hsr hb3 hz3
          go_wp2
          go_ret
          exact ⟨rfl, B3.out⟩
        have dlk : decide ((k : Int) < 12) = true := decide_eq_true (by omega)
        obtain ⟨xi, hxi⟩ := rows_some HO.out hltk
        obtain ⟨bi, oi, rfl, hri⟩ := HD.out k xi hxi
        have HRXI := Lib.hid (show RowAt w bi (oi + k * 4) 4 #[.int .i64 xi.k, .int .i64 xi.vm, .int .i64 xi.sp, .int .i64 xi.pg] from hri)
        have hbi : bi < w.heap.size := hri.lt
        clear hri hxi
        have Pc1 := Pr.out.get 1 (.slice (some ⟨bi, oi, none⟩) m d) rfl
        go_wp2
        clear Pc1
        go_loopw [4] (fun i wr => ∃ (j : Nat), j ≤ l ∧ i = .int .i64 j ∧ Hid (BoxAt wr (g1) #[.slice ft nt ct, .slice (some ⟨bi, oi, none⟩) m d, .slice f l c] 26) ∧ Hid (Below w.heap.size w wr)) (fun i _ => l - (intOf i).toNat)
        case atStart => exact ⟨0, by omega, rfl, Pr.out, Br.out⟩
        case round =>
          clear Pr Br
          obtain ⟨j, hkj, rfl, Ps, Bs⟩ := hrel
          obtain ⟨ms, hms⟩ : ∃ ms, ms = wr.heap.size := ⟨_, rfl⟩
          have hgPs : g1 + 1 ≤ ms := by rw [hms]; exact Ps.out.lt
          have hgws : w.heap.size ≤ ms := by rw [hms]; exact Bs.out.size
          have hss : ms ≤ wr.heap.size := by omega
          clear hms
          by_cases hltj : j < l
          · have ik0j : (0 : Int) ≤ (j : Int) := by omega
            have ik1j : (j : Int) < (l : Int) := by omega
            have ikwj : IntKind.i64.wrap ((j : Int) + 1) = (j : Int) + 1 := IntWalk.i64_in _ (by omega)
            by_cases hlij : j < 12
            rotate_left
            · have dlj : decide ((j : Int) < 12) = false := decide_eq_false (by omega)
              have Pc2 := Ps.out.get 2 (.slice f l c) rfl
              go_wp2
              go_roundw
              case rel => exact ⟨k + 1, by omega, by go_num, Ps.out, Bs.out⟩
              case measure => simp [intOf] <;> omega
            have dlj : decide ((j : Int) < 12) = true := decide_eq_true (by omega)
            obtain ⟨xe, hxe⟩ := rows_some HN.out hltj
            obtain ⟨be, oe, rfl, hre⟩ := HL.out j xe hxe
            have HRXE := Lib.hid (show RowAt w be (oe + j * 14) 14 #[.int .i64 xe.k, .int .i64 xe.vm, .int .i64 xe.sp, .bool xe.al, .int .i64 xe.pg, .int .i64 xe.lv, .int .i64 xe.fr, .int .i64 xe.mi, .bool xe.t.r, .bool xe.t.w, .bool xe.t.x, .bool xe.t.a, .bool xe.t.n, .int .i64 xe.t.s] from hre)
            have hbe : be < w.heap.size := hre.lt
            clear hre hxe
            have HTK := Lib.hid (fun W => takesC xi xe W)
            have HI9 := Lib.hid (fun W => inval9_any xi W)
            have HE9 := Lib.hid (fun W => entry9_any xe W)
            have HT9 := Lib.hid (fun (h1 : mayIn xi = true) (h2 : mayEn xe = true) W => takes9_any xi xe (fun h => mayEn_lv h2 (of_decide_eq_true h)) (mayIn_pg h1) W)
            unfold takesR at HTK
            generalize mayIn xi = o1 at *
            generalize mayEn xe = o2 at *
            generalize takeB xi xe = o3 at *
            unfold invV invC entV entC at HTK HT9
            unfold invV invC at HI9
            unfold entV entC at HE9
            have Pc2 := Ps.out.get 2 (.slice (some ⟨be, oe, none⟩) l c) rfl
            go_upto_region 9 with fail
            clear Pc2
            cases o1 <;> cases o2
            · refine wp_region_held_drew (S := (fun w' => BoxAt w' (g1) #[.slice ft nt ct, .slice (some ⟨bi, oi, none⟩) m d, .slice (some ⟨be, oe, none⟩) l c] 26 ∧ RowAt w' (bi) (oi + k * 4) 4 #[.int .i64 xi.k, .int .i64 xi.vm, .int .i64 xi.sp, .int .i64 xi.pg] ∧ RowAt w' (be) (oe + j * 14) 14 #[.int .i64 xe.k, .int .i64 xe.vm, .int .i64 xe.sp, .bool xe.al, .int .i64 xe.pg, .int .i64 xe.lv, .int .i64 xe.fr, .int .i64 xe.mi, .bool xe.t.r, .bool xe.t.w, .bool xe.t.x, .bool xe.t.a, .bool xe.t.n, .int .i64 xe.t.s])) (by kernel_rfl) ⟨Ps.out.drew, (HRXI.out.below Bs.out).drew, (HRXE.out.below Bs.out).drew⟩ (fun hS => ?_)
              refine tkR 0 34 (v := .pointer (some ⟨g1, 1, none⟩)) rfl hS (fun _ _ => by kernel_rfl) ?_
              refine tkR 1 35 (v := .slice (some ⟨bi, oi, none⟩) m d) rfl hS (fun _ h => run_ld1 23 (.tmp 34) g1 1 (by kernel_rfl) (by kernel_rfl) Try.underlying23 rfl ((h.1).get 1 (.slice (some ⟨bi, oi, none⟩) m d) rfl)) ?_
              refine tkR 2 36 (v := .int .i64 k) rfl hS (fun _ _ => by kernel_rfl) ?_
              refine tkR 3 37 (v := .pointer (some ⟨bi, oi + k * 4, none⟩)) rfl hS (fun _ _ => run_ixN 23 32 (.tmp 35) (.tmp 36) bi oi m d k 4 (by kernel_rfl) (by kernel_rfl) (by kernel_rfl) Try.underlying23 (by kernel_rfl) hltk) ?_
              refine tkR 4 38 (v := .agg #[.int .i64 xi.k, .int .i64 xi.vm, .int .i64 xi.sp, .int .i64 xi.pg]) rfl hS (fun _ h => run_ldN 32 (.tmp 37) bi (oi + k * 4) (by kernel_rfl) (by kernel_rfl) Try.underlying32 rfl (by kernel_rfl) ((h.2.1).sub 0 _ rfl (Nat.le_of_ble_eq_true rfl))) ?_
              refine tkR 5 39 (v := .pointer (some ⟨g1, 2, none⟩)) rfl hS (fun _ _ => by kernel_rfl) ?_
              refine tkR 6 40 (v := .slice (some ⟨be, oe, none⟩) l c) rfl hS (fun _ h => run_ld1 24 (.tmp 39) g1 2 (by kernel_rfl) (by kernel_rfl) Try.underlying24 rfl ((h.1).get 2 (.slice (some ⟨be, oe, none⟩) l c) rfl)) ?_
              refine tkR 7 41 (v := .int .i64 j) rfl hS (fun _ _ => by kernel_rfl) ?_
              refine tkR 8 42 (v := .pointer (some ⟨be, oe + j * 14, none⟩)) rfl hS (fun _ _ => run_ixN 24 36 (.tmp 40) (.tmp 41) be oe l c j 14 (by kernel_rfl) (by kernel_rfl) (by kernel_rfl) Try.underlying24 (by kernel_rfl) hltj) ?_
              refine tkR 9 43 (v := .agg #[.int .i64 xe.k, .int .i64 xe.vm, .int .i64 xe.sp, .bool xe.al, .int .i64 xe.pg, .int .i64 xe.lv, .int .i64 xe.fr, .int .i64 xe.mi, .bool xe.t.r, .bool xe.t.w, .bool xe.t.x, .bool xe.t.a, .bool xe.t.n, .int .i64 xe.t.s]) rfl hS (fun _ h => run_ldN 36 (.tmp 42) be (oe + j * 14) (by kernel_rfl) (by kernel_rfl) Try.underlying36 rfl (by kernel_rfl) ((h.2.2).sub 0 _ rfl (Nat.le_of_ble_eq_true rfl))) ?_
              try simp only [Act.put, List.setIfInBounds_toArray, List.set_cons_zero, List.set_cons_succ]
              refine wpAnyH_ready (rs := [10]) (by kernel_rfl) (by simp) ?_
              refine AllReadyH.cons (o := ⟨some 44, _, _, _, _, _⟩) rfl (fun K hK => ?_) AllReadyH.nil
              go_simp
              refine (HTK.out _).mono ?_
              rintro e w3 ⟨rfl, hb3⟩
              have hz3 := hb3.size
              try simp at hz3
              refine hK.out _ _ ?_ (fun hS' => ?_)
              · exact ⟨hS.1.below hb3, hS.2.1.below hb3, hS.2.2.below hb3⟩
              clear hK K hS
              have hS := hS'
              clear hS'
              try simp only [Act.put, List.setIfInBounds_toArray, List.set_cons_zero, List.set_cons_succ]
              refine tkR 11 33 (v := .tuple #[.bool false, .int .i64 1]) rfl hS (fun _ _ => by kernel_rfl) ?_
              refine tkR 12 45 (v := .bool false) rfl hS (fun _ _ => by kernel_rfl) ?_
              refine tkR 13 46 (v := .int .i64 1) rfl hS (fun _ _ => by kernel_rfl) ?_
              refine tkR 14 5 (v := .bool false) rfl hS (fun _ _ => by kernel_rfl) ?_
              refine tkR 15 6 (v := .int .i64 1) rfl hS (fun _ _ => by kernel_rfl) ?_
              refine wpAnyH_done (by kernel_rfl) ?_ _
              try simp only [Act.put, List.setIfInBounds_toArray, List.set_cons_zero, List.set_cons_succ]
              have P4 := Lib.hid (((Ps.out.drew).below hb3))
              have B4 := Lib.hid ((bel_trans (Below.drew Bs.out) hb3))
              obtain ⟨W4, hW4⟩ : ∃ W4, W4 = w3 := ⟨_, rfl⟩
              have hs4 : ms ≤ W4.heap.size := by rw [hW4]; first | exact hss | omega | (simp; omega)
              rw [← hW4] at P4 B4 ⊢
              clear hW4 Ps Bs hss
              have Pc1 := P4.out.get 1 (.slice (some ⟨bi, oi, none⟩) m d) rfl
              have yXI := (HRXI.out.below B4.out)
              have yXI0 := yXI.get0 (.int .i64 xi.k) (by decide) rfl
              have yXI1 := yXI.get 1 (.int .i64 xi.vm) (by decide) rfl
              have yXI2 := yXI.get 2 (.int .i64 xi.sp) (by decide) rfl
              have yXI3 := yXI.get 3 (.int .i64 xi.pg) (by decide) rfl
              clear yXI
              go_wp2_with fail
              refine (HI9.out _).mono ?_
              rintro e w5 ⟨rfl, hb5⟩
              have hz5 := hb5.size
              have P5 := Lib.hid (P4.out.below hb5)
              have B5 := Lib.hid ((bel_trans B4.out hb5))
              skip
              have hs5 : ms ≤ w5.heap.size := by omega
              clear Pc1 yXI0 yXI1 yXI2 yXI3
              clear P4 B4 hs4 hb5 hz5
              go_wp2_with fail
              refine (num10_any _ _).mono ?_
              rintro e w6 ⟨rfl, rfl⟩
              go_wp2
              go_roundw
              case rel => exact ⟨j + 1, by omega, by go_num, P5.out, B5.out⟩
              case measure => simp [intOf] <;> omega
            · refine wp_region_held_drew (S := (fun w' => BoxAt w' (g1) #[.slice ft nt ct, .slice (some ⟨bi, oi, none⟩) m d, .slice (some ⟨be, oe, none⟩) l c] 26 ∧ RowAt w' (bi) (oi + k * 4) 4 #[.int .i64 xi.k, .int .i64 xi.vm, .int .i64 xi.sp, .int .i64 xi.pg] ∧ RowAt w' (be) (oe + j * 14) 14 #[.int .i64 xe.k, .int .i64 xe.vm, .int .i64 xe.sp, .bool xe.al, .int .i64 xe.pg, .int .i64 xe.lv, .int .i64 xe.fr, .int .i64 xe.mi, .bool xe.t.r, .bool xe.t.w, .bool xe.t.x, .bool xe.t.a, .bool xe.t.n, .int .i64 xe.t.s])) (by kernel_rfl) ⟨Ps.out.drew, (HRXI.out.below Bs.out).drew, (HRXE.out.below Bs.out).drew⟩ (fun hS => ?_)
              refine tkR 0 34 (v := .pointer (some ⟨g1, 1, none⟩)) rfl hS (fun _ _ => by kernel_rfl) ?_
              refine tkR 1 35 (v := .slice (some ⟨bi, oi, none⟩) m d) rfl hS (fun _ h => run_ld1 23 (.tmp 34) g1 1 (by kernel_rfl) (by kernel_rfl) Try.underlying23 rfl ((h.1).get 1 (.slice (some ⟨bi, oi, none⟩) m d) rfl)) ?_
              refine tkR 2 36 (v := .int .i64 k) rfl hS (fun _ _ => by kernel_rfl) ?_
              refine tkR 3 37 (v := .pointer (some ⟨bi, oi + k * 4, none⟩)) rfl hS (fun _ _ => run_ixN 23 32 (.tmp 35) (.tmp 36) bi oi m d k 4 (by kernel_rfl) (by kernel_rfl) (by kernel_rfl) Try.underlying23 (by kernel_rfl) hltk) ?_
              refine tkR 4 38 (v := .agg #[.int .i64 xi.k, .int .i64 xi.vm, .int .i64 xi.sp, .int .i64 xi.pg]) rfl hS (fun _ h => run_ldN 32 (.tmp 37) bi (oi + k * 4) (by kernel_rfl) (by kernel_rfl) Try.underlying32 rfl (by kernel_rfl) ((h.2.1).sub 0 _ rfl (Nat.le_of_ble_eq_true rfl))) ?_
              refine tkR 5 39 (v := .pointer (some ⟨g1, 2, none⟩)) rfl hS (fun _ _ => by kernel_rfl) ?_
              refine tkR 6 40 (v := .slice (some ⟨be, oe, none⟩) l c) rfl hS (fun _ h => run_ld1 24 (.tmp 39) g1 2 (by kernel_rfl) (by kernel_rfl) Try.underlying24 rfl ((h.1).get 2 (.slice (some ⟨be, oe, none⟩) l c) rfl)) ?_
              refine tkR 7 41 (v := .int .i64 j) rfl hS (fun _ _ => by kernel_rfl) ?_
              refine tkR 8 42 (v := .pointer (some ⟨be, oe + j * 14, none⟩)) rfl hS (fun _ _ => run_ixN 24 36 (.tmp 40) (.tmp 41) be oe l c j 14 (by kernel_rfl) (by kernel_rfl) (by kernel_rfl) Try.underlying24 (by kernel_rfl) hltj) ?_
              refine tkR 9 43 (v := .agg #[.int .i64 xe.k, .int .i64 xe.vm, .int .i64 xe.sp, .bool xe.al, .int .i64 xe.pg, .int .i64 xe.lv, .int .i64 xe.fr, .int .i64 xe.mi, .bool xe.t.r, .bool xe.t.w, .bool xe.t.x, .bool xe.t.a, .bool xe.t.n, .int .i64 xe.t.s]) rfl hS (fun _ h => run_ldN 36 (.tmp 42) be (oe + j * 14) (by kernel_rfl) (by kernel_rfl) Try.underlying36 rfl (by kernel_rfl) ((h.2.2).sub 0 _ rfl (Nat.le_of_ble_eq_true rfl))) ?_
              try simp only [Act.put, List.setIfInBounds_toArray, List.set_cons_zero, List.set_cons_succ]
              refine wpAnyH_ready (rs := [10]) (by kernel_rfl) (by simp) ?_
              refine AllReadyH.cons (o := ⟨some 44, _, _, _, _, _⟩) rfl (fun K hK => ?_) AllReadyH.nil
              go_simp
              refine (HTK.out _).mono ?_
              rintro e w3 ⟨rfl, hb3⟩
              have hz3 := hb3.size
              try simp at hz3
              refine hK.out _ _ ?_ (fun hS' => ?_)
              · exact ⟨hS.1.below hb3, hS.2.1.below hb3, hS.2.2.below hb3⟩
              clear hK K hS
              have hS := hS'
              clear hS'
              try simp only [Act.put, List.setIfInBounds_toArray, List.set_cons_zero, List.set_cons_succ]
              refine tkR 11 33 (v := .tuple #[.bool false, .int .i64 1]) rfl hS (fun _ _ => by kernel_rfl) ?_
              refine tkR 12 45 (v := .bool false) rfl hS (fun _ _ => by kernel_rfl) ?_
              refine tkR 13 46 (v := .int .i64 1) rfl hS (fun _ _ => by kernel_rfl) ?_
              refine tkR 14 5 (v := .bool false) rfl hS (fun _ _ => by kernel_rfl) ?_
              refine tkR 15 6 (v := .int .i64 1) rfl hS (fun _ _ => by kernel_rfl) ?_
              refine wpAnyH_done (by kernel_rfl) ?_ _
              try simp only [Act.put, List.setIfInBounds_toArray, List.set_cons_zero, List.set_cons_succ]
              have P4 := Lib.hid (((Ps.out.drew).below hb3))
              have B4 := Lib.hid ((bel_trans (Below.drew Bs.out) hb3))
              obtain ⟨W4, hW4⟩ : ∃ W4, W4 = w3 := ⟨_, rfl⟩
              have hs4 : ms ≤ W4.heap.size := by rw [hW4]; first | exact hss | omega | (simp; omega)
              rw [← hW4] at P4 B4 ⊢
              clear hW4 Ps Bs hss
              have Pc1 := P4.out.get 1 (.slice (some ⟨bi, oi, none⟩) m d) rfl
              have yXI := (HRXI.out.below B4.out)
              have yXI0 := yXI.get0 (.int .i64 xi.k) (by decide) rfl
              have yXI1 := yXI.get 1 (.int .i64 xi.vm) (by decide) rfl
              have yXI2 := yXI.get 2 (.int .i64 xi.sp) (by decide) rfl
              have yXI3 := yXI.get 3 (.int .i64 xi.pg) (by decide) rfl
              clear yXI
              go_wp2_with fail
              refine (HI9.out _).mono ?_
              rintro e w5 ⟨rfl, hb5⟩
              have hz5 := hb5.size
              have P5 := Lib.hid (P4.out.below hb5)
              have B5 := Lib.hid ((bel_trans B4.out hb5))
              skip
              have hs5 : ms ≤ w5.heap.size := by omega
              clear Pc1 yXI0 yXI1 yXI2 yXI3
              clear P4 B4 hs4 hb5 hz5
              go_wp2_with fail
              refine (num10_any _ _).mono ?_
              rintro e w6 ⟨rfl, rfl⟩
              go_wp2
              go_roundw
              case rel => exact ⟨j + 1, by omega, by go_num, P5.out, B5.out⟩
              case measure => simp [intOf] <;> omega
            · refine wp_region_held_drew (S := (fun w' => BoxAt w' (g1) #[.slice ft nt ct, .slice (some ⟨bi, oi, none⟩) m d, .slice (some ⟨be, oe, none⟩) l c] 26 ∧ RowAt w' (bi) (oi + k * 4) 4 #[.int .i64 xi.k, .int .i64 xi.vm, .int .i64 xi.sp, .int .i64 xi.pg] ∧ RowAt w' (be) (oe + j * 14) 14 #[.int .i64 xe.k, .int .i64 xe.vm, .int .i64 xe.sp, .bool xe.al, .int .i64 xe.pg, .int .i64 xe.lv, .int .i64 xe.fr, .int .i64 xe.mi, .bool xe.t.r, .bool xe.t.w, .bool xe.t.x, .bool xe.t.a, .bool xe.t.n, .int .i64 xe.t.s])) (by kernel_rfl) ⟨Ps.out.drew, (HRXI.out.below Bs.out).drew, (HRXE.out.below Bs.out).drew⟩ (fun hS => ?_)
              refine tkR 0 34 (v := .pointer (some ⟨g1, 1, none⟩)) rfl hS (fun _ _ => by kernel_rfl) ?_
              refine tkR 1 35 (v := .slice (some ⟨bi, oi, none⟩) m d) rfl hS (fun _ h => run_ld1 23 (.tmp 34) g1 1 (by kernel_rfl) (by kernel_rfl) Try.underlying23 rfl ((h.1).get 1 (.slice (some ⟨bi, oi, none⟩) m d) rfl)) ?_
              refine tkR 2 36 (v := .int .i64 k) rfl hS (fun _ _ => by kernel_rfl) ?_
              refine tkR 3 37 (v := .pointer (some ⟨bi, oi + k * 4, none⟩)) rfl hS (fun _ _ => run_ixN 23 32 (.tmp 35) (.tmp 36) bi oi m d k 4 (by kernel_rfl) (by kernel_rfl) (by kernel_rfl) Try.underlying23 (by kernel_rfl) hltk) ?_
              refine tkR 4 38 (v := .agg #[.int .i64 xi.k, .int .i64 xi.vm, .int .i64 xi.sp, .int .i64 xi.pg]) rfl hS (fun _ h => run_ldN 32 (.tmp 37) bi (oi + k * 4) (by kernel_rfl) (by kernel_rfl) Try.underlying32 rfl (by kernel_rfl) ((h.2.1).sub 0 _ rfl (Nat.le_of_ble_eq_true rfl))) ?_
              refine tkR 5 39 (v := .pointer (some ⟨g1, 2, none⟩)) rfl hS (fun _ _ => by kernel_rfl) ?_
              refine tkR 6 40 (v := .slice (some ⟨be, oe, none⟩) l c) rfl hS (fun _ h => run_ld1 24 (.tmp 39) g1 2 (by kernel_rfl) (by kernel_rfl) Try.underlying24 rfl ((h.1).get 2 (.slice (some ⟨be, oe, none⟩) l c) rfl)) ?_
              refine tkR 7 41 (v := .int .i64 j) rfl hS (fun _ _ => by kernel_rfl) ?_
              refine tkR 8 42 (v := .pointer (some ⟨be, oe + j * 14, none⟩)) rfl hS (fun _ _ => run_ixN 24 36 (.tmp 40) (.tmp 41) be oe l c j 14 (by kernel_rfl) (by kernel_rfl) (by kernel_rfl) Try.underlying24 (by kernel_rfl) hltj) ?_
              refine tkR 9 43 (v := .agg #[.int .i64 xe.k, .int .i64 xe.vm, .int .i64 xe.sp, .bool xe.al, .int .i64 xe.pg, .int .i64 xe.lv, .int .i64 xe.fr, .int .i64 xe.mi, .bool xe.t.r, .bool xe.t.w, .bool xe.t.x, .bool xe.t.a, .bool xe.t.n, .int .i64 xe.t.s]) rfl hS (fun _ h => run_ldN 36 (.tmp 42) be (oe + j * 14) (by kernel_rfl) (by kernel_rfl) Try.underlying36 rfl (by kernel_rfl) ((h.2.2).sub 0 _ rfl (Nat.le_of_ble_eq_true rfl))) ?_
              try simp only [Act.put, List.setIfInBounds_toArray, List.set_cons_zero, List.set_cons_succ]
              refine wpAnyH_ready (rs := [10]) (by kernel_rfl) (by simp) ?_
              refine AllReadyH.cons (o := ⟨some 44, _, _, _, _, _⟩) rfl (fun K hK => ?_) AllReadyH.nil
              go_simp
              refine (HTK.out _).mono ?_
              rintro e w3 ⟨rfl, hb3⟩
              have hz3 := hb3.size
              try simp at hz3
              refine hK.out _ _ ?_ (fun hS' => ?_)
              · exact ⟨hS.1.below hb3, hS.2.1.below hb3, hS.2.2.below hb3⟩
              clear hK K hS
              have hS := hS'
              clear hS'
              try simp only [Act.put, List.setIfInBounds_toArray, List.set_cons_zero, List.set_cons_succ]
              refine tkR 11 33 (v := .tuple #[.bool false, .int .i64 1]) rfl hS (fun _ _ => by kernel_rfl) ?_
              refine tkR 12 45 (v := .bool false) rfl hS (fun _ _ => by kernel_rfl) ?_
              refine tkR 13 46 (v := .int .i64 1) rfl hS (fun _ _ => by kernel_rfl) ?_
              refine tkR 14 5 (v := .bool false) rfl hS (fun _ _ => by kernel_rfl) ?_
              refine tkR 15 6 (v := .int .i64 1) rfl hS (fun _ _ => by kernel_rfl) ?_
              refine wpAnyH_done (by kernel_rfl) ?_ _
              try simp only [Act.put, List.setIfInBounds_toArray, List.set_cons_zero, List.set_cons_succ]
              have P4 := Lib.hid (((Ps.out.drew).below hb3))
              have B4 := Lib.hid ((bel_trans (Below.drew Bs.out) hb3))
              obtain ⟨W4, hW4⟩ : ∃ W4, W4 = w3 := ⟨_, rfl⟩
              have hs4 : ms ≤ W4.heap.size := by rw [hW4]; first | exact hss | omega | (simp; omega)
              rw [← hW4] at P4 B4 ⊢
              clear hW4 Ps Bs hss
              have Pc1 := P4.out.get 1 (.slice (some ⟨bi, oi, none⟩) m d) rfl
              have yXI := (HRXI.out.below B4.out)
              have yXI0 := yXI.get0 (.int .i64 xi.k) (by decide) rfl
              have yXI1 := yXI.get 1 (.int .i64 xi.vm) (by decide) rfl
              have yXI2 := yXI.get 2 (.int .i64 xi.sp) (by decide) rfl
              have yXI3 := yXI.get 3 (.int .i64 xi.pg) (by decide) rfl
              clear yXI
              go_wp2_with fail
              refine (HI9.out _).mono ?_
              rintro e w5 ⟨rfl, hb5⟩
              have hz5 := hb5.size
              have P5 := Lib.hid (P4.out.below hb5)
              have B5 := Lib.hid ((bel_trans B4.out hb5))
              skip
              have hs5 : ms ≤ w5.heap.size := by omega
              clear Pc1 yXI0 yXI1 yXI2 yXI3
              clear P4 B4 hs4 hb5 hz5
              have Pc2 := P5.out.get 2 (.slice (some ⟨be, oe, none⟩) l c) rfl
              have yXE := (HRXE.out.below B5.out)
              have yXE0 := yXE.get0 (.int .i64 xe.k) (by decide) rfl
              have yXE1 := yXE.get 1 (.int .i64 xe.vm) (by decide) rfl
              have yXE2 := yXE.get 2 (.int .i64 xe.sp) (by decide) rfl
              have yXE3 := yXE.get 3 (.bool xe.al) (by decide) rfl
              have yXE4 := yXE.get 4 (.int .i64 xe.pg) (by decide) rfl
              have yXE5 := yXE.get 5 (.int .i64 xe.lv) (by decide) rfl
              have yXE6 := yXE.get 6 (.int .i64 xe.fr) (by decide) rfl
              have yXE7 := yXE.get 7 (.int .i64 xe.mi) (by decide) rfl
              have yXE8 := yXE.get 8 (.bool xe.t.r) (by decide) rfl
              have yXE9 := yXE.get 9 (.bool xe.t.w) (by decide) rfl
              have yXE10 := yXE.get 10 (.bool xe.t.x) (by decide) rfl
              have yXE11 := yXE.get 11 (.bool xe.t.a) (by decide) rfl
              have yXE12 := yXE.get 12 (.bool xe.t.n) (by decide) rfl
              have yXE13 := yXE.get 13 (.int .i64 xe.t.s) (by decide) rfl
              clear yXE
              go_wp2_with fail
              refine (HE9.out _).mono ?_
              rintro e w6 ⟨rfl, hb6⟩
              have hz6 := hb6.size
              have P6 := Lib.hid (P5.out.below hb6)
              have B6 := Lib.hid ((bel_trans B5.out hb6))
              skip
              have hs6 : ms ≤ w6.heap.size := by omega
              clear Pc2 yXE0 yXE1 yXE2 yXE3 yXE4 yXE5 yXE6 yXE7 yXE8 yXE9 yXE10 yXE11 yXE12 yXE13
              clear P5 B5 hs5 hb6 hz6
              go_wp2_with fail
              refine (num10_any _ _).mono ?_
              rintro e w7 ⟨rfl, rfl⟩
              go_wp2
              go_roundw
              case rel => exact ⟨j + 1, by omega, by go_num, P6.out, B6.out⟩
              case measure => simp [intOf] <;> omega
            refine wp_region_held_drew (S := (fun w' => BoxAt w' (g1) #[.slice ft nt ct, .slice (some ⟨bi, oi, none⟩) m d, .slice (some ⟨be, oe, none⟩) l c] 26 ∧ RowAt w' (bi) (oi + k * 4) 4 #[.int .i64 xi.k, .int .i64 xi.vm, .int .i64 xi.sp, .int .i64 xi.pg] ∧ RowAt w' (be) (oe + j * 14) 14 #[.int .i64 xe.k, .int .i64 xe.vm, .int .i64 xe.sp, .bool xe.al, .int .i64 xe.pg, .int .i64 xe.lv, .int .i64 xe.fr, .int .i64 xe.mi, .bool xe.t.r, .bool xe.t.w, .bool xe.t.x, .bool xe.t.a, .bool xe.t.n, .int .i64 xe.t.s])) (by kernel_rfl) ⟨Ps.out.drew, (HRXI.out.below Bs.out).drew, (HRXE.out.below Bs.out).drew⟩ (fun hS => ?_)
            refine tkR 0 34 (v := .pointer (some ⟨g1, 1, none⟩)) rfl hS (fun _ _ => by kernel_rfl) ?_
            refine tkR 1 35 (v := .slice (some ⟨bi, oi, none⟩) m d) rfl hS (fun _ h => run_ld1 23 (.tmp 34) g1 1 (by kernel_rfl) (by kernel_rfl) Try.underlying23 rfl ((h.1).get 1 (.slice (some ⟨bi, oi, none⟩) m d) rfl)) ?_
            refine tkR 2 36 (v := .int .i64 k) rfl hS (fun _ _ => by kernel_rfl) ?_
            refine tkR 3 37 (v := .pointer (some ⟨bi, oi + k * 4, none⟩)) rfl hS (fun _ _ => run_ixN 23 32 (.tmp 35) (.tmp 36) bi oi m d k 4 (by kernel_rfl) (by kernel_rfl) (by kernel_rfl) Try.underlying23 (by kernel_rfl) hltk) ?_
            refine tkR 4 38 (v := .agg #[.int .i64 xi.k, .int .i64 xi.vm, .int .i64 xi.sp, .int .i64 xi.pg]) rfl hS (fun _ h => run_ldN 32 (.tmp 37) bi (oi + k * 4) (by kernel_rfl) (by kernel_rfl) Try.underlying32 rfl (by kernel_rfl) ((h.2.1).sub 0 _ rfl (Nat.le_of_ble_eq_true rfl))) ?_
            refine tkR 5 39 (v := .pointer (some ⟨g1, 2, none⟩)) rfl hS (fun _ _ => by kernel_rfl) ?_
            refine tkR 6 40 (v := .slice (some ⟨be, oe, none⟩) l c) rfl hS (fun _ h => run_ld1 24 (.tmp 39) g1 2 (by kernel_rfl) (by kernel_rfl) Try.underlying24 rfl ((h.1).get 2 (.slice (some ⟨be, oe, none⟩) l c) rfl)) ?_
            refine tkR 7 41 (v := .int .i64 j) rfl hS (fun _ _ => by kernel_rfl) ?_
            refine tkR 8 42 (v := .pointer (some ⟨be, oe + j * 14, none⟩)) rfl hS (fun _ _ => run_ixN 24 36 (.tmp 40) (.tmp 41) be oe l c j 14 (by kernel_rfl) (by kernel_rfl) (by kernel_rfl) Try.underlying24 (by kernel_rfl) hltj) ?_
            refine tkR 9 43 (v := .agg #[.int .i64 xe.k, .int .i64 xe.vm, .int .i64 xe.sp, .bool xe.al, .int .i64 xe.pg, .int .i64 xe.lv, .int .i64 xe.fr, .int .i64 xe.mi, .bool xe.t.r, .bool xe.t.w, .bool xe.t.x, .bool xe.t.a, .bool xe.t.n, .int .i64 xe.t.s]) rfl hS (fun _ h => run_ldN 36 (.tmp 42) be (oe + j * 14) (by kernel_rfl) (by kernel_rfl) Try.underlying36 rfl (by kernel_rfl) ((h.2.2).sub 0 _ rfl (Nat.le_of_ble_eq_true rfl))) ?_
            try simp only [Act.put, List.setIfInBounds_toArray, List.set_cons_zero, List.set_cons_succ]
            refine wpAnyH_ready (rs := [10]) (by kernel_rfl) (by simp) ?_
            refine AllReadyH.cons (o := ⟨some 44, _, _, _, _, _⟩) rfl (fun K hK => ?_) AllReadyH.nil
            go_simp
            refine (HTK.out _).mono ?_
            rintro e w3 ⟨rfl, hb3⟩
            have hz3 := hb3.size
            try simp at hz3
            refine hK.out _ _ ?_ (fun hS' => ?_)
            · exact ⟨hS.1.below hb3, hS.2.1.below hb3, hS.2.2.below hb3⟩
            clear hK K hS
            have hS := hS'
            clear hS'
            try simp only [Act.put, List.setIfInBounds_toArray, List.set_cons_zero, List.set_cons_succ]
            refine tkR 11 33 (v := .tuple #[.bool o3, .int .i64 0]) rfl hS (fun _ _ => by kernel_rfl) ?_
            refine tkR 12 45 (v := .bool o3) rfl hS (fun _ _ => by kernel_rfl) ?_
            refine tkR 13 46 (v := .int .i64 0) rfl hS (fun _ _ => by kernel_rfl) ?_
            refine tkR 14 5 (v := .bool o3) rfl hS (fun _ _ => by kernel_rfl) ?_
            refine tkR 15 6 (v := .int .i64 0) rfl hS (fun _ _ => by kernel_rfl) ?_
            refine wpAnyH_done (by kernel_rfl) ?_ _
            try simp only [Act.put, List.setIfInBounds_toArray, List.set_cons_zero, List.set_cons_succ]
            have P4 := Lib.hid (((Ps.out.drew).below hb3))
            have B4 := Lib.hid ((bel_trans (Below.drew Bs.out) hb3))
            obtain ⟨W4, hW4⟩ : ∃ W4, W4 = w3 := ⟨_, rfl⟩
            have hs4 : ms ≤ W4.heap.size := by rw [hW4]; first | exact hss | omega | (simp; omega)
            rw [← hW4] at P4 B4 ⊢
            clear hW4 Ps Bs hss
            have Pc1 := P4.out.get 1 (.slice (some ⟨bi, oi, none⟩) m d) rfl
            have yXI := (HRXI.out.below B4.out)
            have yXI0 := yXI.get0 (.int .i64 xi.k) (by decide) rfl
            have yXI1 := yXI.get 1 (.int .i64 xi.vm) (by decide) rfl
            have yXI2 := yXI.get 2 (.int .i64 xi.sp) (by decide) rfl
            have yXI3 := yXI.get 3 (.int .i64 xi.pg) (by decide) rfl
            clear yXI
            go_wp2_with fail
            refine (HI9.out _).mono ?_
            rintro e w5 ⟨rfl, hb5⟩
            have hz5 := hb5.size
            have P5 := Lib.hid (P4.out.below hb5)
            have B5 := Lib.hid ((bel_trans B4.out hb5))
            skip
            have hs5 : ms ≤ w5.heap.size := by omega
            clear Pc1 yXI0 yXI1 yXI2 yXI3
            clear P4 B4 hs4 hb5 hz5
            have Pc2 := P5.out.get 2 (.slice (some ⟨be, oe, none⟩) l c) rfl
            have yXE := (HRXE.out.below B5.out)
            have yXE0 := yXE.get0 (.int .i64 xe.k) (by decide) rfl
            have yXE1 := yXE.get 1 (.int .i64 xe.vm) (by decide) rfl
            have yXE2 := yXE.get 2 (.int .i64 xe.sp) (by decide) rfl
            have yXE3 := yXE.get 3 (.bool xe.al) (by decide) rfl
            have yXE4 := yXE.get 4 (.int .i64 xe.pg) (by decide) rfl
            have yXE5 := yXE.get 5 (.int .i64 xe.lv) (by decide) rfl
            have yXE6 := yXE.get 6 (.int .i64 xe.fr) (by decide) rfl
            have yXE7 := yXE.get 7 (.int .i64 xe.mi) (by decide) rfl
            have yXE8 := yXE.get 8 (.bool xe.t.r) (by decide) rfl
            have yXE9 := yXE.get 9 (.bool xe.t.w) (by decide) rfl
            have yXE10 := yXE.get 10 (.bool xe.t.x) (by decide) rfl
            have yXE11 := yXE.get 11 (.bool xe.t.a) (by decide) rfl
            have yXE12 := yXE.get 12 (.bool xe.t.n) (by decide) rfl
            have yXE13 := yXE.get 13 (.int .i64 xe.t.s) (by decide) rfl
            clear yXE
            go_wp2_with fail
            refine (HE9.out _).mono ?_
            rintro e w6 ⟨rfl, hb6⟩
            have hz6 := hb6.size
            have P6 := Lib.hid (P5.out.below hb6)
            have B6 := Lib.hid ((bel_trans B5.out hb6))
            skip
            have hs6 : ms ≤ w6.heap.size := by omega
            clear Pc2 yXE0 yXE1 yXE2 yXE3 yXE4 yXE5 yXE6 yXE7 yXE8 yXE9 yXE10 yXE11 yXE12 yXE13
            clear P5 B5 hs5 hb6 hz6
            go_upto_region 12 with fail
            refine wp_region_held_drew (S := (fun w' => BoxAt w' (g1) #[.slice ft nt ct, .slice (some ⟨bi, oi, none⟩) m d, .slice (some ⟨be, oe, none⟩) l c] 26 ∧ RowAt w' (bi) (oi + k * 4) 4 #[.int .i64 xi.k, .int .i64 xi.vm, .int .i64 xi.sp, .int .i64 xi.pg] ∧ RowAt w' (be) (oe + j * 14) 14 #[.int .i64 xe.k, .int .i64 xe.vm, .int .i64 xe.sp, .bool xe.al, .int .i64 xe.pg, .int .i64 xe.lv, .int .i64 xe.fr, .int .i64 xe.mi, .bool xe.t.r, .bool xe.t.w, .bool xe.t.x, .bool xe.t.a, .bool xe.t.n, .int .i64 xe.t.s])) (by kernel_rfl) ⟨P6.out.drew, (HRXI.out.below B6.out).drew, (HRXE.out.below B6.out).drew⟩ (fun hS => ?_)
            refine tkR 0 61 (v := .pointer (some ⟨g1, 1, none⟩)) rfl hS (fun _ _ => by kernel_rfl) ?_
            refine tkR 1 62 (v := .slice (some ⟨bi, oi, none⟩) m d) rfl hS (fun _ h => run_ld1 23 (.tmp 61) g1 1 (by kernel_rfl) (by kernel_rfl) Try.underlying23 rfl ((h.1).get 1 (.slice (some ⟨bi, oi, none⟩) m d) rfl)) ?_
            refine tkR 2 63 (v := .int .i64 k) rfl hS (fun _ _ => by kernel_rfl) ?_
            refine tkR 3 64 (v := .pointer (some ⟨bi, oi + k * 4, none⟩)) rfl hS (fun _ _ => run_ixN 23 32 (.tmp 62) (.tmp 63) bi oi m d k 4 (by kernel_rfl) (by kernel_rfl) (by kernel_rfl) Try.underlying23 (by kernel_rfl) hltk) ?_
            refine tkR 4 65 (v := .agg #[.int .i64 xi.k, .int .i64 xi.vm, .int .i64 xi.sp, .int .i64 xi.pg]) rfl hS (fun _ h => run_ldN 32 (.tmp 64) bi (oi + k * 4) (by kernel_rfl) (by kernel_rfl) Try.underlying32 rfl (by kernel_rfl) ((h.2.1).sub 0 _ rfl (Nat.le_of_ble_eq_true rfl))) ?_
            refine tkR 5 66 (v := .pointer (some ⟨g1, 2, none⟩)) rfl hS (fun _ _ => by kernel_rfl) ?_
            refine tkR 6 67 (v := .slice (some ⟨be, oe, none⟩) l c) rfl hS (fun _ h => run_ld1 24 (.tmp 66) g1 2 (by kernel_rfl) (by kernel_rfl) Try.underlying24 rfl ((h.1).get 2 (.slice (some ⟨be, oe, none⟩) l c) rfl)) ?_
            refine tkR 7 68 (v := .int .i64 j) rfl hS (fun _ _ => by kernel_rfl) ?_
            refine tkR 8 69 (v := .pointer (some ⟨be, oe + j * 14, none⟩)) rfl hS (fun _ _ => run_ixN 24 36 (.tmp 67) (.tmp 68) be oe l c j 14 (by kernel_rfl) (by kernel_rfl) (by kernel_rfl) Try.underlying24 (by kernel_rfl) hltj) ?_
            refine tkR 9 70 (v := .agg #[.int .i64 xe.k, .int .i64 xe.vm, .int .i64 xe.sp, .bool xe.al, .int .i64 xe.pg, .int .i64 xe.lv, .int .i64 xe.fr, .int .i64 xe.mi, .bool xe.t.r, .bool xe.t.w, .bool xe.t.x, .bool xe.t.a, .bool xe.t.n, .int .i64 xe.t.s]) rfl hS (fun _ h => run_ldN 36 (.tmp 69) be (oe + j * 14) (by kernel_rfl) (by kernel_rfl) Try.underlying36 rfl (by kernel_rfl) ((h.2.2).sub 0 _ rfl (Nat.le_of_ble_eq_true rfl))) ?_
            try simp only [Act.put, List.setIfInBounds_toArray, List.set_cons_zero, List.set_cons_succ]
            refine wpAnyH_ready (rs := [10]) (by kernel_rfl) (by simp) ?_
            refine AllReadyH.cons (o := ⟨some 71, _, _, _, _, _⟩) rfl (fun K hK => ?_) AllReadyH.nil
            go_simp
            refine (HT9.out (by first | trivial | rfl) (by first | trivial | rfl) _).mono ?_
            rintro e w7 ⟨rfl, hb7⟩
            have hz7 := hb7.size
            try simp at hz7
            refine hK.out _ _ ?_ (fun hS' => ?_)
            · exact ⟨hS.1.below hb7, hS.2.1.below hb7, hS.2.2.below hb7⟩
            clear hK K hS
            have hS := hS'
            clear hS'
            try simp only [Act.put, List.setIfInBounds_toArray, List.set_cons_zero, List.set_cons_succ]
            refine tkR 11 7 (v := .int .i64 0) rfl hS (fun _ _ => by kernel_rfl) ?_
            refine tkR 12 8 (v := .bool o3) rfl hS (fun _ _ => by kernel_rfl) ?_
            refine wpAnyH_done (by kernel_rfl) ?_ _
            try simp only [Act.put, List.setIfInBounds_toArray, List.set_cons_zero, List.set_cons_succ]
            have P8 := Lib.hid (((P6.out.drew).below hb7))
            have B8 := Lib.hid ((bel_trans (Below.drew B6.out) hb7))
            obtain ⟨W8, hW8⟩ : ∃ W8, W8 = w7 := ⟨_, rfl⟩
            have hs8 : ms ≤ W8.heap.size := by rw [hW8]; first | exact hs6 | omega | (simp; omega)
            rw [← hW8] at P8 B8 ⊢
            clear hW8 P6 B6 hs6
            go_wp2_with fail
            refine (num10_any _ _).mono ?_
            rintro e w9 ⟨rfl, rfl⟩
            go_wp2
            go_roundw
            case rel => exact ⟨j + 1, by omega, by go_num, P8.out, B8.out⟩
            case measure => simp [intOf] <;> omega
          · have Pc2 := Ps.out.get 2 (.slice f l c) rfl
            go_wp2
            go_roundw
            case rel => exact ⟨k + 1, by omega, by go_num, Ps.out, Bs.out⟩
            case measure => simp [intOf] <;> omega
      · have Pc1 := Pr.out.get 1 (.slice g m d) rfl
        go_wp2_with fail
        refine (wakes10_any _).mono ?_
        rintro e w3 ⟨rfl, hb3⟩
        have hz3 := hb3.size
        have P3 := Lib.hid (Pr.out.below hb3)
        have B3 := Lib.hid ((bel_trans Br.out hb3))
        skip
        have hs3 : mr ≤ w3.heap.size := by omega
        clear Pc1
        clear Pr Br hsr hb3 hz3
        go_wp2
        go_ret
        exact ⟨rfl, B3.out⟩
  go_wp2
  go_ret
  exact ⟨rfl, B2.out⟩
end Go.Proofs.Ytjohnpbfdpmajaa
