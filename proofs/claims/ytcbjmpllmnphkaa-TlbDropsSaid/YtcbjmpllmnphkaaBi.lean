/- The reference's Walk and Fill: contracts. -/
import Derived.Test.YtcbjmpllmnphkaaBh
import Derived.Test.YtcbjmpllmnphkaaTk
set_option linter.all false
namespace Go.Proofs.Ytcbjmpllmnphkaa
open Go.ChangeShapes Go.WideShapes Go.ChangeAt Go.RowKit Go.Deep

theorem walkF_yes {p : Ety → Bool} {x : Ety} {L : List Ety} {k a v : Int} (h : p x = true) (h2 : a < 0 ∨ v < x.lv) : walkF p (x :: L) k a v = walkF p L (k + 1) k x.lv := by
  simp [walkF, h, h2]
theorem walkF_no {p : Ety → Bool} {x : Ety} {L : List Ety} {k a v : Int} (h : p x = false ∨ (¬ a < 0 ∧ ¬ v < x.lv)) : walkF p (x :: L) k a v = walkF p L (k + 1) a v := by
  rcases h with h | ⟨h1, h2⟩
  · simp [walkF, h]
  · simp [walkF, h1, h2]
set_option maxRecDepth 100000 in
set_option maxHeartbeats 6400000 in
theorem walk9_any (f g : Option Addr) (l c m d : Nat) (E : List Ety) (vm sp pg : Int) (w : World) (hL : RowsAt KE w f E) (hn : l = E.length) (hl : l ≤ 1000000) (hE : ∀ x ∈ E, x.k = 3 → 1 ≤ x.lv ∧ x.lv ≤ 3) (hpg : 0 ≤ pg ∧ pg ≤ 4095) :
    Calls Try.prog 24 #[.agg #[.slice f l c, .slice g m d], .int .i64 vm, .int .i64 sp, .int .i64 pg] w fun r w' => r = .returned (.int .i64 (walk9 E vm sp pg)) ∧ Below w.heap.size w w' := by
  have HL := Lib.hid hL
  have HN := Lib.hid hn
  have HE3 := Lib.hid hE
  have HPG := Lib.hid hpg
  clear hL hn hE hpg
  unfold walk9
  obtain ⟨q, hq⟩ : ∃ q, q = walkF (isWk vm sp pg) E 0 (-1) 0 := ⟨_, rfl⟩
  rw [← hq]
  have HQ := Lib.hid (show walkF (isWk vm sp pg) (E.drop 0) ((0 : Nat) : Int) (-1) 0 = q from hq.symm)
  clear hq
  have htw : w.heap.size ≤ w.heap.size := Nat.le_refl _
  have B0 := Lib.hid (Below.refl w.heap.size w)
  go_enter Try.func24, Try.ntmps24
  go_upto_region 1 with fail
  have T1 := Lib.hid ((BoxAt.newAt (w) #[.slice f l c, .slice g m d] 25 (w.heap.size) (by first | omega | (simp; done) | (simp; omega))))
  have B1 := Lib.hid ((bel_alloc B0.out (.cells #[.slice f l c, .slice g m d] 25)))
  obtain ⟨g1, hg1⟩ : ∃ g1, g1 = w.heap.size := ⟨_, rfl⟩
  obtain ⟨W1, hW1⟩ : ∃ W1, W1 = (w).alloc (.cells #[.slice f l c, .slice g m d] 25) := ⟨_, rfl⟩
  have hs1 : g1 + 1 ≤ W1.heap.size := by rw [hW1, hg1]; simp
  rw [← hW1] at T1 B1 ⊢
  have hb1 : w.heap.size ≤ g1 := by omega
  rw [← hg1] at T1 ⊢
  clear hg1
  clear hW1 B0
  go_wp2
  go_loopw [9, 10] (fun a i wr => ∃ (k : Nat) (at' v : Int), k ≤ l ∧ a = .int .i64 at' ∧ i = .int .i64 k ∧ Hid (BoxAt wr (g1) #[.slice f l c, .slice g m d] 25) ∧ Hid (Below w.heap.size w wr) ∧ Hid (walkF (isWk vm sp pg) (E.drop k) k at' v = q) ∧ Hid (at' = -1 ∨ ∃ (j : Nat) (y : Ety), at' = (j : Int) ∧ E[j]? = some y ∧ y.lv = v)) (fun _ i _ => l - (intOf i).toNat)
  case atStart => exact ⟨0, -1, 0, Nat.zero_le _, rfl, rfl, T1.out, B1.out, HQ, Lib.hid (Or.inl rfl)⟩
  case round =>
    clear B1 T1 HQ
    obtain ⟨k, at', v, hk, rfl, rfl, Tr, Br, HQ, HJ⟩ := hrel
    have hsr : g1 + 1 ≤ wr.heap.size := Tr.out.lt
    by_cases hlt : k < l
    · obtain ⟨x, hx⟩ := rows_some HN.out hlt
      obtain ⟨b, o, rfl, hr0⟩ := HL.out k x hx
      have HRX := Lib.hid (show RowAt w b (o + k * 14) 14 #[.int .i64 x.k, .int .i64 x.vm, .int .i64 x.sp, .bool x.al, .int .i64 x.pg, .int .i64 x.lv, .int .i64 x.fr, .int .i64 x.mi, .bool x.t.r, .bool x.t.w, .bool x.t.x, .bool x.t.a, .bool x.t.n, .int .i64 x.t.s] from hr0)
      have hbk : b < w.heap.size := hr0.lt
      clear hr0
      have i1 : (0 : Int) ≤ (k : Int) := by omega
      have i2 : (k : Int) < (l : Int) := by omega
      have HX := Lib.hid (rows_drop hx)
      have HXE := Lib.hid hx
      clear hx
      have HOF := Lib.hid (fun W => of9_any x vm sp W)
      obtain ⟨o1, ho1⟩ : ∃ o1, o1 = ofE x vm sp := ⟨_, rfl⟩
      rw [← ho1] at HOF
      have ho1h := Lib.hid ho1
      clear ho1
      unfold entV entC at HOF
      have HAB := Lib.hid (fun W (hk : x.k = 3) => above9_any x.lv pg W (HE3.out x (List.mem_of_getElem? HXE.out) hk).1 (HE3.out x (List.mem_of_getElem? HXE.out) hk).2 HPG.out.1 HPG.out.2)
      obtain ⟨ab, hab⟩ : ∃ ab, ab = abvP x.lv pg := ⟨_, rfl⟩
      rw [← hab] at HAB
      have habh := Lib.hid hab
      clear hab
      rcases HJ.out with rfl | hj
      rotate_left
      · clear HJ
        obtain ⟨j, y, rfl, hy, hyv⟩ := hj
        subst hyv
        obtain ⟨b2, o2, hbo, hr1⟩ := HL.out j y hy
        obtain ⟨rfl, rfl⟩ : b = b2 ∧ o = o2 := by simpa using hbo
        have HRY := Lib.hid (show RowAt w b (o + j * 14) 14 #[.int .i64 y.k, .int .i64 y.vm, .int .i64 y.sp, .bool y.al, .int .i64 y.pg, .int .i64 y.lv, .int .i64 y.fr, .int .i64 y.mi, .bool y.t.r, .bool y.t.w, .bool y.t.x, .bool y.t.a, .bool y.t.n, .int .i64 y.t.s] from hr1)
        have hjl : j < l := by have := (List.getElem?_eq_some_iff.1 hy).1; have := HN.out; omega
        have HYE := Lib.hid hy
        clear hbo hr1 hy
        have j1 : (0 : Int) ≤ (j : Int) := by omega
        have j2 : (j : Int) < (l : Int) := by omega
        have j3 : decide ((j : Int) < 0) = false := decide_eq_false (by omega)
        have Tc0 := Tr.out.get 0 (.slice (some ⟨b, o, none⟩) l c) rfl
        have yX := (HRX.out.below Br.out)
        have yX0 := yX.get0 (.int .i64 x.k) (by decide) rfl
        have yX1 := yX.get 1 (.int .i64 x.vm) (by decide) rfl
        have yX2 := yX.get 2 (.int .i64 x.sp) (by decide) rfl
        have yX3 := yX.get 3 (.bool x.al) (by decide) rfl
        have yX4 := yX.get 4 (.int .i64 x.pg) (by decide) rfl
        have yX5 := yX.get 5 (.int .i64 x.lv) (by decide) rfl
        have yX6 := yX.get 6 (.int .i64 x.fr) (by decide) rfl
        have yX7 := yX.get 7 (.int .i64 x.mi) (by decide) rfl
        have yX8 := yX.get 8 (.bool x.t.r) (by decide) rfl
        have yX9 := yX.get 9 (.bool x.t.w) (by decide) rfl
        have yX10 := yX.get 10 (.bool x.t.x) (by decide) rfl
        have yX11 := yX.get 11 (.bool x.t.a) (by decide) rfl
        have yX12 := yX.get 12 (.bool x.t.n) (by decide) rfl
        have yX13 := yX.get 13 (.int .i64 x.t.s) (by decide) rfl
        clear yX
        cases hk : decide (x.k = 3)
        · have ehk : (x.k == 3) = false := (beq_int _ _).trans hk
          have hkh := Lib.hid hk
          clear hk
          go_upto_region 6 with fail
          clear Tc0 yX0 yX1 yX2 yX3 yX4 yX5 yX6 yX7 yX8 yX9 yX10 yX11 yX12 yX13
          have T2 := Lib.hid ((Tr.out.alloc (.cells #[.int .i64 x.k, .int .i64 x.vm, .int .i64 x.sp, .bool x.al, .int .i64 x.pg, .int .i64 x.lv, .int .i64 x.fr, .int .i64 x.mi, .bool x.t.r, .bool x.t.w, .bool x.t.x, .bool x.t.a, .bool x.t.n, .int .i64 x.t.s] 34)))
          have X2 := Lib.hid ((BoxAt.newAt (wr) #[.int .i64 x.k, .int .i64 x.vm, .int .i64 x.sp, .bool x.al, .int .i64 x.pg, .int .i64 x.lv, .int .i64 x.fr, .int .i64 x.mi, .bool x.t.r, .bool x.t.w, .bool x.t.x, .bool x.t.a, .bool x.t.n, .int .i64 x.t.s] 34 (wr.heap.size) (by first | omega | (simp; done) | (simp; omega))))
          have B2 := Lib.hid ((bel_alloc Br.out (.cells #[.int .i64 x.k, .int .i64 x.vm, .int .i64 x.sp, .bool x.al, .int .i64 x.pg, .int .i64 x.lv, .int .i64 x.fr, .int .i64 x.mi, .bool x.t.r, .bool x.t.w, .bool x.t.x, .bool x.t.a, .bool x.t.n, .int .i64 x.t.s] 34)))
          obtain ⟨g2, hg2⟩ : ∃ g2, g2 = wr.heap.size := ⟨_, rfl⟩
          obtain ⟨W2, hW2⟩ : ∃ W2, W2 = (wr).alloc (.cells #[.int .i64 x.k, .int .i64 x.vm, .int .i64 x.sp, .bool x.al, .int .i64 x.pg, .int .i64 x.lv, .int .i64 x.fr, .int .i64 x.mi, .bool x.t.r, .bool x.t.w, .bool x.t.x, .bool x.t.a, .bool x.t.n, .int .i64 x.t.s] 34) := ⟨_, rfl⟩
          have hs2 : g2 + 1 ≤ W2.heap.size := by rw [hW2, hg2]; simp
          rw [← hW2] at T2 X2 B2 ⊢
          have hb2 : g1 + 1 ≤ g2 := by omega
          rw [← hg2] at X2 ⊢
          clear hg2
          clear hW2 Tr Br hsr
          refine wp_region_held_drew (S := (fun w' => BoxAt w' (g2) #[.int .i64 x.k, .int .i64 x.vm, .int .i64 x.sp, .bool x.al, .int .i64 x.pg, .int .i64 x.lv, .int .i64 x.fr, .int .i64 x.mi, .bool x.t.r, .bool x.t.w, .bool x.t.x, .bool x.t.a, .bool x.t.n, .int .i64 x.t.s] 34)) (by kernel_rfl) (X2.out.drew) (fun hS => ?_)
          refine tkR 0 24 (v := .pointer (some ⟨g2, 0, none⟩)) rfl hS (fun _ _ => by kernel_rfl) ?_
          refine tkR 1 25 (v := .int .i64 x.k) rfl hS (fun _ h => run_ld1 3 (.tmp 24) g2 0 (by kernel_rfl) (by kernel_rfl) Try.underlying3 rfl ((h).get 0 (.int .i64 x.k) rfl)) ?_
          try simp only [Act.put, List.setIfInBounds_toArray, List.set_cons_zero, List.set_cons_succ]
          refine tkR 2 26 rfl hS (fun w' _ => by go_simp; try with_reducible rfl) ?_
          simp only [pA, pB, pC]
          refine tkR 3 27 (v := .bool false) rfl hS (fun _ _ => by kernel_rfl) ?_
          refine tkU 4 28 rfl hS ?_
          simp only [pA, pB, pC]
          refine tkU 5 29 rfl hS ?_
          simp only [pA, pB, pC]
          refine tkU 6 30 rfl hS ?_
          simp only [pA, pB, pC]
          refine tkU 7 31 rfl hS ?_
          simp only [pA, pB, pC]
          try simp only [Act.put, List.setIfInBounds_toArray, List.set_cons_zero, List.set_cons_succ]
          refine tkR 8 32 rfl hS (fun w' _ => by go_simp; try with_reducible rfl) ?_
          simp only [pA, pB, pC]
          refine tkR 9 33 (v := .bool false) rfl hS (fun _ _ => by kernel_rfl) ?_
          refine tkU 10 34 rfl hS ?_
          simp only [pA, pB, pC]
          refine tkU 11 35 rfl hS ?_
          simp only [pA, pB, pC]
          refine tkU 12 36 rfl hS ?_
          simp only [pA, pB, pC]
          refine tkU 13 37 rfl hS ?_
          simp only [pA, pB, pC]
          refine tkU 14 38 rfl hS ?_
          simp only [pA, pB, pC]
          refine tkU 15 39 rfl hS ?_
          simp only [pA, pB, pC]
          refine tkU 16 40 rfl hS ?_
          simp only [pA, pB, pC]
          try simp only [Act.put, List.setIfInBounds_toArray, List.set_cons_zero, List.set_cons_succ]
          refine tkR 17 41 rfl hS (fun w' _ => by go_simp; try with_reducible rfl) ?_
          simp only [pA, pB, pC]
          refine tkR 18 42 (v := .bool false) rfl hS (fun _ _ => by kernel_rfl) ?_
          refine tkU 19 43 rfl hS ?_
          simp only [pA, pB, pC]
          refine tkU 20 44 rfl hS ?_
          simp only [pA, pB, pC]
          refine tkU 21 45 rfl hS ?_
          simp only [pA, pB, pC]
          refine tkU 22 46 rfl hS ?_
          simp only [pA, pB, pC]
          refine tkU 23 47 rfl hS ?_
          simp only [pA, pB, pC]
          refine tkU 24 48 rfl hS ?_
          simp only [pA, pB, pC]
          refine tkU 25 49 rfl hS ?_
          simp only [pA, pB, pC]
          refine tkU 26 50 rfl hS ?_
          simp only [pA, pB, pC]
          refine tkU 27 51 rfl hS ?_
          simp only [pA, pB, pC]
          refine tkU 28 52 rfl hS ?_
          simp only [pA, pB, pC]
          refine tkU 29 53 rfl hS ?_
          simp only [pA, pB, pC]
          refine tkU 30 54 rfl hS ?_
          simp only [pA, pB, pC]
          refine tkU 31 55 rfl hS ?_
          simp only [pA, pB, pC]
          try simp only [Act.put, List.setIfInBounds_toArray, List.set_cons_zero, List.set_cons_succ]
          refine tkR 32 56 rfl hS (fun w' _ => by go_simp; try with_reducible rfl) ?_
          simp only [pA, pB, pC]
          refine wpAnyH_done (by kernel_rfl) ?_ _
          try simp only [Act.put, List.setIfInBounds_toArray, List.set_cons_zero, List.set_cons_succ]
          have T3 := Lib.hid ((T2.out.drew))
          have X3 := Lib.hid ((X2.out.drew))
          have B3 := Lib.hid ((Below.drew B2.out))
          obtain ⟨W3, hW3⟩ : ∃ W3, W3 = (W2).drew := ⟨_, rfl⟩
          have hs3 : g2 + 1 ≤ W3.heap.size := by rw [hW3]; first | exact hs2 | omega | (simp; omega)
          rw [← hW3] at T3 X3 B3 ⊢
          clear hW3 T2 X2 B2 hs2
          have hp9 : (isWk vm sp pg) x = false := by simp [isWk, hkh.out]
          have hq9 := HQ.out
          rw [HX.out, walkF_no (Or.inl hp9)] at hq9
          clear hp9
          have HQ := Lib.hid (show walkF (isWk vm sp pg) (E.drop (k + 1)) ((k + 1 : Nat) : Int) (j : Int) y.lv = q from hq9)
          clear hq9
          go_wp2
          go_roundw
          case rel => exact ⟨k + 1, (j : Int), y.lv, by omega, rfl, by go_num, T3.out, B3.out, HQ, Lib.hid (Or.inr ⟨j, y, rfl, HYE.out, rfl⟩)⟩
          case measure => simp [intOf]; omega
        have ehk : (x.k == 3) = true := (beq_int _ _).trans hk
        have hkh := Lib.hid hk
        clear hk
        cases o1
        · go_upto_region 6 with fail
          clear Tc0 yX0 yX1 yX2 yX3 yX4 yX5 yX6 yX7 yX8 yX9 yX10 yX11 yX12 yX13
          have T2 := Lib.hid ((Tr.out.alloc (.cells #[.int .i64 x.k, .int .i64 x.vm, .int .i64 x.sp, .bool x.al, .int .i64 x.pg, .int .i64 x.lv, .int .i64 x.fr, .int .i64 x.mi, .bool x.t.r, .bool x.t.w, .bool x.t.x, .bool x.t.a, .bool x.t.n, .int .i64 x.t.s] 34)))
          have X2 := Lib.hid ((BoxAt.newAt (wr) #[.int .i64 x.k, .int .i64 x.vm, .int .i64 x.sp, .bool x.al, .int .i64 x.pg, .int .i64 x.lv, .int .i64 x.fr, .int .i64 x.mi, .bool x.t.r, .bool x.t.w, .bool x.t.x, .bool x.t.a, .bool x.t.n, .int .i64 x.t.s] 34 (wr.heap.size) (by first | omega | (simp; done) | (simp; omega))))
          have B2 := Lib.hid ((bel_alloc Br.out (.cells #[.int .i64 x.k, .int .i64 x.vm, .int .i64 x.sp, .bool x.al, .int .i64 x.pg, .int .i64 x.lv, .int .i64 x.fr, .int .i64 x.mi, .bool x.t.r, .bool x.t.w, .bool x.t.x, .bool x.t.a, .bool x.t.n, .int .i64 x.t.s] 34)))
          obtain ⟨g2, hg2⟩ : ∃ g2, g2 = wr.heap.size := ⟨_, rfl⟩
          obtain ⟨W2, hW2⟩ : ∃ W2, W2 = (wr).alloc (.cells #[.int .i64 x.k, .int .i64 x.vm, .int .i64 x.sp, .bool x.al, .int .i64 x.pg, .int .i64 x.lv, .int .i64 x.fr, .int .i64 x.mi, .bool x.t.r, .bool x.t.w, .bool x.t.x, .bool x.t.a, .bool x.t.n, .int .i64 x.t.s] 34) := ⟨_, rfl⟩
          have hs2 : g2 + 1 ≤ W2.heap.size := by rw [hW2, hg2]; simp
          rw [← hW2] at T2 X2 B2 ⊢
          have hb2 : g1 + 1 ≤ g2 := by omega
          rw [← hg2] at X2 ⊢
          clear hg2
          clear hW2 Tr Br hsr
          refine wp_region_held_drew (S := (fun w' => BoxAt w' (g2) #[.int .i64 x.k, .int .i64 x.vm, .int .i64 x.sp, .bool x.al, .int .i64 x.pg, .int .i64 x.lv, .int .i64 x.fr, .int .i64 x.mi, .bool x.t.r, .bool x.t.w, .bool x.t.x, .bool x.t.a, .bool x.t.n, .int .i64 x.t.s] 34)) (by kernel_rfl) (X2.out.drew) (fun hS => ?_)
          refine tkR 0 24 (v := .pointer (some ⟨g2, 0, none⟩)) rfl hS (fun _ _ => by kernel_rfl) ?_
          refine tkR 1 25 (v := .int .i64 x.k) rfl hS (fun _ h => run_ld1 3 (.tmp 24) g2 0 (by kernel_rfl) (by kernel_rfl) Try.underlying3 rfl ((h).get 0 (.int .i64 x.k) rfl)) ?_
          try simp only [Act.put, List.setIfInBounds_toArray, List.set_cons_zero, List.set_cons_succ]
          refine tkR 2 26 rfl hS (fun w' _ => by go_simp; try with_reducible rfl) ?_
          simp only [pA, pB, pC]
          refine tkR 3 27 (v := .bool true) rfl hS (fun _ _ => by kernel_rfl) ?_
          try simp only [Act.put, List.setIfInBounds_toArray, List.set_cons_zero, List.set_cons_succ]
          refine tkR 4 28 rfl hS (fun w' hSw => by have c0_0 := (hSw).get 0 (.int .i64 x.k) rfl; have c0_1 := (hSw).get 1 (.int .i64 x.vm) rfl; have c0_2 := (hSw).get 2 (.int .i64 x.sp) rfl; have c0_3 := (hSw).get 3 (.bool x.al) rfl; have c0_4 := (hSw).get 4 (.int .i64 x.pg) rfl; have c0_5 := (hSw).get 5 (.int .i64 x.lv) rfl; have c0_6 := (hSw).get 6 (.int .i64 x.fr) rfl; have c0_7 := (hSw).get 7 (.int .i64 x.mi) rfl; have c0_8 := (hSw).get 8 (.bool x.t.r) rfl; have c0_9 := (hSw).get 9 (.bool x.t.w) rfl; have c0_10 := (hSw).get 10 (.bool x.t.x) rfl; have c0_11 := (hSw).get 11 (.bool x.t.a) rfl; have c0_12 := (hSw).get 12 (.bool x.t.n) rfl; have c0_13 := (hSw).get 13 (.int .i64 x.t.s) rfl; clear hSw; go_simp; try with_reducible rfl) ?_
          simp only [pA, pB, pC]
          try simp only [Act.put, List.setIfInBounds_toArray, List.set_cons_zero, List.set_cons_succ]
          refine tkR 5 29 rfl hS (fun w' _ => by go_simp; try with_reducible rfl) ?_
          simp only [pA, pB, pC]
          try simp only [Act.put, List.setIfInBounds_toArray, List.set_cons_zero, List.set_cons_succ]
          refine tkR 6 30 rfl hS (fun w' _ => by go_simp; try with_reducible rfl) ?_
          simp only [pA, pB, pC]
          try simp only [Act.put, List.setIfInBounds_toArray, List.set_cons_zero, List.set_cons_succ]
          refine wpAnyH_ready (rs := [7]) (by kernel_rfl) (by simp) ?_
          refine AllReadyH.cons (o := ⟨some 31, _, _, _, _, _⟩) rfl (fun K hK => ?_) AllReadyH.nil
          go_simp
          refine (HOF.out _).mono ?_
          rintro e w3 ⟨rfl, hb3⟩
          have hz3 := hb3.size
          try simp at hz3
          refine hK.out _ _ ?_ (fun hS' => ?_)
          · exact (hS.below hb3)
          clear hK K hS
          have hS := hS'
          clear hS'
          try simp only [Act.put, List.setIfInBounds_toArray, List.set_cons_zero, List.set_cons_succ]
          try simp only [Act.put, List.setIfInBounds_toArray, List.set_cons_zero, List.set_cons_succ]
          refine tkR 8 32 rfl hS (fun w' _ => by go_simp; try with_reducible rfl) ?_
          simp only [pA, pB, pC]
          refine tkR 9 33 (v := .bool false) rfl hS (fun _ _ => by kernel_rfl) ?_
          refine tkU 10 34 rfl hS ?_
          simp only [pA, pB, pC]
          refine tkU 11 35 rfl hS ?_
          simp only [pA, pB, pC]
          refine tkU 12 36 rfl hS ?_
          simp only [pA, pB, pC]
          refine tkU 13 37 rfl hS ?_
          simp only [pA, pB, pC]
          refine tkU 14 38 rfl hS ?_
          simp only [pA, pB, pC]
          refine tkU 15 39 rfl hS ?_
          simp only [pA, pB, pC]
          refine tkU 16 40 rfl hS ?_
          simp only [pA, pB, pC]
          try simp only [Act.put, List.setIfInBounds_toArray, List.set_cons_zero, List.set_cons_succ]
          refine tkR 17 41 rfl hS (fun w' _ => by go_simp; try with_reducible rfl) ?_
          simp only [pA, pB, pC]
          refine tkR 18 42 (v := .bool false) rfl hS (fun _ _ => by kernel_rfl) ?_
          refine tkU 19 43 rfl hS ?_
          simp only [pA, pB, pC]
          refine tkU 20 44 rfl hS ?_
          simp only [pA, pB, pC]
          refine tkU 21 45 rfl hS ?_
          simp only [pA, pB, pC]
          refine tkU 22 46 rfl hS ?_
          simp only [pA, pB, pC]
          refine tkU 23 47 rfl hS ?_
          simp only [pA, pB, pC]
          refine tkU 24 48 rfl hS ?_
          simp only [pA, pB, pC]
          refine tkU 25 49 rfl hS ?_
          simp only [pA, pB, pC]
          refine tkU 26 50 rfl hS ?_
          simp only [pA, pB, pC]
          refine tkU 27 51 rfl hS ?_
          simp only [pA, pB, pC]
          refine tkU 28 52 rfl hS ?_
          simp only [pA, pB, pC]
          refine tkU 29 53 rfl hS ?_
          simp only [pA, pB, pC]
          refine tkU 30 54 rfl hS ?_
          simp only [pA, pB, pC]
          refine tkU 31 55 rfl hS ?_
          simp only [pA, pB, pC]
          try simp only [Act.put, List.setIfInBounds_toArray, List.set_cons_zero, List.set_cons_succ]
          refine tkR 32 56 rfl hS (fun w' _ => by go_simp; try with_reducible rfl) ?_
          simp only [pA, pB, pC]
          refine wpAnyH_done (by kernel_rfl) ?_ _
          try simp only [Act.put, List.setIfInBounds_toArray, List.set_cons_zero, List.set_cons_succ]
          have T4 := Lib.hid (((T2.out.drew).below hb3))
          have X4 := Lib.hid (((X2.out.drew).below hb3))
          have B4 := Lib.hid ((bel_trans (Below.drew B2.out) hb3))
          obtain ⟨W4, hW4⟩ : ∃ W4, W4 = w3 := ⟨_, rfl⟩
          have hs4 : g2 + 1 ≤ W4.heap.size := by rw [hW4]; first | exact hs2 | omega | (simp; omega)
          rw [← hW4] at T4 X4 B4 ⊢
          clear hW4 T2 X2 B2 hs2
          have hp9 : (isWk vm sp pg) x = false := by simp [isWk, hkh.out, ho1h.out.symm]
          have hq9 := HQ.out
          rw [HX.out, walkF_no (Or.inl hp9)] at hq9
          clear hp9
          have HQ := Lib.hid (show walkF (isWk vm sp pg) (E.drop (k + 1)) ((k + 1 : Nat) : Int) (j : Int) y.lv = q from hq9)
          clear hq9
          go_wp2
          go_roundw
          case rel => exact ⟨k + 1, (j : Int), y.lv, by omega, rfl, by go_num, T4.out, B4.out, HQ, Lib.hid (Or.inr ⟨j, y, rfl, HYE.out, rfl⟩)⟩
          case measure => simp [intOf]; omega
        cases hp : decide (x.pg = ab)
        · have ehp : (x.pg == ab) = false := (beq_int _ _).trans hp
          have hph := Lib.hid (show decide (x.pg = abvP x.lv pg) = false from by rw [← habh.out]; exact hp)
          clear hp
          go_upto_region 6 with fail
          clear Tc0 yX0 yX1 yX2 yX3 yX4 yX5 yX6 yX7 yX8 yX9 yX10 yX11 yX12 yX13
          have T2 := Lib.hid ((Tr.out.alloc (.cells #[.int .i64 x.k, .int .i64 x.vm, .int .i64 x.sp, .bool x.al, .int .i64 x.pg, .int .i64 x.lv, .int .i64 x.fr, .int .i64 x.mi, .bool x.t.r, .bool x.t.w, .bool x.t.x, .bool x.t.a, .bool x.t.n, .int .i64 x.t.s] 34)))
          have X2 := Lib.hid ((BoxAt.newAt (wr) #[.int .i64 x.k, .int .i64 x.vm, .int .i64 x.sp, .bool x.al, .int .i64 x.pg, .int .i64 x.lv, .int .i64 x.fr, .int .i64 x.mi, .bool x.t.r, .bool x.t.w, .bool x.t.x, .bool x.t.a, .bool x.t.n, .int .i64 x.t.s] 34 (wr.heap.size) (by first | omega | (simp; done) | (simp; omega))))
          have B2 := Lib.hid ((bel_alloc Br.out (.cells #[.int .i64 x.k, .int .i64 x.vm, .int .i64 x.sp, .bool x.al, .int .i64 x.pg, .int .i64 x.lv, .int .i64 x.fr, .int .i64 x.mi, .bool x.t.r, .bool x.t.w, .bool x.t.x, .bool x.t.a, .bool x.t.n, .int .i64 x.t.s] 34)))
          obtain ⟨g2, hg2⟩ : ∃ g2, g2 = wr.heap.size := ⟨_, rfl⟩
          obtain ⟨W2, hW2⟩ : ∃ W2, W2 = (wr).alloc (.cells #[.int .i64 x.k, .int .i64 x.vm, .int .i64 x.sp, .bool x.al, .int .i64 x.pg, .int .i64 x.lv, .int .i64 x.fr, .int .i64 x.mi, .bool x.t.r, .bool x.t.w, .bool x.t.x, .bool x.t.a, .bool x.t.n, .int .i64 x.t.s] 34) := ⟨_, rfl⟩
          have hs2 : g2 + 1 ≤ W2.heap.size := by rw [hW2, hg2]; simp
          rw [← hW2] at T2 X2 B2 ⊢
          have hb2 : g1 + 1 ≤ g2 := by omega
          rw [← hg2] at X2 ⊢
          clear hg2
          clear hW2 Tr Br hsr
          refine wp_region_held_drew (S := (fun w' => BoxAt w' (g2) #[.int .i64 x.k, .int .i64 x.vm, .int .i64 x.sp, .bool x.al, .int .i64 x.pg, .int .i64 x.lv, .int .i64 x.fr, .int .i64 x.mi, .bool x.t.r, .bool x.t.w, .bool x.t.x, .bool x.t.a, .bool x.t.n, .int .i64 x.t.s] 34)) (by kernel_rfl) (X2.out.drew) (fun hS => ?_)
          refine tkR 0 24 (v := .pointer (some ⟨g2, 0, none⟩)) rfl hS (fun _ _ => by kernel_rfl) ?_
          refine tkR 1 25 (v := .int .i64 x.k) rfl hS (fun _ h => run_ld1 3 (.tmp 24) g2 0 (by kernel_rfl) (by kernel_rfl) Try.underlying3 rfl ((h).get 0 (.int .i64 x.k) rfl)) ?_
          try simp only [Act.put, List.setIfInBounds_toArray, List.set_cons_zero, List.set_cons_succ]
          refine tkR 2 26 rfl hS (fun w' _ => by go_simp; try with_reducible rfl) ?_
          simp only [pA, pB, pC]
          refine tkR 3 27 (v := .bool true) rfl hS (fun _ _ => by kernel_rfl) ?_
          try simp only [Act.put, List.setIfInBounds_toArray, List.set_cons_zero, List.set_cons_succ]
          refine tkR 4 28 rfl hS (fun w' hSw => by have c0_0 := (hSw).get 0 (.int .i64 x.k) rfl; have c0_1 := (hSw).get 1 (.int .i64 x.vm) rfl; have c0_2 := (hSw).get 2 (.int .i64 x.sp) rfl; have c0_3 := (hSw).get 3 (.bool x.al) rfl; have c0_4 := (hSw).get 4 (.int .i64 x.pg) rfl; have c0_5 := (hSw).get 5 (.int .i64 x.lv) rfl; have c0_6 := (hSw).get 6 (.int .i64 x.fr) rfl; have c0_7 := (hSw).get 7 (.int .i64 x.mi) rfl; have c0_8 := (hSw).get 8 (.bool x.t.r) rfl; have c0_9 := (hSw).get 9 (.bool x.t.w) rfl; have c0_10 := (hSw).get 10 (.bool x.t.x) rfl; have c0_11 := (hSw).get 11 (.bool x.t.a) rfl; have c0_12 := (hSw).get 12 (.bool x.t.n) rfl; have c0_13 := (hSw).get 13 (.int .i64 x.t.s) rfl; clear hSw; go_simp; try with_reducible rfl) ?_
          simp only [pA, pB, pC]
          try simp only [Act.put, List.setIfInBounds_toArray, List.set_cons_zero, List.set_cons_succ]
          refine tkR 5 29 rfl hS (fun w' _ => by go_simp; try with_reducible rfl) ?_
          simp only [pA, pB, pC]
          try simp only [Act.put, List.setIfInBounds_toArray, List.set_cons_zero, List.set_cons_succ]
          refine tkR 6 30 rfl hS (fun w' _ => by go_simp; try with_reducible rfl) ?_
          simp only [pA, pB, pC]
          try simp only [Act.put, List.setIfInBounds_toArray, List.set_cons_zero, List.set_cons_succ]
          refine wpAnyH_ready (rs := [7]) (by kernel_rfl) (by simp) ?_
          refine AllReadyH.cons (o := ⟨some 31, _, _, _, _, _⟩) rfl (fun K hK => ?_) AllReadyH.nil
          go_simp
          refine (HOF.out _).mono ?_
          rintro e w3 ⟨rfl, hb3⟩
          have hz3 := hb3.size
          try simp at hz3
          refine hK.out _ _ ?_ (fun hS' => ?_)
          · exact (hS.below hb3)
          clear hK K hS
          have hS := hS'
          clear hS'
          try simp only [Act.put, List.setIfInBounds_toArray, List.set_cons_zero, List.set_cons_succ]
          try simp only [Act.put, List.setIfInBounds_toArray, List.set_cons_zero, List.set_cons_succ]
          refine tkR 8 32 rfl hS (fun w' _ => by go_simp; try with_reducible rfl) ?_
          simp only [pA, pB, pC]
          refine tkR 9 33 (v := .bool true) rfl hS (fun _ _ => by kernel_rfl) ?_
          try simp only [Act.put, List.setIfInBounds_toArray, List.set_cons_zero, List.set_cons_succ]
          refine tkR 10 34 rfl hS (fun w' _ => by go_simp; try with_reducible rfl) ?_
          simp only [pA, pB, pC]
          try simp only [Act.put, List.setIfInBounds_toArray, List.set_cons_zero, List.set_cons_succ]
          refine tkR 11 35 rfl hS (fun w' hSw => by have c0_4 := (hSw).get 4 (.int .i64 x.pg) rfl; clear hSw; go_simp; try with_reducible rfl) ?_
          simp only [pA, pB, pC]
          try simp only [Act.put, List.setIfInBounds_toArray, List.set_cons_zero, List.set_cons_succ]
          refine tkR 12 36 rfl hS (fun w' _ => by go_simp; try with_reducible rfl) ?_
          simp only [pA, pB, pC]
          try simp only [Act.put, List.setIfInBounds_toArray, List.set_cons_zero, List.set_cons_succ]
          refine tkR 13 37 rfl hS (fun w' hSw => by have c0_5 := (hSw).get 5 (.int .i64 x.lv) rfl; clear hSw; go_simp; try with_reducible rfl) ?_
          simp only [pA, pB, pC]
          try simp only [Act.put, List.setIfInBounds_toArray, List.set_cons_zero, List.set_cons_succ]
          refine tkR 14 38 rfl hS (fun w' _ => by go_simp; try with_reducible rfl) ?_
          simp only [pA, pB, pC]
          try simp only [Act.put, List.setIfInBounds_toArray, List.set_cons_zero, List.set_cons_succ]
          refine wpAnyH_ready (rs := [15]) (by kernel_rfl) (by simp) ?_
          refine AllReadyH.cons (o := ⟨some 39, _, _, _, _, _⟩) rfl (fun K hK => ?_) AllReadyH.nil
          go_simp
          refine (HAB.out _ (of_decide_eq_true hkh.out)).mono ?_
          rintro e w4 ⟨rfl, hb4⟩
          have hz4 := hb4.size
          try simp at hz4
          refine hK.out _ _ ?_ (fun hS' => ?_)
          · exact (hS.below hb4)
          clear hK K hS
          have hS := hS'
          clear hS'
          try simp only [Act.put, List.setIfInBounds_toArray, List.set_cons_zero, List.set_cons_succ]
          try simp only [Act.put, List.setIfInBounds_toArray, List.set_cons_zero, List.set_cons_succ]
          refine tkR 16 40 rfl hS (fun w' _ => by go_simp; try with_reducible rfl) ?_
          simp only [pA, pB, pC]
          try simp only [Act.put, List.setIfInBounds_toArray, List.set_cons_zero, List.set_cons_succ]
          refine tkR 17 41 rfl hS (fun w' _ => by go_simp; try with_reducible rfl) ?_
          simp only [pA, pB, pC]
          refine tkR 18 42 (v := .bool false) rfl hS (fun _ _ => by kernel_rfl) ?_
          refine tkU 19 43 rfl hS ?_
          simp only [pA, pB, pC]
          refine tkU 20 44 rfl hS ?_
          simp only [pA, pB, pC]
          refine tkU 21 45 rfl hS ?_
          simp only [pA, pB, pC]
          refine tkU 22 46 rfl hS ?_
          simp only [pA, pB, pC]
          refine tkU 23 47 rfl hS ?_
          simp only [pA, pB, pC]
          refine tkU 24 48 rfl hS ?_
          simp only [pA, pB, pC]
          refine tkU 25 49 rfl hS ?_
          simp only [pA, pB, pC]
          refine tkU 26 50 rfl hS ?_
          simp only [pA, pB, pC]
          refine tkU 27 51 rfl hS ?_
          simp only [pA, pB, pC]
          refine tkU 28 52 rfl hS ?_
          simp only [pA, pB, pC]
          refine tkU 29 53 rfl hS ?_
          simp only [pA, pB, pC]
          refine tkU 30 54 rfl hS ?_
          simp only [pA, pB, pC]
          refine tkU 31 55 rfl hS ?_
          simp only [pA, pB, pC]
          try simp only [Act.put, List.setIfInBounds_toArray, List.set_cons_zero, List.set_cons_succ]
          refine tkR 32 56 rfl hS (fun w' _ => by go_simp; try with_reducible rfl) ?_
          simp only [pA, pB, pC]
          refine wpAnyH_done (by kernel_rfl) ?_ _
          try simp only [Act.put, List.setIfInBounds_toArray, List.set_cons_zero, List.set_cons_succ]
          have T5 := Lib.hid ((((T2.out.drew).below hb3).below hb4))
          have X5 := Lib.hid ((((X2.out.drew).below hb3).below hb4))
          have B5 := Lib.hid ((bel_trans (bel_trans (Below.drew B2.out) hb3) hb4))
          obtain ⟨W5, hW5⟩ : ∃ W5, W5 = w4 := ⟨_, rfl⟩
          have hs5 : g2 + 1 ≤ W5.heap.size := by rw [hW5]; first | exact hs2 | omega | (simp; omega)
          rw [← hW5] at T5 X5 B5 ⊢
          clear hW5 T2 X2 B2 hs2
          have hp9 : (isWk vm sp pg) x = false := by simp [isWk, hkh.out, ho1h.out.symm, hph.out]
          have hq9 := HQ.out
          rw [HX.out, walkF_no (Or.inl hp9)] at hq9
          clear hp9
          have HQ := Lib.hid (show walkF (isWk vm sp pg) (E.drop (k + 1)) ((k + 1 : Nat) : Int) (j : Int) y.lv = q from hq9)
          clear hq9
          go_wp2
          go_roundw
          case rel => exact ⟨k + 1, (j : Int), y.lv, by omega, rfl, by go_num, T5.out, B5.out, HQ, Lib.hid (Or.inr ⟨j, y, rfl, HYE.out, rfl⟩)⟩
          case measure => simp [intOf]; omega
        have ehp : (x.pg == ab) = true := (beq_int _ _).trans hp
        have hph := Lib.hid (show decide (x.pg = abvP x.lv pg) = true from by rw [← habh.out]; exact hp)
        clear hp
        by_cases hlv : y.lv < x.lv
        rotate_left
        · have dlv : decide (y.lv < x.lv) = false := decide_eq_false hlv
          go_upto_region 6 with fail
          clear Tc0 yX0 yX1 yX2 yX3 yX4 yX5 yX6 yX7 yX8 yX9 yX10 yX11 yX12 yX13
          have T2 := Lib.hid ((Tr.out.alloc (.cells #[.int .i64 x.k, .int .i64 x.vm, .int .i64 x.sp, .bool x.al, .int .i64 x.pg, .int .i64 x.lv, .int .i64 x.fr, .int .i64 x.mi, .bool x.t.r, .bool x.t.w, .bool x.t.x, .bool x.t.a, .bool x.t.n, .int .i64 x.t.s] 34)))
          have X2 := Lib.hid ((BoxAt.newAt (wr) #[.int .i64 x.k, .int .i64 x.vm, .int .i64 x.sp, .bool x.al, .int .i64 x.pg, .int .i64 x.lv, .int .i64 x.fr, .int .i64 x.mi, .bool x.t.r, .bool x.t.w, .bool x.t.x, .bool x.t.a, .bool x.t.n, .int .i64 x.t.s] 34 (wr.heap.size) (by first | omega | (simp; done) | (simp; omega))))
          have B2 := Lib.hid ((bel_alloc Br.out (.cells #[.int .i64 x.k, .int .i64 x.vm, .int .i64 x.sp, .bool x.al, .int .i64 x.pg, .int .i64 x.lv, .int .i64 x.fr, .int .i64 x.mi, .bool x.t.r, .bool x.t.w, .bool x.t.x, .bool x.t.a, .bool x.t.n, .int .i64 x.t.s] 34)))
          obtain ⟨g2, hg2⟩ : ∃ g2, g2 = wr.heap.size := ⟨_, rfl⟩
          obtain ⟨W2, hW2⟩ : ∃ W2, W2 = (wr).alloc (.cells #[.int .i64 x.k, .int .i64 x.vm, .int .i64 x.sp, .bool x.al, .int .i64 x.pg, .int .i64 x.lv, .int .i64 x.fr, .int .i64 x.mi, .bool x.t.r, .bool x.t.w, .bool x.t.x, .bool x.t.a, .bool x.t.n, .int .i64 x.t.s] 34) := ⟨_, rfl⟩
          have hs2 : g2 + 1 ≤ W2.heap.size := by rw [hW2, hg2]; simp
          rw [← hW2] at T2 X2 B2 ⊢
          have hb2 : g1 + 1 ≤ g2 := by omega
          rw [← hg2] at X2 ⊢
          clear hg2
          clear hW2 Tr Br hsr
          refine wp_region_held_drew (S := (fun w' => BoxAt w' (g2) #[.int .i64 x.k, .int .i64 x.vm, .int .i64 x.sp, .bool x.al, .int .i64 x.pg, .int .i64 x.lv, .int .i64 x.fr, .int .i64 x.mi, .bool x.t.r, .bool x.t.w, .bool x.t.x, .bool x.t.a, .bool x.t.n, .int .i64 x.t.s] 34 ∧ BoxAt w' (g1) #[.slice (some ⟨b, o, none⟩) l c, .slice g m d] 25 ∧ RowAt w' (b) (o + j * 14) 14 #[.int .i64 y.k, .int .i64 y.vm, .int .i64 y.sp, .bool y.al, .int .i64 y.pg, .int .i64 y.lv, .int .i64 y.fr, .int .i64 y.mi, .bool y.t.r, .bool y.t.w, .bool y.t.x, .bool y.t.a, .bool y.t.n, .int .i64 y.t.s])) (by kernel_rfl) ⟨X2.out.drew, T2.out.drew, (HRY.out.below B2.out).drew⟩ (fun hS => ?_)
          refine tkR 0 24 (v := .pointer (some ⟨g2, 0, none⟩)) rfl hS (fun _ _ => by kernel_rfl) ?_
          refine tkR 1 25 (v := .int .i64 x.k) rfl hS (fun _ h => run_ld1 3 (.tmp 24) g2 0 (by kernel_rfl) (by kernel_rfl) Try.underlying3 rfl ((h.1).get 0 (.int .i64 x.k) rfl)) ?_
          try simp only [Act.put, List.setIfInBounds_toArray, List.set_cons_zero, List.set_cons_succ]
          refine tkR 2 26 rfl hS (fun w' _ => by go_simp; try with_reducible rfl) ?_
          simp only [pA, pB, pC]
          refine tkR 3 27 (v := .bool true) rfl hS (fun _ _ => by kernel_rfl) ?_
          try simp only [Act.put, List.setIfInBounds_toArray, List.set_cons_zero, List.set_cons_succ]
          refine tkR 4 28 rfl hS (fun w' hSw => by have c0_0 := (hSw.1).get 0 (.int .i64 x.k) rfl; have c0_1 := (hSw.1).get 1 (.int .i64 x.vm) rfl; have c0_2 := (hSw.1).get 2 (.int .i64 x.sp) rfl; have c0_3 := (hSw.1).get 3 (.bool x.al) rfl; have c0_4 := (hSw.1).get 4 (.int .i64 x.pg) rfl; have c0_5 := (hSw.1).get 5 (.int .i64 x.lv) rfl; have c0_6 := (hSw.1).get 6 (.int .i64 x.fr) rfl; have c0_7 := (hSw.1).get 7 (.int .i64 x.mi) rfl; have c0_8 := (hSw.1).get 8 (.bool x.t.r) rfl; have c0_9 := (hSw.1).get 9 (.bool x.t.w) rfl; have c0_10 := (hSw.1).get 10 (.bool x.t.x) rfl; have c0_11 := (hSw.1).get 11 (.bool x.t.a) rfl; have c0_12 := (hSw.1).get 12 (.bool x.t.n) rfl; have c0_13 := (hSw.1).get 13 (.int .i64 x.t.s) rfl; clear hSw; go_simp; try with_reducible rfl) ?_
          simp only [pA, pB, pC]
          try simp only [Act.put, List.setIfInBounds_toArray, List.set_cons_zero, List.set_cons_succ]
          refine tkR 5 29 rfl hS (fun w' _ => by go_simp; try with_reducible rfl) ?_
          simp only [pA, pB, pC]
          try simp only [Act.put, List.setIfInBounds_toArray, List.set_cons_zero, List.set_cons_succ]
          refine tkR 6 30 rfl hS (fun w' _ => by go_simp; try with_reducible rfl) ?_
          simp only [pA, pB, pC]
          try simp only [Act.put, List.setIfInBounds_toArray, List.set_cons_zero, List.set_cons_succ]
          refine wpAnyH_ready (rs := [7]) (by kernel_rfl) (by simp) ?_
          refine AllReadyH.cons (o := ⟨some 31, _, _, _, _, _⟩) rfl (fun K hK => ?_) AllReadyH.nil
          go_simp
          refine (HOF.out _).mono ?_
          rintro e w3 ⟨rfl, hb3⟩
          have hz3 := hb3.size
          try simp at hz3
          refine hK.out _ _ ?_ (fun hS' => ?_)
          · exact ⟨hS.1.below hb3, hS.2.1.below hb3, hS.2.2.below hb3⟩
          clear hK K hS
          have hS := hS'
          clear hS'
          try simp only [Act.put, List.setIfInBounds_toArray, List.set_cons_zero, List.set_cons_succ]
          try simp only [Act.put, List.setIfInBounds_toArray, List.set_cons_zero, List.set_cons_succ]
          refine tkR 8 32 rfl hS (fun w' _ => by go_simp; try with_reducible rfl) ?_
          simp only [pA, pB, pC]
          refine tkR 9 33 (v := .bool true) rfl hS (fun _ _ => by kernel_rfl) ?_
          try simp only [Act.put, List.setIfInBounds_toArray, List.set_cons_zero, List.set_cons_succ]
          refine tkR 10 34 rfl hS (fun w' _ => by go_simp; try with_reducible rfl) ?_
          simp only [pA, pB, pC]
          try simp only [Act.put, List.setIfInBounds_toArray, List.set_cons_zero, List.set_cons_succ]
          refine tkR 11 35 rfl hS (fun w' hSw => by have c0_4 := (hSw.1).get 4 (.int .i64 x.pg) rfl; clear hSw; go_simp; try with_reducible rfl) ?_
          simp only [pA, pB, pC]
          try simp only [Act.put, List.setIfInBounds_toArray, List.set_cons_zero, List.set_cons_succ]
          refine tkR 12 36 rfl hS (fun w' _ => by go_simp; try with_reducible rfl) ?_
          simp only [pA, pB, pC]
          try simp only [Act.put, List.setIfInBounds_toArray, List.set_cons_zero, List.set_cons_succ]
          refine tkR 13 37 rfl hS (fun w' hSw => by have c0_5 := (hSw.1).get 5 (.int .i64 x.lv) rfl; clear hSw; go_simp; try with_reducible rfl) ?_
          simp only [pA, pB, pC]
          try simp only [Act.put, List.setIfInBounds_toArray, List.set_cons_zero, List.set_cons_succ]
          refine tkR 14 38 rfl hS (fun w' _ => by go_simp; try with_reducible rfl) ?_
          simp only [pA, pB, pC]
          try simp only [Act.put, List.setIfInBounds_toArray, List.set_cons_zero, List.set_cons_succ]
          refine wpAnyH_ready (rs := [15]) (by kernel_rfl) (by simp) ?_
          refine AllReadyH.cons (o := ⟨some 39, _, _, _, _, _⟩) rfl (fun K hK => ?_) AllReadyH.nil
          go_simp
          refine (HAB.out _ (of_decide_eq_true hkh.out)).mono ?_
          rintro e w4 ⟨rfl, hb4⟩
          have hz4 := hb4.size
          try simp at hz4
          refine hK.out _ _ ?_ (fun hS' => ?_)
          · exact ⟨hS.1.below hb4, hS.2.1.below hb4, hS.2.2.below hb4⟩
          clear hK K hS
          have hS := hS'
          clear hS'
          try simp only [Act.put, List.setIfInBounds_toArray, List.set_cons_zero, List.set_cons_succ]
          try simp only [Act.put, List.setIfInBounds_toArray, List.set_cons_zero, List.set_cons_succ]
          refine tkR 16 40 rfl hS (fun w' _ => by go_simp; try with_reducible rfl) ?_
          simp only [pA, pB, pC]
          try simp only [Act.put, List.setIfInBounds_toArray, List.set_cons_zero, List.set_cons_succ]
          refine tkR 17 41 rfl hS (fun w' _ => by go_simp; try with_reducible rfl) ?_
          simp only [pA, pB, pC]
          refine tkR 18 42 (v := .bool true) rfl hS (fun _ _ => by kernel_rfl) ?_
          try simp only [Act.put, List.setIfInBounds_toArray, List.set_cons_zero, List.set_cons_succ]
          refine tkR 19 43 rfl hS (fun w' _ => by go_simp; try with_reducible rfl) ?_
          simp only [pA, pB, pC]
          try simp only [Act.put, List.setIfInBounds_toArray, List.set_cons_zero, List.set_cons_succ]
          refine tkR 20 44 rfl hS (fun w' _ => by go_simp; try with_reducible rfl) ?_
          simp only [pA, pB, pC]
          try simp only [Act.put, List.setIfInBounds_toArray, List.set_cons_zero, List.set_cons_succ]
          refine tkR 21 45 rfl hS (fun w' _ => by go_simp; try with_reducible rfl) ?_
          simp only [pA, pB, pC]
          try simp only [Act.put, List.setIfInBounds_toArray, List.set_cons_zero, List.set_cons_succ]
          refine tkR 22 46 rfl hS (fun w' _ => by go_simp; try with_reducible rfl) ?_
          simp only [pA, pB, pC]
          try simp only [Act.put, List.setIfInBounds_toArray, List.set_cons_zero, List.set_cons_succ]
          refine tkR 23 47 rfl hS (fun w' hSw => by have c1_0 := (hSw.2.1).get 0 (.slice (some ⟨b, o, none⟩) l c) rfl; clear hSw; go_simp; try with_reducible rfl) ?_
          simp only [pA, pB, pC]
          try simp only [Act.put, List.setIfInBounds_toArray, List.set_cons_zero, List.set_cons_succ]
          refine tkR 24 48 rfl hS (fun w' _ => by go_simp; try with_reducible rfl) ?_
          simp only [pA, pB, pC]
          try simp only [Act.put, List.setIfInBounds_toArray, List.set_cons_zero, List.set_cons_succ]
          refine tkR 25 49 rfl hS (fun w' _ => by go_simp; try with_reducible rfl) ?_
          simp only [pA, pB, pC]
          try simp only [Act.put, List.setIfInBounds_toArray, List.set_cons_zero, List.set_cons_succ]
          refine tkR 26 50 rfl hS (fun w' _ => by go_simp; try with_reducible rfl) ?_
          simp only [pA, pB, pC]
          try simp only [Act.put, List.setIfInBounds_toArray, List.set_cons_zero, List.set_cons_succ]
          refine tkR 27 51 rfl hS (fun w' hSw => by have c2_5 := (hSw.2.2).get 5 (.int .i64 y.lv) (by decide) rfl; clear hSw; go_simp; try with_reducible rfl) ?_
          simp only [pA, pB, pC]
          try simp only [Act.put, List.setIfInBounds_toArray, List.set_cons_zero, List.set_cons_succ]
          refine tkR 28 52 rfl hS (fun w' _ => by go_simp; try with_reducible rfl) ?_
          simp only [pA, pB, pC]
          try simp only [Act.put, List.setIfInBounds_toArray, List.set_cons_zero, List.set_cons_succ]
          refine tkR 29 53 rfl hS (fun w' hSw => by have c0_5 := (hSw.1).get 5 (.int .i64 x.lv) rfl; clear hSw; go_simp; try with_reducible rfl) ?_
          simp only [pA, pB, pC]
          try simp only [Act.put, List.setIfInBounds_toArray, List.set_cons_zero, List.set_cons_succ]
          refine tkR 30 54 rfl hS (fun w' _ => by go_simp; try with_reducible rfl) ?_
          simp only [pA, pB, pC]
          try simp only [Act.put, List.setIfInBounds_toArray, List.set_cons_zero, List.set_cons_succ]
          refine tkR 31 55 rfl hS (fun w' _ => by go_simp; try with_reducible rfl) ?_
          simp only [pA, pB, pC]
          try simp only [Act.put, List.setIfInBounds_toArray, List.set_cons_zero, List.set_cons_succ]
          refine tkR 32 56 rfl hS (fun w' _ => by go_simp; try with_reducible rfl) ?_
          simp only [pA, pB, pC]
          refine wpAnyH_done (by kernel_rfl) ?_ _
          try simp only [Act.put, List.setIfInBounds_toArray, List.set_cons_zero, List.set_cons_succ]
          have T5 := Lib.hid ((((T2.out.drew).below hb3).below hb4))
          have X5 := Lib.hid ((((X2.out.drew).below hb3).below hb4))
          have B5 := Lib.hid ((bel_trans (bel_trans (Below.drew B2.out) hb3) hb4))
          obtain ⟨W5, hW5⟩ : ∃ W5, W5 = w4 := ⟨_, rfl⟩
          have hs5 : g2 + 1 ≤ W5.heap.size := by rw [hW5]; first | exact hs2 | omega | (simp; omega)
          rw [← hW5] at T5 X5 B5 ⊢
          clear hW5 T2 X2 B2 hs2
          have hq9 := HQ.out
          rw [HX.out, walkF_no (Or.inr ⟨by omega, hlv⟩)] at hq9
          have HQ := Lib.hid (show walkF (isWk vm sp pg) (E.drop (k + 1)) ((k + 1 : Nat) : Int) (j : Int) y.lv = q from hq9)
          clear hq9
          go_wp2
          go_roundw
          case rel => exact ⟨k + 1, (j : Int), y.lv, by omega, rfl, by go_num, T5.out, B5.out, HQ, Lib.hid (Or.inr ⟨j, y, rfl, HYE.out, rfl⟩)⟩
          case measure => simp [intOf]; omega
        have dlv : decide (y.lv < x.lv) = true := decide_eq_true hlv
        go_upto_region 6 with fail
        clear Tc0 yX0 yX1 yX2 yX3 yX4 yX5 yX6 yX7 yX8 yX9 yX10 yX11 yX12 yX13
        have T2 := Lib.hid ((Tr.out.alloc (.cells #[.int .i64 x.k, .int .i64 x.vm, .int .i64 x.sp, .bool x.al, .int .i64 x.pg, .int .i64 x.lv, .int .i64 x.fr, .int .i64 x.mi, .bool x.t.r, .bool x.t.w, .bool x.t.x, .bool x.t.a, .bool x.t.n, .int .i64 x.t.s] 34)))
        have X2 := Lib.hid ((BoxAt.newAt (wr) #[.int .i64 x.k, .int .i64 x.vm, .int .i64 x.sp, .bool x.al, .int .i64 x.pg, .int .i64 x.lv, .int .i64 x.fr, .int .i64 x.mi, .bool x.t.r, .bool x.t.w, .bool x.t.x, .bool x.t.a, .bool x.t.n, .int .i64 x.t.s] 34 (wr.heap.size) (by first | omega | (simp; done) | (simp; omega))))
        have B2 := Lib.hid ((bel_alloc Br.out (.cells #[.int .i64 x.k, .int .i64 x.vm, .int .i64 x.sp, .bool x.al, .int .i64 x.pg, .int .i64 x.lv, .int .i64 x.fr, .int .i64 x.mi, .bool x.t.r, .bool x.t.w, .bool x.t.x, .bool x.t.a, .bool x.t.n, .int .i64 x.t.s] 34)))
        obtain ⟨g2, hg2⟩ : ∃ g2, g2 = wr.heap.size := ⟨_, rfl⟩
        obtain ⟨W2, hW2⟩ : ∃ W2, W2 = (wr).alloc (.cells #[.int .i64 x.k, .int .i64 x.vm, .int .i64 x.sp, .bool x.al, .int .i64 x.pg, .int .i64 x.lv, .int .i64 x.fr, .int .i64 x.mi, .bool x.t.r, .bool x.t.w, .bool x.t.x, .bool x.t.a, .bool x.t.n, .int .i64 x.t.s] 34) := ⟨_, rfl⟩
        have hs2 : g2 + 1 ≤ W2.heap.size := by rw [hW2, hg2]; simp
        rw [← hW2] at T2 X2 B2 ⊢
        have hb2 : g1 + 1 ≤ g2 := by omega
        rw [← hg2] at X2 ⊢
        clear hg2
        clear hW2 Tr Br hsr
        refine wp_region_held_drew (S := (fun w' => BoxAt w' (g2) #[.int .i64 x.k, .int .i64 x.vm, .int .i64 x.sp, .bool x.al, .int .i64 x.pg, .int .i64 x.lv, .int .i64 x.fr, .int .i64 x.mi, .bool x.t.r, .bool x.t.w, .bool x.t.x, .bool x.t.a, .bool x.t.n, .int .i64 x.t.s] 34 ∧ BoxAt w' (g1) #[.slice (some ⟨b, o, none⟩) l c, .slice g m d] 25 ∧ RowAt w' (b) (o + j * 14) 14 #[.int .i64 y.k, .int .i64 y.vm, .int .i64 y.sp, .bool y.al, .int .i64 y.pg, .int .i64 y.lv, .int .i64 y.fr, .int .i64 y.mi, .bool y.t.r, .bool y.t.w, .bool y.t.x, .bool y.t.a, .bool y.t.n, .int .i64 y.t.s])) (by kernel_rfl) ⟨X2.out.drew, T2.out.drew, (HRY.out.below B2.out).drew⟩ (fun hS => ?_)
        refine tkR 0 24 (v := .pointer (some ⟨g2, 0, none⟩)) rfl hS (fun _ _ => by kernel_rfl) ?_
        refine tkR 1 25 (v := .int .i64 x.k) rfl hS (fun _ h => run_ld1 3 (.tmp 24) g2 0 (by kernel_rfl) (by kernel_rfl) Try.underlying3 rfl ((h.1).get 0 (.int .i64 x.k) rfl)) ?_
        try simp only [Act.put, List.setIfInBounds_toArray, List.set_cons_zero, List.set_cons_succ]
        refine tkR 2 26 rfl hS (fun w' _ => by go_simp; try with_reducible rfl) ?_
        simp only [pA, pB, pC]
        refine tkR 3 27 (v := .bool true) rfl hS (fun _ _ => by kernel_rfl) ?_
        try simp only [Act.put, List.setIfInBounds_toArray, List.set_cons_zero, List.set_cons_succ]
        refine tkR 4 28 rfl hS (fun w' hSw => by have c0_0 := (hSw.1).get 0 (.int .i64 x.k) rfl; have c0_1 := (hSw.1).get 1 (.int .i64 x.vm) rfl; have c0_2 := (hSw.1).get 2 (.int .i64 x.sp) rfl; have c0_3 := (hSw.1).get 3 (.bool x.al) rfl; have c0_4 := (hSw.1).get 4 (.int .i64 x.pg) rfl; have c0_5 := (hSw.1).get 5 (.int .i64 x.lv) rfl; have c0_6 := (hSw.1).get 6 (.int .i64 x.fr) rfl; have c0_7 := (hSw.1).get 7 (.int .i64 x.mi) rfl; have c0_8 := (hSw.1).get 8 (.bool x.t.r) rfl; have c0_9 := (hSw.1).get 9 (.bool x.t.w) rfl; have c0_10 := (hSw.1).get 10 (.bool x.t.x) rfl; have c0_11 := (hSw.1).get 11 (.bool x.t.a) rfl; have c0_12 := (hSw.1).get 12 (.bool x.t.n) rfl; have c0_13 := (hSw.1).get 13 (.int .i64 x.t.s) rfl; clear hSw; go_simp; try with_reducible rfl) ?_
        simp only [pA, pB, pC]
        try simp only [Act.put, List.setIfInBounds_toArray, List.set_cons_zero, List.set_cons_succ]
        refine tkR 5 29 rfl hS (fun w' _ => by go_simp; try with_reducible rfl) ?_
        simp only [pA, pB, pC]
        try simp only [Act.put, List.setIfInBounds_toArray, List.set_cons_zero, List.set_cons_succ]
        refine tkR 6 30 rfl hS (fun w' _ => by go_simp; try with_reducible rfl) ?_
        simp only [pA, pB, pC]
        try simp only [Act.put, List.setIfInBounds_toArray, List.set_cons_zero, List.set_cons_succ]
        refine wpAnyH_ready (rs := [7]) (by kernel_rfl) (by simp) ?_
        refine AllReadyH.cons (o := ⟨some 31, _, _, _, _, _⟩) rfl (fun K hK => ?_) AllReadyH.nil
        go_simp
        refine (HOF.out _).mono ?_
        rintro e w3 ⟨rfl, hb3⟩
        have hz3 := hb3.size
        try simp at hz3
        refine hK.out _ _ ?_ (fun hS' => ?_)
        · exact ⟨hS.1.below hb3, hS.2.1.below hb3, hS.2.2.below hb3⟩
        clear hK K hS
        have hS := hS'
        clear hS'
        try simp only [Act.put, List.setIfInBounds_toArray, List.set_cons_zero, List.set_cons_succ]
        try simp only [Act.put, List.setIfInBounds_toArray, List.set_cons_zero, List.set_cons_succ]
        refine tkR 8 32 rfl hS (fun w' _ => by go_simp; try with_reducible rfl) ?_
        simp only [pA, pB, pC]
        refine tkR 9 33 (v := .bool true) rfl hS (fun _ _ => by kernel_rfl) ?_
        try simp only [Act.put, List.setIfInBounds_toArray, List.set_cons_zero, List.set_cons_succ]
        refine tkR 10 34 rfl hS (fun w' _ => by go_simp; try with_reducible rfl) ?_
        simp only [pA, pB, pC]
        try simp only [Act.put, List.setIfInBounds_toArray, List.set_cons_zero, List.set_cons_succ]
        refine tkR 11 35 rfl hS (fun w' hSw => by have c0_4 := (hSw.1).get 4 (.int .i64 x.pg) rfl; clear hSw; go_simp; try with_reducible rfl) ?_
        simp only [pA, pB, pC]
        try simp only [Act.put, List.setIfInBounds_toArray, List.set_cons_zero, List.set_cons_succ]
        refine tkR 12 36 rfl hS (fun w' _ => by go_simp; try with_reducible rfl) ?_
        simp only [pA, pB, pC]
        try simp only [Act.put, List.setIfInBounds_toArray, List.set_cons_zero, List.set_cons_succ]
        refine tkR 13 37 rfl hS (fun w' hSw => by have c0_5 := (hSw.1).get 5 (.int .i64 x.lv) rfl; clear hSw; go_simp; try with_reducible rfl) ?_
        simp only [pA, pB, pC]
        try simp only [Act.put, List.setIfInBounds_toArray, List.set_cons_zero, List.set_cons_succ]
        refine tkR 14 38 rfl hS (fun w' _ => by go_simp; try with_reducible rfl) ?_
        simp only [pA, pB, pC]
        try simp only [Act.put, List.setIfInBounds_toArray, List.set_cons_zero, List.set_cons_succ]
        refine wpAnyH_ready (rs := [15]) (by kernel_rfl) (by simp) ?_
        refine AllReadyH.cons (o := ⟨some 39, _, _, _, _, _⟩) rfl (fun K hK => ?_) AllReadyH.nil
        go_simp
        refine (HAB.out _ (of_decide_eq_true hkh.out)).mono ?_
        rintro e w4 ⟨rfl, hb4⟩
        have hz4 := hb4.size
        try simp at hz4
        refine hK.out _ _ ?_ (fun hS' => ?_)
        · exact ⟨hS.1.below hb4, hS.2.1.below hb4, hS.2.2.below hb4⟩
        clear hK K hS
        have hS := hS'
        clear hS'
        try simp only [Act.put, List.setIfInBounds_toArray, List.set_cons_zero, List.set_cons_succ]
        try simp only [Act.put, List.setIfInBounds_toArray, List.set_cons_zero, List.set_cons_succ]
        refine tkR 16 40 rfl hS (fun w' _ => by go_simp; try with_reducible rfl) ?_
        simp only [pA, pB, pC]
        try simp only [Act.put, List.setIfInBounds_toArray, List.set_cons_zero, List.set_cons_succ]
        refine tkR 17 41 rfl hS (fun w' _ => by go_simp; try with_reducible rfl) ?_
        simp only [pA, pB, pC]
        refine tkR 18 42 (v := .bool true) rfl hS (fun _ _ => by kernel_rfl) ?_
        try simp only [Act.put, List.setIfInBounds_toArray, List.set_cons_zero, List.set_cons_succ]
        refine tkR 19 43 rfl hS (fun w' _ => by go_simp; try with_reducible rfl) ?_
        simp only [pA, pB, pC]
        try simp only [Act.put, List.setIfInBounds_toArray, List.set_cons_zero, List.set_cons_succ]
        refine tkR 20 44 rfl hS (fun w' _ => by go_simp; try with_reducible rfl) ?_
        simp only [pA, pB, pC]
        try simp only [Act.put, List.setIfInBounds_toArray, List.set_cons_zero, List.set_cons_succ]
        refine tkR 21 45 rfl hS (fun w' _ => by go_simp; try with_reducible rfl) ?_
        simp only [pA, pB, pC]
        try simp only [Act.put, List.setIfInBounds_toArray, List.set_cons_zero, List.set_cons_succ]
        refine tkR 22 46 rfl hS (fun w' _ => by go_simp; try with_reducible rfl) ?_
        simp only [pA, pB, pC]
        try simp only [Act.put, List.setIfInBounds_toArray, List.set_cons_zero, List.set_cons_succ]
        refine tkR 23 47 rfl hS (fun w' hSw => by have c1_0 := (hSw.2.1).get 0 (.slice (some ⟨b, o, none⟩) l c) rfl; clear hSw; go_simp; try with_reducible rfl) ?_
        simp only [pA, pB, pC]
        try simp only [Act.put, List.setIfInBounds_toArray, List.set_cons_zero, List.set_cons_succ]
        refine tkR 24 48 rfl hS (fun w' _ => by go_simp; try with_reducible rfl) ?_
        simp only [pA, pB, pC]
        try simp only [Act.put, List.setIfInBounds_toArray, List.set_cons_zero, List.set_cons_succ]
        refine tkR 25 49 rfl hS (fun w' _ => by go_simp; try with_reducible rfl) ?_
        simp only [pA, pB, pC]
        try simp only [Act.put, List.setIfInBounds_toArray, List.set_cons_zero, List.set_cons_succ]
        refine tkR 26 50 rfl hS (fun w' _ => by go_simp; try with_reducible rfl) ?_
        simp only [pA, pB, pC]
        try simp only [Act.put, List.setIfInBounds_toArray, List.set_cons_zero, List.set_cons_succ]
        refine tkR 27 51 rfl hS (fun w' hSw => by have c2_5 := (hSw.2.2).get 5 (.int .i64 y.lv) (by decide) rfl; clear hSw; go_simp; try with_reducible rfl) ?_
        simp only [pA, pB, pC]
        try simp only [Act.put, List.setIfInBounds_toArray, List.set_cons_zero, List.set_cons_succ]
        refine tkR 28 52 rfl hS (fun w' _ => by go_simp; try with_reducible rfl) ?_
        simp only [pA, pB, pC]
        try simp only [Act.put, List.setIfInBounds_toArray, List.set_cons_zero, List.set_cons_succ]
        refine tkR 29 53 rfl hS (fun w' hSw => by have c0_5 := (hSw.1).get 5 (.int .i64 x.lv) rfl; clear hSw; go_simp; try with_reducible rfl) ?_
        simp only [pA, pB, pC]
        try simp only [Act.put, List.setIfInBounds_toArray, List.set_cons_zero, List.set_cons_succ]
        refine tkR 30 54 rfl hS (fun w' _ => by go_simp; try with_reducible rfl) ?_
        simp only [pA, pB, pC]
        try simp only [Act.put, List.setIfInBounds_toArray, List.set_cons_zero, List.set_cons_succ]
        refine tkR 31 55 rfl hS (fun w' _ => by go_simp; try with_reducible rfl) ?_
        simp only [pA, pB, pC]
        try simp only [Act.put, List.setIfInBounds_toArray, List.set_cons_zero, List.set_cons_succ]
        refine tkR 32 56 rfl hS (fun w' _ => by go_simp; try with_reducible rfl) ?_
        simp only [pA, pB, pC]
        refine wpAnyH_done (by kernel_rfl) ?_ _
        try simp only [Act.put, List.setIfInBounds_toArray, List.set_cons_zero, List.set_cons_succ]
        have T5 := Lib.hid ((((T2.out.drew).below hb3).below hb4))
        have X5 := Lib.hid ((((X2.out.drew).below hb3).below hb4))
        have B5 := Lib.hid ((bel_trans (bel_trans (Below.drew B2.out) hb3) hb4))
        obtain ⟨W5, hW5⟩ : ∃ W5, W5 = w4 := ⟨_, rfl⟩
        have hs5 : g2 + 1 ≤ W5.heap.size := by rw [hW5]; first | exact hs2 | omega | (simp; omega)
        rw [← hW5] at T5 X5 B5 ⊢
        clear hW5 T2 X2 B2 hs2
        have hp9 : (isWk vm sp pg) x = true := by simp [isWk, hkh.out, ho1h.out.symm, hph.out]
        have hq9 := HQ.out
        rw [HX.out, walkF_yes hp9 (Or.inr hlv)] at hq9
        have HQ := Lib.hid (show walkF (isWk vm sp pg) (E.drop (k + 1)) ((k + 1 : Nat) : Int) (k : Int) x.lv = q from hq9)
        clear hq9 hp9
        go_wp2
        go_roundw
        case rel => exact ⟨k + 1, k, x.lv, by omega, rfl, by go_num, T5.out, B5.out, HQ, Lib.hid (Or.inr ⟨k, x, rfl, HXE.out, rfl⟩)⟩
        case measure => simp [intOf]; omega
      · clear HJ
        have Tc0 := Tr.out.get 0 (.slice (some ⟨b, o, none⟩) l c) rfl
        have yX := (HRX.out.below Br.out)
        have yX0 := yX.get0 (.int .i64 x.k) (by decide) rfl
        have yX1 := yX.get 1 (.int .i64 x.vm) (by decide) rfl
        have yX2 := yX.get 2 (.int .i64 x.sp) (by decide) rfl
        have yX3 := yX.get 3 (.bool x.al) (by decide) rfl
        have yX4 := yX.get 4 (.int .i64 x.pg) (by decide) rfl
        have yX5 := yX.get 5 (.int .i64 x.lv) (by decide) rfl
        have yX6 := yX.get 6 (.int .i64 x.fr) (by decide) rfl
        have yX7 := yX.get 7 (.int .i64 x.mi) (by decide) rfl
        have yX8 := yX.get 8 (.bool x.t.r) (by decide) rfl
        have yX9 := yX.get 9 (.bool x.t.w) (by decide) rfl
        have yX10 := yX.get 10 (.bool x.t.x) (by decide) rfl
        have yX11 := yX.get 11 (.bool x.t.a) (by decide) rfl
        have yX12 := yX.get 12 (.bool x.t.n) (by decide) rfl
        have yX13 := yX.get 13 (.int .i64 x.t.s) (by decide) rfl
        clear yX
        cases hk : decide (x.k = 3)
        · have ehk : (x.k == 3) = false := (beq_int _ _).trans hk
          have hkh := Lib.hid hk
          clear hk
          go_upto_region 6 with fail
          clear Tc0 yX0 yX1 yX2 yX3 yX4 yX5 yX6 yX7 yX8 yX9 yX10 yX11 yX12 yX13
          have T2 := Lib.hid ((Tr.out.alloc (.cells #[.int .i64 x.k, .int .i64 x.vm, .int .i64 x.sp, .bool x.al, .int .i64 x.pg, .int .i64 x.lv, .int .i64 x.fr, .int .i64 x.mi, .bool x.t.r, .bool x.t.w, .bool x.t.x, .bool x.t.a, .bool x.t.n, .int .i64 x.t.s] 34)))
          have X2 := Lib.hid ((BoxAt.newAt (wr) #[.int .i64 x.k, .int .i64 x.vm, .int .i64 x.sp, .bool x.al, .int .i64 x.pg, .int .i64 x.lv, .int .i64 x.fr, .int .i64 x.mi, .bool x.t.r, .bool x.t.w, .bool x.t.x, .bool x.t.a, .bool x.t.n, .int .i64 x.t.s] 34 (wr.heap.size) (by first | omega | (simp; done) | (simp; omega))))
          have B2 := Lib.hid ((bel_alloc Br.out (.cells #[.int .i64 x.k, .int .i64 x.vm, .int .i64 x.sp, .bool x.al, .int .i64 x.pg, .int .i64 x.lv, .int .i64 x.fr, .int .i64 x.mi, .bool x.t.r, .bool x.t.w, .bool x.t.x, .bool x.t.a, .bool x.t.n, .int .i64 x.t.s] 34)))
          obtain ⟨g2, hg2⟩ : ∃ g2, g2 = wr.heap.size := ⟨_, rfl⟩
          obtain ⟨W2, hW2⟩ : ∃ W2, W2 = (wr).alloc (.cells #[.int .i64 x.k, .int .i64 x.vm, .int .i64 x.sp, .bool x.al, .int .i64 x.pg, .int .i64 x.lv, .int .i64 x.fr, .int .i64 x.mi, .bool x.t.r, .bool x.t.w, .bool x.t.x, .bool x.t.a, .bool x.t.n, .int .i64 x.t.s] 34) := ⟨_, rfl⟩
          have hs2 : g2 + 1 ≤ W2.heap.size := by rw [hW2, hg2]; simp
          rw [← hW2] at T2 X2 B2 ⊢
          have hb2 : g1 + 1 ≤ g2 := by omega
          rw [← hg2] at X2 ⊢
          clear hg2
          clear hW2 Tr Br hsr
          refine wp_region_held_drew (S := (fun w' => BoxAt w' (g2) #[.int .i64 x.k, .int .i64 x.vm, .int .i64 x.sp, .bool x.al, .int .i64 x.pg, .int .i64 x.lv, .int .i64 x.fr, .int .i64 x.mi, .bool x.t.r, .bool x.t.w, .bool x.t.x, .bool x.t.a, .bool x.t.n, .int .i64 x.t.s] 34)) (by kernel_rfl) (X2.out.drew) (fun hS => ?_)
          refine tkR 0 24 (v := .pointer (some ⟨g2, 0, none⟩)) rfl hS (fun _ _ => by kernel_rfl) ?_
          refine tkR 1 25 (v := .int .i64 x.k) rfl hS (fun _ h => run_ld1 3 (.tmp 24) g2 0 (by kernel_rfl) (by kernel_rfl) Try.underlying3 rfl ((h).get 0 (.int .i64 x.k) rfl)) ?_
          try simp only [Act.put, List.setIfInBounds_toArray, List.set_cons_zero, List.set_cons_succ]
          refine tkR 2 26 rfl hS (fun w' _ => by go_simp; try with_reducible rfl) ?_
          simp only [pA, pB, pC]
          refine tkR 3 27 (v := .bool false) rfl hS (fun _ _ => by kernel_rfl) ?_
          refine tkU 4 28 rfl hS ?_
          simp only [pA, pB, pC]
          refine tkU 5 29 rfl hS ?_
          simp only [pA, pB, pC]
          refine tkU 6 30 rfl hS ?_
          simp only [pA, pB, pC]
          refine tkU 7 31 rfl hS ?_
          simp only [pA, pB, pC]
          try simp only [Act.put, List.setIfInBounds_toArray, List.set_cons_zero, List.set_cons_succ]
          refine tkR 8 32 rfl hS (fun w' _ => by go_simp; try with_reducible rfl) ?_
          simp only [pA, pB, pC]
          refine tkR 9 33 (v := .bool false) rfl hS (fun _ _ => by kernel_rfl) ?_
          refine tkU 10 34 rfl hS ?_
          simp only [pA, pB, pC]
          refine tkU 11 35 rfl hS ?_
          simp only [pA, pB, pC]
          refine tkU 12 36 rfl hS ?_
          simp only [pA, pB, pC]
          refine tkU 13 37 rfl hS ?_
          simp only [pA, pB, pC]
          refine tkU 14 38 rfl hS ?_
          simp only [pA, pB, pC]
          refine tkU 15 39 rfl hS ?_
          simp only [pA, pB, pC]
          refine tkU 16 40 rfl hS ?_
          simp only [pA, pB, pC]
          try simp only [Act.put, List.setIfInBounds_toArray, List.set_cons_zero, List.set_cons_succ]
          refine tkR 17 41 rfl hS (fun w' _ => by go_simp; try with_reducible rfl) ?_
          simp only [pA, pB, pC]
          refine tkR 18 42 (v := .bool false) rfl hS (fun _ _ => by kernel_rfl) ?_
          refine tkU 19 43 rfl hS ?_
          simp only [pA, pB, pC]
          refine tkU 20 44 rfl hS ?_
          simp only [pA, pB, pC]
          refine tkU 21 45 rfl hS ?_
          simp only [pA, pB, pC]
          refine tkU 22 46 rfl hS ?_
          simp only [pA, pB, pC]
          refine tkU 23 47 rfl hS ?_
          simp only [pA, pB, pC]
          refine tkU 24 48 rfl hS ?_
          simp only [pA, pB, pC]
          refine tkU 25 49 rfl hS ?_
          simp only [pA, pB, pC]
          refine tkU 26 50 rfl hS ?_
          simp only [pA, pB, pC]
          refine tkU 27 51 rfl hS ?_
          simp only [pA, pB, pC]
          refine tkU 28 52 rfl hS ?_
          simp only [pA, pB, pC]
          refine tkU 29 53 rfl hS ?_
          simp only [pA, pB, pC]
          refine tkU 30 54 rfl hS ?_
          simp only [pA, pB, pC]
          refine tkU 31 55 rfl hS ?_
          simp only [pA, pB, pC]
          try simp only [Act.put, List.setIfInBounds_toArray, List.set_cons_zero, List.set_cons_succ]
          refine tkR 32 56 rfl hS (fun w' _ => by go_simp; try with_reducible rfl) ?_
          simp only [pA, pB, pC]
          refine wpAnyH_done (by kernel_rfl) ?_ _
          try simp only [Act.put, List.setIfInBounds_toArray, List.set_cons_zero, List.set_cons_succ]
          have T3 := Lib.hid ((T2.out.drew))
          have X3 := Lib.hid ((X2.out.drew))
          have B3 := Lib.hid ((Below.drew B2.out))
          obtain ⟨W3, hW3⟩ : ∃ W3, W3 = (W2).drew := ⟨_, rfl⟩
          have hs3 : g2 + 1 ≤ W3.heap.size := by rw [hW3]; first | exact hs2 | omega | (simp; omega)
          rw [← hW3] at T3 X3 B3 ⊢
          clear hW3 T2 X2 B2 hs2
          have hp9 : (isWk vm sp pg) x = false := by simp [isWk, hkh.out]
          have hq9 := HQ.out
          rw [HX.out, walkF_no (Or.inl hp9)] at hq9
          clear hp9
          have HQ := Lib.hid (show walkF (isWk vm sp pg) (E.drop (k + 1)) ((k + 1 : Nat) : Int) (-1) v = q from hq9)
          clear hq9
          go_wp2
          go_roundw
          case rel => exact ⟨k + 1, (-1), v, by omega, rfl, by go_num, T3.out, B3.out, HQ, Lib.hid (Or.inl rfl)⟩
          case measure => simp [intOf]; omega
        have ehk : (x.k == 3) = true := (beq_int _ _).trans hk
        have hkh := Lib.hid hk
        clear hk
        cases o1
        · go_upto_region 6 with fail
          clear Tc0 yX0 yX1 yX2 yX3 yX4 yX5 yX6 yX7 yX8 yX9 yX10 yX11 yX12 yX13
          have T2 := Lib.hid ((Tr.out.alloc (.cells #[.int .i64 x.k, .int .i64 x.vm, .int .i64 x.sp, .bool x.al, .int .i64 x.pg, .int .i64 x.lv, .int .i64 x.fr, .int .i64 x.mi, .bool x.t.r, .bool x.t.w, .bool x.t.x, .bool x.t.a, .bool x.t.n, .int .i64 x.t.s] 34)))
          have X2 := Lib.hid ((BoxAt.newAt (wr) #[.int .i64 x.k, .int .i64 x.vm, .int .i64 x.sp, .bool x.al, .int .i64 x.pg, .int .i64 x.lv, .int .i64 x.fr, .int .i64 x.mi, .bool x.t.r, .bool x.t.w, .bool x.t.x, .bool x.t.a, .bool x.t.n, .int .i64 x.t.s] 34 (wr.heap.size) (by first | omega | (simp; done) | (simp; omega))))
          have B2 := Lib.hid ((bel_alloc Br.out (.cells #[.int .i64 x.k, .int .i64 x.vm, .int .i64 x.sp, .bool x.al, .int .i64 x.pg, .int .i64 x.lv, .int .i64 x.fr, .int .i64 x.mi, .bool x.t.r, .bool x.t.w, .bool x.t.x, .bool x.t.a, .bool x.t.n, .int .i64 x.t.s] 34)))
          obtain ⟨g2, hg2⟩ : ∃ g2, g2 = wr.heap.size := ⟨_, rfl⟩
          obtain ⟨W2, hW2⟩ : ∃ W2, W2 = (wr).alloc (.cells #[.int .i64 x.k, .int .i64 x.vm, .int .i64 x.sp, .bool x.al, .int .i64 x.pg, .int .i64 x.lv, .int .i64 x.fr, .int .i64 x.mi, .bool x.t.r, .bool x.t.w, .bool x.t.x, .bool x.t.a, .bool x.t.n, .int .i64 x.t.s] 34) := ⟨_, rfl⟩
          have hs2 : g2 + 1 ≤ W2.heap.size := by rw [hW2, hg2]; simp
          rw [← hW2] at T2 X2 B2 ⊢
          have hb2 : g1 + 1 ≤ g2 := by omega
          rw [← hg2] at X2 ⊢
          clear hg2
          clear hW2 Tr Br hsr
          refine wp_region_held_drew (S := (fun w' => BoxAt w' (g2) #[.int .i64 x.k, .int .i64 x.vm, .int .i64 x.sp, .bool x.al, .int .i64 x.pg, .int .i64 x.lv, .int .i64 x.fr, .int .i64 x.mi, .bool x.t.r, .bool x.t.w, .bool x.t.x, .bool x.t.a, .bool x.t.n, .int .i64 x.t.s] 34)) (by kernel_rfl) (X2.out.drew) (fun hS => ?_)
          refine tkR 0 24 (v := .pointer (some ⟨g2, 0, none⟩)) rfl hS (fun _ _ => by kernel_rfl) ?_
          refine tkR 1 25 (v := .int .i64 x.k) rfl hS (fun _ h => run_ld1 3 (.tmp 24) g2 0 (by kernel_rfl) (by kernel_rfl) Try.underlying3 rfl ((h).get 0 (.int .i64 x.k) rfl)) ?_
          try simp only [Act.put, List.setIfInBounds_toArray, List.set_cons_zero, List.set_cons_succ]
          refine tkR 2 26 rfl hS (fun w' _ => by go_simp; try with_reducible rfl) ?_
          simp only [pA, pB, pC]
          refine tkR 3 27 (v := .bool true) rfl hS (fun _ _ => by kernel_rfl) ?_
          try simp only [Act.put, List.setIfInBounds_toArray, List.set_cons_zero, List.set_cons_succ]
          refine tkR 4 28 rfl hS (fun w' hSw => by have c0_0 := (hSw).get 0 (.int .i64 x.k) rfl; have c0_1 := (hSw).get 1 (.int .i64 x.vm) rfl; have c0_2 := (hSw).get 2 (.int .i64 x.sp) rfl; have c0_3 := (hSw).get 3 (.bool x.al) rfl; have c0_4 := (hSw).get 4 (.int .i64 x.pg) rfl; have c0_5 := (hSw).get 5 (.int .i64 x.lv) rfl; have c0_6 := (hSw).get 6 (.int .i64 x.fr) rfl; have c0_7 := (hSw).get 7 (.int .i64 x.mi) rfl; have c0_8 := (hSw).get 8 (.bool x.t.r) rfl; have c0_9 := (hSw).get 9 (.bool x.t.w) rfl; have c0_10 := (hSw).get 10 (.bool x.t.x) rfl; have c0_11 := (hSw).get 11 (.bool x.t.a) rfl; have c0_12 := (hSw).get 12 (.bool x.t.n) rfl; have c0_13 := (hSw).get 13 (.int .i64 x.t.s) rfl; clear hSw; go_simp; try with_reducible rfl) ?_
          simp only [pA, pB, pC]
          try simp only [Act.put, List.setIfInBounds_toArray, List.set_cons_zero, List.set_cons_succ]
          refine tkR 5 29 rfl hS (fun w' _ => by go_simp; try with_reducible rfl) ?_
          simp only [pA, pB, pC]
          try simp only [Act.put, List.setIfInBounds_toArray, List.set_cons_zero, List.set_cons_succ]
          refine tkR 6 30 rfl hS (fun w' _ => by go_simp; try with_reducible rfl) ?_
          simp only [pA, pB, pC]
          try simp only [Act.put, List.setIfInBounds_toArray, List.set_cons_zero, List.set_cons_succ]
          refine wpAnyH_ready (rs := [7]) (by kernel_rfl) (by simp) ?_
          refine AllReadyH.cons (o := ⟨some 31, _, _, _, _, _⟩) rfl (fun K hK => ?_) AllReadyH.nil
          go_simp
          refine (HOF.out _).mono ?_
          rintro e w3 ⟨rfl, hb3⟩
          have hz3 := hb3.size
          try simp at hz3
          refine hK.out _ _ ?_ (fun hS' => ?_)
          · exact (hS.below hb3)
          clear hK K hS
          have hS := hS'
          clear hS'
          try simp only [Act.put, List.setIfInBounds_toArray, List.set_cons_zero, List.set_cons_succ]
          try simp only [Act.put, List.setIfInBounds_toArray, List.set_cons_zero, List.set_cons_succ]
          refine tkR 8 32 rfl hS (fun w' _ => by go_simp; try with_reducible rfl) ?_
          simp only [pA, pB, pC]
          refine tkR 9 33 (v := .bool false) rfl hS (fun _ _ => by kernel_rfl) ?_
          refine tkU 10 34 rfl hS ?_
          simp only [pA, pB, pC]
          refine tkU 11 35 rfl hS ?_
          simp only [pA, pB, pC]
          refine tkU 12 36 rfl hS ?_
          simp only [pA, pB, pC]
          refine tkU 13 37 rfl hS ?_
          simp only [pA, pB, pC]
          refine tkU 14 38 rfl hS ?_
          simp only [pA, pB, pC]
          refine tkU 15 39 rfl hS ?_
          simp only [pA, pB, pC]
          refine tkU 16 40 rfl hS ?_
          simp only [pA, pB, pC]
          try simp only [Act.put, List.setIfInBounds_toArray, List.set_cons_zero, List.set_cons_succ]
          refine tkR 17 41 rfl hS (fun w' _ => by go_simp; try with_reducible rfl) ?_
          simp only [pA, pB, pC]
          refine tkR 18 42 (v := .bool false) rfl hS (fun _ _ => by kernel_rfl) ?_
          refine tkU 19 43 rfl hS ?_
          simp only [pA, pB, pC]
          refine tkU 20 44 rfl hS ?_
          simp only [pA, pB, pC]
          refine tkU 21 45 rfl hS ?_
          simp only [pA, pB, pC]
          refine tkU 22 46 rfl hS ?_
          simp only [pA, pB, pC]
          refine tkU 23 47 rfl hS ?_
          simp only [pA, pB, pC]
          refine tkU 24 48 rfl hS ?_
          simp only [pA, pB, pC]
          refine tkU 25 49 rfl hS ?_
          simp only [pA, pB, pC]
          refine tkU 26 50 rfl hS ?_
          simp only [pA, pB, pC]
          refine tkU 27 51 rfl hS ?_
          simp only [pA, pB, pC]
          refine tkU 28 52 rfl hS ?_
          simp only [pA, pB, pC]
          refine tkU 29 53 rfl hS ?_
          simp only [pA, pB, pC]
          refine tkU 30 54 rfl hS ?_
          simp only [pA, pB, pC]
          refine tkU 31 55 rfl hS ?_
          simp only [pA, pB, pC]
          try simp only [Act.put, List.setIfInBounds_toArray, List.set_cons_zero, List.set_cons_succ]
          refine tkR 32 56 rfl hS (fun w' _ => by go_simp; try with_reducible rfl) ?_
          simp only [pA, pB, pC]
          refine wpAnyH_done (by kernel_rfl) ?_ _
          try simp only [Act.put, List.setIfInBounds_toArray, List.set_cons_zero, List.set_cons_succ]
          have T4 := Lib.hid (((T2.out.drew).below hb3))
          have X4 := Lib.hid (((X2.out.drew).below hb3))
          have B4 := Lib.hid ((bel_trans (Below.drew B2.out) hb3))
          obtain ⟨W4, hW4⟩ : ∃ W4, W4 = w3 := ⟨_, rfl⟩
          have hs4 : g2 + 1 ≤ W4.heap.size := by rw [hW4]; first | exact hs2 | omega | (simp; omega)
          rw [← hW4] at T4 X4 B4 ⊢
          clear hW4 T2 X2 B2 hs2
          have hp9 : (isWk vm sp pg) x = false := by simp [isWk, hkh.out, ho1h.out.symm]
          have hq9 := HQ.out
          rw [HX.out, walkF_no (Or.inl hp9)] at hq9
          clear hp9
          have HQ := Lib.hid (show walkF (isWk vm sp pg) (E.drop (k + 1)) ((k + 1 : Nat) : Int) (-1) v = q from hq9)
          clear hq9
          go_wp2
          go_roundw
          case rel => exact ⟨k + 1, (-1), v, by omega, rfl, by go_num, T4.out, B4.out, HQ, Lib.hid (Or.inl rfl)⟩
          case measure => simp [intOf]; omega
        cases hp : decide (x.pg = ab)
        · have ehp : (x.pg == ab) = false := (beq_int _ _).trans hp
          have hph := Lib.hid (show decide (x.pg = abvP x.lv pg) = false from by rw [← habh.out]; exact hp)
          clear hp
          go_upto_region 6 with fail
          clear Tc0 yX0 yX1 yX2 yX3 yX4 yX5 yX6 yX7 yX8 yX9 yX10 yX11 yX12 yX13
          have T2 := Lib.hid ((Tr.out.alloc (.cells #[.int .i64 x.k, .int .i64 x.vm, .int .i64 x.sp, .bool x.al, .int .i64 x.pg, .int .i64 x.lv, .int .i64 x.fr, .int .i64 x.mi, .bool x.t.r, .bool x.t.w, .bool x.t.x, .bool x.t.a, .bool x.t.n, .int .i64 x.t.s] 34)))
          have X2 := Lib.hid ((BoxAt.newAt (wr) #[.int .i64 x.k, .int .i64 x.vm, .int .i64 x.sp, .bool x.al, .int .i64 x.pg, .int .i64 x.lv, .int .i64 x.fr, .int .i64 x.mi, .bool x.t.r, .bool x.t.w, .bool x.t.x, .bool x.t.a, .bool x.t.n, .int .i64 x.t.s] 34 (wr.heap.size) (by first | omega | (simp; done) | (simp; omega))))
          have B2 := Lib.hid ((bel_alloc Br.out (.cells #[.int .i64 x.k, .int .i64 x.vm, .int .i64 x.sp, .bool x.al, .int .i64 x.pg, .int .i64 x.lv, .int .i64 x.fr, .int .i64 x.mi, .bool x.t.r, .bool x.t.w, .bool x.t.x, .bool x.t.a, .bool x.t.n, .int .i64 x.t.s] 34)))
          obtain ⟨g2, hg2⟩ : ∃ g2, g2 = wr.heap.size := ⟨_, rfl⟩
          obtain ⟨W2, hW2⟩ : ∃ W2, W2 = (wr).alloc (.cells #[.int .i64 x.k, .int .i64 x.vm, .int .i64 x.sp, .bool x.al, .int .i64 x.pg, .int .i64 x.lv, .int .i64 x.fr, .int .i64 x.mi, .bool x.t.r, .bool x.t.w, .bool x.t.x, .bool x.t.a, .bool x.t.n, .int .i64 x.t.s] 34) := ⟨_, rfl⟩
          have hs2 : g2 + 1 ≤ W2.heap.size := by rw [hW2, hg2]; simp
          rw [← hW2] at T2 X2 B2 ⊢
          have hb2 : g1 + 1 ≤ g2 := by omega
          rw [← hg2] at X2 ⊢
          clear hg2
          clear hW2 Tr Br hsr
          refine wp_region_held_drew (S := (fun w' => BoxAt w' (g2) #[.int .i64 x.k, .int .i64 x.vm, .int .i64 x.sp, .bool x.al, .int .i64 x.pg, .int .i64 x.lv, .int .i64 x.fr, .int .i64 x.mi, .bool x.t.r, .bool x.t.w, .bool x.t.x, .bool x.t.a, .bool x.t.n, .int .i64 x.t.s] 34)) (by kernel_rfl) (X2.out.drew) (fun hS => ?_)
          refine tkR 0 24 (v := .pointer (some ⟨g2, 0, none⟩)) rfl hS (fun _ _ => by kernel_rfl) ?_
          refine tkR 1 25 (v := .int .i64 x.k) rfl hS (fun _ h => run_ld1 3 (.tmp 24) g2 0 (by kernel_rfl) (by kernel_rfl) Try.underlying3 rfl ((h).get 0 (.int .i64 x.k) rfl)) ?_
          try simp only [Act.put, List.setIfInBounds_toArray, List.set_cons_zero, List.set_cons_succ]
          refine tkR 2 26 rfl hS (fun w' _ => by go_simp; try with_reducible rfl) ?_
          simp only [pA, pB, pC]
          refine tkR 3 27 (v := .bool true) rfl hS (fun _ _ => by kernel_rfl) ?_
          try simp only [Act.put, List.setIfInBounds_toArray, List.set_cons_zero, List.set_cons_succ]
          refine tkR 4 28 rfl hS (fun w' hSw => by have c0_0 := (hSw).get 0 (.int .i64 x.k) rfl; have c0_1 := (hSw).get 1 (.int .i64 x.vm) rfl; have c0_2 := (hSw).get 2 (.int .i64 x.sp) rfl; have c0_3 := (hSw).get 3 (.bool x.al) rfl; have c0_4 := (hSw).get 4 (.int .i64 x.pg) rfl; have c0_5 := (hSw).get 5 (.int .i64 x.lv) rfl; have c0_6 := (hSw).get 6 (.int .i64 x.fr) rfl; have c0_7 := (hSw).get 7 (.int .i64 x.mi) rfl; have c0_8 := (hSw).get 8 (.bool x.t.r) rfl; have c0_9 := (hSw).get 9 (.bool x.t.w) rfl; have c0_10 := (hSw).get 10 (.bool x.t.x) rfl; have c0_11 := (hSw).get 11 (.bool x.t.a) rfl; have c0_12 := (hSw).get 12 (.bool x.t.n) rfl; have c0_13 := (hSw).get 13 (.int .i64 x.t.s) rfl; clear hSw; go_simp; try with_reducible rfl) ?_
          simp only [pA, pB, pC]
          try simp only [Act.put, List.setIfInBounds_toArray, List.set_cons_zero, List.set_cons_succ]
          refine tkR 5 29 rfl hS (fun w' _ => by go_simp; try with_reducible rfl) ?_
          simp only [pA, pB, pC]
          try simp only [Act.put, List.setIfInBounds_toArray, List.set_cons_zero, List.set_cons_succ]
          refine tkR 6 30 rfl hS (fun w' _ => by go_simp; try with_reducible rfl) ?_
          simp only [pA, pB, pC]
          try simp only [Act.put, List.setIfInBounds_toArray, List.set_cons_zero, List.set_cons_succ]
          refine wpAnyH_ready (rs := [7]) (by kernel_rfl) (by simp) ?_
          refine AllReadyH.cons (o := ⟨some 31, _, _, _, _, _⟩) rfl (fun K hK => ?_) AllReadyH.nil
          go_simp
          refine (HOF.out _).mono ?_
          rintro e w3 ⟨rfl, hb3⟩
          have hz3 := hb3.size
          try simp at hz3
          refine hK.out _ _ ?_ (fun hS' => ?_)
          · exact (hS.below hb3)
          clear hK K hS
          have hS := hS'
          clear hS'
          try simp only [Act.put, List.setIfInBounds_toArray, List.set_cons_zero, List.set_cons_succ]
          try simp only [Act.put, List.setIfInBounds_toArray, List.set_cons_zero, List.set_cons_succ]
          refine tkR 8 32 rfl hS (fun w' _ => by go_simp; try with_reducible rfl) ?_
          simp only [pA, pB, pC]
          refine tkR 9 33 (v := .bool true) rfl hS (fun _ _ => by kernel_rfl) ?_
          try simp only [Act.put, List.setIfInBounds_toArray, List.set_cons_zero, List.set_cons_succ]
          refine tkR 10 34 rfl hS (fun w' _ => by go_simp; try with_reducible rfl) ?_
          simp only [pA, pB, pC]
          try simp only [Act.put, List.setIfInBounds_toArray, List.set_cons_zero, List.set_cons_succ]
          refine tkR 11 35 rfl hS (fun w' hSw => by have c0_4 := (hSw).get 4 (.int .i64 x.pg) rfl; clear hSw; go_simp; try with_reducible rfl) ?_
          simp only [pA, pB, pC]
          try simp only [Act.put, List.setIfInBounds_toArray, List.set_cons_zero, List.set_cons_succ]
          refine tkR 12 36 rfl hS (fun w' _ => by go_simp; try with_reducible rfl) ?_
          simp only [pA, pB, pC]
          try simp only [Act.put, List.setIfInBounds_toArray, List.set_cons_zero, List.set_cons_succ]
          refine tkR 13 37 rfl hS (fun w' hSw => by have c0_5 := (hSw).get 5 (.int .i64 x.lv) rfl; clear hSw; go_simp; try with_reducible rfl) ?_
          simp only [pA, pB, pC]
          try simp only [Act.put, List.setIfInBounds_toArray, List.set_cons_zero, List.set_cons_succ]
          refine tkR 14 38 rfl hS (fun w' _ => by go_simp; try with_reducible rfl) ?_
          simp only [pA, pB, pC]
          try simp only [Act.put, List.setIfInBounds_toArray, List.set_cons_zero, List.set_cons_succ]
          refine wpAnyH_ready (rs := [15]) (by kernel_rfl) (by simp) ?_
          refine AllReadyH.cons (o := ⟨some 39, _, _, _, _, _⟩) rfl (fun K hK => ?_) AllReadyH.nil
          go_simp
          refine (HAB.out _ (of_decide_eq_true hkh.out)).mono ?_
          rintro e w4 ⟨rfl, hb4⟩
          have hz4 := hb4.size
          try simp at hz4
          refine hK.out _ _ ?_ (fun hS' => ?_)
          · exact (hS.below hb4)
          clear hK K hS
          have hS := hS'
          clear hS'
          try simp only [Act.put, List.setIfInBounds_toArray, List.set_cons_zero, List.set_cons_succ]
          try simp only [Act.put, List.setIfInBounds_toArray, List.set_cons_zero, List.set_cons_succ]
          refine tkR 16 40 rfl hS (fun w' _ => by go_simp; try with_reducible rfl) ?_
          simp only [pA, pB, pC]
          try simp only [Act.put, List.setIfInBounds_toArray, List.set_cons_zero, List.set_cons_succ]
          refine tkR 17 41 rfl hS (fun w' _ => by go_simp; try with_reducible rfl) ?_
          simp only [pA, pB, pC]
          refine tkR 18 42 (v := .bool false) rfl hS (fun _ _ => by kernel_rfl) ?_
          refine tkU 19 43 rfl hS ?_
          simp only [pA, pB, pC]
          refine tkU 20 44 rfl hS ?_
          simp only [pA, pB, pC]
          refine tkU 21 45 rfl hS ?_
          simp only [pA, pB, pC]
          refine tkU 22 46 rfl hS ?_
          simp only [pA, pB, pC]
          refine tkU 23 47 rfl hS ?_
          simp only [pA, pB, pC]
          refine tkU 24 48 rfl hS ?_
          simp only [pA, pB, pC]
          refine tkU 25 49 rfl hS ?_
          simp only [pA, pB, pC]
          refine tkU 26 50 rfl hS ?_
          simp only [pA, pB, pC]
          refine tkU 27 51 rfl hS ?_
          simp only [pA, pB, pC]
          refine tkU 28 52 rfl hS ?_
          simp only [pA, pB, pC]
          refine tkU 29 53 rfl hS ?_
          simp only [pA, pB, pC]
          refine tkU 30 54 rfl hS ?_
          simp only [pA, pB, pC]
          refine tkU 31 55 rfl hS ?_
          simp only [pA, pB, pC]
          try simp only [Act.put, List.setIfInBounds_toArray, List.set_cons_zero, List.set_cons_succ]
          refine tkR 32 56 rfl hS (fun w' _ => by go_simp; try with_reducible rfl) ?_
          simp only [pA, pB, pC]
          refine wpAnyH_done (by kernel_rfl) ?_ _
          try simp only [Act.put, List.setIfInBounds_toArray, List.set_cons_zero, List.set_cons_succ]
          have T5 := Lib.hid ((((T2.out.drew).below hb3).below hb4))
          have X5 := Lib.hid ((((X2.out.drew).below hb3).below hb4))
          have B5 := Lib.hid ((bel_trans (bel_trans (Below.drew B2.out) hb3) hb4))
          obtain ⟨W5, hW5⟩ : ∃ W5, W5 = w4 := ⟨_, rfl⟩
          have hs5 : g2 + 1 ≤ W5.heap.size := by rw [hW5]; first | exact hs2 | omega | (simp; omega)
          rw [← hW5] at T5 X5 B5 ⊢
          clear hW5 T2 X2 B2 hs2
          have hp9 : (isWk vm sp pg) x = false := by simp [isWk, hkh.out, ho1h.out.symm, hph.out]
          have hq9 := HQ.out
          rw [HX.out, walkF_no (Or.inl hp9)] at hq9
          clear hp9
          have HQ := Lib.hid (show walkF (isWk vm sp pg) (E.drop (k + 1)) ((k + 1 : Nat) : Int) (-1) v = q from hq9)
          clear hq9
          go_wp2
          go_roundw
          case rel => exact ⟨k + 1, (-1), v, by omega, rfl, by go_num, T5.out, B5.out, HQ, Lib.hid (Or.inl rfl)⟩
          case measure => simp [intOf]; omega
        have ehp : (x.pg == ab) = true := (beq_int _ _).trans hp
        have hph := Lib.hid (show decide (x.pg = abvP x.lv pg) = true from by rw [← habh.out]; exact hp)
        clear hp
        go_upto_region 6 with fail
        clear Tc0 yX0 yX1 yX2 yX3 yX4 yX5 yX6 yX7 yX8 yX9 yX10 yX11 yX12 yX13
        have T2 := Lib.hid ((Tr.out.alloc (.cells #[.int .i64 x.k, .int .i64 x.vm, .int .i64 x.sp, .bool x.al, .int .i64 x.pg, .int .i64 x.lv, .int .i64 x.fr, .int .i64 x.mi, .bool x.t.r, .bool x.t.w, .bool x.t.x, .bool x.t.a, .bool x.t.n, .int .i64 x.t.s] 34)))
        have X2 := Lib.hid ((BoxAt.newAt (wr) #[.int .i64 x.k, .int .i64 x.vm, .int .i64 x.sp, .bool x.al, .int .i64 x.pg, .int .i64 x.lv, .int .i64 x.fr, .int .i64 x.mi, .bool x.t.r, .bool x.t.w, .bool x.t.x, .bool x.t.a, .bool x.t.n, .int .i64 x.t.s] 34 (wr.heap.size) (by first | omega | (simp; done) | (simp; omega))))
        have B2 := Lib.hid ((bel_alloc Br.out (.cells #[.int .i64 x.k, .int .i64 x.vm, .int .i64 x.sp, .bool x.al, .int .i64 x.pg, .int .i64 x.lv, .int .i64 x.fr, .int .i64 x.mi, .bool x.t.r, .bool x.t.w, .bool x.t.x, .bool x.t.a, .bool x.t.n, .int .i64 x.t.s] 34)))
        obtain ⟨g2, hg2⟩ : ∃ g2, g2 = wr.heap.size := ⟨_, rfl⟩
        obtain ⟨W2, hW2⟩ : ∃ W2, W2 = (wr).alloc (.cells #[.int .i64 x.k, .int .i64 x.vm, .int .i64 x.sp, .bool x.al, .int .i64 x.pg, .int .i64 x.lv, .int .i64 x.fr, .int .i64 x.mi, .bool x.t.r, .bool x.t.w, .bool x.t.x, .bool x.t.a, .bool x.t.n, .int .i64 x.t.s] 34) := ⟨_, rfl⟩
        have hs2 : g2 + 1 ≤ W2.heap.size := by rw [hW2, hg2]; simp
        rw [← hW2] at T2 X2 B2 ⊢
        have hb2 : g1 + 1 ≤ g2 := by omega
        rw [← hg2] at X2 ⊢
        clear hg2
        clear hW2 Tr Br hsr
        refine wp_region_held_drew (S := (fun w' => BoxAt w' (g2) #[.int .i64 x.k, .int .i64 x.vm, .int .i64 x.sp, .bool x.al, .int .i64 x.pg, .int .i64 x.lv, .int .i64 x.fr, .int .i64 x.mi, .bool x.t.r, .bool x.t.w, .bool x.t.x, .bool x.t.a, .bool x.t.n, .int .i64 x.t.s] 34)) (by kernel_rfl) (X2.out.drew) (fun hS => ?_)
        refine tkR 0 24 (v := .pointer (some ⟨g2, 0, none⟩)) rfl hS (fun _ _ => by kernel_rfl) ?_
        refine tkR 1 25 (v := .int .i64 x.k) rfl hS (fun _ h => run_ld1 3 (.tmp 24) g2 0 (by kernel_rfl) (by kernel_rfl) Try.underlying3 rfl ((h).get 0 (.int .i64 x.k) rfl)) ?_
        try simp only [Act.put, List.setIfInBounds_toArray, List.set_cons_zero, List.set_cons_succ]
        refine tkR 2 26 rfl hS (fun w' _ => by go_simp; try with_reducible rfl) ?_
        simp only [pA, pB, pC]
        refine tkR 3 27 (v := .bool true) rfl hS (fun _ _ => by kernel_rfl) ?_
        try simp only [Act.put, List.setIfInBounds_toArray, List.set_cons_zero, List.set_cons_succ]
        refine tkR 4 28 rfl hS (fun w' hSw => by have c0_0 := (hSw).get 0 (.int .i64 x.k) rfl; have c0_1 := (hSw).get 1 (.int .i64 x.vm) rfl; have c0_2 := (hSw).get 2 (.int .i64 x.sp) rfl; have c0_3 := (hSw).get 3 (.bool x.al) rfl; have c0_4 := (hSw).get 4 (.int .i64 x.pg) rfl; have c0_5 := (hSw).get 5 (.int .i64 x.lv) rfl; have c0_6 := (hSw).get 6 (.int .i64 x.fr) rfl; have c0_7 := (hSw).get 7 (.int .i64 x.mi) rfl; have c0_8 := (hSw).get 8 (.bool x.t.r) rfl; have c0_9 := (hSw).get 9 (.bool x.t.w) rfl; have c0_10 := (hSw).get 10 (.bool x.t.x) rfl; have c0_11 := (hSw).get 11 (.bool x.t.a) rfl; have c0_12 := (hSw).get 12 (.bool x.t.n) rfl; have c0_13 := (hSw).get 13 (.int .i64 x.t.s) rfl; clear hSw; go_simp; try with_reducible rfl) ?_
        simp only [pA, pB, pC]
        try simp only [Act.put, List.setIfInBounds_toArray, List.set_cons_zero, List.set_cons_succ]
        refine tkR 5 29 rfl hS (fun w' _ => by go_simp; try with_reducible rfl) ?_
        simp only [pA, pB, pC]
        try simp only [Act.put, List.setIfInBounds_toArray, List.set_cons_zero, List.set_cons_succ]
        refine tkR 6 30 rfl hS (fun w' _ => by go_simp; try with_reducible rfl) ?_
        simp only [pA, pB, pC]
        try simp only [Act.put, List.setIfInBounds_toArray, List.set_cons_zero, List.set_cons_succ]
        refine wpAnyH_ready (rs := [7]) (by kernel_rfl) (by simp) ?_
        refine AllReadyH.cons (o := ⟨some 31, _, _, _, _, _⟩) rfl (fun K hK => ?_) AllReadyH.nil
        go_simp
        refine (HOF.out _).mono ?_
        rintro e w3 ⟨rfl, hb3⟩
        have hz3 := hb3.size
        try simp at hz3
        refine hK.out _ _ ?_ (fun hS' => ?_)
        · exact (hS.below hb3)
        clear hK K hS
        have hS := hS'
        clear hS'
        try simp only [Act.put, List.setIfInBounds_toArray, List.set_cons_zero, List.set_cons_succ]
        try simp only [Act.put, List.setIfInBounds_toArray, List.set_cons_zero, List.set_cons_succ]
        refine tkR 8 32 rfl hS (fun w' _ => by go_simp; try with_reducible rfl) ?_
        simp only [pA, pB, pC]
        refine tkR 9 33 (v := .bool true) rfl hS (fun _ _ => by kernel_rfl) ?_
        try simp only [Act.put, List.setIfInBounds_toArray, List.set_cons_zero, List.set_cons_succ]
        refine tkR 10 34 rfl hS (fun w' _ => by go_simp; try with_reducible rfl) ?_
        simp only [pA, pB, pC]
        try simp only [Act.put, List.setIfInBounds_toArray, List.set_cons_zero, List.set_cons_succ]
        refine tkR 11 35 rfl hS (fun w' hSw => by have c0_4 := (hSw).get 4 (.int .i64 x.pg) rfl; clear hSw; go_simp; try with_reducible rfl) ?_
        simp only [pA, pB, pC]
        try simp only [Act.put, List.setIfInBounds_toArray, List.set_cons_zero, List.set_cons_succ]
        refine tkR 12 36 rfl hS (fun w' _ => by go_simp; try with_reducible rfl) ?_
        simp only [pA, pB, pC]
        try simp only [Act.put, List.setIfInBounds_toArray, List.set_cons_zero, List.set_cons_succ]
        refine tkR 13 37 rfl hS (fun w' hSw => by have c0_5 := (hSw).get 5 (.int .i64 x.lv) rfl; clear hSw; go_simp; try with_reducible rfl) ?_
        simp only [pA, pB, pC]
        try simp only [Act.put, List.setIfInBounds_toArray, List.set_cons_zero, List.set_cons_succ]
        refine tkR 14 38 rfl hS (fun w' _ => by go_simp; try with_reducible rfl) ?_
        simp only [pA, pB, pC]
        try simp only [Act.put, List.setIfInBounds_toArray, List.set_cons_zero, List.set_cons_succ]
        refine wpAnyH_ready (rs := [15]) (by kernel_rfl) (by simp) ?_
        refine AllReadyH.cons (o := ⟨some 39, _, _, _, _, _⟩) rfl (fun K hK => ?_) AllReadyH.nil
        go_simp
        refine (HAB.out _ (of_decide_eq_true hkh.out)).mono ?_
        rintro e w4 ⟨rfl, hb4⟩
        have hz4 := hb4.size
        try simp at hz4
        refine hK.out _ _ ?_ (fun hS' => ?_)
        · exact (hS.below hb4)
        clear hK K hS
        have hS := hS'
        clear hS'
        try simp only [Act.put, List.setIfInBounds_toArray, List.set_cons_zero, List.set_cons_succ]
        try simp only [Act.put, List.setIfInBounds_toArray, List.set_cons_zero, List.set_cons_succ]
        refine tkR 16 40 rfl hS (fun w' _ => by go_simp; try with_reducible rfl) ?_
        simp only [pA, pB, pC]
        try simp only [Act.put, List.setIfInBounds_toArray, List.set_cons_zero, List.set_cons_succ]
        refine tkR 17 41 rfl hS (fun w' _ => by go_simp; try with_reducible rfl) ?_
        simp only [pA, pB, pC]
        refine tkR 18 42 (v := .bool true) rfl hS (fun _ _ => by kernel_rfl) ?_
        try simp only [Act.put, List.setIfInBounds_toArray, List.set_cons_zero, List.set_cons_succ]
        refine tkR 19 43 rfl hS (fun w' _ => by go_simp; try with_reducible rfl) ?_
        simp only [pA, pB, pC]
        try simp only [Act.put, List.setIfInBounds_toArray, List.set_cons_zero, List.set_cons_succ]
        refine tkR 20 44 rfl hS (fun w' _ => by go_simp; try with_reducible rfl) ?_
        simp only [pA, pB, pC]
        try simp only [Act.put, List.setIfInBounds_toArray, List.set_cons_zero, List.set_cons_succ]
        refine tkR 21 45 rfl hS (fun w' _ => by go_simp; try with_reducible rfl) ?_
        simp only [pA, pB, pC]
        refine tkU 22 46 rfl hS ?_
        simp only [pA, pB, pC]
        refine tkU 23 47 rfl hS ?_
        simp only [pA, pB, pC]
        refine tkU 24 48 rfl hS ?_
        simp only [pA, pB, pC]
        refine tkU 25 49 rfl hS ?_
        simp only [pA, pB, pC]
        refine tkU 26 50 rfl hS ?_
        simp only [pA, pB, pC]
        refine tkU 27 51 rfl hS ?_
        simp only [pA, pB, pC]
        refine tkU 28 52 rfl hS ?_
        simp only [pA, pB, pC]
        refine tkU 29 53 rfl hS ?_
        simp only [pA, pB, pC]
        refine tkU 30 54 rfl hS ?_
        simp only [pA, pB, pC]
        try simp only [Act.put, List.setIfInBounds_toArray, List.set_cons_zero, List.set_cons_succ]
        refine tkR 31 55 rfl hS (fun w' _ => by go_simp; try with_reducible rfl) ?_
        simp only [pA, pB, pC]
        try simp only [Act.put, List.setIfInBounds_toArray, List.set_cons_zero, List.set_cons_succ]
        refine tkR 32 56 rfl hS (fun w' _ => by go_simp; try with_reducible rfl) ?_
        simp only [pA, pB, pC]
        refine wpAnyH_done (by kernel_rfl) ?_ _
        try simp only [Act.put, List.setIfInBounds_toArray, List.set_cons_zero, List.set_cons_succ]
        have T5 := Lib.hid ((((T2.out.drew).below hb3).below hb4))
        have X5 := Lib.hid ((((X2.out.drew).below hb3).below hb4))
        have B5 := Lib.hid ((bel_trans (bel_trans (Below.drew B2.out) hb3) hb4))
        obtain ⟨W5, hW5⟩ : ∃ W5, W5 = w4 := ⟨_, rfl⟩
        have hs5 : g2 + 1 ≤ W5.heap.size := by rw [hW5]; first | exact hs2 | omega | (simp; omega)
        rw [← hW5] at T5 X5 B5 ⊢
        clear hW5 T2 X2 B2 hs2
        have hp9 : (isWk vm sp pg) x = true := by simp [isWk, hkh.out, ho1h.out.symm, hph.out]
        have hq9 := HQ.out
        rw [HX.out, walkF_yes hp9 (Or.inl (by decide))] at hq9
        have HQ := Lib.hid (show walkF (isWk vm sp pg) (E.drop (k + 1)) ((k + 1 : Nat) : Int) (k : Int) x.lv = q from hq9)
        clear hq9 hp9
        go_wp2
        go_roundw
        case rel => exact ⟨k + 1, k, x.lv, by omega, rfl, by go_num, T5.out, B5.out, HQ, Lib.hid (Or.inr ⟨k, x, rfl, HXE.out, rfl⟩)⟩
        case measure => simp [intOf]; omega
    · have HQ2 := HQ.out
      rw [rows_end HN.out hlt] at HQ2
      have HQ := Lib.hid (show at' = q from HQ2)
      clear HQ2
      have Tc0 := Tr.out.get 0 (.slice f l c) rfl
      go_wp2
      go_ret
      exact ⟨ret_int HQ.out, Br.out⟩
end Go.Proofs.Ytcbjmpllmnphkaa
