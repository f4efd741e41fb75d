/- Stage 10: the reference's Apply: contract. -/
import Derived.Test.YtjohnpbfdpmajaaIg
import Derived.Test.YtjohnpbfdpmajaaBf
import Derived.Test.YtjohnpbfdpmajaaBk
import Derived.Test.YtjohnpbfdpmajaaNe
import Derived.Test.YtjohnpbfdpmajaaTc
set_option linter.all false
namespace Go.Proofs.Ytjohnpbfdpmajaa
open Go.ChangeShapes Go.WideShapes Go.ChangeAt Go.RowKit Go.Deep Go.Shelf

theorem RowAt.grownR {w w' : World} {b o N : Nat} {cs : Array Value} {row : Option Nat} (h : RowAt w b o N cs) (hg : w.grownBy w' row) (hne : some b ≠ row) : RowAt w' b o N cs :=
  ⟨Nat.lt_of_lt_of_le h.lt hg.size, fun j hj => (World.cell?_of_block (a := ⟨b, o + j, none⟩) (hg.block b h.lt hne)).trans (h.c j hj)⟩
theorem anyT_take {e : Ety} {i : Inv} : ∀ {D : List Inv} {j : Nat}, D[j]? = some i → anyT e (D.take (j + 1)) = (anyT e (D.take j) || takeB i e)
  | [], j, h => by simp at h
  | x :: D, 0, h => by
    simp only [List.getElem?_cons_zero, Option.some.injEq] at h
    subst h
    simp [anyT]
  | x :: D, j + 1, h => by
    have h2 : D[j]? = some i := by simpa using h
    simp only [List.take_succ_cons, anyT]
    rw [anyT_take h2, Bool.or_assoc]
theorem kept_len (p : Ety → Bool) (L : List Ety) : (keptE p L).length ≤ L.length := List.length_filter_le _ _
set_option maxRecDepth 100000 in
set_option maxHeartbeats 3200000 in
theorem apply9_any (f g gd : Option Addr) (l c m d md dd : Nat) (E : List Ety) (D D2 : List Inv) (w : World) (hE : RowsAt KE w f E) (hl : l = E.length) (hD : RowsAt KI w g D) (hm : m = D.length) (hls : l ≤ 90000) (hms : m ≤ 90000) (hR : RowsAt KI w gd D2) (ho : md = D2.length) (hmd : md ≤ 90000) (hem : ∀ (k : Nat) (x : Ety), E[k]? = some x → mayEn x = true) (hv : allV D2 = true) :
    Calls Try.prog 24 #[.agg #[.slice f l c, .slice g m d], .slice gd md dd] w fun r w' => ∃ f' l' c' g' d', r = .returned (.agg #[.slice f' l' c', .slice g' m d']) ∧ l' = (keptE (fun e => anyT e D2) E).length ∧ OwnR KE w' w.heap.size (.slice f' l' c') (keptE (fun e => anyT e D2) E) ∧ OwnR KI w' w.heap.size (.slice g' m d') D ∧ Below w.heap.size w w' := by
  have HCV := Lib.hid (fun W (hB : Below w.heap.size w W) => copyV_any g m d D W (hD.below hB) hm (by omega))
  have HL := Lib.hid hE
  have HN := Lib.hid hl
  have HD2 := Lib.hid hR
  have HO := Lib.hid ho
  have HEM := Lib.hid hem
  have HV := Lib.hid hv
  clear hE hl hD hm hR ho hem hv
  have htw : w.heap.size ≤ w.heap.size := Nat.le_refl _
  have B0 := Lib.hid (Below.refl w.heap.size w)
  go_enter Try.func24, Try.ntmps24
  go_upto_region 1 with fail
  have A1 := Lib.hid (((BoxAt.newAt (w) #[.slice f l c, .slice g m d] 43 (w.heap.size) (by first | omega | (simp; done) | (simp; omega))).alloc (.cells #[.slice none 0 0, .slice none 0 0] 43)))
  have R1 := Lib.hid ((BoxAt.newAt ((w).alloc (.cells #[.slice f l c, .slice g m d] 43)) #[.slice none 0 0, .slice none 0 0] 43 (w.heap.size + 1) (by first | omega | (simp; done) | (simp; omega))))
  have B1 := Lib.hid ((bel_alloc (bel_alloc B0.out (.cells #[.slice f l c, .slice g m d] 43)) (.cells #[.slice none 0 0, .slice none 0 0] 43)))
  obtain ⟨g1, hg1⟩ : ∃ g1, g1 = w.heap.size := ⟨_, rfl⟩
  obtain ⟨W1, hW1⟩ : ∃ W1, W1 = ((w).alloc (.cells #[.slice f l c, .slice g m d] 43)).alloc (.cells #[.slice none 0 0, .slice none 0 0] 43) := ⟨_, rfl⟩
  have hs1 : g1 + 1 + 1 ≤ W1.heap.size := by rw [hW1, hg1]; simp
  rw [← hW1] at A1 R1 B1 ⊢
  have hb1 : w.heap.size ≤ g1 := by omega
  rw [← hg1] at A1 R1 ⊢
  clear hg1
  clear hW1 B0
  have Ac1 := A1.out.get 1 (.slice g m d) rfl
  go_wp2_with fail
  refine (HCV.out _ B1.out).mono ?_
  rintro e w2 ⟨f2, c2, rfl, hN2, hb2⟩
  have OD2 := Lib.hid (OwnR.mono hN2 (base' := w.heap.size) (by first | omega | (simp; done) | (simp; omega)))
  clear hN2
  have hz2 := hb2.size
  have A2 := Lib.hid (A1.out.below hb2)
  have R2 := Lib.hid (R1.out.below hb2)
  have B2 := Lib.hid ((bel_trans B1.out hb2))
  skip
  have hs2 : g1 + 1 + 1 ≤ w2.heap.size := by omega
  clear Ac1
  clear A1 R1 B1 hs1 hb2 hz2
  go_upto_region 2 with fail
  have A3 := Lib.hid ((A2.out.alloc (.cells #[.slice none 0 0, .slice f2 m c2] 43)))
  have R3 := Lib.hid ((R2.out.alloc (.cells #[.slice none 0 0, .slice f2 m c2] 43)))
  have X3 := Lib.hid ((BoxAt.newAt (w2) #[.slice none 0 0, .slice f2 m c2] 43 (w2.heap.size) (by first | omega | (simp; done) | (simp; omega))))
  have D3 := Lib.hid ((OD2.out.alloc (.cells #[.slice none 0 0, .slice f2 m c2] 43)))
  have B3 := Lib.hid ((bel_alloc B2.out (.cells #[.slice none 0 0, .slice f2 m c2] 43)))
  obtain ⟨g3, hg3⟩ : ∃ g3, g3 = w2.heap.size := ⟨_, rfl⟩
  obtain ⟨W3, hW3⟩ : ∃ W3, W3 = (w2).alloc (.cells #[.slice none 0 0, .slice f2 m c2] 43) := ⟨_, rfl⟩
  have hs3 : g3 + 1 ≤ W3.heap.size := by rw [hW3, hg3]; simp
  rw [← hW3] at A3 R3 X3 D3 B3 ⊢
  have hb3 : g1 + 1 + 1 ≤ g3 := by omega
  rw [← hg3] at X3 ⊢
  clear hg3
  clear hW3 A2 R2 OD2 B2 hs2
  go_wp2
  have F0 := Lib.hid (show OwnR KE W3 w.heap.size (.slice none 0 0) (keptE (fun e => anyT e D2) (E.take 0)) from OwnR.nil _ _)
  have HXL := Lib.hid (Nat.le_refl 0)
  go_wp2
  go_loopw [6] (fun i wr => ∃ (k : Nat) (xf : Option Addr) (xl : Nat) (xc : Nat), k ≤ l ∧ i = .int .i64 k ∧ Hid (BoxAt wr (g1) #[.slice f l c, .slice g m d] 43) ∧ Hid (BoxAt wr (g1 + 1) #[.slice none 0 0, .slice none 0 0] 43) ∧ Hid (BoxAt wr (g3) #[.slice xf xl xc, .slice f2 m c2] 43) ∧ Hid (Below w.heap.size w wr) ∧ Hid (OwnR KE wr (w.heap.size) (.slice xf xl xc) ((keptE (fun e => anyT e D2) (E.take k)))) ∧ Hid (OwnR KI wr (w.heap.size) (.slice f2 m c2) (D)) ∧ Hid (xl ≤ k)) (fun i _ => l - (intOf i).toNat)
  case atStart => exact ⟨0, none, 0, 0, by omega, rfl, A3.out, R3.out, X3.out, B3.out, F0.out, D3.out, HXL⟩
  case round =>
    clear A3 R3 X3 D3 F0 B3 HXL
    obtain ⟨k, xf, xl, xc, hkk, rfl, Ar, Rr, Xr, Br, Fr, Dr, HXL⟩ := hrel
    obtain ⟨mr, hmr⟩ : ∃ mr, mr = wr.heap.size := ⟨_, rfl⟩
    have hgAr : g1 + 1 ≤ mr := by rw [hmr]; exact Ar.out.lt
    have hgRr : g1 + 1 + 1 ≤ mr := by rw [hmr]; exact Rr.out.lt
    have hgXr : g3 + 1 ≤ mr := by rw [hmr]; exact Xr.out.lt
    have hgwr : w.heap.size ≤ mr := by rw [hmr]; exact Br.out.size
    have HBFr := Lib.hid (show ∀ j, (.slice xf xl xc : Value).ownBlock = some j → j < mr from by rw [hmr]; exact Fr.out.blt)
    have HBDr := Lib.hid (show ∀ j, (.slice f2 m c2 : Value).ownBlock = some j → j < mr from by rw [hmr]; exact Dr.out.blt)
    have hsr : mr ≤ wr.heap.size := by omega
    clear hmr
    by_cases hltk : k < l
    · have ik0k : (0 : Int) ≤ (k : Int) := by omega
      have ik1k : (k : Int) < (l : Int) := by omega
      have ikwk : IntKind.i64.wrap ((k : Int) + 1) = (k : Int) + 1 := IntWalk.i64_in _ (by omega)
      obtain ⟨xe, hxe⟩ := rows_some HN.out hltk
      have HEX := Lib.hid (HEM.out k xe hxe)
      have HXE := Lib.hid hxe
      obtain ⟨be, oe, rfl, hre⟩ := HL.out k xe hxe
      have HRXE := Lib.hid (show RowAt w be (oe + k * 14) 14 #[.int .i64 xe.k, .int .i64 xe.vm, .int .i64 xe.sp, .bool xe.al, .int .i64 xe.pg, .int .i64 xe.lv, .int .i64 xe.fr, .int .i64 xe.mi, .bool xe.t.r, .bool xe.t.w, .bool xe.t.x, .bool xe.t.a, .bool xe.t.n, .int .i64 xe.t.s] from hre)
      have hbe : be < w.heap.size := hre.lt
      clear hre hxe
      have hxlk := HXL.out
      have Ac0 := Ar.out.get 0 (.slice (some ⟨be, oe, none⟩) l c) rfl
      have HGO := Lib.hid (show anyT xe (D2.take 0) = false from rfl)
      go_wp2
      clear Ac0
      go_loopw [8, 7] (fun i i0 wr => ∃ (j : Nat) (go : Bool), j ≤ md ∧ i = .int .i64 j ∧ i0 = .bool go ∧ Hid (BoxAt wr (g1) #[.slice (some ⟨be, oe, none⟩) l c, .slice g m d] 43) ∧ Hid (BoxAt wr (g1 + 1) #[.slice none 0 0, .slice none 0 0] 43) ∧ Hid (BoxAt wr (g3) #[.slice xf xl xc, .slice f2 m c2] 43) ∧ Hid (Below w.heap.size w wr) ∧ Hid (OwnR KE wr (w.heap.size) (.slice xf xl xc) ((keptE (fun e => anyT e D2) (E.take k)))) ∧ Hid (OwnR KI wr (w.heap.size) (.slice f2 m c2) (D)) ∧ Hid (anyT xe (D2.take j) = go)) (fun i _ _ => md - (intOf i).toNat)
      case atStart => exact ⟨0, false, by omega, rfl, rfl, Ar.out, Rr.out, Xr.out, Br.out, Fr.out, Dr.out, HGO⟩
      case round =>
        clear Ar Rr Xr Dr Fr Br HGO
        obtain ⟨j, go, hkj, rfl, rfl, As, Rs, Xs, Bs, Fs, Ds, HGO⟩ := hrel
        obtain ⟨ms, hms⟩ : ∃ ms, ms = wr.heap.size := ⟨_, rfl⟩
        have hgAs : g1 + 1 ≤ ms := by rw [hms]; exact As.out.lt
        have hgRs : g1 + 1 + 1 ≤ ms := by rw [hms]; exact Rs.out.lt
        have hgXs : g3 + 1 ≤ ms := by rw [hms]; exact Xs.out.lt
        have hgws : w.heap.size ≤ ms := by rw [hms]; exact Bs.out.size
        have HBFs := Lib.hid (show ∀ j, (.slice xf xl xc : Value).ownBlock = some j → j < ms from by rw [hms]; exact Fs.out.blt)
        have HBDs := Lib.hid (show ∀ j, (.slice f2 m c2 : Value).ownBlock = some j → j < ms from by rw [hms]; exact Ds.out.blt)
        have hss : ms ≤ wr.heap.size := by omega
        clear hms
        by_cases hltj : j < md
        · have ik0j : (0 : Int) ≤ (j : Int) := by omega
          have ik1j : (j : Int) < (md : Int) := by omega
          have ikwj : IntKind.i64.wrap ((j : Int) + 1) = (j : Int) + 1 := IntWalk.i64_in _ (by omega)
          obtain ⟨xi, hxi⟩ := rows_some HO.out hltj
          have HTK := Lib.hid (fun W => takes9_any xi xe (fun h => mayEn_lv HEX.out (of_decide_eq_true h)) (mayPl_pg (mayIn_pl (allV_mem HV.out j xi hxi))) W)
          have HST := Lib.hid (anyT_take (e := xe) hxi)
          obtain ⟨bi, oi, rfl, hri⟩ := HD2.out j xi hxi
          have HRXI := Lib.hid (show RowAt w bi (oi + j * 4) 4 #[.int .i64 xi.k, .int .i64 xi.vm, .int .i64 xi.sp, .int .i64 xi.pg] from hri)
          have hbi : bi < w.heap.size := hri.lt
          clear hri hxi
          obtain ⟨o3, ho3⟩ : ∃ o3, o3 = takeB xi xe := ⟨_, rfl⟩
          rw [← ho3] at HTK HST
          clear ho3
          unfold invV invC entV entC at HTK
          go_upto_region 9 with fail
          cases go
          · have HGN := Lib.hid (show anyT xe (D2.take (j + 1)) = o3 from by rw [HST.out, HGO.out]; rfl)
            clear HGO
            have HGO := HGN
            clear HGN
            refine wp_region_held_drew (S := (fun w' => RowAt w' (bi) (oi + j * 4) 4 #[.int .i64 xi.k, .int .i64 xi.vm, .int .i64 xi.sp, .int .i64 xi.pg] ∧ BoxAt w' (g1) #[.slice (some ⟨be, oe, none⟩) l c, .slice g m d] 43 ∧ RowAt w' (be) (oe + k * 14) 14 #[.int .i64 xe.k, .int .i64 xe.vm, .int .i64 xe.sp, .bool xe.al, .int .i64 xe.pg, .int .i64 xe.lv, .int .i64 xe.fr, .int .i64 xe.mi, .bool xe.t.r, .bool xe.t.w, .bool xe.t.x, .bool xe.t.a, .bool xe.t.n, .int .i64 xe.t.s])) (by kernel_rfl) ⟨(HRXI.out.below Bs.out).drew, As.out.drew, (HRXE.out.below Bs.out).drew⟩ (fun hS => ?_)
            refine tkR 0 26 (v := .bool false) rfl hS (fun _ _ => by kernel_rfl) ?_
            refine tkR 1 27 (v := .bool false) rfl hS (fun _ _ => by kernel_rfl) ?_
            try simp only [Act.put, List.setIfInBounds_toArray, List.set_cons_zero, List.set_cons_succ]
            refine wpAnyH_take (i := 2) (oi := ⟨some 28, _, _, _, _, _⟩) (v := ?_) rfl (by kernel_rfl) (by kernel_rfl) (by kernel_rfl) (fun _ _ _ h => h) (Or.inl ⟨by rfl, ?_⟩) hS ?_
            rotate_left
            · (intro w' hSw; clear hSw; go_simp; try with_reducible rfl)
            simp only [Act.put, List.setIfInBounds_toArray, List.set_cons_zero, List.set_cons_succ]
            try simp only [Act.put, List.setIfInBounds_toArray, List.set_cons_zero, List.set_cons_succ]
            refine wpAnyH_take (i := 3) (oi := ⟨some 29, _, _, _, _, _⟩) (v := ?_) rfl (by kernel_rfl) (by kernel_rfl) (by kernel_rfl) (fun _ _ _ h => h) (Or.inl ⟨by rfl, ?_⟩) hS ?_
            rotate_left
            · (intro w' hSw; clear hSw; go_simp; try with_reducible rfl)
            simp only [Act.put, List.setIfInBounds_toArray, List.set_cons_zero, List.set_cons_succ]
            try simp only [Act.put, List.setIfInBounds_toArray, List.set_cons_zero, List.set_cons_succ]
            refine wpAnyH_take (i := 4) (oi := ⟨some 30, _, _, _, _, _⟩) (v := ?_) rfl (by kernel_rfl) (by kernel_rfl) (by kernel_rfl) (fun _ _ _ h => h) (Or.inl ⟨by rfl, ?_⟩) hS ?_
            rotate_left
            · (intro w' hSw; clear hSw; go_simp; try with_reducible rfl)
            simp only [Act.put, List.setIfInBounds_toArray, List.set_cons_zero, List.set_cons_succ]
            try simp only [Act.put, List.setIfInBounds_toArray, List.set_cons_zero, List.set_cons_succ]
            refine wpAnyH_take (i := 5) (oi := ⟨some 31, _, _, _, _, _⟩) (v := ?_) rfl (by kernel_rfl) (by kernel_rfl) (by kernel_rfl) (fun _ _ _ h => h) (Or.inl ⟨by rfl, ?_⟩) hS ?_
            rotate_left
            · (intro w' hSw; have c0_0 := (hSw.1).get0 (.int .i64 xi.k) (by decide) rfl; have c0_1 := (hSw.1).get 1 (.int .i64 xi.vm) (by decide) rfl; have c0_2 := (hSw.1).get 2 (.int .i64 xi.sp) (by decide) rfl; have c0_3 := (hSw.1).get 3 (.int .i64 xi.pg) (by decide) rfl; clear hSw; go_simp; try with_reducible rfl)
            simp only [Act.put, List.setIfInBounds_toArray, List.set_cons_zero, List.set_cons_succ]
            try simp only [Act.put, List.setIfInBounds_toArray, List.set_cons_zero, List.set_cons_succ]
            refine wpAnyH_take (i := 6) (oi := ⟨some 32, _, _, _, _, _⟩) (v := ?_) rfl (by kernel_rfl) (by kernel_rfl) (by kernel_rfl) (fun _ _ _ h => h) (Or.inl ⟨by rfl, ?_⟩) hS ?_
            rotate_left
            · (intro w' hSw; clear hSw; go_simp; try with_reducible rfl)
            simp only [Act.put, List.setIfInBounds_toArray, List.set_cons_zero, List.set_cons_succ]
            try simp only [Act.put, List.setIfInBounds_toArray, List.set_cons_zero, List.set_cons_succ]
            refine wpAnyH_take (i := 7) (oi := ⟨some 33, _, _, _, _, _⟩) (v := ?_) rfl (by kernel_rfl) (by kernel_rfl) (by kernel_rfl) (fun _ _ _ h => h) (Or.inl ⟨by rfl, ?_⟩) hS ?_
            rotate_left
            · (intro w' hSw; have c1_0 := (hSw.2.1).get 0 (.slice (some ⟨be, oe, none⟩) l c) rfl; clear hSw; go_simp; try with_reducible rfl)
            simp only [Act.put, List.setIfInBounds_toArray, List.set_cons_zero, List.set_cons_succ]
            try simp only [Act.put, List.setIfInBounds_toArray, List.set_cons_zero, List.set_cons_succ]
            refine wpAnyH_take (i := 8) (oi := ⟨some 34, _, _, _, _, _⟩) (v := ?_) rfl (by kernel_rfl) (by kernel_rfl) (by kernel_rfl) (fun _ _ _ h => h) (Or.inl ⟨by rfl, ?_⟩) hS ?_
            rotate_left
            · (intro w' hSw; clear hSw; go_simp; try with_reducible rfl)
            simp only [Act.put, List.setIfInBounds_toArray, List.set_cons_zero, List.set_cons_succ]
            try simp only [Act.put, List.setIfInBounds_toArray, List.set_cons_zero, List.set_cons_succ]
            refine wpAnyH_take (i := 9) (oi := ⟨some 35, _, _, _, _, _⟩) (v := ?_) rfl (by kernel_rfl) (by kernel_rfl) (by kernel_rfl) (fun _ _ _ h => h) (Or.inl ⟨by rfl, ?_⟩) hS ?_
            rotate_left
            · (intro w' hSw; clear hSw; go_simp; try with_reducible rfl)
            simp only [Act.put, List.setIfInBounds_toArray, List.set_cons_zero, List.set_cons_succ]
            try simp only [Act.put, List.setIfInBounds_toArray, List.set_cons_zero, List.set_cons_succ]
            refine wpAnyH_take (i := 10) (oi := ⟨some 36, _, _, _, _, _⟩) (v := ?_) rfl (by kernel_rfl) (by kernel_rfl) (by kernel_rfl) (fun _ _ _ h => h) (Or.inl ⟨by rfl, ?_⟩) hS ?_
            rotate_left
            · (intro w' hSw; have c2_0 := (hSw.2.2).get0 (.int .i64 xe.k) (by decide) rfl; have c2_1 := (hSw.2.2).get 1 (.int .i64 xe.vm) (by decide) rfl; have c2_2 := (hSw.2.2).get 2 (.int .i64 xe.sp) (by decide) rfl; have c2_3 := (hSw.2.2).get 3 (.bool xe.al) (by decide) rfl; have c2_4 := (hSw.2.2).get 4 (.int .i64 xe.pg) (by decide) rfl; have c2_5 := (hSw.2.2).get 5 (.int .i64 xe.lv) (by decide) rfl; have c2_6 := (hSw.2.2).get 6 (.int .i64 xe.fr) (by decide) rfl; have c2_7 := (hSw.2.2).get 7 (.int .i64 xe.mi) (by decide) rfl; have c2_8 := (hSw.2.2).get 8 (.bool xe.t.r) (by decide) rfl; have c2_9 := (hSw.2.2).get 9 (.bool xe.t.w) (by decide) rfl; have c2_10 := (hSw.2.2).get 10 (.bool xe.t.x) (by decide) rfl; have c2_11 := (hSw.2.2).get 11 (.bool xe.t.a) (by decide) rfl; have c2_12 := (hSw.2.2).get 12 (.bool xe.t.n) (by decide) rfl; have c2_13 := (hSw.2.2).get 13 (.int .i64 xe.t.s) (by decide) rfl; clear hSw; go_simp; try with_reducible rfl)
            simp only [Act.put, List.setIfInBounds_toArray, List.set_cons_zero, List.set_cons_succ]
            try simp only [Act.put, List.setIfInBounds_toArray, List.set_cons_zero, List.set_cons_succ]
            refine wpAnyH_ready (rs := [11]) (by kernel_rfl) (by simp) ?_
            refine AllReadyH.cons (o := ⟨some 37, _, _, _, _, _⟩) rfl (fun K hK => ?_) AllReadyH.nil
            go_simp
            refine (HTK.out _).mono ?_
            rintro e w4 ⟨rfl, hb4⟩
            have hz4 := hb4.size
            try simp at hz4
            refine hK.out _ _ ?_ (fun hS' => ?_)
            · exact ⟨hS.1.below hb4, hS.2.1.below hb4, hS.2.2.below hb4⟩
            clear hK K hS
            have hS := hS'
            clear hS'
            try simp only [Act.put, List.setIfInBounds_toArray, List.set_cons_zero, List.set_cons_succ]
            try simp only [Act.put, List.setIfInBounds_toArray, List.set_cons_zero, List.set_cons_succ]
            refine wpAnyH_take (i := 12) (oi := ⟨some 38, _, _, _, _, _⟩) (v := ?_) rfl (by kernel_rfl) (by kernel_rfl) (by kernel_rfl) (fun _ _ _ h => h) (Or.inl ⟨by rfl, ?_⟩) hS ?_
            rotate_left
            · (intro w' hSw; clear hSw; go_simp; try with_reducible rfl)
            simp only [Act.put, List.setIfInBounds_toArray, List.set_cons_zero, List.set_cons_succ]
            refine tkR 13 7 (v := .bool o3) rfl hS (fun _ _ => by kernel_rfl) ?_
            refine wpAnyH_done (by kernel_rfl) ?_ _
            try simp only [Act.put, List.setIfInBounds_toArray, List.set_cons_zero, List.set_cons_succ]
            have A5 := Lib.hid (((As.out.drew).below hb4))
            have R5 := Lib.hid (((Rs.out.drew).below hb4))
            have X5 := Lib.hid (((Xs.out.drew).below hb4))
            have D5 := Lib.hid (((Ds.out.drew).below hb4))
            have F5 := Lib.hid (((Fs.out.drew).below hb4))
            have B5 := Lib.hid ((bel_trans (Below.drew Bs.out) hb4))
            obtain ⟨W5, hW5⟩ : ∃ W5, W5 = w4 := ⟨_, rfl⟩
            have hs5 : ms ≤ W5.heap.size := by rw [hW5]; first | exact hss | omega | (simp; omega)
            rw [← hW5] at A5 R5 X5 D5 F5 B5 ⊢
            clear hW5 As Rs Xs Ds Fs Bs hss
            go_wp2
            go_roundw
            case rel => exact ⟨j + 1, o3, by omega, by go_num, rfl, A5.out, R5.out, X5.out, B5.out, F5.out, D5.out, HGO⟩
            case measure => simp [intOf]; omega
          · have HGN := Lib.hid (show anyT xe (D2.take (j + 1)) = true from by rw [HST.out, HGO.out]; rfl)
            clear HGO
            have HGO := HGN
            clear HGN
            refine wp_region_held_drew (S := (fun w' => True)) (by kernel_rfl) trivial (fun hS => ?_)
            refine tkR 0 26 (v := .bool true) rfl hS (fun _ _ => by kernel_rfl) ?_
            refine tkR 1 27 (v := .bool true) rfl hS (fun _ _ => by kernel_rfl) ?_
            refine wpAnyH_take (i := 2) (oi := ⟨some 28, _, _, _, _, _⟩) (v := undef) rfl (by kernel_rfl) (by kernel_rfl) (by kernel_rfl) (fun _ _ _ h => h) (Or.inr ⟨by rfl, rfl⟩) hS ?_
            simp only [Act.put, List.setIfInBounds_toArray, List.set_cons_zero, List.set_cons_succ]
            refine wpAnyH_take (i := 3) (oi := ⟨some 29, _, _, _, _, _⟩) (v := undef) rfl (by kernel_rfl) (by kernel_rfl) (by kernel_rfl) (fun _ _ _ h => h) (Or.inr ⟨by rfl, rfl⟩) hS ?_
            simp only [Act.put, List.setIfInBounds_toArray, List.set_cons_zero, List.set_cons_succ]
            refine wpAnyH_take (i := 4) (oi := ⟨some 30, _, _, _, _, _⟩) (v := undef) rfl (by kernel_rfl) (by kernel_rfl) (by kernel_rfl) (fun _ _ _ h => h) (Or.inr ⟨by rfl, rfl⟩) hS ?_
            simp only [Act.put, List.setIfInBounds_toArray, List.set_cons_zero, List.set_cons_succ]
            refine wpAnyH_take (i := 5) (oi := ⟨some 31, _, _, _, _, _⟩) (v := undef) rfl (by kernel_rfl) (by kernel_rfl) (by kernel_rfl) (fun _ _ _ h => h) (Or.inr ⟨by rfl, rfl⟩) hS ?_
            simp only [Act.put, List.setIfInBounds_toArray, List.set_cons_zero, List.set_cons_succ]
            refine wpAnyH_take (i := 6) (oi := ⟨some 32, _, _, _, _, _⟩) (v := undef) rfl (by kernel_rfl) (by kernel_rfl) (by kernel_rfl) (fun _ _ _ h => h) (Or.inr ⟨by rfl, rfl⟩) hS ?_
            simp only [Act.put, List.setIfInBounds_toArray, List.set_cons_zero, List.set_cons_succ]
            refine wpAnyH_take (i := 7) (oi := ⟨some 33, _, _, _, _, _⟩) (v := undef) rfl (by kernel_rfl) (by kernel_rfl) (by kernel_rfl) (fun _ _ _ h => h) (Or.inr ⟨by rfl, rfl⟩) hS ?_
            simp only [Act.put, List.setIfInBounds_toArray, List.set_cons_zero, List.set_cons_succ]
            refine wpAnyH_take (i := 8) (oi := ⟨some 34, _, _, _, _, _⟩) (v := undef) rfl (by kernel_rfl) (by kernel_rfl) (by kernel_rfl) (fun _ _ _ h => h) (Or.inr ⟨by rfl, rfl⟩) hS ?_
            simp only [Act.put, List.setIfInBounds_toArray, List.set_cons_zero, List.set_cons_succ]
            refine wpAnyH_take (i := 9) (oi := ⟨some 35, _, _, _, _, _⟩) (v := undef) rfl (by kernel_rfl) (by kernel_rfl) (by kernel_rfl) (fun _ _ _ h => h) (Or.inr ⟨by rfl, rfl⟩) hS ?_
            simp only [Act.put, List.setIfInBounds_toArray, List.set_cons_zero, List.set_cons_succ]
            refine wpAnyH_take (i := 10) (oi := ⟨some 36, _, _, _, _, _⟩) (v := undef) rfl (by kernel_rfl) (by kernel_rfl) (by kernel_rfl) (fun _ _ _ h => h) (Or.inr ⟨by rfl, rfl⟩) hS ?_
            simp only [Act.put, List.setIfInBounds_toArray, List.set_cons_zero, List.set_cons_succ]
            refine wpAnyH_take (i := 11) (oi := ⟨some 37, _, _, _, _, _⟩) (v := undef) rfl (by kernel_rfl) (by kernel_rfl) (by kernel_rfl) (fun _ _ _ h => h) (Or.inr ⟨by rfl, rfl⟩) hS ?_
            simp only [Act.put, List.setIfInBounds_toArray, List.set_cons_zero, List.set_cons_succ]
            try simp only [Act.put, List.setIfInBounds_toArray, List.set_cons_zero, List.set_cons_succ]
            refine wpAnyH_take (i := 12) (oi := ⟨some 38, _, _, _, _, _⟩) (v := ?_) rfl (by kernel_rfl) (by kernel_rfl) (by kernel_rfl) (fun _ _ _ h => h) (Or.inl ⟨by rfl, ?_⟩) hS ?_
            rotate_left
            · (intro w' hSw; clear hSw; go_simp; try with_reducible rfl)
            simp only [Act.put, List.setIfInBounds_toArray, List.set_cons_zero, List.set_cons_succ]
            refine tkR 13 7 (v := .bool true) rfl hS (fun _ _ => by kernel_rfl) ?_
            refine wpAnyH_done (by kernel_rfl) ?_ _
            try simp only [Act.put, List.setIfInBounds_toArray, List.set_cons_zero, List.set_cons_succ]
            have A4 := Lib.hid ((As.out.drew))
            have R4 := Lib.hid ((Rs.out.drew))
            have X4 := Lib.hid ((Xs.out.drew))
            have D4 := Lib.hid ((Ds.out.drew))
            have F4 := Lib.hid ((Fs.out.drew))
            have B4 := Lib.hid ((Below.drew Bs.out))
            obtain ⟨W4, hW4⟩ : ∃ W4, W4 = (wr).drew := ⟨_, rfl⟩
            have hs4 : ms ≤ W4.heap.size := by rw [hW4]; first | exact hss | omega | (simp; omega)
            rw [← hW4] at A4 R4 X4 D4 F4 B4 ⊢
            clear hW4 As Rs Xs Ds Fs Bs hss
            go_wp2
            go_roundw
            case rel => exact ⟨j + 1, true, by omega, by go_num, rfl, A4.out, R4.out, X4.out, B4.out, F4.out, D4.out, HGO⟩
            case measure => simp [intOf]; omega
        · have e1 : D2.take j = D2 := List.take_of_length_le (by have := HO.out; omega)
          have HG2 := Lib.hid (show anyT xe D2 = go from by have := HGO.out; rwa [e1] at this)
          clear e1
          cases go
          · have HFN := Lib.hid (kept_yes (p := fun e => anyT e D2) HXE.out HG2.out)
            go_upto_region 11 with fail
            refine wp_region_tail [10] (fun _ => True) (fun w' => BoxAt w' (g3) #[.slice xf xl xc, .slice f2 m c2] 43 ∧ BoxAt w' (g1) #[.slice (some ⟨be, oe, none⟩) l c, .slice g m d] 43 ∧ RowAt w' (be) (oe + k * 14) 14 #[.int .i64 xe.k, .int .i64 xe.vm, .int .i64 xe.sp, .bool xe.al, .int .i64 xe.pg, .int .i64 xe.lv, .int .i64 xe.fr, .int .i64 xe.mi, .bool xe.t.r, .bool xe.t.w, .bool xe.t.x, .bool xe.t.a, .bool xe.t.n, .int .i64 xe.t.s]) (by kernel_rfl) ?_
            have hS : (fun w' => BoxAt w' (g3) #[.slice xf xl xc, .slice f2 m c2] 43 ∧ BoxAt w' (g1) #[.slice (some ⟨be, oe, none⟩) l c, .slice g m d] 43 ∧ RowAt w' (be) (oe + k * 14) 14 #[.int .i64 xe.k, .int .i64 xe.vm, .int .i64 xe.sp, .bool xe.al, .int .i64 xe.pg, .int .i64 xe.lv, .int .i64 xe.fr, .int .i64 xe.mi, .bool xe.t.r, .bool xe.t.w, .bool xe.t.x, .bool xe.t.a, .bool xe.t.n, .int .i64 xe.t.s]) wr.drew := ⟨Xs.out.drew, As.out.drew, (HRXE.out.below Bs.out).drew⟩
            skip
            have A4 := Lib.hid ((As.out.drew))
            have R4 := Lib.hid ((Rs.out.drew))
            have X4 := Lib.hid ((Xs.out.drew))
            have D4 := Lib.hid ((Ds.out.drew))
            have F4 := Lib.hid ((Fs.out.drew))
            have B4 := Lib.hid ((Below.drew Bs.out))
            obtain ⟨W4, hW4⟩ : ∃ W4, W4 = (wr).drew := ⟨_, rfl⟩
            have hs4 : ms ≤ W4.heap.size := by rw [hW4]; first | exact hss | omega | (simp; omega)
            rw [← hW4] at A4 R4 X4 D4 F4 B4 hS ⊢
            clear hW4 As Rs Xs Ds Fs Bs hss
            refine tail_read 0 (oi := ⟨some 41, _, _, _, _, _⟩) (v := ?_) rfl (by kernel_rfl) (by kernel_rfl) (by kernel_rfl) (by kernel_rfl) (fun _ _ _ h => h) ⟨trivial, hS⟩ (Or.inl ⟨by rfl, ?_⟩) ?_
            rotate_left
            · (intro w' hSw; clear hSw; go_simp; try with_reducible rfl)
            simp only [Act.put, List.setIfInBounds_toArray, List.set_cons_zero, List.set_cons_succ]
            refine tail_chain 1 [8, 9, 10] (oi := ⟨some 42, _, _, _, _, _⟩) (v := ?_) rfl (by kernel_rfl) (by kernel_rfl) (by kernel_rfl) (by kernel_rfl) (fun _ _ _ h => h) ⟨trivial, hS⟩ (Or.inl ⟨by rfl, ?_⟩) ?_
            rotate_left
            · (intro w' hSw; have c0_0 := (hSw.1).get 0 (.slice xf xl xc) rfl; clear hSw; go_simp; try with_reducible rfl)
            simp only [Act.put, List.setIfInBounds_toArray, List.set_cons_zero, List.set_cons_succ]
            refine tail_read 2 (oi := ⟨some 43, _, _, _, _, _⟩) (v := ?_) rfl (by kernel_rfl) (by kernel_rfl) (by kernel_rfl) (by kernel_rfl) (fun _ _ _ h => h) ⟨trivial, hS⟩ (Or.inl ⟨by rfl, ?_⟩) ?_
            rotate_left
            · (intro w' hSw; clear hSw; go_simp; try with_reducible rfl)
            simp only [Act.put, List.setIfInBounds_toArray, List.set_cons_zero, List.set_cons_succ]
            refine tail_chain 3 [5, 6, 7, 8, 9, 10] (oi := ⟨some 44, _, _, _, _, _⟩) (v := ?_) rfl (by kernel_rfl) (by kernel_rfl) (by kernel_rfl) (by kernel_rfl) (fun _ _ _ h => h) ⟨trivial, hS⟩ (Or.inl ⟨by rfl, ?_⟩) ?_
            rotate_left
            · (intro w' hSw; have c1_0 := (hSw.2.1).get 0 (.slice (some ⟨be, oe, none⟩) l c) rfl; clear hSw; go_simp; try with_reducible rfl)
            simp only [Act.put, List.setIfInBounds_toArray, List.set_cons_zero, List.set_cons_succ]
            refine tail_read 4 (oi := ⟨some 45, _, _, _, _, _⟩) (v := ?_) rfl (by kernel_rfl) (by kernel_rfl) (by kernel_rfl) (by kernel_rfl) (fun _ _ _ h => h) ⟨trivial, hS⟩ (Or.inl ⟨by rfl, ?_⟩) ?_
            rotate_left
            · (intro w' hSw; clear hSw; go_simp; try with_reducible rfl)
            simp only [Act.put, List.setIfInBounds_toArray, List.set_cons_zero, List.set_cons_succ]
            refine tail_read 5 (oi := ⟨some 46, _, _, _, _, _⟩) (v := ?_) rfl (by kernel_rfl) (by kernel_rfl) (by kernel_rfl) (by kernel_rfl) (fun _ _ _ h => h) ⟨trivial, hS⟩ (Or.inl ⟨by rfl, ?_⟩) ?_
            rotate_left
            · (intro w' hSw; clear hSw; go_simp; try with_reducible rfl)
            simp only [Act.put, List.setIfInBounds_toArray, List.set_cons_zero, List.set_cons_succ]
            refine tail_chain 6 [7, 8, 9, 10] (oi := ⟨some 47, _, _, _, _, _⟩) (v := ?_) rfl (by kernel_rfl) (by kernel_rfl) (by kernel_rfl) (by kernel_rfl) (fun _ _ _ h => h) ⟨trivial, hS⟩ (Or.inl ⟨by rfl, ?_⟩) ?_
            rotate_left
            · (intro w' hSw; have c2_0 := (hSw.2.2).get0 (.int .i64 xe.k) (by decide) rfl; have c2_1 := (hSw.2.2).get 1 (.int .i64 xe.vm) (by decide) rfl; have c2_2 := (hSw.2.2).get 2 (.int .i64 xe.sp) (by decide) rfl; have c2_3 := (hSw.2.2).get 3 (.bool xe.al) (by decide) rfl; have c2_4 := (hSw.2.2).get 4 (.int .i64 xe.pg) (by decide) rfl; have c2_5 := (hSw.2.2).get 5 (.int .i64 xe.lv) (by decide) rfl; have c2_6 := (hSw.2.2).get 6 (.int .i64 xe.fr) (by decide) rfl; have c2_7 := (hSw.2.2).get 7 (.int .i64 xe.mi) (by decide) rfl; have c2_8 := (hSw.2.2).get 8 (.bool xe.t.r) (by decide) rfl; have c2_9 := (hSw.2.2).get 9 (.bool xe.t.w) (by decide) rfl; have c2_10 := (hSw.2.2).get 10 (.bool xe.t.x) (by decide) rfl; have c2_11 := (hSw.2.2).get 11 (.bool xe.t.a) (by decide) rfl; have c2_12 := (hSw.2.2).get 12 (.bool xe.t.n) (by decide) rfl; have c2_13 := (hSw.2.2).get 13 (.int .i64 xe.t.s) (by decide) rfl; clear hSw; go_simp; try with_reducible rfl)
            simp only [Act.put, List.setIfInBounds_toArray, List.set_cons_zero, List.set_cons_succ]
            refine tail_one 7 (o := ⟨some 48, _, _, _, _, _⟩) (by kernel_rfl) rfl (fun K hK => ?_)
            go_simp
            refine hK.out _ _ ?_ (fun hS' => ?_)
            · exact ⟨trivial, ⟨hS.1.alloc _, hS.2.1.alloc _, hS.2.2.alloc _⟩⟩
            clear hK K hS
            have hS := hS'.2
            clear hS'
            try simp only [Act.put, List.setIfInBounds_toArray, List.set_cons_zero, List.set_cons_succ]
            refine tail_one 8 (o := ⟨some 49, _, _, _, _, _⟩) (by kernel_rfl) rfl (fun K hK => ?_)
            refine step_rowRl (K := KE) rfl _ _ rfl w.heap.size xl 1 _ (keptE (fun e => anyT e D2) (E.take k)) [xe] rfl (F4.out.alloc (.cells #[.int .i64 xe.k, .int .i64 xe.vm, .int .i64 xe.sp, .bool xe.al, .int .i64 xe.pg, .int .i64 xe.lv, .int .i64 xe.fr, .int .i64 xe.mi, .bool xe.t.r, .bool xe.t.w, .bool xe.t.x, .bool xe.t.a, .bool xe.t.n, .int .i64 xe.t.s] 36)) (((F4.out.alloc (.cells #[.int .i64 xe.k, .int .i64 xe.vm, .int .i64 xe.sp, .bool xe.al, .int .i64 xe.pg, .int .i64 xe.lv, .int .i64 xe.fr, .int .i64 xe.mi, .bool xe.t.r, .bool xe.t.w, .bool xe.t.x, .bool xe.t.a, .bool xe.t.n, .int .i64 xe.t.s] 36))).rows.1) (some ⟨W4.heap.size, 0, none⟩) 1 rfl rfl (RowsAt.one (K := KE) (q := xe) ((BoxAt.newAt (W4) #[.int .i64 xe.k, .int .i64 xe.vm, .int .i64 xe.sp, .bool xe.al, .int .i64 xe.pg, .int .i64 xe.lv, .int .i64 xe.fr, .int .i64 xe.mi, .bool xe.t.r, .bool xe.t.w, .bool xe.t.x, .bool xe.t.a, .bool xe.t.n, .int .i64 xe.t.s] 36 (W4.heap.size) (by first | omega | (simp; done) | (simp; omega))))) (fun h => by cases h) (by omega) (by first | omega | (simp; omega)) ?_
            intro f5a c5a w5 hO5 hg5
            have hz5 := hg5.size
            try simp at hz5
            have hSn : (fun w' => BoxAt w' (g3) #[.slice xf xl xc, .slice f2 m c2] 43 ∧ BoxAt w' (g1) #[.slice (some ⟨be, oe, none⟩) l c, .slice g m d] 43 ∧ RowAt w' (be) (oe + k * 14) 14 #[.int .i64 xe.k, .int .i64 xe.vm, .int .i64 xe.sp, .bool xe.al, .int .i64 xe.pg, .int .i64 xe.lv, .int .i64 xe.fr, .int .i64 xe.mi, .bool xe.t.r, .bool xe.t.w, .bool xe.t.x, .bool xe.t.a, .bool xe.t.n, .int .i64 xe.t.s]) w5 := ⟨hS.1.grown hg5 ((F4.out.alloc (.cells #[.int .i64 xe.k, .int .i64 xe.vm, .int .i64 xe.sp, .bool xe.al, .int .i64 xe.pg, .int .i64 xe.lv, .int .i64 xe.fr, .int .i64 xe.mi, .bool xe.t.r, .bool xe.t.w, .bool xe.t.x, .bool xe.t.a, .bool xe.t.n, .int .i64 xe.t.s] 36)).ne_box (X4.out.alloc (.cells #[.int .i64 xe.k, .int .i64 xe.vm, .int .i64 xe.sp, .bool xe.al, .int .i64 xe.pg, .int .i64 xe.lv, .int .i64 xe.fr, .int .i64 xe.mi, .bool xe.t.r, .bool xe.t.w, .bool xe.t.x, .bool xe.t.a, .bool xe.t.n, .int .i64 xe.t.s] 36)) (by decide)), hS.2.1.grown hg5 ((F4.out.alloc (.cells #[.int .i64 xe.k, .int .i64 xe.vm, .int .i64 xe.sp, .bool xe.al, .int .i64 xe.pg, .int .i64 xe.lv, .int .i64 xe.fr, .int .i64 xe.mi, .bool xe.t.r, .bool xe.t.w, .bool xe.t.x, .bool xe.t.a, .bool xe.t.n, .int .i64 xe.t.s] 36)).ne_box (A4.out.alloc (.cells #[.int .i64 xe.k, .int .i64 xe.vm, .int .i64 xe.sp, .bool xe.al, .int .i64 xe.pg, .int .i64 xe.lv, .int .i64 xe.fr, .int .i64 xe.mi, .bool xe.t.r, .bool xe.t.w, .bool xe.t.x, .bool xe.t.a, .bool xe.t.n, .int .i64 xe.t.s] 36)) (by decide)), hS.2.2.grownR hg5 (fun he => absurd ((F4.out.alloc (.cells #[.int .i64 xe.k, .int .i64 xe.vm, .int .i64 xe.sp, .bool xe.al, .int .i64 xe.pg, .int .i64 xe.lv, .int .i64 xe.fr, .int .i64 xe.mi, .bool xe.t.r, .bool xe.t.w, .bool xe.t.x, .bool xe.t.a, .bool xe.t.n, .int .i64 xe.t.s] 36)).blk _ he.symm) (by omega))⟩
            have A5 := Lib.hid ((A4.out.alloc (.cells #[.int .i64 xe.k, .int .i64 xe.vm, .int .i64 xe.sp, .bool xe.al, .int .i64 xe.pg, .int .i64 xe.lv, .int .i64 xe.fr, .int .i64 xe.mi, .bool xe.t.r, .bool xe.t.w, .bool xe.t.x, .bool xe.t.a, .bool xe.t.n, .int .i64 xe.t.s] 36)).grown hg5 ((F4.out.alloc (.cells #[.int .i64 xe.k, .int .i64 xe.vm, .int .i64 xe.sp, .bool xe.al, .int .i64 xe.pg, .int .i64 xe.lv, .int .i64 xe.fr, .int .i64 xe.mi, .bool xe.t.r, .bool xe.t.w, .bool xe.t.x, .bool xe.t.a, .bool xe.t.n, .int .i64 xe.t.s] 36)).ne_box (A4.out.alloc (.cells #[.int .i64 xe.k, .int .i64 xe.vm, .int .i64 xe.sp, .bool xe.al, .int .i64 xe.pg, .int .i64 xe.lv, .int .i64 xe.fr, .int .i64 xe.mi, .bool xe.t.r, .bool xe.t.w, .bool xe.t.x, .bool xe.t.a, .bool xe.t.n, .int .i64 xe.t.s] 36)) (by decide)))
            have R5 := Lib.hid ((R4.out.alloc (.cells #[.int .i64 xe.k, .int .i64 xe.vm, .int .i64 xe.sp, .bool xe.al, .int .i64 xe.pg, .int .i64 xe.lv, .int .i64 xe.fr, .int .i64 xe.mi, .bool xe.t.r, .bool xe.t.w, .bool xe.t.x, .bool xe.t.a, .bool xe.t.n, .int .i64 xe.t.s] 36)).grown hg5 ((F4.out.alloc (.cells #[.int .i64 xe.k, .int .i64 xe.vm, .int .i64 xe.sp, .bool xe.al, .int .i64 xe.pg, .int .i64 xe.lv, .int .i64 xe.fr, .int .i64 xe.mi, .bool xe.t.r, .bool xe.t.w, .bool xe.t.x, .bool xe.t.a, .bool xe.t.n, .int .i64 xe.t.s] 36)).ne_box (R4.out.alloc (.cells #[.int .i64 xe.k, .int .i64 xe.vm, .int .i64 xe.sp, .bool xe.al, .int .i64 xe.pg, .int .i64 xe.lv, .int .i64 xe.fr, .int .i64 xe.mi, .bool xe.t.r, .bool xe.t.w, .bool xe.t.x, .bool xe.t.a, .bool xe.t.n, .int .i64 xe.t.s] 36)) (by decide)))
            have X5 := Lib.hid ((X4.out.alloc (.cells #[.int .i64 xe.k, .int .i64 xe.vm, .int .i64 xe.sp, .bool xe.al, .int .i64 xe.pg, .int .i64 xe.lv, .int .i64 xe.fr, .int .i64 xe.mi, .bool xe.t.r, .bool xe.t.w, .bool xe.t.x, .bool xe.t.a, .bool xe.t.n, .int .i64 xe.t.s] 36)).grown hg5 ((F4.out.alloc (.cells #[.int .i64 xe.k, .int .i64 xe.vm, .int .i64 xe.sp, .bool xe.al, .int .i64 xe.pg, .int .i64 xe.lv, .int .i64 xe.fr, .int .i64 xe.mi, .bool xe.t.r, .bool xe.t.w, .bool xe.t.x, .bool xe.t.a, .bool xe.t.n, .int .i64 xe.t.s] 36)).ne_box (X4.out.alloc (.cells #[.int .i64 xe.k, .int .i64 xe.vm, .int .i64 xe.sp, .bool xe.al, .int .i64 xe.pg, .int .i64 xe.lv, .int .i64 xe.fr, .int .i64 xe.mi, .bool xe.t.r, .bool xe.t.w, .bool xe.t.x, .bool xe.t.a, .bool xe.t.n, .int .i64 xe.t.s] 36)) (by decide)))
            have D5o := Lib.hid ((D4.out.alloc (.cells #[.int .i64 xe.k, .int .i64 xe.vm, .int .i64 xe.sp, .bool xe.al, .int .i64 xe.pg, .int .i64 xe.lv, .int .i64 xe.fr, .int .i64 xe.mi, .bool xe.t.r, .bool xe.t.w, .bool xe.t.x, .bool xe.t.a, .bool xe.t.n, .int .i64 xe.t.s] 36)).grownO (F4.out.alloc (.cells #[.int .i64 xe.k, .int .i64 xe.vm, .int .i64 xe.sp, .bool xe.al, .int .i64 xe.pg, .int .i64 xe.lv, .int .i64 xe.fr, .int .i64 xe.mi, .bool xe.t.r, .bool xe.t.w, .bool xe.t.x, .bool xe.t.a, .bool xe.t.n, .int .i64 xe.t.s] 36)) (by decide) hg5)
            have F5 := Lib.hid (hO5)
            have B5 := Lib.hid ((bel_alloc B4.out (.cells #[.int .i64 xe.k, .int .i64 xe.vm, .int .i64 xe.sp, .bool xe.al, .int .i64 xe.pg, .int .i64 xe.lv, .int .i64 xe.fr, .int .i64 xe.mi, .bool xe.t.r, .bool xe.t.w, .bool xe.t.x, .bool xe.t.a, .bool xe.t.n, .int .i64 xe.t.s] 36)).grown hg5 (show w.heap.size ≤ _ by first | omega | (simp; omega)) (fun k hk => Nat.le_trans (show w.heap.size ≤ w.heap.size by omega) ((F4.out.alloc (.cells #[.int .i64 xe.k, .int .i64 xe.vm, .int .i64 xe.sp, .bool xe.al, .int .i64 xe.pg, .int .i64 xe.lv, .int .i64 xe.fr, .int .i64 xe.mi, .bool xe.t.r, .bool xe.t.w, .bool xe.t.x, .bool xe.t.a, .bool xe.t.n, .int .i64 xe.t.s] 36)).blk k hk)))
            obtain ⟨g5, hgg5⟩ : ∃ g5, g5 = W4.heap.size := ⟨_, rfl⟩
            have hs5 : g5 + 1 ≤ w5.heap.size := by omega
            have hb5 : ms ≤ g5 := by omega
            try rw [← hgg5]
            clear hgg5
            clear A4 R4 X4 D4 F4 B4 hg5 hO5 hz5 hs4
            refine hK.out _ _ ?_ (fun hS' => ?_)
            · exact ⟨trivial, hSn⟩
            clear hK K hS hSn
            have hS := hS'.2
            clear hS'
            try simp only [Act.put, List.setIfInBounds_toArray, List.set_cons_zero, List.set_cons_succ]
            refine tail_read 9 (oi := ⟨some 50, _, _, _, _, _⟩) (v := ?_) rfl (by kernel_rfl) (by kernel_rfl) (by kernel_rfl) (by kernel_rfl) (fun _ _ _ h => h) ⟨trivial, hS⟩ (Or.inl ⟨by rfl, ?_⟩) ?_
            rotate_left
            · (intro w' hSw; clear hSw; go_simp; try with_reducible rfl)
            simp only [Act.put, List.setIfInBounds_toArray, List.set_cons_zero, List.set_cons_succ]
            refine tail_last 10 (o := ⟨none, _, _, _, _, _⟩) (by decide) (by kernel_rfl) rfl (fun K hK => ?_)
            have zs0 := X5.out.free 0
            have cs0 := X5.out.get 0 (.slice xf xl xc) rfl
            go_simp
            clear zs0 cs0
            refine hK.out _ _ trivial ?_
            clear hK K
            try simp only [Act.put, List.setIfInBounds_toArray, List.set_cons_zero, List.set_cons_succ]
            refine tail_done (by kernel_rfl) ?_
            clear hS
            have A6 := Lib.hid ((A5.out.other ⟨g3, 0, none⟩ (.slice f5a (xl + 1) c5a) (show g1 ≠ g3 by omega)))
            have R6 := Lib.hid ((R5.out.other ⟨g3, 0, none⟩ (.slice f5a (xl + 1) c5a) (show g1 + 1 ≠ g3 by omega)))
            have X6 := Lib.hid ((X5.out.set 0 (.slice f5a (xl + 1) c5a) #[.slice f5a (xl + 1) c5a, .slice f2 m c2] rfl))
            have D6 := Lib.hid ((D5o.out.otherN ⟨g3, 0, none⟩ (.slice f5a (xl + 1) c5a) (D5o.out.ne_box X5.out (by decide))))
            have F6 := Lib.hid ((F5.out.otherN ⟨g3, 0, none⟩ (.slice f5a (xl + 1) c5a) (F5.out.ne_box X5.out (by decide))))
            have B6 := Lib.hid ((Below.setCell B5.out (p := ⟨g3, 0, none⟩) (show w.heap.size ≤ g3 by omega) (.slice f5a (xl + 1) c5a)))
            obtain ⟨W6, hW6⟩ : ∃ W6, W6 = (w5).setCell ⟨g3, 0, none⟩ (.slice f5a (xl + 1) c5a) := ⟨_, rfl⟩
            have hs6 : g5 + 1 ≤ W6.heap.size := by rw [hW6]; first | (simp [World.setCell]; omega) | (simp [World.setCell, World.setRow]; omega) | exact hs5
            rw [← hW6] at A6 R6 X6 D6 F6 B6 ⊢
            clear hW6 A5 R5 X5 D5o F5 B5 hs5
            go_wp2
            have FN := Lib.hid (show OwnR KE _ w.heap.size (.slice f5a (xl + 1) c5a) (keptE (fun e => anyT e D2) (E.take (k + 1))) from by rw [HFN.out]; exact F6.out)
            clear HXL
            have HXL := Lib.hid (show (xl + 1) ≤ k + 1 from by omega)
            go_roundw
            case rel => exact ⟨k + 1, f5a, (xl + 1), c5a, by omega, by go_num, A6.out, R6.out, X6.out, B6.out, FN.out, D6.out, HXL⟩
            case measure => simp [intOf]; omega
          · have HFN := Lib.hid (kept_no (p := fun e => anyT e D2) HXE.out HG2.out)
            go_wp2
            have FN := Lib.hid (show OwnR KE _ w.heap.size (.slice xf xl xc) (keptE (fun e => anyT e D2) (E.take (k + 1))) from by rw [HFN.out]; exact Fs.out)
            clear HXL
            have HXL := Lib.hid (show xl ≤ k + 1 from by omega)
            go_roundw
            case rel => exact ⟨k + 1, xf, xl, xc, by omega, by go_num, As.out, Rs.out, Xs.out, Bs.out, FN.out, Ds.out, HXL⟩
            case measure => simp [intOf]; omega
    · have e1 : E.take k = E := List.take_of_length_le (by have := HN.out; omega)
      have HKP := Lib.hid (show keptE (fun e => anyT e D2) (E.take k) = keptE (fun e => anyT e D2) E from by rw [e1])
      clear e1
      have Ac0 := Ar.out.get 0 (.slice f l c) rfl
      have Xc0 := Xr.out.get 0 (.slice xf xl xc) rfl
      have Xc1 := Xr.out.get 1 (.slice f2 m c2) rfl
      go_wp2_with (refine wpList_storeB rfl 43 _ _ rfl (g1 + 1) #[.slice xf xl xc, .slice f2 m c2] _ 43 rfl rfl (by kernel_rfl) (by rfl) (by simp [Value.oneCell']) Rr.out ?_)
      have RR := (Rr.out.put (cs' := #[.slice xf xl xc, .slice f2 m c2]))
      refine bodyPost_ret (v := .agg #[.slice xf xl xc, .slice f2 m c2]) (by simp [results, Try.results24, go_sem, RR.get 0 (.slice xf xl xc) rfl, RR.get 1 (.slice f2 m c2) rfl]) rfl ?_
      rw [← HKP.out]
      exact ⟨xf, xl, xc, f2, c2, rfl, ((Fr.out.rowN (g := g1 + 1) (cs := #[.slice xf xl xc, .slice f2 m c2]) (Fr.out.ne_box Rr.out (by decide)))).rows.1, (Fr.out.rowN (g := g1 + 1) (cs := #[.slice xf xl xc, .slice f2 m c2]) (Fr.out.ne_box Rr.out (by decide))), (Dr.out.rowN (g := g1 + 1) (cs := #[.slice xf xl xc, .slice f2 m c2]) (Dr.out.ne_box Rr.out (by decide))), (Below.rowB (g := g1 + 1) Br.out (cs := #[.slice xf xl xc, .slice f2 m c2]) (show w.heap.size ≤ g1 + 1 by omega))⟩
end Go.Proofs.Ytjohnpbfdpmajaa
