/- Stage 10: the reference's Apply: contract. Stage 10: the laws that look at one kind of what takes away. -/
import Derived.Test.YtjohnpbfdpmajaaIg
import Derived.Test.YtjohnpbfdpmajaaBf
import Derived.Test.YtjohnpbfdpmajaaBk
import Derived.Test.YtjohnpbfdpmajaaNe
import Derived.Test.YtjohnpbfdpmajaaTc
import Derived.Test.YtjohnpbfdpmajaaIe
import Derived.Test.YtjohnpbfdpmajaaIi
set_option linter.all false
namespace Go.Proofs.Ytjohnpbfdpmajaa
section
open Go.ChangeShapes Go.WideShapes Go.ChangeAt Go.RowKit Go.Deep Go.Shelf

theorem RowAt.grownR {w w' : World} {b o N : Nat} {cs : Array Value} {row : Option Nat} (h : RowAt w b o N cs) (hg : w.grownBy w' row) (hne : some b ≠ row) : RowAt w' b o N cs :=
  ⟨Nat.lt_of_lt_of_le h.lt hg.size, fun j hj => (World.cell?_of_block (a := ⟨b, o + j, none⟩) (hg.block b h.lt hne)).trans (h.c j hj)⟩
theorem anyT_take {e : Ety} {i : Inv} : ∀ {D : List Inv} {j : Nat}, D[j]? = some i → anyT e (D.take (j + 1)) = (anyT e (D.take j) || takeB i e)
  | [], j, h => by simp at h
  | x :: D, 0, h => by
    simp only [List.getElem?_cons_zero, Option.some.injEq] at h
    subst h
    simp [anyT]
  | x :: D, j + 1, h => by
    have h2 : D[j]? = some i := by simpa using h
    simp only [List.take_succ_cons, anyT]
    rw [anyT_take h2, Bool.or_assoc]
theorem kept_len (p : Ety → Bool) (L : List Ety) : (keptE p L).length ≤ L.length := List.length_filter_le _ _
set_option maxRecDepth 100000 in
set_option maxHeartbeats 3200000 in
theorem apply9_any (f g gd : Option Addr) (l c m d md dd : Nat) (E : List Ety) (D D2 : List Inv) (w : World) (hE : RowsAt KE w f E) (hl : l = E.length) (hD : RowsAt KI w g D) (hm : m = D.length) (hls : l ≤ 90000) (hms : m ≤ 90000) (hR : RowsAt KI w gd D2) (ho : md = D2.length) (hmd : md ≤ 90000) (hem : ∀ (k : Nat) (x : Ety), E[k]? = some x → mayEn x = true) (hv : allV D2 = true) :
    Calls Try.prog 24 #[.agg #[.slice f l c, .slice g m d], .slice gd md dd] w fun r w' => ∃ f' l' c' g' d', r = .returned (.agg #[.slice f' l' c', .slice g' m d']) ∧ l' = (keptE (fun e => anyT e D2) E).length ∧ OwnR KE w' w.heap.size (.slice f' l' c') (keptE (fun e => anyT e D2) E) ∧ OwnR KI w' w.heap.size (.slice g' m d') D ∧ Below w.heap.size w w' := by
  have HCV := Lib.hid (fun W (hB : Below w.heap.size w W) => copyV_any g m d D W (hD.below hB) hm (by omega))
  have HL := Lib.hid hE
  have HN := Lib.hid hl
  have HD2 := Lib.hid hR
  have HO := Lib.hid ho
  have HEM := Lib.hid hem
  have HV := Lib.hid hv
  clear hE hl hD hm hR ho hem hv
  have htw : w.heap.size ≤ w.heap.size := Nat.le_refl _
  have B0 := Lib.hid (Below.refl w.heap.size w)
  go_enter Try.func24, Try.ntmps24
  go_upto_region 1 with fail
  have A1 := Lib.hid (((BoxAt.newAt (w) #[.slice f l c, .slice g m d] 43 (w.heap.size) (by first | omega | (simp; done) | (simp; omega))).alloc (.cells #[.slice none 0 0, .slice none 0 0] 43)))
  have R1 := Lib.hid ((BoxAt.newAt ((w).alloc (.cells #[.slice f l c, .slice g m d] 43)) #[.slice none 0 0, .slice none 0 0] 43 (w.heap.size + 1) (by first | omega | (simp; done) | (simp; omega))))
  have B1 := Lib.hid ((bel_alloc (bel_alloc B0.out (.cells #[.slice f l c, .slice g m d] 43)) (.cells #[.slice none 0 0, .slice none 0 0] 43)))
  obtain ⟨g1, hg1⟩ : ∃ g1, g1 = w.heap.size := ⟨_, rfl⟩
  obtain ⟨W1, hW1⟩ : ∃ W1, W1 = ((w).alloc (.cells #[.slice f l c, .slice g m d] 43)).alloc (.cells #[.slice none 0 0, .slice none 0 0] 43) := ⟨_, rfl⟩
  have hs1 : g1 + 1 + 1 ≤ W1.heap.size := by rw [hW1, hg1]; simp
  rw [← hW1] at A1 R1 B1 ⊢
  have hb1 : w.heap.size ≤ g1 := by omega
  rw [← hg1] at A1 R1 ⊢
  clear hg1
  clear hW1 B0
  have Ac1 := A1.out.get 1 (.slice g m d) rfl
  go_wp2_with fail
  refine (HCV.out _ B1.out).mono ?_
  rintro e w2 ⟨f2, c2, rfl, hN2, hb2⟩
  have OD2 := Lib.hid (OwnR.mono hN2 (base' := w.heap.size) (by first | omega | (simp; done) | (simp; omega)))
  clear hN2
  have hz2 := hb2.size
  have A2 := Lib.hid (A1.out.below hb2)
  have R2 := Lib.hid (R1.out.below hb2)
  have B2 := Lib.hid ((bel_trans B1.out hb2))
  skip
  have hs2 : g1 + 1 + 1 ≤ w2.heap.size := by omega
  clear Ac1
  clear A1 R1 B1 hs1 hb2 hz2
  go_upto_region 2 with fail
  have A3 := Lib.hid ((A2.out.alloc (.cells #[.slice none 0 0, .slice f2 m c2] 43)))
  have R3 := Lib.hid ((R2.out.alloc (.cells #[.slice none 0 0, .slice f2 m c2] 43)))
  have X3 := Lib.hid ((BoxAt.newAt (w2) #[.slice none 0 0, .slice f2 m c2] 43 (w2.heap.size) (by first | omega | (simp; done) | (simp; omega))))
  have D3 := Lib.hid ((OD2.out.alloc (.cells #[.slice none 0 0, .slice f2 m c2] 43)))
  have B3 := Lib.hid ((bel_alloc B2.out (.cells #[.slice none 0 0, .slice f2 m c2] 43)))
  obtain ⟨g3, hg3⟩ : ∃ g3, g3 = w2.heap.size := ⟨_, rfl⟩
  obtain ⟨W3, hW3⟩ : ∃ W3, W3 = (w2).alloc (.cells #[.slice none 0 0, .slice f2 m c2] 43) := ⟨_, rfl⟩
  have hs3 : g3 + 1 ≤ W3.heap.size := by rw [hW3, hg3]; simp
  rw [← hW3] at A3 R3 X3 D3 B3 ⊢
  have hb3 : g1 + 1 + 1 ≤ g3 := by omega
  rw [← hg3] at X3 ⊢
  clear hg3
  clear hW3 A2 R2 OD2 B2 hs2
  go_wp2
  have F0 := Lib.hid (show OwnR KE W3 w.heap.size (.slice none 0 0) (keptE (fun e => anyT e D2) (E.take 0)) from OwnR.nil _ _)
  have HXL := Lib.hid (Nat.le_refl 0)
  go_wp2
  go_loopw [6] (fun i wr => ∃ (k : Nat) (xf : Option Addr) (xl : Nat) (xc : Nat), k ≤ l ∧ i = .int .i64 k ∧ Hid (BoxAt wr (g1) #[.slice f l c, .slice g m d] 43) ∧ Hid (BoxAt wr (g1 + 1) #[.slice none 0 0, .slice none 0 0] 43) ∧ Hid (BoxAt wr (g3) #[.slice xf xl xc, .slice f2 m c2] 43) ∧ Hid (Below w.heap.size w wr) ∧ Hid (OwnR KE wr (w.heap.size) (.slice xf xl xc) ((keptE (fun e => anyT e D2) (E.take k)))) ∧ Hid (OwnR KI wr (w.heap.size) (.slice f2 m c2) (D)) ∧ Hid (xl ≤ k)) (fun i _ => l - (intOf i).toNat)
  case atStart => exact ⟨0, none, 0, 0, by omega, rfl, A3.out, R3.out, X3.out, B3.out, F0.out, D3.out, HXL⟩
  case round =>
    clear A3 R3 X3 D3 F0 B3 HXL
    obtain ⟨k, xf, xl, xc, hkk, rfl, Ar, Rr, Xr, Br, Fr, Dr, HXL⟩ := hrel
    obtain ⟨mr, hmr⟩ : ∃ mr, mr = wr.heap.size := ⟨_, rfl⟩
    have hgAr : g1 + 1 ≤ mr := by rw [hmr]; exact Ar.out.lt
    have hgRr : g1 + 1 + 1 ≤ mr := by rw [hmr]; exact Rr.out.lt
    have hgXr : g3 + 1 ≤ mr := by rw [hmr]; exact Xr.out.lt
    have hgwr : w.heap.size ≤ mr := by rw [hmr]; exact Br.out.size
    have HBFr := Lib.hid (show ∀ j, (.slice xf xl xc : Value).ownBlock = some j → j < mr from by rw [hmr]; exact Fr.out.blt)
    have HBDr := Lib.hid (show ∀ j, (.slice f2 m c2 : Value).ownBlock = some j → j < mr from by rw [hmr]; exact Dr.out.blt)
    have hsr : mr ≤ wr.heap.size := by omega
    clear hmr
    by_cases hltk : k < l
    · have ik0k : (0 : Int) ≤ (k : Int) := by omega
      have ik1k : (k : Int) < (l : Int) := by omega
      have ikwk : IntKind.i64.wrap ((k : Int) + 1) = (k : Int) + 1 := IntWalk.i64_in _ (by omega)
      obtain ⟨xe, hxe⟩ := rows_some HN.out hltk
      have HEX := Lib.hid (HEM.out k xe hxe)
      have HXE := Lib.hid hxe
      obtain ⟨be, oe, rfl, hre⟩ := HL.out k xe hxe
      have HRXE := Lib.hid (show RowAt w be (oe + k * 14) 14 #[.int .i64 xe.k, .int .i64 xe.vm, .int .i64 xe.sp, .bool xe.al, .int .i64 xe.pg, .int .i64 xe.lv, .int .i64 xe.fr, .int .i64 xe.mi, .bool xe.t.r, .bool xe.t.w, .bool xe.t.x, .bool xe.t.a, .bool xe.t.n, .int .i64 xe.t.s] from hre)
      have hbe : be < w.heap.size := hre.lt
      clear hre hxe
      have hxlk := HXL.out
      have Ac0 := Ar.out.get 0 (.slice (some ⟨be, oe, none⟩) l c) rfl
      have HGO := Lib.hid (show anyT xe (D2.take 0) = false from rfl)
      go_wp2
      clear Ac0
      go_loopw [8, 7] (fun i i0 wr => ∃ (j : Nat) (go : Bool), j ≤ md ∧ i = .int .i64 j ∧ i0 = .bool go ∧ Hid (BoxAt wr (g1) #[.slice (some ⟨be, oe, none⟩) l c, .slice g m d] 43) ∧ Hid (BoxAt wr (g1 + 1) #[.slice none 0 0, .slice none 0 0] 43) ∧ Hid (BoxAt wr (g3) #[.slice xf xl xc, .slice f2 m c2] 43) ∧ Hid (Below w.heap.size w wr) ∧ Hid (OwnR KE wr (w.heap.size) (.slice xf xl xc) ((keptE (fun e => anyT e D2) (E.take k)))) ∧ Hid (OwnR KI wr (w.heap.size) (.slice f2 m c2) (D)) ∧ Hid (anyT xe (D2.take j) = go)) (fun i _ _ => md - (intOf i).toNat)
      case atStart => exact ⟨0, false, by omega, rfl, rfl, Ar.out, Rr.out, Xr.out, Br.out, Fr.out, Dr.out, HGO⟩
      case round =>
        clear Ar Rr Xr Dr Fr Br HGO
        obtain ⟨j, go, hkj, rfl, rfl, As, Rs, Xs, Bs, Fs, Ds, HGO⟩ := hrel
        obtain ⟨ms, hms⟩ : ∃ ms, ms = wr.heap.size := ⟨_, rfl⟩
        have hgAs : g1 + 1 ≤ ms := by rw [hms]; exact As.out.lt
        have hgRs : g1 + 1 + 1 ≤ ms := by rw [hms]; exact Rs.out.lt
        have hgXs : g3 + 1 ≤ ms := by rw [hms]; exact Xs.out.lt
        have hgws : w.heap.size ≤ ms := by rw [hms]; exact Bs.out.size
        have HBFs := Lib.hid (show ∀ j, (.slice xf xl xc : Value).ownBlock = some j → j < ms from by rw [hms]; exact Fs.out.blt)
        have HBDs := Lib.hid (show ∀ j, (.slice f2 m c2 : Value).ownBlock = some j → j < ms from by rw [hms]; exact Ds.out.blt)
        have hss : ms ≤ wr.heap.size := by omega
        clear hms
        by_cases hltj : j < md
        · have ik0j : (0 : Int) ≤ (j : Int) := by omega
          have ik1j : (j : Int) < (md : Int) := by omega
          have ikwj : IntKind.i64.wrap ((j : Int) + 1) = (j : Int) + 1 := IntWalk.i64_in _ (by omega)
          obtain ⟨xi, hxi⟩ := rows_some HO.out hltj
          have HTK := Lib.hid (fun W => takes9_any xi xe (fun h => mayEn_lv HEX.out (of_decide_eq_true h)) (mayPl_pg (mayIn_pl (allV_mem HV.out j xi hxi))) W)
          have HST := Lib.hid (anyT_take (e := xe) hxi)
          obtain ⟨bi, oi, rfl, hri⟩ := HD2.out j xi hxi
          have HRXI := Lib.hid (show RowAt w bi (oi + j * 4) 4 #[.int .i64 xi.k, .int .i64 xi.vm, .int .i64 xi.sp, .int .i64 xi.pg] from hri)
          have hbi : bi < w.heap.size := hri.lt
          clear hri hxi
          obtain ⟨o3, ho3⟩ : ∃ o3, o3 = takeB xi xe := ⟨_, rfl⟩
          rw [← ho3] at HTK HST
          clear ho3
          unfold invV invC entV entC at HTK
          go_upto_region 9 with fail
          cases go
          · have HGN := Lib.hid (show anyT xe (D2.take (j + 1)) = o3 from by rw [HST.out, HGO.out]; rfl)
            clear HGO
            have HGO := HGN
            clear HGN
            refine wp_region_held_drew (S := (fun w' => RowAt w' (bi) (oi + j * 4) 4 #[.int .i64 xi.k, .int .i64 xi.vm, .int .i64 xi.sp, .int .i64 xi.pg] ∧ BoxAt w' (g1) #[.slice (some ⟨be, oe, none⟩) l c, .slice g m d] 43 ∧ RowAt w' (be) (oe + k * 14) 14 #[.int .i64 xe.k, .int .i64 xe.vm, .int .i64 xe.sp, .bool xe.al, .int .i64 xe.pg, .int .i64 xe.lv, .int .i64 xe.fr, .int .i64 xe.mi, .bool xe.t.r, .bool xe.t.w, .bool xe.t.x, .bool xe.t.a, .bool xe.t.n, .int .i64 xe.t.s])) (by kernel_rfl) ⟨(HRXI.out.below Bs.out).drew, As.out.drew, (HRXE.out.below Bs.out).drew⟩ (fun hS => ?_)
            refine tkR 0 26 (v := .bool false) rfl hS (fun _ _ => by kernel_rfl) ?_
            refine tkR 1 27 (v := .bool false) rfl hS (fun _ _ => by kernel_rfl) ?_
            try simp only [Act.put, List.setIfInBounds_toArray, List.set_cons_zero, List.set_cons_succ]
            refine wpAnyH_take (i := 2) (oi := ⟨some 28, _, _, _, _, _⟩) (v := ?_) rfl (by kernel_rfl) (by kernel_rfl) (by kernel_rfl) (fun _ _ _ h => h) (Or.inl ⟨by rfl, ?_⟩) hS ?_
            rotate_left
            · (intro w' hSw; clear hSw; go_simp; try with_reducible rfl)
            simp only [Act.put, List.setIfInBounds_toArray, List.set_cons_zero, List.set_cons_succ]
            try simp only [Act.put, List.setIfInBounds_toArray, List.set_cons_zero, List.set_cons_succ]
            refine wpAnyH_take (i := 3) (oi := ⟨some 29, _, _, _, _, _⟩) (v := ?_) rfl (by kernel_rfl) (by kernel_rfl) (by kernel_rfl) (fun _ _ _ h => h) (Or.inl ⟨by rfl, ?_⟩) hS ?_
            rotate_left
            · (intro w' hSw; clear hSw; go_simp; try with_reducible rfl)
            simp only [Act.put, List.setIfInBounds_toArray, List.set_cons_zero, List.set_cons_succ]
            try simp only [Act.put, List.setIfInBounds_toArray, List.set_cons_zero, List.set_cons_succ]
            refine wpAnyH_take (i := 4) (oi := ⟨some 30, _, _, _, _, _⟩) (v := ?_) rfl (by kernel_rfl) (by kernel_rfl) (by kernel_rfl) (fun _ _ _ h => h) (Or.inl ⟨by rfl, ?_⟩) hS ?_
            rotate_left
            · (intro w' hSw; clear hSw; go_simp; try with_reducible rfl)
            simp only [Act.put, List.setIfInBounds_toArray, List.set_cons_zero, List.set_cons_succ]
            try simp only [Act.put, List.setIfInBounds_toArray, List.set_cons_zero, List.set_cons_succ]
            refine wpAnyH_take (i := 5) (oi := ⟨some 31, _, _, _, _, _⟩) (v := ?_) rfl (by kernel_rfl) (by kernel_rfl) (by kernel_rfl) (fun _ _ _ h => h) (Or.inl ⟨by rfl, ?_⟩) hS ?_
            rotate_left
            · (intro w' hSw; have c0_0 := (hSw.1).get0 (.int .i64 xi.k) (by decide) rfl; have c0_1 := (hSw.1).get 1 (.int .i64 xi.vm) (by decide) rfl; have c0_2 := (hSw.1).get 2 (.int .i64 xi.sp) (by decide) rfl; have c0_3 := (hSw.1).get 3 (.int .i64 xi.pg) (by decide) rfl; clear hSw; go_simp; try with_reducible rfl)
            simp only [Act.put, List.setIfInBounds_toArray, List.set_cons_zero, List.set_cons_succ]
            try simp only [Act.put, List.setIfInBounds_toArray, List.set_cons_zero, List.set_cons_succ]
            refine wpAnyH_take (i := 6) (oi := ⟨some 32, _, _, _, _, _⟩) (v := ?_) rfl (by kernel_rfl) (by kernel_rfl) (by kernel_rfl) (fun _ _ _ h => h) (Or.inl ⟨by rfl, ?_⟩) hS ?_
            rotate_left
            · (intro w' hSw; clear hSw; go_simp; try with_reducible rfl)
            simp only [Act.put, List.setIfInBounds_toArray, List.set_cons_zero, List.set_cons_succ]
            try simp only [Act.put, List.setIfInBounds_toArray, List.set_cons_zero, List.set_cons_succ]
            refine wpAnyH_take (i := 7) (oi := ⟨some 33, _, _, _, _, _⟩) (v := ?_) rfl (by kernel_rfl) (by kernel_rfl) (by kernel_rfl) (fun _ _ _ h => h) (Or.inl ⟨by rfl, ?_⟩) hS ?_
            rotate_left
            · (intro w' hSw; have c1_0 := (hSw.2.1).get 0 (.slice (some ⟨be, oe, none⟩) l c) rfl; clear hSw; go_simp; try with_reducible rfl)
            simp only [Act.put, List.setIfInBounds_toArray, List.set_cons_zero, List.set_cons_succ]
            try simp only [Act.put, List.setIfInBounds_toArray, List.set_cons_zero, List.set_cons_succ]
            refine wpAnyH_take (i := 8) (oi := ⟨some 34, _, _, _, _, _⟩) (v := ?_) rfl (by kernel_rfl) (by kernel_rfl) (by kernel_rfl) (fun _ _ _ h => h) (Or.inl ⟨by rfl, ?_⟩) hS ?_
            rotate_left
            · (intro w' hSw; clear hSw; go_simp; try with_reducible rfl)
            simp only [Act.put, List.setIfInBounds_toArray, List.set_cons_zero, List.set_cons_succ]
            try simp only [Act.put, List.setIfInBounds_toArray, List.set_cons_zero, List.set_cons_succ]
            refine wpAnyH_take (i := 9) (oi := ⟨some 35, _, _, _, _, _⟩) (v := ?_) rfl (by kernel_rfl) (by kernel_rfl) (by kernel_rfl) (fun _ _ _ h => h) (Or.inl ⟨by rfl, ?_⟩) hS ?_
            rotate_left
            · (intro w' hSw; clear hSw; go_simp; try with_reducible rfl)
            simp only [Act.put, List.setIfInBounds_toArray, List.set_cons_zero, List.set_cons_succ]
            try simp only [Act.put, List.setIfInBounds_toArray, List.set_cons_zero, List.set_cons_succ]
            refine wpAnyH_take (i := 10) (oi := ⟨some 36, _, _, _, _, _⟩) (v := ?_) rfl (by kernel_rfl) (by kernel_rfl) (by kernel_rfl) (fun _ _ _ h => h) (Or.inl ⟨by rfl, ?_⟩) hS ?_
            rotate_left
            · (intro w' hSw; have c2_0 := (hSw.2.2).get0 (.int .i64 xe.k) (by decide) rfl; have c2_1 := (hSw.2.2).get 1 (.int .i64 xe.vm) (by decide) rfl; have c2_2 := (hSw.2.2).get 2 (.int .i64 xe.sp) (by decide) rfl; have c2_3 := (hSw.2.2).get 3 (.bool xe.al) (by decide) rfl; have c2_4 := (hSw.2.2).get 4 (.int .i64 xe.pg) (by decide) rfl; have c2_5 := (hSw.2.2).get 5 (.int .i64 xe.lv) (by decide) rfl; have c2_6 := (hSw.2.2).get 6 (.int .i64 xe.fr) (by decide) rfl; have c2_7 := (hSw.2.2).get 7 (.int .i64 xe.mi) (by decide) rfl; have c2_8 := (hSw.2.2).get 8 (.bool xe.t.r) (by decide) rfl; have c2_9 := (hSw.2.2).get 9 (.bool xe.t.w) (by decide) rfl; have c2_10 := (hSw.2.2).get 10 (.bool xe.t.x) (by decide) rfl; have c2_11 := (hSw.2.2).get 11 (.bool xe.t.a) (by decide) rfl; have c2_12 := (hSw.2.2).get 12 (.bool xe.t.n) (by decide) rfl; have c2_13 := (hSw.2.2).get 13 (.int .i64 xe.t.s) (by decide) rfl; clear hSw; go_simp; try with_reducible rfl)
            simp only [Act.put, List.setIfInBounds_toArray, List.set_cons_zero, List.set_cons_succ]
            try simp only [Act.put, List.setIfInBounds_toArray, List.set_cons_zero, List.set_cons_succ]
            refine wpAnyH_ready (rs := [11]) (by kernel_rfl) (by simp) ?_
            refine AllReadyH.cons (o := ⟨some 37, _, _, _, _, _⟩) rfl (fun K hK => ?_) AllReadyH.nil
            go_simp
            refine (HTK.out _).mono ?_
            rintro e w4 ⟨rfl, hb4⟩
            have hz4 := hb4.size
            try simp at hz4
            refine hK.out _ _ ?_ (fun hS' => ?_)
            · exact ⟨hS.1.below hb4, hS.2.1.below hb4, hS.2.2.below hb4⟩
            clear hK K hS
            have hS := hS'
            clear hS'
            try simp only [Act.put, List.setIfInBounds_toArray, List.set_cons_zero, List.set_cons_succ]
            try simp only [Act.put, List.setIfInBounds_toArray, List.set_cons_zero, List.set_cons_succ]
            refine wpAnyH_take (i := 12) (oi := ⟨some 38, _, _, _, _, _⟩) (v := ?_) rfl (by kernel_rfl) (by kernel_rfl) (by kernel_rfl) (fun _ _ _ h => h) (Or.inl ⟨by rfl, ?_⟩) hS ?_
            rotate_left
            · (intro w' hSw; clear hSw; go_simp; try with_reducible rfl)
            simp only [Act.put, List.setIfInBounds_toArray, List.set_cons_zero, List.set_cons_succ]
            refine tkR 13 7 (v := .bool o3) rfl hS (fun _ _ => by kernel_rfl) ?_
            refine wpAnyH_done (by kernel_rfl) ?_ _
            try simp only [Act.put, List.setIfInBounds_toArray, List.set_cons_zero, List.set_cons_succ]
            have A5 := Lib.hid (((As.out.drew).below hb4))
            have R5 := Lib.hid (((Rs.out.drew).below hb4))
            have X5 := Lib.hid (((Xs.out.drew).below hb4))
            have D5 := Lib.hid (((Ds.out.drew).below hb4))
            have F5 := Lib.hid (((Fs.out.drew).below hb4))
            have B5 := Lib.hid ((bel_trans (Below.drew Bs.out) hb4))
            obtain ⟨W5, hW5⟩ : ∃ W5, W5 = w4 := ⟨_, rfl⟩
            have hs5 : ms ≤ W5.heap.size := by rw [hW5]; first | exact hss | omega | (simp; omega)
            rw [← hW5] at A5 R5 X5 D5 F5 B5 ⊢
            clear hW5 As Rs Xs Ds Fs Bs hss
            go_wp2
            go_roundw
            case rel => exact ⟨j + 1, o3, by omega, by go_num, rfl, A5.out, R5.out, X5.out, B5.out, F5.out, D5.out, HGO⟩
            case measure => simp [intOf]; omega
          · have HGN := Lib.hid (show anyT xe (D2.take (j + 1)) = true from by rw [HST.out, HGO.out]; rfl)
            clear HGO
            have HGO := HGN
            clear HGN
            refine wp_region_held_drew (S := (fun w' => True)) (by kernel_rfl) trivial (fun hS => ?_)
            refine tkR 0 26 (v := .bool true) rfl hS (fun _ _ => by kernel_rfl) ?_
            refine tkR 1 27 (v := .bool true) rfl hS (fun _ _ => by kernel_rfl) ?_
            refine wpAnyH_take (i := 2) (oi := ⟨some 28, _, _, _, _, _⟩) (v := undef) rfl (by kernel_rfl) (by kernel_rfl) (by kernel_rfl) (fun _ _ _ h => h) (Or.inr ⟨by rfl, rfl⟩) hS ?_
            simp only [Act.put, List.setIfInBounds_toArray, List.set_cons_zero, List.set_cons_succ]
            refine wpAnyH_take (i := 3) (oi := ⟨some 29, _, _, _, _, _⟩) (v := undef) rfl (by kernel_rfl) (by kernel_rfl) (by kernel_rfl) (fun _ _ _ h => h) (Or.inr ⟨by rfl, rfl⟩) hS ?_
            simp only [Act.put, List.setIfInBounds_toArray, List.set_cons_zero, List.set_cons_succ]
            refine wpAnyH_take (i := 4) (oi := ⟨some 30, _, _, _, _, _⟩) (v := undef) rfl (by kernel_rfl) (by kernel_rfl) (by kernel_rfl) (fun _ _ _ h => h) (Or.inr ⟨by rfl, rfl⟩) hS ?_
            simp only [Act.put, List.setIfInBounds_toArray, List.set_cons_zero, List.set_cons_succ]
            refine wpAnyH_take (i := 5) (oi := ⟨some 31, _, _, _, _, _⟩) (v := undef) rfl (by kernel_rfl) (by kernel_rfl) (by kernel_rfl) (fun _ _ _ h => h) (Or.inr ⟨by rfl, rfl⟩) hS ?_
            simp only [Act.put, List.setIfInBounds_toArray, List.set_cons_zero, List.set_cons_succ]
            refine wpAnyH_take (i := 6) (oi := ⟨some 32, _, _, _, _, _⟩) (v := undef) rfl (by kernel_rfl) (by kernel_rfl) (by kernel_rfl) (fun _ _ _ h => h) (Or.inr ⟨by rfl, rfl⟩) hS ?_
            simp only [Act.put, List.setIfInBounds_toArray, List.set_cons_zero, List.set_cons_succ]
            refine wpAnyH_take (i := 7) (oi := ⟨some 33, _, _, _, _, _⟩) (v := undef) rfl (by kernel_rfl) (by kernel_rfl) (by kernel_rfl) (fun _ _ _ h => h) (Or.inr ⟨by rfl, rfl⟩) hS ?_
            simp only [Act.put, List.setIfInBounds_toArray, List.set_cons_zero, List.set_cons_succ]
            refine wpAnyH_take (i := 8) (oi := ⟨some 34, _, _, _, _, _⟩) (v := undef) rfl (by kernel_rfl) (by kernel_rfl) (by kernel_rfl) (fun _ _ _ h => h) (Or.inr ⟨by rfl, rfl⟩) hS ?_
            simp only [Act.put, List.setIfInBounds_toArray, List.set_cons_zero, List.set_cons_succ]
            refine wpAnyH_take (i := 9) (oi := ⟨some 35, _, _, _, _, _⟩) (v := undef) rfl (by kernel_rfl) (by kernel_rfl) (by kernel_rfl) (fun _ _ _ h => h) (Or.inr ⟨by rfl, rfl⟩) hS ?_
            simp only [Act.put, List.setIfInBounds_toArray, List.set_cons_zero, List.set_cons_succ]
            refine wpAnyH_take (i := 10) (oi := ⟨some 36, _, _, _, _, _⟩) (v := undef) rfl (by kernel_rfl) (by kernel_rfl) (by kernel_rfl) (fun _ _ _ h => h) (Or.inr ⟨by rfl, rfl⟩) hS ?_
            simp only [Act.put, List.setIfInBounds_toArray, List.set_cons_zero, List.set_cons_succ]
            refine wpAnyH_take (i := 11) (oi := ⟨some 37, _, _, _, _, _⟩) (v := undef) rfl (by kernel_rfl) (by kernel_rfl) (by kernel_rfl) (fun _ _ _ h => h) (Or.inr ⟨by rfl, rfl⟩) hS ?_
            simp only [Act.put, List.setIfInBounds_toArray, List.set_cons_zero, List.set_cons_succ]
            try simp only [Act.put, List.setIfInBounds_toArray, List.set_cons_zero, List.set_cons_succ]
            refine wpAnyH_take (i := 12) (oi := ⟨some 38, _, _, _, _, _⟩) (v := ?_) rfl (by kernel_rfl) (by kernel_rfl) (by kernel_rfl) (fun _ _ _ h => h) (Or.inl ⟨by rfl, ?_⟩) hS ?_
            rotate_left
            · (intro w' hSw; clear hSw; go_simp; try with_reducible rfl)
            simp only [Act.put, List.setIfInBounds_toArray, List.set_cons_zero, List.set_cons_succ]
            refine tkR 13 7 (v := .bool true) rfl hS (fun _ _ => by kernel_rfl) ?_
            refine wpAnyH_done (by kernel_rfl) ?_ _
            try simp only [Act.put, List.setIfInBounds_toArray, List.set_cons_zero, List.set_cons_succ]
            have A4 := Lib.hid ((As.out.drew))
            have R4 := Lib.hid ((Rs.out.drew))
            have X4 := Lib.hid ((Xs.out.drew))
            have D4 := Lib.hid ((Ds.out.drew))
            have F4 := Lib.hid ((Fs.out.drew))
            have B4 := Lib.hid ((Below.drew Bs.out))
            obtain ⟨W4, hW4⟩ : ∃ W4, W4 = (wr).drew := ⟨_, rfl⟩
            have hs4 : ms ≤ W4.heap.size := by rw [hW4]; first | exact hss | omega | (simp; omega)
            rw [← hW4] at A4 R4 X4 D4 F4 B4 ⊢
            clear hW4 As Rs Xs Ds Fs Bs hss
            go_wp2
            go_roundw
            case rel => exact ⟨j + 1, true, by omega, by go_num, rfl, A4.out, R4.out, X4.out, B4.out, F4.out, D4.out, HGO⟩
            case measure => simp [intOf]; omega
        · have e1 : D2.take j = D2 := List.take_of_length_le (by have := HO.out; omega)
          have HG2 := Lib.hid (show anyT xe D2 = go from by have := HGO.out; rwa [e1] at this)
          clear e1
          cases go
          · have HFN := Lib.hid (kept_yes (p := fun e => anyT e D2) HXE.out HG2.out)
            go_upto_region 11 with fail
            refine wp_region_tail [10] (fun _ => True) (fun w' => BoxAt w' (g3) #[.slice xf xl xc, .slice f2 m c2] 43 ∧ BoxAt w' (g1) #[.slice (some ⟨be, oe, none⟩) l c, .slice g m d] 43 ∧ RowAt w' (be) (oe + k * 14) 14 #[.int .i64 xe.k, .int .i64 xe.vm, .int .i64 xe.sp, .bool xe.al, .int .i64 xe.pg, .int .i64 xe.lv, .int .i64 xe.fr, .int .i64 xe.mi, .bool xe.t.r, .bool xe.t.w, .bool xe.t.x, .bool xe.t.a, .bool xe.t.n, .int .i64 xe.t.s]) (by kernel_rfl) ?_
            have hS : (fun w' => BoxAt w' (g3) #[.slice xf xl xc, .slice f2 m c2] 43 ∧ BoxAt w' (g1) #[.slice (some ⟨be, oe, none⟩) l c, .slice g m d] 43 ∧ RowAt w' (be) (oe + k * 14) 14 #[.int .i64 xe.k, .int .i64 xe.vm, .int .i64 xe.sp, .bool xe.al, .int .i64 xe.pg, .int .i64 xe.lv, .int .i64 xe.fr, .int .i64 xe.mi, .bool xe.t.r, .bool xe.t.w, .bool xe.t.x, .bool xe.t.a, .bool xe.t.n, .int .i64 xe.t.s]) wr.drew := ⟨Xs.out.drew, As.out.drew, (HRXE.out.below Bs.out).drew⟩
            skip
            have A4 := Lib.hid ((As.out.drew))
            have R4 := Lib.hid ((Rs.out.drew))
            have X4 := Lib.hid ((Xs.out.drew))
            have D4 := Lib.hid ((Ds.out.drew))
            have F4 := Lib.hid ((Fs.out.drew))
            have B4 := Lib.hid ((Below.drew Bs.out))
            obtain ⟨W4, hW4⟩ : ∃ W4, W4 = (wr).drew := ⟨_, rfl⟩
            have hs4 : ms ≤ W4.heap.size := by rw [hW4]; first | exact hss | omega | (simp; omega)
            rw [← hW4] at A4 R4 X4 D4 F4 B4 hS ⊢
            clear hW4 As Rs Xs Ds Fs Bs hss
            refine tail_read 0 (oi := ⟨some 41, _, _, _, _, _⟩) (v := ?_) rfl (by kernel_rfl) (by kernel_rfl) (by kernel_rfl) (by kernel_rfl) (fun _ _ _ h => h) ⟨trivial, hS⟩ (Or.inl ⟨by rfl, ?_⟩) ?_
            rotate_left
            · (intro w' hSw; clear hSw; go_simp; try with_reducible rfl)
            simp only [Act.put, List.setIfInBounds_toArray, List.set_cons_zero, List.set_cons_succ]
            refine tail_chain 1 [8, 9, 10] (oi := ⟨some 42, _, _, _, _, _⟩) (v := ?_) rfl (by kernel_rfl) (by kernel_rfl) (by kernel_rfl) (by kernel_rfl) (fun _ _ _ h => h) ⟨trivial, hS⟩ (Or.inl ⟨by rfl, ?_⟩) ?_
            rotate_left
            · (intro w' hSw; have c0_0 := (hSw.1).get 0 (.slice xf xl xc) rfl; clear hSw; go_simp; try with_reducible rfl)
            simp only [Act.put, List.setIfInBounds_toArray, List.set_cons_zero, List.set_cons_succ]
            refine tail_read 2 (oi := ⟨some 43, _, _, _, _, _⟩) (v := ?_) rfl (by kernel_rfl) (by kernel_rfl) (by kernel_rfl) (by kernel_rfl) (fun _ _ _ h => h) ⟨trivial, hS⟩ (Or.inl ⟨by rfl, ?_⟩) ?_
            rotate_left
            · (intro w' hSw; clear hSw; go_simp; try with_reducible rfl)
            simp only [Act.put, List.setIfInBounds_toArray, List.set_cons_zero, List.set_cons_succ]
            refine tail_chain 3 [5, 6, 7, 8, 9, 10] (oi := ⟨some 44, _, _, _, _, _⟩) (v := ?_) rfl (by kernel_rfl) (by kernel_rfl) (by kernel_rfl) (by kernel_rfl) (fun _ _ _ h => h) ⟨trivial, hS⟩ (Or.inl ⟨by rfl, ?_⟩) ?_
            rotate_left
            · (intro w' hSw; have c1_0 := (hSw.2.1).get 0 (.slice (some ⟨be, oe, none⟩) l c) rfl; clear hSw; go_simp; try with_reducible rfl)
            simp only [Act.put, List.setIfInBounds_toArray, List.set_cons_zero, List.set_cons_succ]
            refine tail_read 4 (oi := ⟨some 45, _, _, _, _, _⟩) (v := ?_) rfl (by kernel_rfl) (by kernel_rfl) (by kernel_rfl) (by kernel_rfl) (fun _ _ _ h => h) ⟨trivial, hS⟩ (Or.inl ⟨by rfl, ?_⟩) ?_
            rotate_left
            · (intro w' hSw; clear hSw; go_simp; try with_reducible rfl)
            simp only [Act.put, List.setIfInBounds_toArray, List.set_cons_zero, List.set_cons_succ]
            refine tail_read 5 (oi := ⟨some 46, _, _, _, _, _⟩) (v := ?_) rfl (by kernel_rfl) (by kernel_rfl) (by kernel_rfl) (by kernel_rfl) (fun _ _ _ h => h) ⟨trivial, hS⟩ (Or.inl ⟨by rfl, ?_⟩) ?_
            rotate_left
            · (intro w' hSw; clear hSw; go_simp; try with_reducible rfl)
            simp only [Act.put, List.setIfInBounds_toArray, List.set_cons_zero, List.set_cons_succ]
            refine tail_chain 6 [7, 8, 9, 10] (oi := ⟨some 47, _, _, _, _, _⟩) (v := ?_) rfl (by kernel_rfl) (by kernel_rfl) (by kernel_rfl) (by kernel_rfl) (fun _ _ _ h => h) ⟨trivial, hS⟩ (Or.inl ⟨by rfl, ?_⟩) ?_
            rotate_left
            · (intro w' hSw; have c2_0 := (hSw.2.2).get0 (.int .i64 xe.k) (by decide) rfl; have c2_1 := (hSw.2.2).get 1 (.int .i64 xe.vm) (by decide) rfl; have c2_2 := (hSw.2.2).get 2 (.int .i64 xe.sp) (by decide) rfl; have c2_3 := (hSw.2.2).get 3 (.bool xe.al) (by decide) rfl; have c2_4 := (hSw.2.2).get 4 (.int .i64 xe.pg) (by decide) rfl; have c2_5 := (hSw.2.2).get 5 (.int .i64 xe.lv) (by decide) rfl; have c2_6 := (hSw.2.2).get 6 (.int .i64 xe.fr) (by decide) rfl; have c2_7 := (hSw.2.2).get 7 (.int .i64 xe.mi) (by decide) rfl; have c2_8 := (hSw.2.2).get 8 (.bool xe.t.r) (by decide) rfl; have c2_9 := (hSw.2.2).get 9 (.bool xe.t.w) (by decide) rfl; have c2_10 := (hSw.2.2).get 10 (.bool xe.t.x) (by decide) rfl; have c2_11 := (hSw.2.2).get 11 (.bool xe.t.a) (by decide) rfl; have c2_12 := (hSw.2.2).get 12 (.bool xe.t.n) (by decide) rfl; have c2_13 := (hSw.2.2).get 13 (.int .i64 xe.t.s) (by decide) rfl; clear hSw; go_simp; try with_reducible rfl)
            simp only [Act.put, List.setIfInBounds_toArray, List.set_cons_zero, List.set_cons_succ]
            refine tail_one 7 (o := ⟨some 48, _, _, _, _, _⟩) (by kernel_rfl) rfl (fun K hK => ?_)
            go_simp
            refine hK.out _ _ ?_ (fun hS' => ?_)
            · exact ⟨trivial, ⟨hS.1.alloc _, hS.2.1.alloc _, hS.2.2.alloc _⟩⟩
            clear hK K hS
            have hS := hS'.2
            clear hS'
            try simp only [Act.put, List.setIfInBounds_toArray, List.set_cons_zero, List.set_cons_succ]
            refine tail_one 8 (o := ⟨some 49, _, _, _, _, _⟩) (by kernel_rfl) rfl (fun K hK => ?_)
            refine step_rowRl (K := KE) rfl _ _ rfl w.heap.size xl 1 _ (keptE (fun e => anyT e D2) (E.take k)) [xe] rfl (F4.out.alloc (.cells #[.int .i64 xe.k, .int .i64 xe.vm, .int .i64 xe.sp, .bool xe.al, .int .i64 xe.pg, .int .i64 xe.lv, .int .i64 xe.fr, .int .i64 xe.mi, .bool xe.t.r, .bool xe.t.w, .bool xe.t.x, .bool xe.t.a, .bool xe.t.n, .int .i64 xe.t.s] 36)) (((F4.out.alloc (.cells #[.int .i64 xe.k, .int .i64 xe.vm, .int .i64 xe.sp, .bool xe.al, .int .i64 xe.pg, .int .i64 xe.lv, .int .i64 xe.fr, .int .i64 xe.mi, .bool xe.t.r, .bool xe.t.w, .bool xe.t.x, .bool xe.t.a, .bool xe.t.n, .int .i64 xe.t.s] 36))).rows.1) (some ⟨W4.heap.size, 0, none⟩) 1 rfl rfl (RowsAt.one (K := KE) (q := xe) ((BoxAt.newAt (W4) #[.int .i64 xe.k, .int .i64 xe.vm, .int .i64 xe.sp, .bool xe.al, .int .i64 xe.pg, .int .i64 xe.lv, .int .i64 xe.fr, .int .i64 xe.mi, .bool xe.t.r, .bool xe.t.w, .bool xe.t.x, .bool xe.t.a, .bool xe.t.n, .int .i64 xe.t.s] 36 (W4.heap.size) (by first | omega | (simp; done) | (simp; omega))))) (fun h => by cases h) (by omega) (by first | omega | (simp; omega)) ?_
            intro f5a c5a w5 hO5 hg5
            have hz5 := hg5.size
            try simp at hz5
            have hSn : (fun w' => BoxAt w' (g3) #[.slice xf xl xc, .slice f2 m c2] 43 ∧ BoxAt w' (g1) #[.slice (some ⟨be, oe, none⟩) l c, .slice g m d] 43 ∧ RowAt w' (be) (oe + k * 14) 14 #[.int .i64 xe.k, .int .i64 xe.vm, .int .i64 xe.sp, .bool xe.al, .int .i64 xe.pg, .int .i64 xe.lv, .int .i64 xe.fr, .int .i64 xe.mi, .bool xe.t.r, .bool xe.t.w, .bool xe.t.x, .bool xe.t.a, .bool xe.t.n, .int .i64 xe.t.s]) w5 := ⟨hS.1.grown hg5 ((F4.out.alloc (.cells #[.int .i64 xe.k, .int .i64 xe.vm, .int .i64 xe.sp, .bool xe.al, .int .i64 xe.pg, .int .i64 xe.lv, .int .i64 xe.fr, .int .i64 xe.mi, .bool xe.t.r, .bool xe.t.w, .bool xe.t.x, .bool xe.t.a, .bool xe.t.n, .int .i64 xe.t.s] 36)).ne_box (X4.out.alloc (.cells #[.int .i64 xe.k, .int .i64 xe.vm, .int .i64 xe.sp, .bool xe.al, .int .i64 xe.pg, .int .i64 xe.lv, .int .i64 xe.fr, .int .i64 xe.mi, .bool xe.t.r, .bool xe.t.w, .bool xe.t.x, .bool xe.t.a, .bool xe.t.n, .int .i64 xe.t.s] 36)) (by decide)), hS.2.1.grown hg5 ((F4.out.alloc (.cells #[.int .i64 xe.k, .int .i64 xe.vm, .int .i64 xe.sp, .bool xe.al, .int .i64 xe.pg, .int .i64 xe.lv, .int .i64 xe.fr, .int .i64 xe.mi, .bool xe.t.r, .bool xe.t.w, .bool xe.t.x, .bool xe.t.a, .bool xe.t.n, .int .i64 xe.t.s] 36)).ne_box (A4.out.alloc (.cells #[.int .i64 xe.k, .int .i64 xe.vm, .int .i64 xe.sp, .bool xe.al, .int .i64 xe.pg, .int .i64 xe.lv, .int .i64 xe.fr, .int .i64 xe.mi, .bool xe.t.r, .bool xe.t.w, .bool xe.t.x, .bool xe.t.a, .bool xe.t.n, .int .i64 xe.t.s] 36)) (by decide)), hS.2.2.grownR hg5 (fun he => absurd ((F4.out.alloc (.cells #[.int .i64 xe.k, .int .i64 xe.vm, .int .i64 xe.sp, .bool xe.al, .int .i64 xe.pg, .int .i64 xe.lv, .int .i64 xe.fr, .int .i64 xe.mi, .bool xe.t.r, .bool xe.t.w, .bool xe.t.x, .bool xe.t.a, .bool xe.t.n, .int .i64 xe.t.s] 36)).blk _ he.symm) (by omega))⟩
            have A5 := Lib.hid ((A4.out.alloc (.cells #[.int .i64 xe.k, .int .i64 xe.vm, .int .i64 xe.sp, .bool xe.al, .int .i64 xe.pg, .int .i64 xe.lv, .int .i64 xe.fr, .int .i64 xe.mi, .bool xe.t.r, .bool xe.t.w, .bool xe.t.x, .bool xe.t.a, .bool xe.t.n, .int .i64 xe.t.s] 36)).grown hg5 ((F4.out.alloc (.cells #[.int .i64 xe.k, .int .i64 xe.vm, .int .i64 xe.sp, .bool xe.al, .int .i64 xe.pg, .int .i64 xe.lv, .int .i64 xe.fr, .int .i64 xe.mi, .bool xe.t.r, .bool xe.t.w, .bool xe.t.x, .bool xe.t.a, .bool xe.t.n, .int .i64 xe.t.s] 36)).ne_box (A4.out.alloc (.cells #[.int .i64 xe.k, .int .i64 xe.vm, .int .i64 xe.sp, .bool xe.al, .int .i64 xe.pg, .int .i64 xe.lv, .int .i64 xe.fr, .int .i64 xe.mi, .bool xe.t.r, .bool xe.t.w, .bool xe.t.x, .bool xe.t.a, .bool xe.t.n, .int .i64 xe.t.s] 36)) (by decide)))
            have R5 := Lib.hid ((R4.out.alloc (.cells #[.int .i64 xe.k, .int .i64 xe.vm, .int .i64 xe.sp, .bool xe.al, .int .i64 xe.pg, .int .i64 xe.lv, .int .i64 xe.fr, .int .i64 xe.mi, .bool xe.t.r, .bool xe.t.w, .bool xe.t.x, .bool xe.t.a, .bool xe.t.n, .int .i64 xe.t.s] 36)).grown hg5 ((F4.out.alloc (.cells #[.int .i64 xe.k, .int .i64 xe.vm, .int .i64 xe.sp, .bool xe.al, .int .i64 xe.pg, .int .i64 xe.lv, .int .i64 xe.fr, .int .i64 xe.mi, .bool xe.t.r, .bool xe.t.w, .bool xe.t.x, .bool xe.t.a, .bool xe.t.n, .int .i64 xe.t.s] 36)).ne_box (R4.out.alloc (.cells #[.int .i64 xe.k, .int .i64 xe.vm, .int .i64 xe.sp, .bool xe.al, .int .i64 xe.pg, .int .i64 xe.lv, .int .i64 xe.fr, .int .i64 xe.mi, .bool xe.t.r, .bool xe.t.w, .bool xe.t.x, .bool xe.t.a, .bool xe.t.n, .int .i64 xe.t.s] 36)) (by decide)))
            have X5 := Lib.hid ((X4.out.alloc (.cells #[.int .i64 xe.k, .int .i64 xe.vm, .int .i64 xe.sp, .bool xe.al, .int .i64 xe.pg, .int .i64 xe.lv, .int .i64 xe.fr, .int .i64 xe.mi, .bool xe.t.r, .bool xe.t.w, .bool xe.t.x, .bool xe.t.a, .bool xe.t.n, .int .i64 xe.t.s] 36)).grown hg5 ((F4.out.alloc (.cells #[.int .i64 xe.k, .int .i64 xe.vm, .int .i64 xe.sp, .bool xe.al, .int .i64 xe.pg, .int .i64 xe.lv, .int .i64 xe.fr, .int .i64 xe.mi, .bool xe.t.r, .bool xe.t.w, .bool xe.t.x, .bool xe.t.a, .bool xe.t.n, .int .i64 xe.t.s] 36)).ne_box (X4.out.alloc (.cells #[.int .i64 xe.k, .int .i64 xe.vm, .int .i64 xe.sp, .bool xe.al, .int .i64 xe.pg, .int .i64 xe.lv, .int .i64 xe.fr, .int .i64 xe.mi, .bool xe.t.r, .bool xe.t.w, .bool xe.t.x, .bool xe.t.a, .bool xe.t.n, .int .i64 xe.t.s] 36)) (by decide)))
            have D5o := Lib.hid ((D4.out.alloc (.cells #[.int .i64 xe.k, .int .i64 xe.vm, .int .i64 xe.sp, .bool xe.al, .int .i64 xe.pg, .int .i64 xe.lv, .int .i64 xe.fr, .int .i64 xe.mi, .bool xe.t.r, .bool xe.t.w, .bool xe.t.x, .bool xe.t.a, .bool xe.t.n, .int .i64 xe.t.s] 36)).grownO (F4.out.alloc (.cells #[.int .i64 xe.k, .int .i64 xe.vm, .int .i64 xe.sp, .bool xe.al, .int .i64 xe.pg, .int .i64 xe.lv, .int .i64 xe.fr, .int .i64 xe.mi, .bool xe.t.r, .bool xe.t.w, .bool xe.t.x, .bool xe.t.a, .bool xe.t.n, .int .i64 xe.t.s] 36)) (by decide) hg5)
            have F5 := Lib.hid (hO5)
            have B5 := Lib.hid ((bel_alloc B4.out (.cells #[.int .i64 xe.k, .int .i64 xe.vm, .int .i64 xe.sp, .bool xe.al, .int .i64 xe.pg, .int .i64 xe.lv, .int .i64 xe.fr, .int .i64 xe.mi, .bool xe.t.r, .bool xe.t.w, .bool xe.t.x, .bool xe.t.a, .bool xe.t.n, .int .i64 xe.t.s] 36)).grown hg5 (show w.heap.size ≤ _ by first | omega | (simp; omega)) (fun k hk => Nat.le_trans (show w.heap.size ≤ w.heap.size by omega) ((F4.out.alloc (.cells #[.int .i64 xe.k, .int .i64 xe.vm, .int .i64 xe.sp, .bool xe.al, .int .i64 xe.pg, .int .i64 xe.lv, .int .i64 xe.fr, .int .i64 xe.mi, .bool xe.t.r, .bool xe.t.w, .bool xe.t.x, .bool xe.t.a, .bool xe.t.n, .int .i64 xe.t.s] 36)).blk k hk)))
            obtain ⟨g5, hgg5⟩ : ∃ g5, g5 = W4.heap.size := ⟨_, rfl⟩
            have hs5 : g5 + 1 ≤ w5.heap.size := by omega
            have hb5 : ms ≤ g5 := by omega
            try rw [← hgg5]
            clear hgg5
            clear A4 R4 X4 D4 F4 B4 hg5 hO5 hz5 hs4
            refine hK.out _ _ ?_ (fun hS' => ?_)
            · exact ⟨trivial, hSn⟩
            clear hK K hS hSn
            have hS := hS'.2
            clear hS'
            try simp only [Act.put, List.setIfInBounds_toArray, List.set_cons_zero, List.set_cons_succ]
            refine tail_read 9 (oi := ⟨some 50, _, _, _, _, _⟩) (v := ?_) rfl (by kernel_rfl) (by kernel_rfl) (by kernel_rfl) (by kernel_rfl) (fun _ _ _ h => h) ⟨trivial, hS⟩ (Or.inl ⟨by rfl, ?_⟩) ?_
            rotate_left
            · (intro w' hSw; clear hSw; go_simp; try with_reducible rfl)
            simp only [Act.put, List.setIfInBounds_toArray, List.set_cons_zero, List.set_cons_succ]
            refine tail_last 10 (o := ⟨none, _, _, _, _, _⟩) (by decide) (by kernel_rfl) rfl (fun K hK => ?_)
            have zs0 := X5.out.free 0
            have cs0 := X5.out.get 0 (.slice xf xl xc) rfl
            go_simp
            clear zs0 cs0
            refine hK.out _ _ trivial ?_
            clear hK K
            try simp only [Act.put, List.setIfInBounds_toArray, List.set_cons_zero, List.set_cons_succ]
            refine tail_done (by kernel_rfl) ?_
            clear hS
            have A6 := Lib.hid ((A5.out.other ⟨g3, 0, none⟩ (.slice f5a (xl + 1) c5a) (show g1 ≠ g3 by omega)))
            have R6 := Lib.hid ((R5.out.other ⟨g3, 0, none⟩ (.slice f5a (xl + 1) c5a) (show g1 + 1 ≠ g3 by omega)))
            have X6 := Lib.hid ((X5.out.set 0 (.slice f5a (xl + 1) c5a) #[.slice f5a (xl + 1) c5a, .slice f2 m c2] rfl))
            have D6 := Lib.hid ((D5o.out.otherN ⟨g3, 0, none⟩ (.slice f5a (xl + 1) c5a) (D5o.out.ne_box X5.out (by decide))))
            have F6 := Lib.hid ((F5.out.otherN ⟨g3, 0, none⟩ (.slice f5a (xl + 1) c5a) (F5.out.ne_box X5.out (by decide))))
            have B6 := Lib.hid ((Below.setCell B5.out (p := ⟨g3, 0, none⟩) (show w.heap.size ≤ g3 by omega) (.slice f5a (xl + 1) c5a)))
            obtain ⟨W6, hW6⟩ : ∃ W6, W6 = (w5).setCell ⟨g3, 0, none⟩ (.slice f5a (xl + 1) c5a) := ⟨_, rfl⟩
            have hs6 : g5 + 1 ≤ W6.heap.size := by rw [hW6]; first | (simp [World.setCell]; omega) | (simp [World.setCell, World.setRow]; omega) | exact hs5
            rw [← hW6] at A6 R6 X6 D6 F6 B6 ⊢
            clear hW6 A5 R5 X5 D5o F5 B5 hs5
            go_wp2
            have FN := Lib.hid (show OwnR KE _ w.heap.size (.slice f5a (xl + 1) c5a) (keptE (fun e => anyT e D2) (E.take (k + 1))) from by rw [HFN.out]; exact F6.out)
            clear HXL
            have HXL := Lib.hid (show (xl + 1) ≤ k + 1 from by omega)
            go_roundw
            case rel => exact ⟨k + 1, f5a, (xl + 1), c5a, by omega, by go_num, A6.out, R6.out, X6.out, B6.out, FN.out, D6.out, HXL⟩
            case measure => simp [intOf]; omega
          · have HFN := Lib.hid (kept_no (p := fun e => anyT e D2) HXE.out HG2.out)
            go_wp2
            have FN := Lib.hid (show OwnR KE _ w.heap.size (.slice xf xl xc) (keptE (fun e => anyT e D2) (E.take (k + 1))) from by rw [HFN.out]; exact Fs.out)
            clear HXL
            have HXL := Lib.hid (show xl ≤ k + 1 from by omega)
            go_roundw
            case rel => exact ⟨k + 1, xf, xl, xc, by omega, by go_num, As.out, Rs.out, Xs.out, Bs.out, FN.out, Ds.out, HXL⟩
            case measure => simp [intOf]; omega
    · have e1 : E.take k = E := List.take_of_length_le (by have := HN.out; omega)
      have HKP := Lib.hid (show keptE (fun e => anyT e D2) (E.take k) = keptE (fun e => anyT e D2) E from by rw [e1])
      clear e1
      have Ac0 := Ar.out.get 0 (.slice f l c) rfl
      have Xc0 := Xr.out.get 0 (.slice xf xl xc) rfl
      have Xc1 := Xr.out.get 1 (.slice f2 m c2) rfl
      go_wp2_with (refine wpList_storeB rfl 43 _ _ rfl (g1 + 1) #[.slice xf xl xc, .slice f2 m c2] _ 43 rfl rfl (by kernel_rfl) (by rfl) (by simp [Value.oneCell']) Rr.out ?_)
      have RR := (Rr.out.put (cs' := #[.slice xf xl xc, .slice f2 m c2]))
      refine bodyPost_ret (v := .agg #[.slice xf xl xc, .slice f2 m c2]) (by simp [results, Try.results24, go_sem, RR.get 0 (.slice xf xl xc) rfl, RR.get 1 (.slice f2 m c2) rfl]) rfl ?_
      rw [← HKP.out]
      exact ⟨xf, xl, xc, f2, c2, rfl, ((Fr.out.rowN (g := g1 + 1) (cs := #[.slice xf xl xc, .slice f2 m c2]) (Fr.out.ne_box Rr.out (by decide)))).rows.1, (Fr.out.rowN (g := g1 + 1) (cs := #[.slice xf xl xc, .slice f2 m c2]) (Fr.out.ne_box Rr.out (by decide))), (Dr.out.rowN (g := g1 + 1) (cs := #[.slice xf xl xc, .slice f2 m c2]) (Dr.out.ne_box Rr.out (by decide))), (Below.rowB (g := g1 + 1) Br.out (cs := #[.slice xf xl xc, .slice f2 m c2]) (show w.heap.size ≤ g1 + 1 by omega))⟩
end
section
open Go.ChangeShapes Go.WideShapes Go.ChangeAt Go.RowKit Go.Deep Go.Shelf

theorem TlbAt.below {w W : World} {t : Tlh} (h : TlbAt w t) (hb : Below w.heap.size w W) : TlbAt W t := by
  obtain ⟨E, D, a1, a2, a3, b1, b2, b3, r⟩ := h
  exact ⟨E, D, a1, a2, a3.below hb, b1, b2, b3.below hb, r⟩
theorem allF_iff (E : List Ety) : ∀ (L : List Ety) (k : Int), allF E L k = true ↔ ∀ (i : Nat) (x : Ety), L[i]? = some x → mayEn x = true ∧ inE E x = k + (i : Int)
  | [], k => by simp [allF]
  | y :: L, k => by
    unfold allF
    rw [Bool.and_eq_true, Bool.and_eq_true, decide_eq_true_eq, allF_iff E L (k + 1)]
    constructor
    · rintro ⟨h1, h2, h3⟩ i x hi
      cases i with
      | zero => simp only [List.getElem?_cons_zero, Option.some.injEq] at hi; subst hi; exact ⟨h1, by simpa using h2⟩
      | succ i =>
        have := h3 i x (by simpa using hi)
        exact ⟨this.1, by rw [this.2]; push_cast; omega⟩
    · intro h
      refine ⟨(h 0 y rfl).1, by simpa using (h 0 y rfl).2, fun i x hi => ?_⟩
      have := h (i + 1) x (by simpa using hi)
      exact ⟨this.1, by rw [this.2]; push_cast; omega⟩
theorem inE_nodup {E : List Ety} : (∀ (i : Nat) (x : Ety), E[i]? = some x → inE E x = (i : Int)) ↔ E.Nodup := by
  constructor
  · intro h
    unfold List.Nodup
    rw [List.pairwise_iff_getElem]
    intro i j hi hj hij he
    have h2 := h i _ (List.getElem?_eq_getElem hi)
    have h3 := h j _ (List.getElem?_eq_getElem hj)
    rw [he] at h2
    omega
  · intro h i x hx
    unfold inE
    rcases placeE_tell (fun y => eqE y x) E 0 with ⟨h1, h2⟩ | ⟨j, y, h1, h2, h3, h4⟩
    · have := h2 i x hx
      rw [eqE_self] at this
      cases this
    · rw [h3]
      obtain rfl : y = x := by simpa [eqE] using h2
      obtain ⟨hi, e1⟩ := List.getElem?_eq_some_iff.1 hx
      obtain ⟨hj, e2⟩ := List.getElem?_eq_some_iff.1 h1
      unfold List.Nodup at h
      rw [List.pairwise_iff_getElem] at h
      rcases Nat.lt_trichotomy i j with hl | he | hl
      · exact absurd (e1.trans e2.symm) (h i j hi hj hl)
      · omega
      · exact absurd (e2.trans e1.symm) (h j i hj hi hl)
theorem mayT_kept {E : List Ety} {D : List Inv} (p : Ety → Bool) (h : mayT E D = true) : mayT (keptE p E) D = true := by
  unfold mayT at h ⊢
  simp only [Bool.and_eq_true, decide_eq_true_eq] at h ⊢
  obtain ⟨h1, h2, h3, h4⟩ := h
  have hs : (keptE p E).Sublist E := List.filter_sublist
  refine ⟨?_, h2, Nat.le_trans hs.length_le h3, h4⟩
  rw [allF_iff] at h1 ⊢
  have hn : E.Nodup := inE_nodup.1 fun i x hi => by have := (h1 i x hi).2; omega
  have hn2 : (keptE p E).Nodup := hn.sublist hs
  intro i x hi
  refine ⟨?_, by rw [inE_nodup.2 hn2 i x hi]; omega⟩
  obtain ⟨j, hj⟩ := List.mem_iff_getElem?.1 (hs.subset (List.mem_of_getElem? hi))
  exact (h1 j x hj).1
theorem kept_again (v : Inv) (E : List Ety) : keptE (fun e => anyT e [v, v]) (keptE (fun e => anyT e [v]) E) = keptE (fun e => anyT e [v]) E := by
  unfold keptE
  rw [List.filter_eq_self]
  intro y hy
  have := (List.mem_filter.1 hy).2
  simpa [anyT] using this
theorem eqT_same10 (f g f2 g2 : Option Addr) (l c m d l2 c2 m2 d2 : Nat) (E : List Ety) (D : List Inv) (w : World) (hE : RowsAt KE w f E) (hl : l = E.length) (hD : RowsAt KI w g D) (hm : m = D.length) (hE2 : RowsAt KE w f2 E) (hl2 : l2 = E.length) (hD2 : RowsAt KI w g2 D) (hm2 : m2 = D.length) (hls : l ≤ 1000000) (hms : m ≤ 1000000) :
    Calls Try.prog 25 #[.agg #[.slice f l c, .slice g m d], .agg #[.slice f2 l2 c2, .slice g2 m2 d2]] w fun r w' => r = .returned (.bool true) ∧ Below w.heap.size w w' := by
  have := eqT_any f g f2 g2 l c m d l2 c2 m2 d2 E E D D w hE hl hD hm hE2 hl2 hD2 hm2 hls hms
  simpa using this
theorem RowsAt.two {Q : Type} {K : RowK Q} {w : World} {b : Nat} {q q2 : Q} {cs : Array Value} {t : TypeId} (h : BoxAt w b cs t) (hc : cs.toList = (K.V q).toList ++ (K.V q2).toList) : RowsAt K w (some ⟨b, 0, none⟩) [q, q2] := by
  have h1 : (K.V q).toList.length = K.N := by rw [Array.length_toList]; exact K.size q
  intro j x hj
  match j with
  | 0 =>
    simp only [List.getElem?_cons_zero, Option.some.injEq] at hj
    subst hj
    refine ⟨b, 0, rfl, ⟨h.lt, fun i hi => ?_⟩⟩
    have := h.cell i
    simp only [Nat.zero_mul, Nat.zero_add]
    rw [this, ← Array.getElem?_toList, hc, List.getElem?_append_left (by omega), Array.getElem?_toList]
  | 1 =>
    simp only [List.getElem?_cons_succ, List.getElem?_cons_zero, Option.some.injEq] at hj
    subst hj
    refine ⟨b, 0, rfl, ⟨h.lt, fun i hi => ?_⟩⟩
    have := h.cell (K.N + i)
    simp only [Nat.one_mul, Nat.zero_add]
    rw [this, ← Array.getElem?_toList, hc, List.getElem?_append_right (by omega), h1, Nat.add_sub_cancel_left, Array.getElem?_toList]
  | j + 2 => simp at hj
set_option maxRecDepth 100000 in
set_option maxHeartbeats 3200000 in
theorem kind10_walk (kd : Int) (ft g f : Option Addr) (nt ct m d l c : Nat) (T : List Tlh) (D : List Inv) (E : List Ety) (w : World) (hn : nt = T.length) (hn2 : nt ≤ 1000000000000000) (hT : RowsAt KT w ft T) (hTT : ∀ t ∈ T, TlbAt w t) (hD : m = D.length ∧ m ≤ 1000000000000000 ∧ RowsAt KI w g D ∧ (m ≤ d ∧ d ≤ maxLen ∧ (g = none → d = 0))) (hE : l = E.length ∧ l ≤ 1000000000000000 ∧ RowsAt KE w f E) :
    Calls Try.prog 36 #[.agg #[.slice ft nt ct, .slice g m d, .slice f l c], .int .i64 kd] w fun r w' => r = .returned (.bool true) ∧ Below w.heap.size w w' := by
  have HH := Lib.hid (fun W (hB : Below w.heap.size w W) => heavyC ft g f nt ct m d l c T W hn hn2 hD.2.1 hE.2.1 (hT.below hB) (fun x hx => by obtain ⟨_, _, _, h1, _, _, h2, _⟩ := hTT x hx; exact ⟨h1, h2⟩))
  have HD := Lib.hid hD.2.2.1
  have HO := Lib.hid hD.1
  have HL := Lib.hid hE.2.2
  have HN := Lib.hid hE.1
  have hm2 := hD.2.1
  have hl2 := hE.2.1
  have HDC := Lib.hid hD.2.2.2
  have HT := Lib.hid hT
  have HTN := Lib.hid hn
  have HTT := Lib.hid hTT
  clear hn hT hTT hD hE
  have htw : w.heap.size ≤ w.heap.size := Nat.le_refl _
  have B0 := Lib.hid (Below.refl w.heap.size w)
  go_enter Try.func36, Try.ntmps36
  go_upto_region 1 with fail
  have P1 := Lib.hid ((BoxAt.newAt (w) #[.slice ft nt ct, .slice g m d, .slice f l c] 26 (w.heap.size) (by first | omega | (simp; done) | (simp; omega))))
  have B1 := Lib.hid ((bel_alloc B0.out (.cells #[.slice ft nt ct, .slice g m d, .slice f l c] 26)))
  obtain ⟨g1, hg1⟩ : ∃ g1, g1 = w.heap.size := ⟨_, rfl⟩
  obtain ⟨W1, hW1⟩ : ∃ W1, W1 = (w).alloc (.cells #[.slice ft nt ct, .slice g m d, .slice f l c] 26) := ⟨_, rfl⟩
  have hs1 : g1 + 1 ≤ W1.heap.size := by rw [hW1, hg1]; simp
  rw [← hW1] at P1 B1 ⊢
  have hb1 : w.heap.size ≤ g1 := by omega
  rw [← hg1] at P1 ⊢
  clear hg1
  clear hW1 B0
  have Pc0 := P1.out.get 0 (.slice ft nt ct) rfl
  have Pc1 := P1.out.get 1 (.slice g m d) rfl
  have Pc2 := P1.out.get 2 (.slice f l c) rfl
  go_wp2_with fail
  refine (HH.out _ B1.out).mono ?_
  rintro e w2 hh2
  unfold HeavyEnd at hh2
  obtain ⟨hv, rfl, hvq, hb2⟩ := hh2
  have HVQ := Lib.hid hvq
  clear hvq
  have hz2 := hb2.size
  have P2 := Lib.hid (P1.out.below hb2)
  have B2 := Lib.hid ((bel_trans B1.out hb2))
  skip
  have hs2 : g1 + 1 ≤ w2.heap.size := by omega
  clear Pc0 Pc1 Pc2
  clear P1 B1 hs1 hb2 hz2
  cases hv
  · have HV6 := Lib.hid (show ∀ x ∈ T, x.l ≤ 600 ∧ x.m ≤ 600 from (HVQ.out rfl).2.2.2)
    go_wp2
    go_loopw [5] (fun i wr => ∃ (k : Nat), k ≤ nt ∧ i = .int .i64 k ∧ Hid (BoxAt wr (g1) #[.slice ft nt ct, .slice g m d, .slice f l c] 26) ∧ Hid (Below w.heap.size w wr)) (fun i _ => nt - (intOf i).toNat)
    case atStart => exact ⟨0, by omega, rfl, P2.out, B2.out⟩
    case round =>
      clear P2 B2
      obtain ⟨k, hkk, rfl, Pr, Br⟩ := hrel
      obtain ⟨mr, hmr⟩ : ∃ mr, mr = wr.heap.size := ⟨_, rfl⟩
      have hgPr : g1 + 1 ≤ mr := by rw [hmr]; exact Pr.out.lt
      have hgwr : w.heap.size ≤ mr := by rw [hmr]; exact Br.out.size
      have hsr : mr ≤ wr.heap.size := by omega
      clear hmr
      by_cases hltk : k < nt
      · have ik0k : (0 : Int) ≤ (k : Int) := by omega
        have ik1k : (k : Int) < (nt : Int) := by omega
        have ikwk : IntKind.i64.wrap ((k : Int) + 1) = (k : Int) + 1 := IntWalk.i64_in _ (by omega)
        by_cases hlik : k < 5
        rotate_left
        · have dlk : decide ((k : Int) < 5) = false := decide_eq_false (by omega)
          have Pc0 := Pr.out.get 0 (.slice ft nt ct) rfl
          go_wp2_with fail
          refine (wakes10_any _).mono ?_
          rintro e w3 ⟨rfl, hb3⟩
          have hz3 := hb3.size
          have P3 := Lib.hid (Pr.out.below hb3)
          have B3 := Lib.hid ((bel_trans Br.out hb3))
          skip
          have hs3 : mr ≤ w3.heap.size := by omega
          clear Pc0
          clear Pr Br hsr hb3 hz3
          go_wp2
          go_ret
          exact ⟨rfl, B3.out⟩
        have dlk : decide ((k : Int) < 5) = true := decide_eq_true (by omega)
        obtain ⟨xt, hxt⟩ := rows_some HTN.out hltk
        obtain ⟨E0, D0, te1, te2, te3, td1, td2, td3, ⟨te4, te5, te6⟩, ⟨td4, td5, td6⟩⟩ := HTT.out xt (List.mem_of_getElem? hxt)
        obtain ⟨t6l, t6m⟩ := HV6.out xt (List.mem_of_getElem? hxt)
        obtain ⟨bt, ot, rfl, hrt⟩ := HT.out k xt hxt
        have HRXT := Lib.hid (show RowAt w bt (ot + k * 2) 2 #[.slice xt.f xt.l xt.c, .slice xt.g xt.m xt.d] from hrt)
        have hbt : bt < w.heap.size := hrt.lt
        clear hrt hxt
        have HTE := Lib.hid te3
        have HTD := Lib.hid td3
        have HE1 := Lib.hid te1
        have HD1 := Lib.hid td1
        have HEF := Lib.hid te6
        have HDF := Lib.hid td6
        clear te1 td1 te2 td2 te3 td3 te6 td6
        have Pc0 := Pr.out.get 0 (.slice (some ⟨bt, ot, none⟩) nt ct) rfl
        go_wp2
        clear Pc0
        go_loopw [6] (fun i wr => ∃ (j : Nat), j ≤ m ∧ i = .int .i64 j ∧ Hid (BoxAt wr (g1) #[.slice (some ⟨bt, ot, none⟩) nt ct, .slice g m d, .slice f l c] 26) ∧ Hid (Below w.heap.size w wr)) (fun i _ => m - (intOf i).toNat)
        case atStart => exact ⟨0, by omega, rfl, Pr.out, Br.out⟩
        case round =>
          clear Pr Br
          obtain ⟨j, hkj, rfl, Ps, Bs⟩ := hrel
          obtain ⟨ms, hms⟩ : ∃ ms, ms = wr.heap.size := ⟨_, rfl⟩
          have hgPs : g1 + 1 ≤ ms := by rw [hms]; exact Ps.out.lt
          have hgws : w.heap.size ≤ ms := by rw [hms]; exact Bs.out.size
          have hss : ms ≤ wr.heap.size := by omega
          clear hms
          by_cases hltj : j < m
          · have ik0j : (0 : Int) ≤ (j : Int) := by omega
            have ik1j : (j : Int) < (m : Int) := by omega
            have ikwj : IntKind.i64.wrap ((j : Int) + 1) = (j : Int) + 1 := IntWalk.i64_in _ (by omega)
            by_cases hlij : j < 12
            rotate_left
            · have dlj : decide ((j : Int) < 12) = false := decide_eq_false (by omega)
              have Pc1 := Ps.out.get 1 (.slice g m d) rfl
              go_wp2
              go_roundw
              case rel => exact ⟨k + 1, by omega, by go_num, Ps.out, Bs.out⟩
              case measure => simp [intOf]; omega
            have dlj : decide ((j : Int) < 12) = true := decide_eq_true (by omega)
            obtain ⟨xi, hxi⟩ := rows_some HO.out hltj
            obtain ⟨bi, oi, rfl, hri⟩ := HD.out j xi hxi
            have HRXI := Lib.hid (show RowAt w bi (oi + j * 4) 4 #[.int .i64 xi.k, .int .i64 xi.vm, .int .i64 xi.sp, .int .i64 xi.pg] from hri)
            have hbi : bi < w.heap.size := hri.lt
            clear hri hxi
            have HI9 := Lib.hid (fun W => inval9_any (⟨kd, xi.vm, xi.sp, xi.pg⟩ : Inv) W)
            have HT9 := Lib.hid (fun W (hB : Below w.heap.size w W) => mayT_any xt.f xt.g xt.l xt.c xt.m xt.d E0 D0 W (HTE.out.below hB) HE1.out (HTD.out.below hB) HD1.out (by omega) (by omega))
            obtain ⟨o1, ho1⟩ : ∃ o1, o1 = mayT E0 D0 := ⟨_, rfl⟩
            rw [← ho1] at HT9
            have HM1 := Lib.hid ho1.symm
            obtain ⟨o2, ho2⟩ : ∃ o2, o2 = mayIn (⟨kd, xi.vm, xi.sp, xi.pg⟩ : Inv) := ⟨_, rfl⟩
            rw [← ho2] at HI9
            have HM2 := Lib.hid ho2.symm
            clear ho1 ho2
            unfold invV invC at HI9
            have Pc1 := Ps.out.get 1 (.slice (some ⟨bi, oi, none⟩) m d) rfl
            have yXI := (HRXI.out.below Bs.out)
            have yXI0 := yXI.get0 (.int .i64 xi.k) (by decide) rfl
            have yXI1 := yXI.get 1 (.int .i64 xi.vm) (by decide) rfl
            have yXI2 := yXI.get 2 (.int .i64 xi.sp) (by decide) rfl
            have yXI3 := yXI.get 3 (.int .i64 xi.pg) (by decide) rfl
            clear yXI
            go_upto_region 10 with fail
            clear Pc1 yXI0 yXI1 yXI2 yXI3
            have P3 := Lib.hid ((Ps.out.alloc (.cells #[.int .i64 xi.k, .int .i64 xi.vm, .int .i64 xi.sp, .int .i64 xi.pg] 32)))
            have V3 := Lib.hid ((BoxAt.newAt (wr) #[.int .i64 xi.k, .int .i64 xi.vm, .int .i64 xi.sp, .int .i64 xi.pg] 32 (wr.heap.size) (by first | omega | (simp; done) | (simp; omega))))
            have B3 := Lib.hid ((bel_alloc Bs.out (.cells #[.int .i64 xi.k, .int .i64 xi.vm, .int .i64 xi.sp, .int .i64 xi.pg] 32)))
            obtain ⟨g3, hg3⟩ : ∃ g3, g3 = wr.heap.size := ⟨_, rfl⟩
            obtain ⟨W3, hW3⟩ : ∃ W3, W3 = (wr).alloc (.cells #[.int .i64 xi.k, .int .i64 xi.vm, .int .i64 xi.sp, .int .i64 xi.pg] 32) := ⟨_, rfl⟩
            have hs3 : g3 + 1 ≤ W3.heap.size := by rw [hW3, hg3]; simp
            rw [← hW3] at P3 V3 B3 ⊢
            have hb3 : ms ≤ g3 := by omega
            rw [← hg3] at V3 ⊢
            clear hg3
            clear hW3 Ps Bs hss
            have Vc0 := V3.out.get 0 (.int .i64 xi.k) rfl
            have Vz0 := V3.out.free 0
            go_upto_region 11 with fail
            clear Vc0 Vz0
            have P4 := Lib.hid ((P3.out.other ⟨g3, 0, none⟩ (.int .i64 kd) (show g1 ≠ g3 by omega)))
            have V4 := Lib.hid ((V3.out.set 0 (.int .i64 kd) #[.int .i64 kd, .int .i64 xi.vm, .int .i64 xi.sp, .int .i64 xi.pg] rfl))
            have B4 := Lib.hid ((Below.setCell B3.out (p := ⟨g3, 0, none⟩) (show w.heap.size ≤ g3 by omega) (.int .i64 kd)))
            obtain ⟨W4, hW4⟩ : ∃ W4, W4 = (W3).setCell ⟨g3, 0, none⟩ (.int .i64 kd) := ⟨_, rfl⟩
            have hs4 : g3 + 1 ≤ W4.heap.size := by rw [hW4]; first | (simp [World.setCell]; omega) | (simp [World.setCell, World.setRow]; omega) | exact hs3
            rw [← hW4] at P4 V4 B4 ⊢
            clear hW4 P3 V3 B3 hs3
            have Pc0 := P4.out.get 0 (.slice (some ⟨bt, ot, none⟩) nt ct) rfl
            have yXT := (HRXT.out.below B4.out)
            have yXT0 := yXT.get0 (.slice xt.f xt.l xt.c) (by decide) rfl
            have yXT1 := yXT.get 1 (.slice xt.g xt.m xt.d) (by decide) rfl
            clear yXT
            go_wp2_with fail
            refine (HT9.out _ B4.out).mono ?_
            rintro e w5 ⟨rfl, hb5⟩
            have hz5 := hb5.size
            have P5 := Lib.hid (P4.out.below hb5)
            have V5 := Lib.hid (V4.out.below hb5)
            have B5 := Lib.hid ((bel_trans B4.out hb5))
            skip
            have hs5 : g3 + 1 ≤ w5.heap.size := by omega
            clear Pc0 yXT0 yXT1
            clear P4 V4 B4 hs4 hb5 hz5
            cases o1
            · go_wp2
              go_roundw
              case rel => exact ⟨j + 1, by omega, by go_num, P5.out, B5.out⟩
              case measure => simp [intOf]; omega
            have Vc0 := V5.out.get 0 (.int .i64 kd) rfl
            have Vc1 := V5.out.get 1 (.int .i64 xi.vm) rfl
            have Vc2 := V5.out.get 2 (.int .i64 xi.sp) rfl
            have Vc3 := V5.out.get 3 (.int .i64 xi.pg) rfl
            go_wp2_with fail
            refine (HI9.out _).mono ?_
            rintro e w6 ⟨rfl, hb6⟩
            have hz6 := hb6.size
            have P6 := Lib.hid (P5.out.below hb6)
            have V6 := Lib.hid (V5.out.below hb6)
            have B6 := Lib.hid ((bel_trans B5.out hb6))
            skip
            have hs6 : g3 + 1 ≤ w6.heap.size := by omega
            clear Vc0 Vc1 Vc2 Vc3
            clear P5 V5 B5 hs5 hb6 hz6
            cases o2
            · go_wp2
              go_roundw
              case rel => exact ⟨j + 1, by omega, by go_num, P6.out, B6.out⟩
              case measure => simp [intOf]; omega
            obtain ⟨KP, hKP⟩ : ∃ KP, KP = keptE (fun e => anyT e [(⟨kd, xi.vm, xi.sp, xi.pg⟩ : Inv)]) E0 := ⟨_, rfl⟩
            have hv1 : allV [(⟨kd, xi.vm, xi.sp, xi.pg⟩ : Inv)] = true := by simp [allV, HM2.out]
            have hv2 : allV [(⟨kd, xi.vm, xi.sp, xi.pg⟩ : Inv), (⟨kd, xi.vm, xi.sp, xi.pg⟩ : Inv)] = true := by simp [allV, HM2.out]
            have hmk : mayT KP D0 = true := by rw [hKP]; exact mayT_kept _ HM1.out
            have hr1 : applyR E0 D0 [(⟨kd, xi.vm, xi.sp, xi.pg⟩ : Inv)] = (KP, D0, 0) := by unfold applyR; rw [HM1.out, hv1, hKP]; rfl
            have hr2 : applyR KP D0 [(⟨kd, xi.vm, xi.sp, xi.pg⟩ : Inv), (⟨kd, xi.vm, xi.sp, xi.pg⟩ : Inv)] = (KP, D0, 0) := by unfold applyR; rw [hmk, hv2, hKP, kept_again]; rfl
            have hkl : KP.length ≤ xt.l := by rw [hKP, HE1.out]; exact kept_len _ _
            have HA1 := Lib.hid (fun b W (hB : Below w.heap.size w W) (hR : RowsAt KI W (some ⟨b, 0, none⟩) [(⟨kd, xi.vm, xi.sp, xi.pg⟩ : Inv)]) => applyC xt.f xt.g (some ⟨b, 0, none⟩) xt.l xt.c xt.m xt.d 1 1 E0 D0 [(⟨kd, xi.vm, xi.sp, xi.pg⟩ : Inv)] W (HTE.out.below hB) HE1.out (HTD.out.below hB) HD1.out (by omega) (by omega) te4 te5 HEF.out HDF.out hR rfl (by decide) (Nat.le_refl _) (by decide))
            have HA9 := Lib.hid (fun b W (hB : Below w.heap.size w W) (hR : RowsAt KI W (some ⟨b, 0, none⟩) [(⟨kd, xi.vm, xi.sp, xi.pg⟩ : Inv)]) => apply9_any xt.f xt.g (some ⟨b, 0, none⟩) xt.l xt.c xt.m xt.d 1 1 E0 D0 [(⟨kd, xi.vm, xi.sp, xi.pg⟩ : Inv)] W (HTE.out.below hB) HE1.out (HTD.out.below hB) HD1.out (by omega) (by omega) hR rfl (by decide) (fun k x hx => mayT_may HM1.out x (List.mem_of_getElem? hx)) hv1)
            have HA2 := Lib.hid (fun f1 g1 l1 c1 m1 d1 b W (h1 : OwnR KE W w.heap.size (.slice f1 l1 c1) KP) (h2 : OwnR KI W w.heap.size (.slice g1 m1 d1) D0) (hR : RowsAt KI W (some ⟨b, 0, none⟩) [(⟨kd, xi.vm, xi.sp, xi.pg⟩ : Inv), (⟨kd, xi.vm, xi.sp, xi.pg⟩ : Inv)]) => applyC f1 g1 (some ⟨b, 0, none⟩) l1 c1 m1 d1 2 2 KP D0 [(⟨kd, xi.vm, xi.sp, xi.pg⟩ : Inv), (⟨kd, xi.vm, xi.sp, xi.pg⟩ : Inv)] W h1.rows.2 h1.rows.1 h2.rows.2 h2.rows.1 (by have := h1.rows.1; omega) (by have := h2.rows.1; have := HD1.out; omega) h1.fit.1 h1.fit.2.1 h1.fit.2.2 h2.fit.2.2 hR rfl (by decide) (Nat.le_refl _) (by decide))
            rw [hr1] at HA1
            rw [hr2] at HA2
            rw [← hKP] at HA9
            unfold EndF at HA1 HA2
            simp only at HA1 HA2
            have HKL := Lib.hid hkl
            clear hr1 hr2 hKP hv1 hv2 hmk hkl
            go_upto_region 12 with fail
            go_cut [8, 9] (fun s8 s9 wx => ∃ (bS62 : Nat) (bX : Nat) (fx : Option Addr) (lx : Nat) (cx : Nat) (gx : Option Addr) (mx : Nat) (dx : Nat), s8 = .pointer (some ⟨bX, 0, none⟩) ∧ s9 = .int .i64 0 ∧ g3 + 1 ≤ bS62 ∧ g3 + 1 ≤ bX ∧ bS62 ≠ bX ∧ Hid (Below w6.heap.size w6 wx) ∧ Hid (OwnR KE wx (w.heap.size) (.slice fx lx cx) (KP)) ∧ Hid (OwnR KI wx (w.heap.size) (.slice gx mx dx) (D0)) ∧ Hid (BoxAt wx bS62 #[.int .i64 kd, .int .i64 xi.vm, .int .i64 xi.sp, .int .i64 xi.pg] 32) ∧ Hid (BoxAt wx bX #[.slice fx lx cx, .slice gx mx dx] 43))
            case first =>
              rename_i JJ KK hJJ hKK
              have BZ := Lib.hid (Below.refl w6.heap.size w6)
              refine wp_region_held_drew (S := (fun w' => BoxAt w' (g1) #[.slice (some ⟨bt, ot, none⟩) nt ct, .slice (some ⟨bi, oi, none⟩) m d, .slice f l c] 26 ∧ RowAt w' (bt) (ot + k * 2) 2 #[.slice xt.f xt.l xt.c, .slice xt.g xt.m xt.d] ∧ BoxAt w' (g3) #[.int .i64 kd, .int .i64 xi.vm, .int .i64 xi.sp, .int .i64 xi.pg] 32)) (by kernel_rfl) ⟨P6.out.drew, (HRXT.out.below B6.out).drew, V6.out.drew⟩ (fun hS => ?_)
              refine tkR 0 56 (v := .pointer (some ⟨g1, 0, none⟩)) rfl hS (fun _ _ => by kernel_rfl) ?_
              refine tkR 1 57 (v := .slice (some ⟨bt, ot, none⟩) nt ct) rfl hS (fun _ h => run_ld1 22 (.tmp 56) g1 0 (by kernel_rfl) (by kernel_rfl) Try.underlying22 rfl ((h.1).get 0 (.slice (some ⟨bt, ot, none⟩) nt ct) rfl)) ?_
              refine tkR 2 58 (v := .int .i64 k) rfl hS (fun _ _ => by kernel_rfl) ?_
              refine tkR 3 59 (v := .pointer (some ⟨bt, ot + k * 2, none⟩)) rfl hS (fun _ _ => run_ixN 22 43 (.tmp 57) (.tmp 58) bt ot nt ct k 2 (by kernel_rfl) (by kernel_rfl) (by kernel_rfl) Try.underlying22 (by kernel_rfl) hltk) ?_
              refine tkR 4 60 (v := .agg #[.slice xt.f xt.l xt.c, .slice xt.g xt.m xt.d]) rfl hS (fun _ h => run_ldN 43 (.tmp 59) bt (ot + k * 2) (by kernel_rfl) (by kernel_rfl) Try.underlying43 rfl (by kernel_rfl) ((h.2.1).sub 0 _ rfl (Nat.le_of_ble_eq_true rfl))) ?_
              refine tkR 5 61 (v := .agg #[.int .i64 kd, .int .i64 xi.vm, .int .i64 xi.sp, .int .i64 xi.pg]) rfl hS (fun _ h => run_ldN 32 (.tmp 7) g3 0 (by kernel_rfl) (by kernel_rfl) Try.underlying32 rfl (by kernel_rfl) ((h.2.2).sub 0 _ rfl)) ?_
              try simp only [Act.put, List.setIfInBounds_toArray, List.set_cons_zero, List.set_cons_succ]
              refine wpAnyH_ready (rs := [6, 11]) (by kernel_rfl) (by simp) ?_
              refine AllReadyH.cons (o := ⟨some 62, _, _, _, _, _⟩) rfl (fun K hK => ?_) ?_
              · go_simp
                refine hK.out _ _ ?_ (fun hS' => ?_)
                · exact ⟨hS.1.alloc _, hS.2.1.alloc _, hS.2.2.alloc _⟩
                clear hK K hS
                have hS := hS'
                clear hS'
                try simp only [Act.put, List.setIfInBounds_toArray, List.set_cons_zero, List.set_cons_succ]
                try simp only [Act.put, List.setIfInBounds_toArray, List.set_cons_zero, List.set_cons_succ]
                refine wpAnyH_ready (rs := [7, 11]) (by kernel_rfl) (by simp) ?_
                refine AllReadyH.cons (o := ⟨some 63, _, _, _, _, _⟩) rfl (fun K hK => ?_) ?_
                · go_simp
                  refine (HA1.out (w6.heap.size) _ (bel_alloc (Below.drew B6.out) (.cells #[.int .i64 kd, .int .i64 xi.vm, .int .i64 xi.sp, .int .i64 xi.pg] 32)) (RowsAt.one (K := KI) (q := (⟨kd, xi.vm, xi.sp, xi.pg⟩ : Inv)) ((BoxAt.newAt ((w6).drew) #[.int .i64 kd, .int .i64 xi.vm, .int .i64 xi.sp, .int .i64 xi.pg] 32 (w6.heap.size) (by first | omega | (simp; done) | (simp; omega)))))).mono ?_
                  rintro e w8 ⟨fx, lx, cx, gx, mx, dx, rfl, hlx, hmx, hEx, hDx, hb8⟩
                  have hz8 := hb8.size
                  try simp at hz8
                  have HLX := Lib.hid hlx
                  have HMX := Lib.hid hmx
                  clear hlx hmx
                  refine hK.out _ _ ?_ (fun hS' => ?_)
                  · exact ⟨hS.1.below hb8, hS.2.1.below hb8, hS.2.2.below hb8⟩
                  clear hK K hS
                  have hS := hS'
                  clear hS'
                  try simp only [Act.put, List.setIfInBounds_toArray, List.set_cons_zero, List.set_cons_succ]
                  refine tkR 8 55 (v := .tuple #[.agg #[.slice fx lx cx, .slice gx mx dx], .int .i64 0]) rfl hS (fun _ _ => by kernel_rfl) ?_
                  refine tkR 9 64 (v := .agg #[.slice fx lx cx, .slice gx mx dx]) rfl hS (fun _ _ => by kernel_rfl) ?_
                  refine tkR 10 65 (v := .int .i64 0) rfl hS (fun _ _ => by kernel_rfl) ?_
                  try simp only [Act.put, List.setIfInBounds_toArray, List.set_cons_zero, List.set_cons_succ]
                  refine wpAnyH_ready (rs := [11]) (by kernel_rfl) (by simp) ?_
                  refine AllReadyH.cons (o := ⟨some 8, _, _, _, _, _⟩) rfl (fun K hK => ?_) AllReadyH.nil
                  go_simp
                  refine hK.out _ _ ?_ (fun hS' => ?_)
                  · exact ⟨hS.1.alloc _, hS.2.1.alloc _, hS.2.2.alloc _⟩
                  clear hK K hS
                  have hS := hS'
                  clear hS'
                  try simp only [Act.put, List.setIfInBounds_toArray, List.set_cons_zero, List.set_cons_succ]
                  try simp only [Act.put, List.setIfInBounds_toArray, List.set_cons_zero, List.set_cons_succ]
                  refine wpAnyH_ready (rs := [12]) (by kernel_rfl) (by simp) ?_
                  refine AllReadyH.cons (o := ⟨none, _, _, _, _, _⟩) rfl (fun K hK => ?_) AllReadyH.nil
                  refine step_storeB rfl 43 _ _ rfl _ _ _ 43 rfl rfl (by kernel_rfl) (by rfl) (by simp [Value.oneCell']) (BoxAt.newAt (w8) #[.slice none 0 0, .slice none 0 0] 43 (w8.heap.size) (by first | omega | (simp; done) | (simp; omega))) ?_
                  refine hK.out _ _ ?_ (fun hS' => ?_)
                  · exact ⟨hS.1.row (show g1 ≠ w8.heap.size by omega), hS.2.1.row (show bt ≠ w8.heap.size by omega), hS.2.2.row (show g3 ≠ w8.heap.size by omega)⟩
                  clear hK K hS
                  have hS := hS'
                  clear hS'
                  try simp only [Act.put]
                  refine tkR 13 9 (v := .int .i64 0) rfl hS (fun _ _ => by kernel_rfl) ?_
                  refine wpAnyH_done (by kernel_rfl) ?_ _
                  try simp only [Act.put, List.setIfInBounds_toArray, List.set_cons_zero, List.set_cons_succ]
                  show KK _ _
                  refine hKK _ _ (Met.intro (hJJ _ _ ?_))
                  (repeat apply Exists.intro)
                  refine ⟨?_, rfl⟩
                  refine ⟨w6.heap.size, w8.heap.size, fx, lx, cx, gx, mx, dx, rfl, rfl, (by omega), (by omega), (by omega), (Below.rowB (g := w8.heap.size) (bel_alloc (bel_trans (bel_alloc (Below.drew BZ.out) (.cells #[.int .i64 kd, .int .i64 xi.vm, .int .i64 xi.sp, .int .i64 xi.pg] 32)) hb8) (.cells #[.slice none 0 0, .slice none 0 0] 43)) (cs := #[.slice fx lx cx, .slice gx mx dx]) (show w6.heap.size ≤ w8.heap.size by omega)), (((OwnR.mono hEx (base' := w.heap.size) (by first | omega | (simp; done) | (simp; omega))).alloc (.cells #[.slice none 0 0, .slice none 0 0] 43)).rowN (cs := #[.slice fx lx cx, .slice gx mx dx]) (fun he => absurd (hEx.blt _ he) (by first | omega | (simp; omega)))), (((OwnR.mono hDx (base' := w.heap.size) (by first | omega | (simp; done) | (simp; omega))).alloc (.cells #[.slice none 0 0, .slice none 0 0] 43)).rowN (cs := #[.slice fx lx cx, .slice gx mx dx]) (fun he => absurd (hDx.blt _ he) (by first | omega | (simp; omega)))), ((((BoxAt.newAt ((w6).drew) #[.int .i64 kd, .int .i64 xi.vm, .int .i64 xi.sp, .int .i64 xi.pg] 32 (w6.heap.size) (by first | omega | (simp; done) | (simp; omega))).below hb8).alloc (.cells #[.slice none 0 0, .slice none 0 0] 43)).row (cs' := #[.slice fx lx cx, .slice gx mx dx]) (show w6.heap.size ≠ w8.heap.size by omega)), ((BoxAt.newAt (w8) #[.slice none 0 0, .slice none 0 0] 43 (w8.heap.size) (by first | omega | (simp; done) | (simp; omega))).put (cs' := #[.slice fx lx cx, .slice gx mx dx]))⟩
                refine AllReadyH.cons (o := ⟨some 8, _, _, _, _, _⟩) rfl (fun K hK => ?_) AllReadyH.nil
                go_simp
                refine hK.out _ _ ?_ (fun hS' => ?_)
                · exact ⟨hS.1.alloc _, hS.2.1.alloc _, hS.2.2.alloc _⟩
                clear hK K hS
                have hS := hS'
                clear hS'
                try simp only [Act.put, List.setIfInBounds_toArray, List.set_cons_zero, List.set_cons_succ]
                try simp only [Act.put, List.setIfInBounds_toArray, List.set_cons_zero, List.set_cons_succ]
                refine wpAnyH_ready (rs := [7]) (by kernel_rfl) (by simp) ?_
                refine AllReadyH.cons (o := ⟨some 63, _, _, _, _, _⟩) rfl (fun K hK => ?_) AllReadyH.nil
                go_simp
                refine (HA1.out (w6.heap.size) _ (bel_alloc (bel_alloc (Below.drew B6.out) (.cells #[.int .i64 kd, .int .i64 xi.vm, .int .i64 xi.sp, .int .i64 xi.pg] 32)) (.cells #[.slice none 0 0, .slice none 0 0] 43)) (RowsAt.one (K := KI) (q := (⟨kd, xi.vm, xi.sp, xi.pg⟩ : Inv)) (((BoxAt.newAt ((w6).drew) #[.int .i64 kd, .int .i64 xi.vm, .int .i64 xi.sp, .int .i64 xi.pg] 32 (w6.heap.size) (by first | omega | (simp; done) | (simp; omega))).alloc (.cells #[.slice none 0 0, .slice none 0 0] 43))))).mono ?_
                rintro e w8 ⟨fx, lx, cx, gx, mx, dx, rfl, hlx, hmx, hEx, hDx, hb8⟩
                have hz8 := hb8.size
                try simp at hz8
                have HLX := Lib.hid hlx
                have HMX := Lib.hid hmx
                clear hlx hmx
                refine hK.out _ _ ?_ (fun hS' => ?_)
                · exact ⟨hS.1.below hb8, hS.2.1.below hb8, hS.2.2.below hb8⟩
                clear hK K hS
                have hS := hS'
                clear hS'
                try simp only [Act.put, List.setIfInBounds_toArray, List.set_cons_zero, List.set_cons_succ]
                refine tkR 8 55 (v := .tuple #[.agg #[.slice fx lx cx, .slice gx mx dx], .int .i64 0]) rfl hS (fun _ _ => by kernel_rfl) ?_
                refine tkR 9 64 (v := .agg #[.slice fx lx cx, .slice gx mx dx]) rfl hS (fun _ _ => by kernel_rfl) ?_
                refine tkR 10 65 (v := .int .i64 0) rfl hS (fun _ _ => by kernel_rfl) ?_
                try simp only [Act.put, List.setIfInBounds_toArray, List.set_cons_zero, List.set_cons_succ]
                refine wpAnyH_ready (rs := [12]) (by kernel_rfl) (by simp) ?_
                refine AllReadyH.cons (o := ⟨none, _, _, _, _, _⟩) rfl (fun K hK => ?_) AllReadyH.nil
                refine step_storeB rfl 43 _ _ rfl _ _ _ 43 rfl rfl (by kernel_rfl) (by rfl) (by simp [Value.oneCell']) ((BoxAt.newAt (((w6).drew).alloc (.cells #[.int .i64 kd, .int .i64 xi.vm, .int .i64 xi.sp, .int .i64 xi.pg] 32)) #[.slice none 0 0, .slice none 0 0] 43 (w6.heap.size + 1) (by first | omega | (simp; done) | (simp; omega))).below hb8) ?_
                refine hK.out _ _ ?_ (fun hS' => ?_)
                · exact ⟨hS.1.row (show g1 ≠ w6.heap.size + 1 by omega), hS.2.1.row (show bt ≠ w6.heap.size + 1 by omega), hS.2.2.row (show g3 ≠ w6.heap.size + 1 by omega)⟩
                clear hK K hS
                have hS := hS'
                clear hS'
                try simp only [Act.put]
                refine tkR 13 9 (v := .int .i64 0) rfl hS (fun _ _ => by kernel_rfl) ?_
                refine wpAnyH_done (by kernel_rfl) ?_ _
                try simp only [Act.put, List.setIfInBounds_toArray, List.set_cons_zero, List.set_cons_succ]
                show KK _ _
                refine hKK _ _ (Met.intro (hJJ _ _ ?_))
                (repeat apply Exists.intro)
                refine ⟨?_, rfl⟩
                refine ⟨w6.heap.size, w6.heap.size + 1, fx, lx, cx, gx, mx, dx, rfl, rfl, (by omega), (by omega), (by omega), (Below.rowB (g := w6.heap.size + 1) (bel_trans (bel_alloc (bel_alloc (Below.drew BZ.out) (.cells #[.int .i64 kd, .int .i64 xi.vm, .int .i64 xi.sp, .int .i64 xi.pg] 32)) (.cells #[.slice none 0 0, .slice none 0 0] 43)) hb8) (cs := #[.slice fx lx cx, .slice gx mx dx]) (show w6.heap.size ≤ w6.heap.size + 1 by omega)), ((OwnR.mono hEx (base' := w.heap.size) (by first | omega | (simp; done) | (simp; omega))).rowN (cs := #[.slice fx lx cx, .slice gx mx dx]) (hEx.ne_box ((BoxAt.newAt (((w6).drew).alloc (.cells #[.int .i64 kd, .int .i64 xi.vm, .int .i64 xi.sp, .int .i64 xi.pg] 32)) #[.slice none 0 0, .slice none 0 0] 43 (w6.heap.size + 1) (by first | omega | (simp; done) | (simp; omega))).below hb8) (by decide))), ((OwnR.mono hDx (base' := w.heap.size) (by first | omega | (simp; done) | (simp; omega))).rowN (cs := #[.slice fx lx cx, .slice gx mx dx]) (hDx.ne_box ((BoxAt.newAt (((w6).drew).alloc (.cells #[.int .i64 kd, .int .i64 xi.vm, .int .i64 xi.sp, .int .i64 xi.pg] 32)) #[.slice none 0 0, .slice none 0 0] 43 (w6.heap.size + 1) (by first | omega | (simp; done) | (simp; omega))).below hb8) (by decide))), ((((BoxAt.newAt ((w6).drew) #[.int .i64 kd, .int .i64 xi.vm, .int .i64 xi.sp, .int .i64 xi.pg] 32 (w6.heap.size) (by first | omega | (simp; done) | (simp; omega))).alloc (.cells #[.slice none 0 0, .slice none 0 0] 43)).below hb8).row (cs' := #[.slice fx lx cx, .slice gx mx dx]) (show w6.heap.size ≠ w6.heap.size + 1 by omega)), (((BoxAt.newAt (((w6).drew).alloc (.cells #[.int .i64 kd, .int .i64 xi.vm, .int .i64 xi.sp, .int .i64 xi.pg] 32)) #[.slice none 0 0, .slice none 0 0] 43 (w6.heap.size + 1) (by first | omega | (simp; done) | (simp; omega))).below hb8).put (cs' := #[.slice fx lx cx, .slice gx mx dx]))⟩
              refine AllReadyH.cons (o := ⟨some 8, _, _, _, _, _⟩) rfl (fun K hK => ?_) AllReadyH.nil
              go_simp
              refine hK.out _ _ ?_ (fun hS' => ?_)
              · exact ⟨hS.1.alloc _, hS.2.1.alloc _, hS.2.2.alloc _⟩
              clear hK K hS
              have hS := hS'
              clear hS'
              try simp only [Act.put, List.setIfInBounds_toArray, List.set_cons_zero, List.set_cons_succ]
              try simp only [Act.put, List.setIfInBounds_toArray, List.set_cons_zero, List.set_cons_succ]
              refine wpAnyH_ready (rs := [6]) (by kernel_rfl) (by simp) ?_
              refine AllReadyH.cons (o := ⟨some 62, _, _, _, _, _⟩) rfl (fun K hK => ?_) AllReadyH.nil
              go_simp
              refine hK.out _ _ ?_ (fun hS' => ?_)
              · exact ⟨hS.1.alloc _, hS.2.1.alloc _, hS.2.2.alloc _⟩
              clear hK K hS
              have hS := hS'
              clear hS'
              try simp only [Act.put, List.setIfInBounds_toArray, List.set_cons_zero, List.set_cons_succ]
              try simp only [Act.put, List.setIfInBounds_toArray, List.set_cons_zero, List.set_cons_succ]
              refine wpAnyH_ready (rs := [7]) (by kernel_rfl) (by simp) ?_
              refine AllReadyH.cons (o := ⟨some 63, _, _, _, _, _⟩) rfl (fun K hK => ?_) AllReadyH.nil
              go_simp
              refine (HA1.out (w6.heap.size + 1) _ (bel_alloc (bel_alloc (Below.drew B6.out) (.cells #[.slice none 0 0, .slice none 0 0] 43)) (.cells #[.int .i64 kd, .int .i64 xi.vm, .int .i64 xi.sp, .int .i64 xi.pg] 32)) (RowsAt.one (K := KI) (q := (⟨kd, xi.vm, xi.sp, xi.pg⟩ : Inv)) ((BoxAt.newAt (((w6).drew).alloc (.cells #[.slice none 0 0, .slice none 0 0] 43)) #[.int .i64 kd, .int .i64 xi.vm, .int .i64 xi.sp, .int .i64 xi.pg] 32 (w6.heap.size + 1) (by first | omega | (simp; done) | (simp; omega)))))).mono ?_
              rintro e w8 ⟨fx, lx, cx, gx, mx, dx, rfl, hlx, hmx, hEx, hDx, hb8⟩
              have hz8 := hb8.size
              try simp at hz8
              have HLX := Lib.hid hlx
              have HMX := Lib.hid hmx
              clear hlx hmx
              refine hK.out _ _ ?_ (fun hS' => ?_)
              · exact ⟨hS.1.below hb8, hS.2.1.below hb8, hS.2.2.below hb8⟩
              clear hK K hS
              have hS := hS'
              clear hS'
              try simp only [Act.put, List.setIfInBounds_toArray, List.set_cons_zero, List.set_cons_succ]
              refine tkR 8 55 (v := .tuple #[.agg #[.slice fx lx cx, .slice gx mx dx], .int .i64 0]) rfl hS (fun _ _ => by kernel_rfl) ?_
              refine tkR 9 64 (v := .agg #[.slice fx lx cx, .slice gx mx dx]) rfl hS (fun _ _ => by kernel_rfl) ?_
              refine tkR 10 65 (v := .int .i64 0) rfl hS (fun _ _ => by kernel_rfl) ?_
              try simp only [Act.put, List.setIfInBounds_toArray, List.set_cons_zero, List.set_cons_succ]
              refine wpAnyH_ready (rs := [12]) (by kernel_rfl) (by simp) ?_
              refine AllReadyH.cons (o := ⟨none, _, _, _, _, _⟩) rfl (fun K hK => ?_) AllReadyH.nil
              refine step_storeB rfl 43 _ _ rfl _ _ _ 43 rfl rfl (by kernel_rfl) (by rfl) (by simp [Value.oneCell']) (((BoxAt.newAt ((w6).drew) #[.slice none 0 0, .slice none 0 0] 43 (w6.heap.size) (by first | omega | (simp; done) | (simp; omega))).alloc (.cells #[.int .i64 kd, .int .i64 xi.vm, .int .i64 xi.sp, .int .i64 xi.pg] 32)).below hb8) ?_
              refine hK.out _ _ ?_ (fun hS' => ?_)
              · exact ⟨hS.1.row (show g1 ≠ w6.heap.size by omega), hS.2.1.row (show bt ≠ w6.heap.size by omega), hS.2.2.row (show g3 ≠ w6.heap.size by omega)⟩
              clear hK K hS
              have hS := hS'
              clear hS'
              try simp only [Act.put]
              refine tkR 13 9 (v := .int .i64 0) rfl hS (fun _ _ => by kernel_rfl) ?_
              refine wpAnyH_done (by kernel_rfl) ?_ _
              try simp only [Act.put, List.setIfInBounds_toArray, List.set_cons_zero, List.set_cons_succ]
              show KK _ _
              refine hKK _ _ (Met.intro (hJJ _ _ ?_))
              (repeat apply Exists.intro)
              refine ⟨?_, rfl⟩
              refine ⟨w6.heap.size + 1, w6.heap.size, fx, lx, cx, gx, mx, dx, rfl, rfl, (by omega), (by omega), (by omega), (Below.rowB (g := w6.heap.size) (bel_trans (bel_alloc (bel_alloc (Below.drew BZ.out) (.cells #[.slice none 0 0, .slice none 0 0] 43)) (.cells #[.int .i64 kd, .int .i64 xi.vm, .int .i64 xi.sp, .int .i64 xi.pg] 32)) hb8) (cs := #[.slice fx lx cx, .slice gx mx dx]) (show w6.heap.size ≤ w6.heap.size by omega)), ((OwnR.mono hEx (base' := w.heap.size) (by first | omega | (simp; done) | (simp; omega))).rowN (cs := #[.slice fx lx cx, .slice gx mx dx]) (hEx.ne_box (((BoxAt.newAt ((w6).drew) #[.slice none 0 0, .slice none 0 0] 43 (w6.heap.size) (by first | omega | (simp; done) | (simp; omega))).alloc (.cells #[.int .i64 kd, .int .i64 xi.vm, .int .i64 xi.sp, .int .i64 xi.pg] 32)).below hb8) (by decide))), ((OwnR.mono hDx (base' := w.heap.size) (by first | omega | (simp; done) | (simp; omega))).rowN (cs := #[.slice fx lx cx, .slice gx mx dx]) (hDx.ne_box (((BoxAt.newAt ((w6).drew) #[.slice none 0 0, .slice none 0 0] 43 (w6.heap.size) (by first | omega | (simp; done) | (simp; omega))).alloc (.cells #[.int .i64 kd, .int .i64 xi.vm, .int .i64 xi.sp, .int .i64 xi.pg] 32)).below hb8) (by decide))), (((BoxAt.newAt (((w6).drew).alloc (.cells #[.slice none 0 0, .slice none 0 0] 43)) #[.int .i64 kd, .int .i64 xi.vm, .int .i64 xi.sp, .int .i64 xi.pg] 32 (w6.heap.size + 1) (by first | omega | (simp; done) | (simp; omega))).below hb8).row (cs' := #[.slice fx lx cx, .slice gx mx dx]) (show w6.heap.size + 1 ≠ w6.heap.size by omega)), ((((BoxAt.newAt ((w6).drew) #[.slice none 0 0, .slice none 0 0] 43 (w6.heap.size) (by first | omega | (simp; done) | (simp; omega))).alloc (.cells #[.int .i64 kd, .int .i64 xi.vm, .int .i64 xi.sp, .int .i64 xi.pg] 32)).below hb8).put (cs' := #[.slice fx lx cx, .slice gx mx dx]))⟩
            case rest =>
            obtain ⟨bS62, bX, fx, lx, cx, gx, mx, dx, rfl, rfl, hbS627, hbX7, hn7_01, QB7, QNE7, QND7, QbS627, QbX7⟩ := hcut
            obtain ⟨w7c, rfl⟩ : ∃ w7c : World, w7c = wc := ⟨_, rfl⟩
            have hz7 := QB7.out.size
            have P7 := Lib.hid (P6.out.below QB7.out)
            have V7 := Lib.hid (V6.out.below QB7.out)
            have B7 := Lib.hid (bel_trans B6.out QB7.out)
            obtain ⟨m7, hm7⟩ : ∃ m7, m7 = w7c.heap.size := ⟨_, rfl⟩
            have hbm7 : g3 + 1 ≤ m7 := by omega
            have hlX7 : bX + 1 ≤ m7 := by rw [hm7]; exact QbX7.out.lt
            have hs7 : m7 ≤ w7c.heap.size := by omega
            clear hm7 hz7 P6 V6 B6 QB7 QbS627 hs6
            go_upto_region 13 with fail
            refine wp_region_held_drew (S := (fun w' => BoxAt w' (bX) #[.slice fx lx cx, .slice gx mx dx] 43 ∧ BoxAt w' (g1) #[.slice (some ⟨bt, ot, none⟩) nt ct, .slice (some ⟨bi, oi, none⟩) m d, .slice f l c] 26 ∧ RowAt w' (bt) (ot + k * 2) 2 #[.slice xt.f xt.l xt.c, .slice xt.g xt.m xt.d] ∧ BoxAt w' (g3) #[.int .i64 kd, .int .i64 xi.vm, .int .i64 xi.sp, .int .i64 xi.pg] 32)) (by kernel_rfl) ⟨QbX7.out.drew, P7.out.drew, (HRXT.out.below B7.out).drew, V7.out.drew⟩ (fun hS => ?_)
            refine tkR 0 66 (v := .int .i64 0) rfl hS (fun _ _ => by kernel_rfl) ?_
            try simp only [Act.put, List.setIfInBounds_toArray, List.set_cons_zero, List.set_cons_succ]
            refine wpAnyH_ready (rs := [1]) (by kernel_rfl) (by simp) ?_
            refine AllReadyH.cons (o := ⟨some 67, _, _, _, _, _⟩) rfl (fun K hK => ?_) AllReadyH.nil
            go_simp
            refine (num10_any _ _).mono ?_
            rintro e w8 ⟨rfl, rfl⟩
            refine hK.out _ _ ?_ (fun hS' => ?_)
            · exact hS
            clear hK K hS
            have hS := hS'
            clear hS'
            try simp only [Act.put, List.setIfInBounds_toArray, List.set_cons_zero, List.set_cons_succ]
            try simp only [Act.put, List.setIfInBounds_toArray, List.set_cons_zero, List.set_cons_succ]
            refine wpAnyH_take (i := 2) (oi := ⟨some 68, _, _, _, _, _⟩) (v := ?_) rfl (by kernel_rfl) (by kernel_rfl) (by kernel_rfl) (fun _ _ _ h => h) (Or.inl ⟨by rfl, ?_⟩) hS ?_
            rotate_left
            · (intro w' hSw; clear hSw; go_simp; try with_reducible rfl)
            simp only [Act.put, List.setIfInBounds_toArray, List.set_cons_zero, List.set_cons_succ]
            refine tkR 3 69 (v := .bool false) rfl hS (fun _ _ => by kernel_rfl) ?_
            try simp only [Act.put, List.setIfInBounds_toArray, List.set_cons_zero, List.set_cons_succ]
            refine wpAnyH_take (i := 4) (oi := ⟨some 70, _, _, _, _, _⟩) (v := ?_) rfl (by kernel_rfl) (by kernel_rfl) (by kernel_rfl) (fun _ _ _ h => h) (Or.inl ⟨by rfl, ?_⟩) hS ?_
            rotate_left
            · (intro w' hSw; have c0_0 := (hSw.1).get 0 (.slice fx lx cx) rfl; have c0_1 := (hSw.1).get 1 (.slice gx mx dx) rfl; clear hSw; go_simp; try with_reducible rfl)
            simp only [Act.put, List.setIfInBounds_toArray, List.set_cons_zero, List.set_cons_succ]
            try simp only [Act.put, List.setIfInBounds_toArray, List.set_cons_zero, List.set_cons_succ]
            refine wpAnyH_take (i := 5) (oi := ⟨some 71, _, _, _, _, _⟩) (v := ?_) rfl (by kernel_rfl) (by kernel_rfl) (by kernel_rfl) (fun _ _ _ h => h) (Or.inl ⟨by rfl, ?_⟩) hS ?_
            rotate_left
            · (intro w' hSw; clear hSw; go_simp; try with_reducible rfl)
            simp only [Act.put, List.setIfInBounds_toArray, List.set_cons_zero, List.set_cons_succ]
            try simp only [Act.put, List.setIfInBounds_toArray, List.set_cons_zero, List.set_cons_succ]
            refine wpAnyH_take (i := 6) (oi := ⟨some 72, _, _, _, _, _⟩) (v := ?_) rfl (by kernel_rfl) (by kernel_rfl) (by kernel_rfl) (fun _ _ _ h => h) (Or.inl ⟨by rfl, ?_⟩) hS ?_
            rotate_left
            · (intro w' hSw; have c1_0 := (hSw.2.1).get 0 (.slice (some ⟨bt, ot, none⟩) nt ct) rfl; clear hSw; go_simp; try with_reducible rfl)
            simp only [Act.put, List.setIfInBounds_toArray, List.set_cons_zero, List.set_cons_succ]
            try simp only [Act.put, List.setIfInBounds_toArray, List.set_cons_zero, List.set_cons_succ]
            refine wpAnyH_take (i := 7) (oi := ⟨some 73, _, _, _, _, _⟩) (v := ?_) rfl (by kernel_rfl) (by kernel_rfl) (by kernel_rfl) (fun _ _ _ h => h) (Or.inl ⟨by rfl, ?_⟩) hS ?_
            rotate_left
            · (intro w' hSw; clear hSw; go_simp; try with_reducible rfl)
            simp only [Act.put, List.setIfInBounds_toArray, List.set_cons_zero, List.set_cons_succ]
            try simp only [Act.put, List.setIfInBounds_toArray, List.set_cons_zero, List.set_cons_succ]
            refine wpAnyH_take (i := 8) (oi := ⟨some 74, _, _, _, _, _⟩) (v := ?_) rfl (by kernel_rfl) (by kernel_rfl) (by kernel_rfl) (fun _ _ _ h => h) (Or.inl ⟨by rfl, ?_⟩) hS ?_
            rotate_left
            · (intro w' hSw; clear hSw; go_simp; try with_reducible rfl)
            simp only [Act.put, List.setIfInBounds_toArray, List.set_cons_zero, List.set_cons_succ]
            try simp only [Act.put, List.setIfInBounds_toArray, List.set_cons_zero, List.set_cons_succ]
            refine wpAnyH_take (i := 9) (oi := ⟨some 75, _, _, _, _, _⟩) (v := ?_) rfl (by kernel_rfl) (by kernel_rfl) (by kernel_rfl) (fun _ _ _ h => h) (Or.inl ⟨by rfl, ?_⟩) hS ?_
            rotate_left
            · (intro w' hSw; have c2_0 := (hSw.2.2.1).get0 (.slice xt.f xt.l xt.c) (by decide) rfl; have c2_1 := (hSw.2.2.1).get 1 (.slice xt.g xt.m xt.d) (by decide) rfl; clear hSw; go_simp; try with_reducible rfl)
            simp only [Act.put, List.setIfInBounds_toArray, List.set_cons_zero, List.set_cons_succ]
            try simp only [Act.put, List.setIfInBounds_toArray, List.set_cons_zero, List.set_cons_succ]
            refine wpAnyH_take (i := 10) (oi := ⟨some 76, _, _, _, _, _⟩) (v := ?_) rfl (by kernel_rfl) (by kernel_rfl) (by kernel_rfl) (fun _ _ _ h => h) (Or.inl ⟨by rfl, ?_⟩) hS ?_
            rotate_left
            · (intro w' hSw; have c3_0 := (hSw.2.2.2).get 0 (.int .i64 kd) rfl; have c3_1 := (hSw.2.2.2).get 1 (.int .i64 xi.vm) rfl; have c3_2 := (hSw.2.2.2).get 2 (.int .i64 xi.sp) rfl; have c3_3 := (hSw.2.2.2).get 3 (.int .i64 xi.pg) rfl; clear hSw; go_simp; try with_reducible rfl)
            simp only [Act.put, List.setIfInBounds_toArray, List.set_cons_zero, List.set_cons_succ]
            try simp only [Act.put, List.setIfInBounds_toArray, List.set_cons_zero, List.set_cons_succ]
            refine wpAnyH_ready (rs := [11]) (by kernel_rfl) (by simp) ?_
            refine AllReadyH.cons (o := ⟨some 77, _, _, _, _, _⟩) rfl (fun K hK => ?_) AllReadyH.nil
            go_simp
            refine hK.out _ _ ?_ (fun hS' => ?_)
            · exact ⟨hS.1.alloc _, hS.2.1.alloc _, hS.2.2.1.alloc _, hS.2.2.2.alloc _⟩
            clear hK K hS
            have hS := hS'
            clear hS'
            try simp only [Act.put, List.setIfInBounds_toArray, List.set_cons_zero, List.set_cons_succ]
            try simp only [Act.put, List.setIfInBounds_toArray, List.set_cons_zero, List.set_cons_succ]
            refine wpAnyH_ready (rs := [12]) (by kernel_rfl) (by simp) ?_
            refine AllReadyH.cons (o := ⟨some 78, _, _, _, _, _⟩) rfl (fun K hK => ?_) AllReadyH.nil
            go_simp
            refine (HA9.out (w7c.heap.size) _ (bel_alloc (Below.drew B7.out) (.cells #[.int .i64 kd, .int .i64 xi.vm, .int .i64 xi.sp, .int .i64 xi.pg] 32)) (RowsAt.one (K := KI) (q := (⟨kd, xi.vm, xi.sp, xi.pg⟩ : Inv)) ((BoxAt.newAt ((w7c).drew) #[.int .i64 kd, .int .i64 xi.vm, .int .i64 xi.sp, .int .i64 xi.pg] 32 (w7c.heap.size) (by first | omega | (simp; done) | (simp; omega)))))).mono ?_
            rintro e w9 ⟨f9, l9, c9, g9, d9, rfl, hl9, hE9, hD9, hb9⟩
            have hz9 := hb9.size
            try simp at hz9
            have O99 := Lib.hid (OwnR.mono hE9 (base' := w.heap.size) (by first | omega | (simp; done) | (simp; omega)))
            have P99 := Lib.hid (OwnR.mono hD9 (base' := w.heap.size) (by first | omega | (simp; done) | (simp; omega)))
            have HL9 := Lib.hid hl9
            clear hl9 hE9 hD9
            refine hK.out _ _ ?_ (fun hS' => ?_)
            · exact ⟨hS.1.below hb9, hS.2.1.below hb9, hS.2.2.1.below hb9, hS.2.2.2.below hb9⟩
            clear hK K hS
            have hS := hS'
            clear hS'
            try simp only [Act.put, List.setIfInBounds_toArray, List.set_cons_zero, List.set_cons_succ]
            try simp only [Act.put, List.setIfInBounds_toArray, List.set_cons_zero, List.set_cons_succ]
            refine wpAnyH_ready (rs := [13]) (by kernel_rfl) (by simp) ?_
            refine AllReadyH.cons (o := ⟨some 79, _, _, _, _, _⟩) rfl (fun K hK => ?_) AllReadyH.nil
            go_simp
            refine (eqT_same10 fx gx f9 g9 lx cx mx dx l9 c9 xt.m d9 KP D0 _ ((((QNE7.out.drew).alloc (.cells #[.int .i64 kd, .int .i64 xi.vm, .int .i64 xi.sp, .int .i64 xi.pg] 32)).below hb9)).rows.2 ((((QNE7.out.drew).alloc (.cells #[.int .i64 kd, .int .i64 xi.vm, .int .i64 xi.sp, .int .i64 xi.pg] 32)).below hb9)).rows.1 ((((QND7.out.drew).alloc (.cells #[.int .i64 kd, .int .i64 xi.vm, .int .i64 xi.sp, .int .i64 xi.pg] 32)).below hb9)).rows.2 ((((QND7.out.drew).alloc (.cells #[.int .i64 kd, .int .i64 xi.vm, .int .i64 xi.sp, .int .i64 xi.pg] 32)).below hb9)).rows.1 (O99.out).rows.2 (O99.out).rows.1 (P99.out).rows.2 (P99.out).rows.1 (by have := ((((QNE7.out.drew).alloc (.cells #[.int .i64 kd, .int .i64 xi.vm, .int .i64 xi.sp, .int .i64 xi.pg] 32)).below hb9)).rows.1; have := HKL.out; omega) (by have := ((((QND7.out.drew).alloc (.cells #[.int .i64 kd, .int .i64 xi.vm, .int .i64 xi.sp, .int .i64 xi.pg] 32)).below hb9)).rows.1; have := HD1.out; omega)).mono ?_
            rintro e w10 ⟨rfl, hb10⟩
            have hz10 := hb10.size
            try simp at hz10
            refine hK.out _ _ ?_ (fun hS' => ?_)
            · exact ⟨hS.1.below hb10, hS.2.1.below hb10, hS.2.2.1.below hb10, hS.2.2.2.below hb10⟩
            clear hK K hS
            have hS := hS'
            clear hS'
            try simp only [Act.put, List.setIfInBounds_toArray, List.set_cons_zero, List.set_cons_succ]
            try simp only [Act.put, List.setIfInBounds_toArray, List.set_cons_zero, List.set_cons_succ]
            refine wpAnyH_take (i := 14) (oi := ⟨some 80, _, _, _, _, _⟩) (v := ?_) rfl (by kernel_rfl) (by kernel_rfl) (by kernel_rfl) (fun _ _ _ h => h) (Or.inl ⟨by rfl, ?_⟩) hS ?_
            rotate_left
            · (intro w' hSw; clear hSw; go_simp; try with_reducible rfl)
            simp only [Act.put, List.setIfInBounds_toArray, List.set_cons_zero, List.set_cons_succ]
            try simp only [Act.put, List.setIfInBounds_toArray, List.set_cons_zero, List.set_cons_succ]
            refine wpAnyH_take (i := 15) (oi := ⟨some 81, _, _, _, _, _⟩) (v := ?_) rfl (by kernel_rfl) (by kernel_rfl) (by kernel_rfl) (fun _ _ _ h => h) (Or.inl ⟨by rfl, ?_⟩) hS ?_
            rotate_left
            · (intro w' hSw; clear hSw; go_simp; try with_reducible rfl)
            simp only [Act.put, List.setIfInBounds_toArray, List.set_cons_zero, List.set_cons_succ]
            refine wpAnyH_done (by kernel_rfl) ?_ _
            try simp only [Act.put, List.setIfInBounds_toArray, List.set_cons_zero, List.set_cons_succ]
            have P11 := Lib.hid (((((P7.out.drew).alloc (.cells #[.int .i64 kd, .int .i64 xi.vm, .int .i64 xi.sp, .int .i64 xi.pg] 32)).below hb9).below hb10))
            have V11 := Lib.hid (((((V7.out.drew).alloc (.cells #[.int .i64 kd, .int .i64 xi.vm, .int .i64 xi.sp, .int .i64 xi.pg] 32)).below hb9).below hb10))
            have X11 := Lib.hid (((((QbX7.out.drew).alloc (.cells #[.int .i64 kd, .int .i64 xi.vm, .int .i64 xi.sp, .int .i64 xi.pg] 32)).below hb9).below hb10))
            have S7711 := Lib.hid ((((BoxAt.newAt ((w7c).drew) #[.int .i64 kd, .int .i64 xi.vm, .int .i64 xi.sp, .int .i64 xi.pg] 32 (w7c.heap.size) (by first | omega | (simp; done) | (simp; omega))).below hb9).below hb10))
            have E11 := Lib.hid (((((QNE7.out.drew).alloc (.cells #[.int .i64 kd, .int .i64 xi.vm, .int .i64 xi.sp, .int .i64 xi.pg] 32)).below hb9).below hb10))
            have D11 := Lib.hid (((((QND7.out.drew).alloc (.cells #[.int .i64 kd, .int .i64 xi.vm, .int .i64 xi.sp, .int .i64 xi.pg] 32)).below hb9).below hb10))
            have E911 := Lib.hid ((O99.out.below hb10))
            have D911 := Lib.hid ((P99.out.below hb10))
            have B11 := Lib.hid ((bel_trans (bel_trans (bel_alloc (Below.drew B7.out) (.cells #[.int .i64 kd, .int .i64 xi.vm, .int .i64 xi.sp, .int .i64 xi.pg] 32)) hb9) hb10))
            obtain ⟨g11, hg11⟩ : ∃ g11, g11 = w7c.heap.size := ⟨_, rfl⟩
            obtain ⟨W11, hW11⟩ : ∃ W11, W11 = w10 := ⟨_, rfl⟩
            have hs11 : g11 + 1 ≤ W11.heap.size := by rw [hW11, hg11]; first | omega | (simp; omega)
            rw [← hW11] at P11 V11 X11 S7711 E11 D11 E911 D911 B11 ⊢
            have hb11 : m7 ≤ g11 := by omega
            rw [← hg11] at S7711 ⊢
            clear hg11
            clear hW11 P7 V7 QbX7 QNE7 QND7 O99 P99 B7 hs7
            have Xc0 := X11.out.get 0 (.slice fx lx cx) rfl
            have Xc1 := X11.out.get 1 (.slice gx mx dx) rfl
            have Vc0 := V11.out.get 0 (.int .i64 kd) rfl
            have Vc1 := V11.out.get 1 (.int .i64 xi.vm) rfl
            have Vc2 := V11.out.get 2 (.int .i64 xi.sp) rfl
            have Vc3 := V11.out.get 3 (.int .i64 xi.pg) rfl
            go_wp2_with fail
            refine (HA2.out fx gx lx cx mx dx (W11.heap.size) _ (E11.out.alloc (.cells #[.int .i64 kd, .int .i64 xi.vm, .int .i64 xi.sp, .int .i64 xi.pg, .int .i64 kd, .int .i64 xi.vm, .int .i64 xi.sp, .int .i64 xi.pg] 32)) (D11.out.alloc (.cells #[.int .i64 kd, .int .i64 xi.vm, .int .i64 xi.sp, .int .i64 xi.pg, .int .i64 kd, .int .i64 xi.vm, .int .i64 xi.sp, .int .i64 xi.pg] 32)) (RowsAt.two (K := KI) (q := (⟨kd, xi.vm, xi.sp, xi.pg⟩ : Inv)) (q2 := (⟨kd, xi.vm, xi.sp, xi.pg⟩ : Inv)) ((BoxAt.newAt (W11) #[.int .i64 kd, .int .i64 xi.vm, .int .i64 xi.sp, .int .i64 xi.pg, .int .i64 kd, .int .i64 xi.vm, .int .i64 xi.sp, .int .i64 xi.pg] 32 (W11.heap.size) (by first | omega | (simp; done) | (simp; omega)))) rfl)).mono ?_
            rintro e w12 ⟨fa12, la12, ca12, ga12, ma12, da12, rfl, hl12, hm12, hE12, hD12, hb12⟩
            have O212 := Lib.hid (OwnR.mono hE12 (base' := w.heap.size) (by first | omega | (simp; done) | (simp; omega)))
            have P212 := Lib.hid (OwnR.mono hD12 (base' := w.heap.size) (by first | omega | (simp; done) | (simp; omega)))
            have HL12 := Lib.hid hl12
            have HM12 := Lib.hid hm12
            clear hl12 hm12 hE12 hD12
            obtain ⟨g12, hg12⟩ : ∃ g12, g12 = W11.heap.size := ⟨_, rfl⟩
            have hz12 := hb12.size
            have P12 := Lib.hid ((P11.out.alloc (.cells #[.int .i64 kd, .int .i64 xi.vm, .int .i64 xi.sp, .int .i64 xi.pg, .int .i64 kd, .int .i64 xi.vm, .int .i64 xi.sp, .int .i64 xi.pg] 32)).below hb12)
            have V12 := Lib.hid ((V11.out.alloc (.cells #[.int .i64 kd, .int .i64 xi.vm, .int .i64 xi.sp, .int .i64 xi.pg, .int .i64 kd, .int .i64 xi.vm, .int .i64 xi.sp, .int .i64 xi.pg] 32)).below hb12)
            have X12 := Lib.hid ((X11.out.alloc (.cells #[.int .i64 kd, .int .i64 xi.vm, .int .i64 xi.sp, .int .i64 xi.pg, .int .i64 kd, .int .i64 xi.vm, .int .i64 xi.sp, .int .i64 xi.pg] 32)).below hb12)
            have S7712 := Lib.hid ((S7711.out.alloc (.cells #[.int .i64 kd, .int .i64 xi.vm, .int .i64 xi.sp, .int .i64 xi.pg, .int .i64 kd, .int .i64 xi.vm, .int .i64 xi.sp, .int .i64 xi.pg] 32)).below hb12)
            have S8612 := Lib.hid ((BoxAt.newAt (W11) #[.int .i64 kd, .int .i64 xi.vm, .int .i64 xi.sp, .int .i64 xi.pg, .int .i64 kd, .int .i64 xi.vm, .int .i64 xi.sp, .int .i64 xi.pg] 32 (W11.heap.size) (by first | omega | (simp; done) | (simp; omega))).below hb12)
            have E12 := Lib.hid ((E11.out.alloc (.cells #[.int .i64 kd, .int .i64 xi.vm, .int .i64 xi.sp, .int .i64 xi.pg, .int .i64 kd, .int .i64 xi.vm, .int .i64 xi.sp, .int .i64 xi.pg] 32)).below hb12)
            have D12 := Lib.hid ((D11.out.alloc (.cells #[.int .i64 kd, .int .i64 xi.vm, .int .i64 xi.sp, .int .i64 xi.pg, .int .i64 kd, .int .i64 xi.vm, .int .i64 xi.sp, .int .i64 xi.pg] 32)).below hb12)
            have E912 := Lib.hid ((E911.out.alloc (.cells #[.int .i64 kd, .int .i64 xi.vm, .int .i64 xi.sp, .int .i64 xi.pg, .int .i64 kd, .int .i64 xi.vm, .int .i64 xi.sp, .int .i64 xi.pg] 32)).below hb12)
            have D912 := Lib.hid ((D911.out.alloc (.cells #[.int .i64 kd, .int .i64 xi.vm, .int .i64 xi.sp, .int .i64 xi.pg, .int .i64 kd, .int .i64 xi.vm, .int .i64 xi.sp, .int .i64 xi.pg] 32)).below hb12)
            have B12 := Lib.hid ((bel_trans (bel_alloc B11.out (.cells #[.int .i64 kd, .int .i64 xi.vm, .int .i64 xi.sp, .int .i64 xi.pg, .int .i64 kd, .int .i64 xi.vm, .int .i64 xi.sp, .int .i64 xi.pg] 32)) hb12))
            try simp at hz12
            have hs12 : g12 + 1 ≤ w12.heap.size := by omega
            have hb'12 : g11 + 1 ≤ g12 := by omega
            rw [← hg12] at S8612
            try rw [← hg12]
            clear hg12
            clear Xc0 Xc1 Vc0 Vc1 Vc2 Vc3
            clear P11 V11 X11 S7711 E11 D11 E911 D911 B11 hs11 hb12 hz12
            go_upto_region 16 with fail
            have P13 := Lib.hid ((P12.out.alloc (.cells #[.slice fa12 la12 ca12, .slice ga12 ma12 da12] 43)))
            have V13 := Lib.hid ((V12.out.alloc (.cells #[.slice fa12 la12 ca12, .slice ga12 ma12 da12] 43)))
            have X13 := Lib.hid ((X12.out.alloc (.cells #[.slice fa12 la12 ca12, .slice ga12 ma12 da12] 43)))
            have S7713 := Lib.hid ((S7712.out.alloc (.cells #[.slice fa12 la12 ca12, .slice ga12 ma12 da12] 43)))
            have S8613 := Lib.hid ((S8612.out.alloc (.cells #[.slice fa12 la12 ca12, .slice ga12 ma12 da12] 43)))
            have Y13 := Lib.hid ((BoxAt.newAt (w12) #[.slice fa12 la12 ca12, .slice ga12 ma12 da12] 43 (w12.heap.size) (by first | omega | (simp; done) | (simp; omega))))
            have E13 := Lib.hid ((E12.out.alloc (.cells #[.slice fa12 la12 ca12, .slice ga12 ma12 da12] 43)))
            have D13 := Lib.hid ((D12.out.alloc (.cells #[.slice fa12 la12 ca12, .slice ga12 ma12 da12] 43)))
            have E913 := Lib.hid ((E912.out.alloc (.cells #[.slice fa12 la12 ca12, .slice ga12 ma12 da12] 43)))
            have D913 := Lib.hid ((D912.out.alloc (.cells #[.slice fa12 la12 ca12, .slice ga12 ma12 da12] 43)))
            have E213 := Lib.hid ((O212.out.alloc (.cells #[.slice fa12 la12 ca12, .slice ga12 ma12 da12] 43)))
            have D213 := Lib.hid ((P212.out.alloc (.cells #[.slice fa12 la12 ca12, .slice ga12 ma12 da12] 43)))
            have B13 := Lib.hid ((bel_alloc B12.out (.cells #[.slice fa12 la12 ca12, .slice ga12 ma12 da12] 43)))
            obtain ⟨g13, hg13⟩ : ∃ g13, g13 = w12.heap.size := ⟨_, rfl⟩
            obtain ⟨W13, hW13⟩ : ∃ W13, W13 = (w12).alloc (.cells #[.slice fa12 la12 ca12, .slice ga12 ma12 da12] 43) := ⟨_, rfl⟩
            have hs13 : g13 + 1 ≤ W13.heap.size := by rw [hW13, hg13]; simp
            rw [← hW13] at P13 V13 X13 S7713 S8613 Y13 E13 D13 E913 D913 E213 D213 B13 ⊢
            have hb13 : g12 + 1 ≤ g13 := by omega
            rw [← hg13] at Y13 ⊢
            clear hg13
            clear hW13 P12 V12 X12 S7712 S8612 E12 D12 E912 D912 O212 P212 B12 hs12
            go_wp2_with fail
            refine (num10_any _ _).mono ?_
            rintro e w14 ⟨rfl, rfl⟩
            have Yc0 := Y13.out.get 0 (.slice fa12 la12 ca12) rfl
            have Yc1 := Y13.out.get 1 (.slice ga12 ma12 da12) rfl
            have Xc0 := X13.out.get 0 (.slice fx lx cx) rfl
            have Xc1 := X13.out.get 1 (.slice gx mx dx) rfl
            go_wp2_with fail
            refine (eqT_same10 fa12 ga12 fx gx la12 ca12 ma12 da12 lx cx mx dx KP D0 _ (E213.out).rows.2 (E213.out).rows.1 (D213.out).rows.2 (D213.out).rows.1 (E13.out).rows.2 (E13.out).rows.1 (D13.out).rows.2 (D13.out).rows.1 (by have := (E213.out).rows.1; have := HKL.out; omega) (by have := (D213.out).rows.1; have := HD1.out; omega)).mono ?_
            rintro e w15 ⟨rfl, hb15⟩
            have hz15 := hb15.size
            have P15 := Lib.hid (P13.out.below hb15)
            have V15 := Lib.hid (V13.out.below hb15)
            have X15 := Lib.hid (X13.out.below hb15)
            have S7715 := Lib.hid (S7713.out.below hb15)
            have S8615 := Lib.hid (S8613.out.below hb15)
            have Y15 := Lib.hid (Y13.out.below hb15)
            have E15 := Lib.hid (E13.out.below hb15)
            have D15 := Lib.hid (D13.out.below hb15)
            have E915 := Lib.hid (E913.out.below hb15)
            have D915 := Lib.hid (D913.out.below hb15)
            have E215 := Lib.hid (E213.out.below hb15)
            have D215 := Lib.hid (D213.out.below hb15)
            have B15 := Lib.hid ((bel_trans B13.out hb15))
            skip
            have hs15 : g13 + 1 ≤ w15.heap.size := by omega
            clear Yc0 Yc1 Xc0 Xc1
            clear P13 V13 X13 S7713 S8613 Y13 E13 D13 E913 D913 E213 D213 B13 hs13 hb15 hz15
            go_wp2
            go_roundw
            case rel => exact ⟨j + 1, by omega, by go_num, P15.out, B15.out⟩
            case measure => simp [intOf]; omega
          · have Pc1 := Ps.out.get 1 (.slice g m d) rfl
            go_wp2
            go_roundw
            case rel => exact ⟨k + 1, by omega, by go_num, Ps.out, Bs.out⟩
            case measure => simp [intOf]; omega
      · have Pc0 := Pr.out.get 0 (.slice ft nt ct) rfl
        go_wp2_with fail
        refine (wakes10_any _).mono ?_
        rintro e w3 ⟨rfl, hb3⟩
        have hz3 := hb3.size
        have P3 := Lib.hid (Pr.out.below hb3)
        have B3 := Lib.hid ((bel_trans Br.out hb3))
        skip
        have hs3 : mr ≤ w3.heap.size := by omega
        clear Pc0
        clear Pr Br hsr hb3 hz3
        go_wp2
        go_ret
        exact ⟨rfl, B3.out⟩
  go_wp2
  go_ret
  exact ⟨rfl, B2.out⟩
set_option maxRecDepth 100000 in
set_option maxHeartbeats 3200000 in
theorem invalAll_walk (ft g f : Option Addr) (nt ct m d l c : Nat) (T : List Tlh) (D : List Inv) (E : List Ety) (w : World) (hn : nt = T.length) (hn2 : nt ≤ 1000000000000000) (hT : RowsAt KT w ft T) (hTT : ∀ t ∈ T, TlbAt w t) (hD : m = D.length ∧ m ≤ 1000000000000000 ∧ RowsAt KI w g D ∧ (m ≤ d ∧ d ≤ maxLen ∧ (g = none → d = 0))) (hE : l = E.length ∧ l ≤ 1000000000000000 ∧ RowsAt KE w f E) :
    Calls Try.prog 7 #[.agg #[.slice ft nt ct, .slice g m d, .slice f l c]] w fun r w' => r = .returned (.bool true) ∧ Below w.heap.size w w' := by
  have HK := Lib.hid (fun W (hB : Below w.heap.size w W) => kind10_walk 1 ft g f nt ct m d l c T D E W hn hn2 (hT.below hB) (fun t ht => (hTT t ht).below hB) ⟨hD.1, hD.2.1, hD.2.2.1.below hB, hD.2.2.2⟩ ⟨hE.1, hE.2.1, hE.2.2.below hB⟩)
  clear hT hTT hD hE hn
  have htw : w.heap.size ≤ w.heap.size := Nat.le_refl _
  have B0 := Lib.hid (Below.refl w.heap.size w)
  go_enter Try.func7, Try.ntmps7
  go_upto_region 1 with fail
  have P1 := Lib.hid ((BoxAt.newAt (w) #[.slice ft nt ct, .slice g m d, .slice f l c] 26 (w.heap.size) (by first | omega | (simp; done) | (simp; omega))))
  have B1 := Lib.hid ((bel_alloc B0.out (.cells #[.slice ft nt ct, .slice g m d, .slice f l c] 26)))
  obtain ⟨g1, hg1⟩ : ∃ g1, g1 = w.heap.size := ⟨_, rfl⟩
  obtain ⟨W1, hW1⟩ : ∃ W1, W1 = (w).alloc (.cells #[.slice ft nt ct, .slice g m d, .slice f l c] 26) := ⟨_, rfl⟩
  have hs1 : g1 + 1 ≤ W1.heap.size := by rw [hW1, hg1]; simp
  rw [← hW1] at P1 B1 ⊢
  have hb1 : w.heap.size ≤ g1 := by omega
  rw [← hg1] at P1 ⊢
  clear hg1
  clear hW1 B0
  have Pc0 := P1.out.get 0 (.slice ft nt ct) rfl
  have Pc1 := P1.out.get 1 (.slice g m d) rfl
  have Pc2 := P1.out.get 2 (.slice f l c) rfl
  go_wp2_with fail
  refine (HK.out _ B1.out).mono ?_
  rintro e w2 ⟨rfl, hb2⟩
  have hz2 := hb2.size
  have P2 := Lib.hid (P1.out.below hb2)
  have B2 := Lib.hid ((bel_trans B1.out hb2))
  skip
  have hs2 : g1 + 1 ≤ w2.heap.size := by omega
  clear Pc0 Pc1 Pc2
  clear P1 B1 hs1 hb2 hz2
  go_wp2
  all_goals
    go_ret
    exact ⟨rfl, B2.out⟩
set_option maxRecDepth 100000 in
set_option maxHeartbeats 3200000 in
theorem invalVMs_walk (ft g f : Option Addr) (nt ct m d l c : Nat) (T : List Tlh) (D : List Inv) (E : List Ety) (w : World) (hn : nt = T.length) (hn2 : nt ≤ 1000000000000000) (hT : RowsAt KT w ft T) (hTT : ∀ t ∈ T, TlbAt w t) (hD : m = D.length ∧ m ≤ 1000000000000000 ∧ RowsAt KI w g D ∧ (m ≤ d ∧ d ≤ maxLen ∧ (g = none → d = 0))) (hE : l = E.length ∧ l ≤ 1000000000000000 ∧ RowsAt KE w f E) :
    Calls Try.prog 8 #[.agg #[.slice ft nt ct, .slice g m d, .slice f l c]] w fun r w' => r = .returned (.bool true) ∧ Below w.heap.size w w' := by
  have HK := Lib.hid (fun W (hB : Below w.heap.size w W) => kind10_walk 2 ft g f nt ct m d l c T D E W hn hn2 (hT.below hB) (fun t ht => (hTT t ht).below hB) ⟨hD.1, hD.2.1, hD.2.2.1.below hB, hD.2.2.2⟩ ⟨hE.1, hE.2.1, hE.2.2.below hB⟩)
  clear hT hTT hD hE hn
  have htw : w.heap.size ≤ w.heap.size := Nat.le_refl _
  have B0 := Lib.hid (Below.refl w.heap.size w)
  go_enter Try.func8, Try.ntmps8
  go_upto_region 1 with fail
  have P1 := Lib.hid ((BoxAt.newAt (w) #[.slice ft nt ct, .slice g m d, .slice f l c] 26 (w.heap.size) (by first | omega | (simp; done) | (simp; omega))))
  have B1 := Lib.hid ((bel_alloc B0.out (.cells #[.slice ft nt ct, .slice g m d, .slice f l c] 26)))
  obtain ⟨g1, hg1⟩ : ∃ g1, g1 = w.heap.size := ⟨_, rfl⟩
  obtain ⟨W1, hW1⟩ : ∃ W1, W1 = (w).alloc (.cells #[.slice ft nt ct, .slice g m d, .slice f l c] 26) := ⟨_, rfl⟩
  have hs1 : g1 + 1 ≤ W1.heap.size := by rw [hW1, hg1]; simp
  rw [← hW1] at P1 B1 ⊢
  have hb1 : w.heap.size ≤ g1 := by omega
  rw [← hg1] at P1 ⊢
  clear hg1
  clear hW1 B0
  have Pc0 := P1.out.get 0 (.slice ft nt ct) rfl
  have Pc1 := P1.out.get 1 (.slice g m d) rfl
  have Pc2 := P1.out.get 2 (.slice f l c) rfl
  go_wp2_with fail
  refine (HK.out _ B1.out).mono ?_
  rintro e w2 ⟨rfl, hb2⟩
  have hz2 := hb2.size
  have P2 := Lib.hid (P1.out.below hb2)
  have B2 := Lib.hid ((bel_trans B1.out hb2))
  skip
  have hs2 : g1 + 1 ≤ w2.heap.size := by omega
  clear Pc0 Pc1 Pc2
  clear P1 B1 hs1 hb2 hz2
  go_wp2
  all_goals
    go_ret
    exact ⟨rfl, B2.out⟩
set_option maxRecDepth 100000 in
set_option maxHeartbeats 3200000 in
theorem invalStages_walk (ft g f : Option Addr) (nt ct m d l c : Nat) (T : List Tlh) (D : List Inv) (E : List Ety) (w : World) (hn : nt = T.length) (hn2 : nt ≤ 1000000000000000) (hT : RowsAt KT w ft T) (hTT : ∀ t ∈ T, TlbAt w t) (hD : m = D.length ∧ m ≤ 1000000000000000 ∧ RowsAt KI w g D ∧ (m ≤ d ∧ d ≤ maxLen ∧ (g = none → d = 0))) (hE : l = E.length ∧ l ≤ 1000000000000000 ∧ RowsAt KE w f E) :
    Calls Try.prog 9 #[.agg #[.slice ft nt ct, .slice g m d, .slice f l c]] w fun r w' => r = .returned (.bool true) ∧ Below w.heap.size w w' := by
  have HK := Lib.hid (fun W (hB : Below w.heap.size w W) => kind10_walk 3 ft g f nt ct m d l c T D E W hn hn2 (hT.below hB) (fun t ht => (hTT t ht).below hB) ⟨hD.1, hD.2.1, hD.2.2.1.below hB, hD.2.2.2⟩ ⟨hE.1, hE.2.1, hE.2.2.below hB⟩)
  clear hT hTT hD hE hn
  have htw : w.heap.size ≤ w.heap.size := Nat.le_refl _
  have B0 := Lib.hid (Below.refl w.heap.size w)
  go_enter Try.func9, Try.ntmps9
  go_upto_region 1 with fail
  have P1 := Lib.hid ((BoxAt.newAt (w) #[.slice ft nt ct, .slice g m d, .slice f l c] 26 (w.heap.size) (by first | omega | (simp; done) | (simp; omega))))
  have B1 := Lib.hid ((bel_alloc B0.out (.cells #[.slice ft nt ct, .slice g m d, .slice f l c] 26)))
  obtain ⟨g1, hg1⟩ : ∃ g1, g1 = w.heap.size := ⟨_, rfl⟩
  obtain ⟨W1, hW1⟩ : ∃ W1, W1 = (w).alloc (.cells #[.slice ft nt ct, .slice g m d, .slice f l c] 26) := ⟨_, rfl⟩
  have hs1 : g1 + 1 ≤ W1.heap.size := by rw [hW1, hg1]; simp
  rw [← hW1] at P1 B1 ⊢
  have hb1 : w.heap.size ≤ g1 := by omega
  rw [← hg1] at P1 ⊢
  clear hg1
  clear hW1 B0
  have Pc0 := P1.out.get 0 (.slice ft nt ct) rfl
  have Pc1 := P1.out.get 1 (.slice g m d) rfl
  have Pc2 := P1.out.get 2 (.slice f l c) rfl
  go_wp2_with fail
  refine (HK.out _ B1.out).mono ?_
  rintro e w2 ⟨rfl, hb2⟩
  have hz2 := hb2.size
  have P2 := Lib.hid (P1.out.below hb2)
  have B2 := Lib.hid ((bel_trans B1.out hb2))
  skip
  have hs2 : g1 + 1 ≤ w2.heap.size := by omega
  clear Pc0 Pc1 Pc2
  clear P1 B1 hs1 hb2 hz2
  go_wp2
  all_goals
    go_ret
    exact ⟨rfl, B2.out⟩
set_option maxRecDepth 100000 in
set_option maxHeartbeats 3200000 in
theorem invalASIDs_walk (ft g f : Option Addr) (nt ct m d l c : Nat) (T : List Tlh) (D : List Inv) (E : List Ety) (w : World) (hn : nt = T.length) (hn2 : nt ≤ 1000000000000000) (hT : RowsAt KT w ft T) (hTT : ∀ t ∈ T, TlbAt w t) (hD : m = D.length ∧ m ≤ 1000000000000000 ∧ RowsAt KI w g D ∧ (m ≤ d ∧ d ≤ maxLen ∧ (g = none → d = 0))) (hE : l = E.length ∧ l ≤ 1000000000000000 ∧ RowsAt KE w f E) :
    Calls Try.prog 10 #[.agg #[.slice ft nt ct, .slice g m d, .slice f l c]] w fun r w' => r = .returned (.bool true) ∧ Below w.heap.size w w' := by
  have HK := Lib.hid (fun W (hB : Below w.heap.size w W) => kind10_walk 4 ft g f nt ct m d l c T D E W hn hn2 (hT.below hB) (fun t ht => (hTT t ht).below hB) ⟨hD.1, hD.2.1, hD.2.2.1.below hB, hD.2.2.2⟩ ⟨hE.1, hE.2.1, hE.2.2.below hB⟩)
  clear hT hTT hD hE hn
  have htw : w.heap.size ≤ w.heap.size := Nat.le_refl _
  have B0 := Lib.hid (Below.refl w.heap.size w)
  go_enter Try.func10, Try.ntmps10
  go_upto_region 1 with fail
  have P1 := Lib.hid ((BoxAt.newAt (w) #[.slice ft nt ct, .slice g m d, .slice f l c] 26 (w.heap.size) (by first | omega | (simp; done) | (simp; omega))))
  have B1 := Lib.hid ((bel_alloc B0.out (.cells #[.slice ft nt ct, .slice g m d, .slice f l c] 26)))
  obtain ⟨g1, hg1⟩ : ∃ g1, g1 = w.heap.size := ⟨_, rfl⟩
  obtain ⟨W1, hW1⟩ : ∃ W1, W1 = (w).alloc (.cells #[.slice ft nt ct, .slice g m d, .slice f l c] 26) := ⟨_, rfl⟩
  have hs1 : g1 + 1 ≤ W1.heap.size := by rw [hW1, hg1]; simp
  rw [← hW1] at P1 B1 ⊢
  have hb1 : w.heap.size ≤ g1 := by omega
  rw [← hg1] at P1 ⊢
  clear hg1
  clear hW1 B0
  have Pc0 := P1.out.get 0 (.slice ft nt ct) rfl
  have Pc1 := P1.out.get 1 (.slice g m d) rfl
  have Pc2 := P1.out.get 2 (.slice f l c) rfl
  go_wp2_with fail
  refine (HK.out _ B1.out).mono ?_
  rintro e w2 ⟨rfl, hb2⟩
  have hz2 := hb2.size
  have P2 := Lib.hid (P1.out.below hb2)
  have B2 := Lib.hid ((bel_trans B1.out hb2))
  skip
  have hs2 : g1 + 1 ≤ w2.heap.size := by omega
  clear Pc0 Pc1 Pc2
  clear P1 B1 hs1 hb2 hz2
  go_wp2
  all_goals
    go_ret
    exact ⟨rfl, B2.out⟩
set_option maxRecDepth 100000 in
set_option maxHeartbeats 3200000 in
theorem invalPages_walk (ft g f : Option Addr) (nt ct m d l c : Nat) (T : List Tlh) (D : List Inv) (E : List Ety) (w : World) (hn : nt = T.length) (hn2 : nt ≤ 1000000000000000) (hT : RowsAt KT w ft T) (hTT : ∀ t ∈ T, TlbAt w t) (hD : m = D.length ∧ m ≤ 1000000000000000 ∧ RowsAt KI w g D ∧ (m ≤ d ∧ d ≤ maxLen ∧ (g = none → d = 0))) (hE : l = E.length ∧ l ≤ 1000000000000000 ∧ RowsAt KE w f E) :
    Calls Try.prog 11 #[.agg #[.slice ft nt ct, .slice g m d, .slice f l c]] w fun r w' => r = .returned (.bool true) ∧ Below w.heap.size w w' := by
  have HK := Lib.hid (fun W (hB : Below w.heap.size w W) => kind10_walk 5 ft g f nt ct m d l c T D E W hn hn2 (hT.below hB) (fun t ht => (hTT t ht).below hB) ⟨hD.1, hD.2.1, hD.2.2.1.below hB, hD.2.2.2⟩ ⟨hE.1, hE.2.1, hE.2.2.below hB⟩)
  clear hT hTT hD hE hn
  have htw : w.heap.size ≤ w.heap.size := Nat.le_refl _
  have B0 := Lib.hid (Below.refl w.heap.size w)
  go_enter Try.func11, Try.ntmps11
  go_upto_region 1 with fail
  have P1 := Lib.hid ((BoxAt.newAt (w) #[.slice ft nt ct, .slice g m d, .slice f l c] 26 (w.heap.size) (by first | omega | (simp; done) | (simp; omega))))
  have B1 := Lib.hid ((bel_alloc B0.out (.cells #[.slice ft nt ct, .slice g m d, .slice f l c] 26)))
  obtain ⟨g1, hg1⟩ : ∃ g1, g1 = w.heap.size := ⟨_, rfl⟩
  obtain ⟨W1, hW1⟩ : ∃ W1, W1 = (w).alloc (.cells #[.slice ft nt ct, .slice g m d, .slice f l c] 26) := ⟨_, rfl⟩
  have hs1 : g1 + 1 ≤ W1.heap.size := by rw [hW1, hg1]; simp
  rw [← hW1] at P1 B1 ⊢
  have hb1 : w.heap.size ≤ g1 := by omega
  rw [← hg1] at P1 ⊢
  clear hg1
  clear hW1 B0
  have Pc0 := P1.out.get 0 (.slice ft nt ct) rfl
  have Pc1 := P1.out.get 1 (.slice g m d) rfl
  have Pc2 := P1.out.get 2 (.slice f l c) rfl
  go_wp2_with fail
  refine (HK.out _ B1.out).mono ?_
  rintro e w2 ⟨rfl, hb2⟩
  have hz2 := hb2.size
  have P2 := Lib.hid (P1.out.below hb2)
  have B2 := Lib.hid ((bel_trans B1.out hb2))
  skip
  have hs2 : g1 + 1 ≤ w2.heap.size := by omega
  clear Pc0 Pc1 Pc2
  clear P1 B1 hs1 hb2 hz2
  go_wp2
  all_goals
    go_ret
    exact ⟨rfl, B2.out⟩
set_option maxRecDepth 100000 in
set_option maxHeartbeats 3200000 in
theorem invalMids_walk (ft g f : Option Addr) (nt ct m d l c : Nat) (T : List Tlh) (D : List Inv) (E : List Ety) (w : World) (hn : nt = T.length) (hn2 : nt ≤ 1000000000000000) (hT : RowsAt KT w ft T) (hTT : ∀ t ∈ T, TlbAt w t) (hD : m = D.length ∧ m ≤ 1000000000000000 ∧ RowsAt KI w g D ∧ (m ≤ d ∧ d ≤ maxLen ∧ (g = none → d = 0))) (hE : l = E.length ∧ l ≤ 1000000000000000 ∧ RowsAt KE w f E) :
    Calls Try.prog 12 #[.agg #[.slice ft nt ct, .slice g m d, .slice f l c]] w fun r w' => r = .returned (.bool true) ∧ Below w.heap.size w w' := by
  have HK := Lib.hid (fun W (hB : Below w.heap.size w W) => kind10_walk 6 ft g f nt ct m d l c T D E W hn hn2 (hT.below hB) (fun t ht => (hTT t ht).below hB) ⟨hD.1, hD.2.1, hD.2.2.1.below hB, hD.2.2.2⟩ ⟨hE.1, hE.2.1, hE.2.2.below hB⟩)
  clear hT hTT hD hE hn
  have htw : w.heap.size ≤ w.heap.size := Nat.le_refl _
  have B0 := Lib.hid (Below.refl w.heap.size w)
  go_enter Try.func12, Try.ntmps12
  go_upto_region 1 with fail
  have P1 := Lib.hid ((BoxAt.newAt (w) #[.slice ft nt ct, .slice g m d, .slice f l c] 26 (w.heap.size) (by first | omega | (simp; done) | (simp; omega))))
  have B1 := Lib.hid ((bel_alloc B0.out (.cells #[.slice ft nt ct, .slice g m d, .slice f l c] 26)))
  obtain ⟨g1, hg1⟩ : ∃ g1, g1 = w.heap.size := ⟨_, rfl⟩
  obtain ⟨W1, hW1⟩ : ∃ W1, W1 = (w).alloc (.cells #[.slice ft nt ct, .slice g m d, .slice f l c] 26) := ⟨_, rfl⟩
  have hs1 : g1 + 1 ≤ W1.heap.size := by rw [hW1, hg1]; simp
  rw [← hW1] at P1 B1 ⊢
  have hb1 : w.heap.size ≤ g1 := by omega
  rw [← hg1] at P1 ⊢
  clear hg1
  clear hW1 B0
  have Pc0 := P1.out.get 0 (.slice ft nt ct) rfl
  have Pc1 := P1.out.get 1 (.slice g m d) rfl
  have Pc2 := P1.out.get 2 (.slice f l c) rfl
  go_wp2_with fail
  refine (HK.out _ B1.out).mono ?_
  rintro e w2 ⟨rfl, hb2⟩
  have hz2 := hb2.size
  have P2 := Lib.hid (P1.out.below hb2)
  have B2 := Lib.hid ((bel_trans B1.out hb2))
  skip
  have hs2 : g1 + 1 ≤ w2.heap.size := by omega
  clear Pc0 Pc1 Pc2
  clear P1 B1 hs1 hb2 hz2
  go_wp2
  all_goals
    go_ret
    exact ⟨rfl, B2.out⟩
end
end Go.Proofs.Ytjohnpbfdpmajaa
