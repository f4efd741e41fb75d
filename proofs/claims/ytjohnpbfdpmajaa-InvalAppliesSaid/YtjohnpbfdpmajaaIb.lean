/- Stage 10: the landed package inval: what takes an entry away: contracts. -/
import Derived.Test.YtjohnpbfdpmajaaIa
import Derived.Test.YtjohnpbfdpmajaaVe
set_option linter.all false
namespace Go.Proofs.Ytjohnpbfdpmajaa
open Go.ChangeShapes Go.WideShapes Go.ChangeAt Go.RowKit Go.Deep

theorem RowsAt.one {Q : Type} {K : RowK Q} {w : World} {b : Nat} {q : Q} {t : TypeId} (h : BoxAt w b (K.V q) t) : RowsAt K w (some ⟨b, 0, none⟩) [q] := by
  intro j x hj
  cases j with
  | zero =>
    simp only [List.getElem?_cons_zero, Option.some.injEq] at hj
    subst hj
    exact ⟨b, 0, rfl, ⟨h.lt, fun i _ => by simpa using h.cell i⟩⟩
  | succ j => simp at hj
theorem mayT_one (e : Ety) : mayT [e] [] = mayEn e := by simp [mayT, allF, allV, inE, placeE, eqE_self]
theorem mayT_inv (i : Inv) : mayT [] [i] = mayIn i := by simp [mayT, allF, allV]
theorem mayEn_k {e : Ety} (h : mayEn e = true) : e.k = 1 ∨ e.k = 2 ∨ e.k = 3 := by
  rw [mayEn_two] at h
  unfold kindE at h
  by_cases h1 : e.k = 1
  · exact .inl h1
  by_cases h2 : e.k = 2
  · exact .inr (.inl h2)
  by_cases h3 : e.k = 3
  · exact .inr (.inr h3)
  simp [h1, h2, h3] at h
theorem mayIn_pl {i : Inv} (h : mayIn i = true) : mayPl i.vm i.sp i.pg = true := by
  unfold mayIn at h
  simp only [Bool.and_eq_true] at h
  simp [mayPl, h.2.2]
theorem deep_one {i : Inv} {e : Ety} (h : mayEn e = true) (hi : mayIn i = true) : decide ((deepR [e] [] i.vm i.sp i.pg).2 = 0) = (decide (e.k = 3) && isE i.vm i.sp i.pg e) := by
  unfold deepR
  rw [mayT_one, h, mayIn_pl hi]
  simp only [Bool.and_self, if_true, deepF]
  by_cases hk : e.k = 3
  · have hl := mayEn_lv h hk
    have h0 : decide (ent0.lv < e.lv) = true := decide_eq_true (by show (0 : Int) < e.lv; omega)
    have h1 : ¬ e.lv = 0 := by omega
    by_cases hE : isE i.vm i.sp i.pg e = true
    · simp only [h0, hk, hE, decide_true, Bool.and_self, if_true]
      simp [h1]
    · simp only [Bool.not_eq_true] at hE
      simp [hk, hE, ent0]
  · have : decide (e.k = 3) = false := decide_eq_false hk
    simp [hk, ent0]
theorem take_page {i : Inv} {e : Ety} (h : mayEn e = true) (hi : mayIn i = true) (hv : e.vm = i.vm) (h5 : decide (i.k = 5) = true) :
    takeM i e = ((decide (e.k = 1) && (decide (e.pg = i.pg) && (e.al || decide (e.sp = i.sp)))) || decide ((deepR [e] [] i.vm i.sp i.pg).2 = 0)) := by
  rw [deep_one h hi]
  have h5 : i.k = 5 := of_decide_eq_true h5
  unfold takeM isE foE
  rw [h5, hv]
  rcases mayEn_k h with hk | hk | hk <;> rw [hk] <;> simp [Bool.and_comm]
theorem kind_not {e : Ety} (h : mayEn e = true) (h1 : decide (e.k = 1) = false) : decide (e.k = 3) = !decide (e.k = 2) := by
  rcases mayEn_k h with hk | hk | hk <;> rw [hk] at h1 ⊢ <;> first | rfl | (cases h1)
set_option maxRecDepth 100000 in
set_option maxHeartbeats 3200000 in
theorem ofstage_any (e : Ety) (h : mayEn e = true) (w : World) :
    Calls Try.prog 69 #[entV e] w fun q w' => q = .returned (.bool (!decide (e.k = 2))) ∧ Below w.heap.size w w' := by
  have HK := Lib.hid (fun h1 => kind_not h h1)
  have HK1 := Lib.hid (show decide (e.k = 1) = true → decide (e.k = 2) = false from fun h1 => by rw [of_decide_eq_true h1]; rfl)
  have ek3 : (e.k == 3) = decide (e.k = 3) := beq_int _ _
  clear h
  generalize decide (e.k = 3) = e3 at *
  unfold entV entC
  have htw : w.heap.size ≤ w.heap.size := Nat.le_refl _
  have B0 := Lib.hid (Below.refl w.heap.size w)
  go_enter Try.func69, Try.ntmps69
  go_upto_region 1 with fail
  have R1 := Lib.hid ((BoxAt.newAt (w) #[.int .i64 e.k, .int .i64 e.vm, .int .i64 e.sp, .bool e.al, .int .i64 e.pg, .int .i64 e.lv, .int .i64 e.fr, .int .i64 e.mi, .bool e.t.r, .bool e.t.w, .bool e.t.x, .bool e.t.a, .bool e.t.n, .int .i64 e.t.s] 65 (w.heap.size) (by first | omega | (simp; done) | (simp; omega))))
  have B1 := Lib.hid ((bel_alloc B0.out (.cells #[.int .i64 e.k, .int .i64 e.vm, .int .i64 e.sp, .bool e.al, .int .i64 e.pg, .int .i64 e.lv, .int .i64 e.fr, .int .i64 e.mi, .bool e.t.r, .bool e.t.w, .bool e.t.x, .bool e.t.a, .bool e.t.n, .int .i64 e.t.s] 65)))
  obtain ⟨g1, hg1⟩ : ∃ g1, g1 = w.heap.size := ⟨_, rfl⟩
  obtain ⟨W1, hW1⟩ : ∃ W1, W1 = (w).alloc (.cells #[.int .i64 e.k, .int .i64 e.vm, .int .i64 e.sp, .bool e.al, .int .i64 e.pg, .int .i64 e.lv, .int .i64 e.fr, .int .i64 e.mi, .bool e.t.r, .bool e.t.w, .bool e.t.x, .bool e.t.a, .bool e.t.n, .int .i64 e.t.s] 65) := ⟨_, rfl⟩
  have hs1 : g1 + 1 ≤ W1.heap.size := by rw [hW1, hg1]; simp
  rw [← hW1] at R1 B1 ⊢
  have hb1 : w.heap.size ≤ g1 := by omega
  rw [← hg1] at R1 ⊢
  clear hg1
  clear hW1 B0
  have Rc0 := R1.out.get 0 (.int .i64 e.k) rfl
  cases hq2 : decide (e.k = 1)
  · have ehq2 : (e.k == 1) = false := (beq_int _ _).trans hq2
    go_wp2
    all_goals
      go_ret
      refine ⟨ret_bool ?_, B1.out⟩
      first | (exact HK.out (by first | rfl | assumption)) | (rw [HK1.out (by first | rfl | assumption)]; rfl)
  have ehq2 : (e.k == 1) = true := (beq_int _ _).trans hq2
  go_wp2
  all_goals
    go_ret
    refine ⟨ret_bool ?_, B1.out⟩
    first | (exact HK.out (by first | rfl | assumption)) | (rw [HK1.out (by first | rfl | assumption)]; rfl)
set_option maxRecDepth 100000 in
set_option maxHeartbeats 3200000 in
theorem wholeof_any (e : Ety) (sp pg : Int) (w : World) :
    Calls Try.prog 70 #[entV e, .int .i64 sp, .int .i64 pg] w fun q w' => q = .returned (.bool (decide (e.k = 1) && (decide (e.pg = pg) && (e.al || decide (e.sp = sp))))) ∧ Below w.heap.size w w' := by
  unfold entV entC
  have htw : w.heap.size ≤ w.heap.size := Nat.le_refl _
  have B0 := Lib.hid (Below.refl w.heap.size w)
  go_enter Try.func70, Try.ntmps70
  go_upto_region 1 with fail
  have R1 := Lib.hid ((BoxAt.newAt (w) #[.int .i64 e.k, .int .i64 e.vm, .int .i64 e.sp, .bool e.al, .int .i64 e.pg, .int .i64 e.lv, .int .i64 e.fr, .int .i64 e.mi, .bool e.t.r, .bool e.t.w, .bool e.t.x, .bool e.t.a, .bool e.t.n, .int .i64 e.t.s] 65 (w.heap.size) (by first | omega | (simp; done) | (simp; omega))))
  have B1 := Lib.hid ((bel_alloc B0.out (.cells #[.int .i64 e.k, .int .i64 e.vm, .int .i64 e.sp, .bool e.al, .int .i64 e.pg, .int .i64 e.lv, .int .i64 e.fr, .int .i64 e.mi, .bool e.t.r, .bool e.t.w, .bool e.t.x, .bool e.t.a, .bool e.t.n, .int .i64 e.t.s] 65)))
  obtain ⟨g1, hg1⟩ : ∃ g1, g1 = w.heap.size := ⟨_, rfl⟩
  obtain ⟨W1, hW1⟩ : ∃ W1, W1 = (w).alloc (.cells #[.int .i64 e.k, .int .i64 e.vm, .int .i64 e.sp, .bool e.al, .int .i64 e.pg, .int .i64 e.lv, .int .i64 e.fr, .int .i64 e.mi, .bool e.t.r, .bool e.t.w, .bool e.t.x, .bool e.t.a, .bool e.t.n, .int .i64 e.t.s] 65) := ⟨_, rfl⟩
  have hs1 : g1 + 1 ≤ W1.heap.size := by rw [hW1, hg1]; simp
  rw [← hW1] at R1 B1 ⊢
  have hb1 : w.heap.size ≤ g1 := by omega
  rw [← hg1] at R1 ⊢
  clear hg1
  clear hW1 B0
  have Rc0 := R1.out.get 0 (.int .i64 e.k) rfl
  cases hq2 : decide (e.k = 1)
  · have ehq2 : (e.k == 1) = false := (beq_int _ _).trans hq2
    go_wp2
    all_goals
      go_ret
      refine ⟨ret_bool ?_, B1.out⟩
      first | rfl | (simp [hq2]; done) | (simp [bne, beq_int, hq2]; done)
  have ehq2 : (e.k == 1) = true := (beq_int _ _).trans hq2
  have Rc4 := R1.out.get 4 (.int .i64 e.pg) rfl
  cases hq3 : decide (e.pg = pg)
  · have ehq3 : (e.pg == pg) = false := (beq_int _ _).trans hq3
    go_wp2
    all_goals
      go_ret
      refine ⟨ret_bool ?_, B1.out⟩
      first | rfl | (simp [hq2, hq3]; done) | (simp [bne, beq_int, hq2, hq3]; done)
  have ehq3 : (e.pg == pg) = true := (beq_int _ _).trans hq3
  have Rc3 := R1.out.get 3 (.bool e.al) rfl
  cases hq4 : e.al
  · have Rc2 := R1.out.get 2 (.int .i64 e.sp) rfl
    go_wp2
    all_goals
      go_ret
      refine ⟨ret_bool ?_, B1.out⟩
      first | rfl | (simp [hq2, hq3, hq4]; done) | (simp [bne, beq_int, hq2, hq3, hq4]; done)
  go_wp2
  all_goals
    go_ret
    refine ⟨ret_bool ?_, B1.out⟩
    first | rfl | (simp [hq2, hq3, hq4]; done) | (simp [bne, beq_int, hq2, hq3, hq4]; done)
set_option maxRecDepth 100000 in
set_option maxHeartbeats 3200000 in
theorem alone_any (e : Ety) (w : World) :
    Calls Try.prog 56 #[entV e] w fun r w' => ∃ b, r = .returned (.agg #[.slice (some ⟨b, 0, none⟩) 1 1, .slice none 0 0]) ∧ RowsAt KE w' (some ⟨b, 0, none⟩) [e] ∧ Below w.heap.size w w' := by
  unfold entV entC
  have htw : w.heap.size ≤ w.heap.size := Nat.le_refl _
  have B0 := Lib.hid (Below.refl w.heap.size w)
  go_enter Try.func56, Try.ntmps56
  go_upto_region 1 with fail
  have R1 := Lib.hid (((BoxAt.newAt (w) #[.int .i64 e.k, .int .i64 e.vm, .int .i64 e.sp, .bool e.al, .int .i64 e.pg, .int .i64 e.lv, .int .i64 e.fr, .int .i64 e.mi, .bool e.t.r, .bool e.t.w, .bool e.t.x, .bool e.t.a, .bool e.t.n, .int .i64 e.t.s] 65 (w.heap.size) (by first | omega | (simp; done) | (simp; omega))).alloc (.cells #[.slice none 0 0, .slice none 0 0] 43)))
  have T1 := Lib.hid ((BoxAt.newAt ((w).alloc (.cells #[.int .i64 e.k, .int .i64 e.vm, .int .i64 e.sp, .bool e.al, .int .i64 e.pg, .int .i64 e.lv, .int .i64 e.fr, .int .i64 e.mi, .bool e.t.r, .bool e.t.w, .bool e.t.x, .bool e.t.a, .bool e.t.n, .int .i64 e.t.s] 65)) #[.slice none 0 0, .slice none 0 0] 43 (w.heap.size + 1) (by first | omega | (simp; done) | (simp; omega))))
  have B1 := Lib.hid ((bel_alloc (bel_alloc B0.out (.cells #[.int .i64 e.k, .int .i64 e.vm, .int .i64 e.sp, .bool e.al, .int .i64 e.pg, .int .i64 e.lv, .int .i64 e.fr, .int .i64 e.mi, .bool e.t.r, .bool e.t.w, .bool e.t.x, .bool e.t.a, .bool e.t.n, .int .i64 e.t.s] 65)) (.cells #[.slice none 0 0, .slice none 0 0] 43)))
  obtain ⟨g1, hg1⟩ : ∃ g1, g1 = w.heap.size := ⟨_, rfl⟩
  obtain ⟨W1, hW1⟩ : ∃ W1, W1 = ((w).alloc (.cells #[.int .i64 e.k, .int .i64 e.vm, .int .i64 e.sp, .bool e.al, .int .i64 e.pg, .int .i64 e.lv, .int .i64 e.fr, .int .i64 e.mi, .bool e.t.r, .bool e.t.w, .bool e.t.x, .bool e.t.a, .bool e.t.n, .int .i64 e.t.s] 65)).alloc (.cells #[.slice none 0 0, .slice none 0 0] 43) := ⟨_, rfl⟩
  have hs1 : g1 + 1 + 1 ≤ W1.heap.size := by rw [hW1, hg1]; simp
  rw [← hW1] at R1 T1 B1 ⊢
  have hb1 : w.heap.size ≤ g1 := by omega
  rw [← hg1] at R1 T1 ⊢
  clear hg1
  clear hW1 B0
  have Rc0 := R1.out.get 0 (.int .i64 e.k) rfl
  have Rc1 := R1.out.get 1 (.int .i64 e.vm) rfl
  have Rc2 := R1.out.get 2 (.int .i64 e.sp) rfl
  have Rc3 := R1.out.get 3 (.bool e.al) rfl
  have Rc4 := R1.out.get 4 (.int .i64 e.pg) rfl
  have Rc5 := R1.out.get 5 (.int .i64 e.lv) rfl
  have Rc6 := R1.out.get 6 (.int .i64 e.fr) rfl
  have Rc7 := R1.out.get 7 (.int .i64 e.mi) rfl
  have Rc8 := R1.out.get 8 (.bool e.t.r) rfl
  have Rc9 := R1.out.get 9 (.bool e.t.w) rfl
  have Rc10 := R1.out.get 10 (.bool e.t.x) rfl
  have Rc11 := R1.out.get 11 (.bool e.t.a) rfl
  have Rc12 := R1.out.get 12 (.bool e.t.n) rfl
  have Rc13 := R1.out.get 13 (.int .i64 e.t.s) rfl
  go_wp2_with (refine wpList_storeB rfl 43 _ _ rfl (g1 + 1) #[.slice (some ⟨W1.heap.size, 0, none⟩) 1 1, .slice none 0 0] _ 43 rfl rfl (by kernel_rfl) (by rfl) (by simp [Value.oneCell']) (T1.out.alloc (.cells #[.int .i64 e.k, .int .i64 e.vm, .int .i64 e.sp, .bool e.al, .int .i64 e.pg, .int .i64 e.lv, .int .i64 e.fr, .int .i64 e.mi, .bool e.t.r, .bool e.t.w, .bool e.t.x, .bool e.t.a, .bool e.t.n, .int .i64 e.t.s] 36)) ?_)
  have RT := ((T1.out.alloc (.cells #[.int .i64 e.k, .int .i64 e.vm, .int .i64 e.sp, .bool e.al, .int .i64 e.pg, .int .i64 e.lv, .int .i64 e.fr, .int .i64 e.mi, .bool e.t.r, .bool e.t.w, .bool e.t.x, .bool e.t.a, .bool e.t.n, .int .i64 e.t.s] 36)).put (cs' := #[.slice (some ⟨W1.heap.size, 0, none⟩) 1 1, .slice none 0 0]))
  refine bodyPost_ret (v := .agg #[.slice (some ⟨W1.heap.size, 0, none⟩) 1 1, .slice none 0 0]) (by simp [results, Try.results56, go_sem, RT.get 0 (.slice (some ⟨W1.heap.size, 0, none⟩) 1 1) rfl, RT.get 1 (.slice none 0 0) rfl]) rfl ?_
  exact ⟨_, rfl, RowsAt.one (K := KE) (q := e) (((BoxAt.newAt (W1) #[.int .i64 e.k, .int .i64 e.vm, .int .i64 e.sp, .bool e.al, .int .i64 e.pg, .int .i64 e.lv, .int .i64 e.fr, .int .i64 e.mi, .bool e.t.r, .bool e.t.w, .bool e.t.x, .bool e.t.a, .bool e.t.n, .int .i64 e.t.s] 36 (W1.heap.size) (by first | omega | (simp; done) | (simp; omega))).row (cs' := #[.slice (some ⟨W1.heap.size, 0, none⟩) 1 1, .slice none 0 0]) (show W1.heap.size ≠ g1 + 1 by omega))), (Below.rowB (g := g1 + 1) (bel_alloc B1.out (.cells #[.int .i64 e.k, .int .i64 e.vm, .int .i64 e.sp, .bool e.al, .int .i64 e.pg, .int .i64 e.lv, .int .i64 e.fr, .int .i64 e.mi, .bool e.t.r, .bool e.t.w, .bool e.t.x, .bool e.t.a, .bool e.t.n, .int .i64 e.t.s] 36)) (cs := #[.slice (some ⟨W1.heap.size, 0, none⟩) 1 1, .slice none 0 0]) (show w.heap.size ≤ g1 + 1 by omega))⟩
set_option maxRecDepth 100000 in
set_option maxHeartbeats 3200000 in
theorem recmay_any (e : Ety) (w : World) :
    Calls Try.prog 39 #[entV e] w fun q w' => q = .returned (.bool (mayEn e)) ∧ Below w.heap.size w w' := by
  have HA := Lib.hid (fun W => alone_any e W)
  have HCK := Lib.hid (fun b W (hR : RowsAt KE W (some ⟨b, 0, none⟩) [e]) => checkC (some ⟨b, 0, none⟩) none 1 1 0 0 [e] [] W hR rfl (RowsAt.nil _ _) rfl (by decide) (by decide) (Nat.le_refl _) (by decide))
  rw [mayT_one] at HCK
  obtain ⟨mb, hmb⟩ : ∃ mb, mb = mayEn e := ⟨_, rfl⟩
  obtain ⟨ck, hck⟩ : ∃ ck : Int, ck = if mayEn e = true then 0 else 1 := ⟨_, rfl⟩
  rw [← hck] at HCK
  have eck : (ck == 0) = mb := by rw [hck, ← hmb]; cases mb <;> rfl
  rw [← hmb]
  clear hck hmb
  unfold entV entC at *
  have htw : w.heap.size ≤ w.heap.size := Nat.le_refl _
  have B0 := Lib.hid (Below.refl w.heap.size w)
  go_enter Try.func39, Try.ntmps39
  go_upto_region 1 with fail
  have R1 := Lib.hid ((BoxAt.newAt (w) #[.int .i64 e.k, .int .i64 e.vm, .int .i64 e.sp, .bool e.al, .int .i64 e.pg, .int .i64 e.lv, .int .i64 e.fr, .int .i64 e.mi, .bool e.t.r, .bool e.t.w, .bool e.t.x, .bool e.t.a, .bool e.t.n, .int .i64 e.t.s] 65 (w.heap.size) (by first | omega | (simp; done) | (simp; omega))))
  have B1 := Lib.hid ((bel_alloc B0.out (.cells #[.int .i64 e.k, .int .i64 e.vm, .int .i64 e.sp, .bool e.al, .int .i64 e.pg, .int .i64 e.lv, .int .i64 e.fr, .int .i64 e.mi, .bool e.t.r, .bool e.t.w, .bool e.t.x, .bool e.t.a, .bool e.t.n, .int .i64 e.t.s] 65)))
  obtain ⟨g1, hg1⟩ : ∃ g1, g1 = w.heap.size := ⟨_, rfl⟩
  obtain ⟨W1, hW1⟩ : ∃ W1, W1 = (w).alloc (.cells #[.int .i64 e.k, .int .i64 e.vm, .int .i64 e.sp, .bool e.al, .int .i64 e.pg, .int .i64 e.lv, .int .i64 e.fr, .int .i64 e.mi, .bool e.t.r, .bool e.t.w, .bool e.t.x, .bool e.t.a, .bool e.t.n, .int .i64 e.t.s] 65) := ⟨_, rfl⟩
  have hs1 : g1 + 1 ≤ W1.heap.size := by rw [hW1, hg1]; simp
  rw [← hW1] at R1 B1 ⊢
  have hb1 : w.heap.size ≤ g1 := by omega
  rw [← hg1] at R1 ⊢
  clear hg1
  clear hW1 B0
  have Rc0 := R1.out.get 0 (.int .i64 e.k) rfl
  have Rc1 := R1.out.get 1 (.int .i64 e.vm) rfl
  have Rc2 := R1.out.get 2 (.int .i64 e.sp) rfl
  have Rc3 := R1.out.get 3 (.bool e.al) rfl
  have Rc4 := R1.out.get 4 (.int .i64 e.pg) rfl
  have Rc5 := R1.out.get 5 (.int .i64 e.lv) rfl
  have Rc6 := R1.out.get 6 (.int .i64 e.fr) rfl
  have Rc7 := R1.out.get 7 (.int .i64 e.mi) rfl
  have Rc8 := R1.out.get 8 (.bool e.t.r) rfl
  have Rc9 := R1.out.get 9 (.bool e.t.w) rfl
  have Rc10 := R1.out.get 10 (.bool e.t.x) rfl
  have Rc11 := R1.out.get 11 (.bool e.t.a) rfl
  have Rc12 := R1.out.get 12 (.bool e.t.n) rfl
  have Rc13 := R1.out.get 13 (.int .i64 e.t.s) rfl
  go_wp2_with fail
  refine (HA.out _).mono ?_
  rintro e w2 ⟨b2, rfl, hR2, hb2⟩
  have HC2 := Lib.hid hR2
  clear hR2
  have hz2 := hb2.size
  have R2 := Lib.hid (R1.out.below hb2)
  have B2 := Lib.hid (bel_trans B1.out hb2)
  skip
  have hs2 : g1 + 1 ≤ w2.heap.size := by omega
  clear Rc0 Rc1 Rc2 Rc3 Rc4 Rc5 Rc6 Rc7 Rc8 Rc9 Rc10 Rc11 Rc12 Rc13
  clear R1 B1 hs1 hb2 hz2
  go_wp2_with fail
  refine (HCK.out b2 _ HC2.out).mono ?_
  rintro e w3 ⟨rfl, hb3⟩
  have hz3 := hb3.size
  have R3 := Lib.hid (R2.out.below hb3)
  have B3 := Lib.hid (bel_trans B2.out hb3)
  skip
  have hs3 : g1 + 1 ≤ w3.heap.size := by omega
  clear R2 B2 hs2 hb3 hz3
  go_wp2
  all_goals
    go_ret
    exact ⟨rfl, B3.out⟩
set_option maxRecDepth 100000 in
set_option maxHeartbeats 3200000 in
theorem tableof_any (e : Ety) (vm sp pg : Int) (w : World) :
    Calls Try.prog 71 #[entV e, .int .i64 vm, .int .i64 sp, .int .i64 pg] w fun q w' => q = .returned (.bool (decide ((deepR [e] [] vm sp pg).2 = 0))) ∧ Below w.heap.size w w' := by
  have HA := Lib.hid (fun W => alone_any e W)
  have HW := Lib.hid (fun b W (hR : RowsAt KE W (some ⟨b, 0, none⟩) [e]) => walkC (some ⟨b, 0, none⟩) none 1 1 0 0 [e] [] vm sp pg W hR rfl (RowsAt.nil _ _) rfl (by decide) (by decide) (Nat.le_refl _) (by decide))
  generalize deepR [e] [] vm sp pg = q at *
  obtain ⟨q1, q2⟩ := q
  simp only at *
  obtain ⟨tb, htb⟩ : ∃ tb, tb = decide (q2 = 0) := ⟨_, rfl⟩
  have etb : (q2 == 0) = tb := by rw [htb]; exact beq_int _ _
  rw [← htb]
  clear htb
  unfold entV entC at *
  have htw : w.heap.size ≤ w.heap.size := Nat.le_refl _
  have B0 := Lib.hid (Below.refl w.heap.size w)
  go_enter Try.func71, Try.ntmps71
  go_upto_region 1 with fail
  have R1 := Lib.hid ((BoxAt.newAt (w) #[.int .i64 e.k, .int .i64 e.vm, .int .i64 e.sp, .bool e.al, .int .i64 e.pg, .int .i64 e.lv, .int .i64 e.fr, .int .i64 e.mi, .bool e.t.r, .bool e.t.w, .bool e.t.x, .bool e.t.a, .bool e.t.n, .int .i64 e.t.s] 65 (w.heap.size) (by first | omega | (simp; done) | (simp; omega))))
  have B1 := Lib.hid ((bel_alloc B0.out (.cells #[.int .i64 e.k, .int .i64 e.vm, .int .i64 e.sp, .bool e.al, .int .i64 e.pg, .int .i64 e.lv, .int .i64 e.fr, .int .i64 e.mi, .bool e.t.r, .bool e.t.w, .bool e.t.x, .bool e.t.a, .bool e.t.n, .int .i64 e.t.s] 65)))
  obtain ⟨g1, hg1⟩ : ∃ g1, g1 = w.heap.size := ⟨_, rfl⟩
  obtain ⟨W1, hW1⟩ : ∃ W1, W1 = (w).alloc (.cells #[.int .i64 e.k, .int .i64 e.vm, .int .i64 e.sp, .bool e.al, .int .i64 e.pg, .int .i64 e.lv, .int .i64 e.fr, .int .i64 e.mi, .bool e.t.r, .bool e.t.w, .bool e.t.x, .bool e.t.a, .bool e.t.n, .int .i64 e.t.s] 65) := ⟨_, rfl⟩
  have hs1 : g1 + 1 ≤ W1.heap.size := by rw [hW1, hg1]; simp
  rw [← hW1] at R1 B1 ⊢
  have hb1 : w.heap.size ≤ g1 := by omega
  rw [← hg1] at R1 ⊢
  clear hg1
  clear hW1 B0
  have Rc0 := R1.out.get 0 (.int .i64 e.k) rfl
  have Rc1 := R1.out.get 1 (.int .i64 e.vm) rfl
  have Rc2 := R1.out.get 2 (.int .i64 e.sp) rfl
  have Rc3 := R1.out.get 3 (.bool e.al) rfl
  have Rc4 := R1.out.get 4 (.int .i64 e.pg) rfl
  have Rc5 := R1.out.get 5 (.int .i64 e.lv) rfl
  have Rc6 := R1.out.get 6 (.int .i64 e.fr) rfl
  have Rc7 := R1.out.get 7 (.int .i64 e.mi) rfl
  have Rc8 := R1.out.get 8 (.bool e.t.r) rfl
  have Rc9 := R1.out.get 9 (.bool e.t.w) rfl
  have Rc10 := R1.out.get 10 (.bool e.t.x) rfl
  have Rc11 := R1.out.get 11 (.bool e.t.a) rfl
  have Rc12 := R1.out.get 12 (.bool e.t.n) rfl
  have Rc13 := R1.out.get 13 (.int .i64 e.t.s) rfl
  go_wp2_with fail
  refine (HA.out _).mono ?_
  rintro e w2 ⟨b2, rfl, hR2, hb2⟩
  have HC2 := Lib.hid hR2
  clear hR2
  have hz2 := hb2.size
  have R2 := Lib.hid (R1.out.below hb2)
  have B2 := Lib.hid (bel_trans B1.out hb2)
  skip
  have hs2 : g1 + 1 ≤ w2.heap.size := by omega
  clear Rc0 Rc1 Rc2 Rc3 Rc4 Rc5 Rc6 Rc7 Rc8 Rc9 Rc10 Rc11 Rc12 Rc13
  clear R1 B1 hs1 hb2 hz2
  go_wp2_with fail
  refine (HW.out b2 _ HC2.out).mono ?_
  rintro e w3 ⟨rfl, hb3⟩
  have hz3 := hb3.size
  have R3 := Lib.hid (R2.out.below hb3)
  have B3 := Lib.hid (bel_trans B2.out hb3)
  skip
  have hs3 : g1 + 1 ≤ w3.heap.size := by omega
  clear R2 B2 hs2 hb3 hz3
  go_upto_region 2 with fail
  have R4 := Lib.hid ((R3.out.alloc (.cells #[.int .i64 q1.k, .int .i64 q1.vm, .int .i64 q1.sp, .bool q1.al, .int .i64 q1.pg, .int .i64 q1.lv, .int .i64 q1.fr, .int .i64 q1.mi, .bool q1.t.r, .bool q1.t.w, .bool q1.t.x, .bool q1.t.a, .bool q1.t.n, .int .i64 q1.t.s] 36)))
  have Q4 := Lib.hid ((BoxAt.newAt (w3) #[.int .i64 q1.k, .int .i64 q1.vm, .int .i64 q1.sp, .bool q1.al, .int .i64 q1.pg, .int .i64 q1.lv, .int .i64 q1.fr, .int .i64 q1.mi, .bool q1.t.r, .bool q1.t.w, .bool q1.t.x, .bool q1.t.a, .bool q1.t.n, .int .i64 q1.t.s] 36 (w3.heap.size) (by first | omega | (simp; done) | (simp; omega))))
  have B4 := Lib.hid ((bel_alloc B3.out (.cells #[.int .i64 q1.k, .int .i64 q1.vm, .int .i64 q1.sp, .bool q1.al, .int .i64 q1.pg, .int .i64 q1.lv, .int .i64 q1.fr, .int .i64 q1.mi, .bool q1.t.r, .bool q1.t.w, .bool q1.t.x, .bool q1.t.a, .bool q1.t.n, .int .i64 q1.t.s] 36)))
  obtain ⟨g4, hg4⟩ : ∃ g4, g4 = w3.heap.size := ⟨_, rfl⟩
  obtain ⟨W4, hW4⟩ : ∃ W4, W4 = (w3).alloc (.cells #[.int .i64 q1.k, .int .i64 q1.vm, .int .i64 q1.sp, .bool q1.al, .int .i64 q1.pg, .int .i64 q1.lv, .int .i64 q1.fr, .int .i64 q1.mi, .bool q1.t.r, .bool q1.t.w, .bool q1.t.x, .bool q1.t.a, .bool q1.t.n, .int .i64 q1.t.s] 36) := ⟨_, rfl⟩
  have hs4 : g4 + 1 ≤ W4.heap.size := by rw [hW4, hg4]; simp
  rw [← hW4] at R4 Q4 B4 ⊢
  have hb4 : g1 + 1 ≤ g4 := by omega
  rw [← hg4] at Q4 ⊢
  clear hg4
  clear hW4 R3 B3 hs3
  go_wp2
  all_goals
    go_ret
    exact ⟨rfl, B4.out⟩
set_option maxRecDepth 100000 in
set_option maxHeartbeats 3200000 in
theorem takem_any (i : Inv) (e : Ety) (h : mayEn e = true) (hi : mayIn i = true) (hv : e.vm = i.vm) (hk1 : decide (i.k = 1) = false) (w : World) :
    Calls Try.prog 64 #[invV i, entV e] w fun q w' => q = .returned (.bool (takeM i e)) ∧ Below w.heap.size w w' := by
  have HS := Lib.hid (fun W => ofstage_any e h W)
  have HW := Lib.hid (fun W => wholeof_any e i.sp i.pg W)
  have HT := Lib.hid (fun W => tableof_any e i.vm i.sp i.pg W)
  have HP := Lib.hid (fun h5 => take_page h hi hv h5)
  have hk6 : decide (i.k = 6) = (!decide (i.k = 2) && (!decide (i.k = 3) && (!decide (i.k = 4) && !decide (i.k = 5)))) := by
    unfold mayIn at hi
    simp only [Bool.and_eq_true, decide_eq_true_eq, decide_eq_false_iff_not] at hi hk1
    rw [Bool.eq_iff_iff]
    simp
    omega
  have HK6 := Lib.hid hk6
  clear h hi hv hk6 hk1
  generalize (decide (e.k = 1) && (decide (e.pg = i.pg) && (e.al || decide (e.sp = i.sp)))) = wo at *
  generalize decide ((deepR [e] [] i.vm i.sp i.pg).2 = 0) = ta at *
  obtain ⟨st, hst0⟩ : ∃ st, st = !decide (e.k = 2) := ⟨_, rfl⟩
  rw [← hst0] at HS
  have hst : decide (e.k = 2) = !st := by rw [hst0, Bool.not_not]
  clear hst0
  unfold invV invC entV entC at *
  have htw : w.heap.size ≤ w.heap.size := Nat.le_refl _
  have B0 := Lib.hid (Below.refl w.heap.size w)
  go_enter Try.func64, Try.ntmps64
  go_upto_region 1 with fail
  have I1 := Lib.hid (((BoxAt.newAt (w) #[.int .i64 i.k, .int .i64 i.vm, .int .i64 i.sp, .int .i64 i.pg] 84 (w.heap.size) (by first | omega | (simp; done) | (simp; omega))).alloc (.cells #[.int .i64 e.k, .int .i64 e.vm, .int .i64 e.sp, .bool e.al, .int .i64 e.pg, .int .i64 e.lv, .int .i64 e.fr, .int .i64 e.mi, .bool e.t.r, .bool e.t.w, .bool e.t.x, .bool e.t.a, .bool e.t.n, .int .i64 e.t.s] 65)))
  have R1 := Lib.hid ((BoxAt.newAt ((w).alloc (.cells #[.int .i64 i.k, .int .i64 i.vm, .int .i64 i.sp, .int .i64 i.pg] 84)) #[.int .i64 e.k, .int .i64 e.vm, .int .i64 e.sp, .bool e.al, .int .i64 e.pg, .int .i64 e.lv, .int .i64 e.fr, .int .i64 e.mi, .bool e.t.r, .bool e.t.w, .bool e.t.x, .bool e.t.a, .bool e.t.n, .int .i64 e.t.s] 65 (w.heap.size + 1) (by first | omega | (simp; done) | (simp; omega))))
  have B1 := Lib.hid ((bel_alloc (bel_alloc B0.out (.cells #[.int .i64 i.k, .int .i64 i.vm, .int .i64 i.sp, .int .i64 i.pg] 84)) (.cells #[.int .i64 e.k, .int .i64 e.vm, .int .i64 e.sp, .bool e.al, .int .i64 e.pg, .int .i64 e.lv, .int .i64 e.fr, .int .i64 e.mi, .bool e.t.r, .bool e.t.w, .bool e.t.x, .bool e.t.a, .bool e.t.n, .int .i64 e.t.s] 65)))
  obtain ⟨g1, hg1⟩ : ∃ g1, g1 = w.heap.size := ⟨_, rfl⟩
  obtain ⟨W1, hW1⟩ : ∃ W1, W1 = ((w).alloc (.cells #[.int .i64 i.k, .int .i64 i.vm, .int .i64 i.sp, .int .i64 i.pg] 84)).alloc (.cells #[.int .i64 e.k, .int .i64 e.vm, .int .i64 e.sp, .bool e.al, .int .i64 e.pg, .int .i64 e.lv, .int .i64 e.fr, .int .i64 e.mi, .bool e.t.r, .bool e.t.w, .bool e.t.x, .bool e.t.a, .bool e.t.n, .int .i64 e.t.s] 65) := ⟨_, rfl⟩
  have hs1 : g1 + 1 + 1 ≤ W1.heap.size := by rw [hW1, hg1]; simp
  rw [← hW1] at I1 R1 B1 ⊢
  have hb1 : w.heap.size ≤ g1 := by omega
  rw [← hg1] at I1 R1 ⊢
  clear hg1
  clear hW1 B0
  have Ic0 := I1.out.get 0 (.int .i64 i.k) rfl
  cases hq2 : decide (i.k = 2)
  · have ehq2 : (i.k == 2) = false := (beq_int _ _).trans hq2
    cases hq3 : decide (i.k = 3)
    · have ehq3 : (i.k == 3) = false := (beq_int _ _).trans hq3
      cases hq4 : decide (i.k = 4)
      · have ehq4 : (i.k == 4) = false := (beq_int _ _).trans hq4
        cases hq5 : decide (i.k = 5)
        · have ehq5 : (i.k == 5) = false := (beq_int _ _).trans hq5
          cases hq6 : decide (i.k = 6)
          · have ehq6 : (i.k == 6) = false := (beq_int _ _).trans hq6
            go_wp2
            all_goals
              go_ret
              exact absurd HK6.out (by simp [hq2, hq3, hq4, hq5, hq6])
          have ehq6 : (i.k == 6) = true := (beq_int _ _).trans hq6
          have Rc0 := R1.out.get 0 (.int .i64 e.k) rfl
          cases hq7 : decide (e.k = 2)
          · have ehq7 : (e.k == 2) = false := (beq_int _ _).trans hq7
            go_wp2
            all_goals
              go_ret
              refine ⟨ret_bool ?_, B1.out⟩
              first | rfl | (simp [takeM, hq2, hq3, hq4, hq5, hq6, hq7]; done) | (simp [bne, beq_int, takeM, hq2, hq3, hq4, hq5, hq6, hq7]; done)
          have ehq7 : (e.k == 2) = true := (beq_int _ _).trans hq7
          have Rc4 := R1.out.get 4 (.int .i64 e.pg) rfl
          have Ic3 := I1.out.get 3 (.int .i64 i.pg) rfl
          go_wp2
          all_goals
            go_ret
            refine ⟨ret_bool ?_, B1.out⟩
            first | rfl | (simp [takeM, hq2, hq3, hq4, hq5, hq6, hq7]; done) | (simp [bne, beq_int, takeM, hq2, hq3, hq4, hq5, hq6, hq7]; done)
        have ehq5 : (i.k == 5) = true := (beq_int _ _).trans hq5
        have Rc0 := R1.out.get 0 (.int .i64 e.k) rfl
        have Rc1 := R1.out.get 1 (.int .i64 e.vm) rfl
        have Rc2 := R1.out.get 2 (.int .i64 e.sp) rfl
        have Rc3 := R1.out.get 3 (.bool e.al) rfl
        have Rc4 := R1.out.get 4 (.int .i64 e.pg) rfl
        have Rc5 := R1.out.get 5 (.int .i64 e.lv) rfl
        have Rc6 := R1.out.get 6 (.int .i64 e.fr) rfl
        have Rc7 := R1.out.get 7 (.int .i64 e.mi) rfl
        have Rc8 := R1.out.get 8 (.bool e.t.r) rfl
        have Rc9 := R1.out.get 9 (.bool e.t.w) rfl
        have Rc10 := R1.out.get 10 (.bool e.t.x) rfl
        have Rc11 := R1.out.get 11 (.bool e.t.a) rfl
        have Rc12 := R1.out.get 12 (.bool e.t.n) rfl
        have Rc13 := R1.out.get 13 (.int .i64 e.t.s) rfl
        have Ic2 := I1.out.get 2 (.int .i64 i.sp) rfl
        have Ic3 := I1.out.get 3 (.int .i64 i.pg) rfl
        go_wp2_with fail
        refine (HW.out _).mono ?_
        rintro e w6 ⟨rfl, hb6⟩
        have hz6 := hb6.size
        have I6 := Lib.hid (I1.out.below hb6)
        have R6 := Lib.hid (R1.out.below hb6)
        have B6 := Lib.hid (bel_trans B1.out hb6)
        skip
        have hs6 : g1 + 1 + 1 ≤ w6.heap.size := by omega
        clear Ic0 Rc0 Rc1 Rc2 Rc3 Rc4 Rc5 Rc6 Rc7 Rc8 Rc9 Rc10 Rc11 Rc12 Rc13 Ic2 Ic3
        clear I1 R1 B1 hs1 hb6 hz6
        cases hq7 : wo
        · have Rc0 := R6.out.get 0 (.int .i64 e.k) rfl
          have Rc1 := R6.out.get 1 (.int .i64 e.vm) rfl
          have Rc2 := R6.out.get 2 (.int .i64 e.sp) rfl
          have Rc3 := R6.out.get 3 (.bool e.al) rfl
          have Rc4 := R6.out.get 4 (.int .i64 e.pg) rfl
          have Rc5 := R6.out.get 5 (.int .i64 e.lv) rfl
          have Rc6 := R6.out.get 6 (.int .i64 e.fr) rfl
          have Rc7 := R6.out.get 7 (.int .i64 e.mi) rfl
          have Rc8 := R6.out.get 8 (.bool e.t.r) rfl
          have Rc9 := R6.out.get 9 (.bool e.t.w) rfl
          have Rc10 := R6.out.get 10 (.bool e.t.x) rfl
          have Rc11 := R6.out.get 11 (.bool e.t.a) rfl
          have Rc12 := R6.out.get 12 (.bool e.t.n) rfl
          have Rc13 := R6.out.get 13 (.int .i64 e.t.s) rfl
          have Ic1 := I6.out.get 1 (.int .i64 i.vm) rfl
          have Ic2 := I6.out.get 2 (.int .i64 i.sp) rfl
          have Ic3 := I6.out.get 3 (.int .i64 i.pg) rfl
          go_wp2_with fail
          refine (HT.out _).mono ?_
          rintro e w8 ⟨rfl, hb8⟩
          have hz8 := hb8.size
          have I8 := Lib.hid (I6.out.below hb8)
          have R8 := Lib.hid (R6.out.below hb8)
          have B8 := Lib.hid (bel_trans B6.out hb8)
          skip
          have hs8 : g1 + 1 + 1 ≤ w8.heap.size := by omega
          clear Rc0 Rc1 Rc2 Rc3 Rc4 Rc5 Rc6 Rc7 Rc8 Rc9 Rc10 Rc11 Rc12 Rc13 Ic1 Ic2 Ic3
          clear I6 R6 B6 hs6 hb8 hz8
          go_wp2
          all_goals
            go_ret
            refine ⟨ret_bool ?_, B8.out⟩
            rw [HP.out hq5]
            first | rfl | (cases wo <;> cases ta <;> first | rfl | simp_all)
        go_wp2
        all_goals
          go_ret
          refine ⟨ret_bool ?_, B6.out⟩
          rw [HP.out hq5]
          first | rfl | (cases wo <;> cases ta <;> first | rfl | simp_all)
      have ehq4 : (i.k == 4) = true := (beq_int _ _).trans hq4
      have Rc0 := R1.out.get 0 (.int .i64 e.k) rfl
      have Rc1 := R1.out.get 1 (.int .i64 e.vm) rfl
      have Rc2 := R1.out.get 2 (.int .i64 e.sp) rfl
      have Rc3 := R1.out.get 3 (.bool e.al) rfl
      have Rc4 := R1.out.get 4 (.int .i64 e.pg) rfl
      have Rc5 := R1.out.get 5 (.int .i64 e.lv) rfl
      have Rc6 := R1.out.get 6 (.int .i64 e.fr) rfl
      have Rc7 := R1.out.get 7 (.int .i64 e.mi) rfl
      have Rc8 := R1.out.get 8 (.bool e.t.r) rfl
      have Rc9 := R1.out.get 9 (.bool e.t.w) rfl
      have Rc10 := R1.out.get 10 (.bool e.t.x) rfl
      have Rc11 := R1.out.get 11 (.bool e.t.a) rfl
      have Rc12 := R1.out.get 12 (.bool e.t.n) rfl
      have Rc13 := R1.out.get 13 (.int .i64 e.t.s) rfl
      go_wp2_with fail
      refine (HS.out _).mono ?_
      rintro e w5 ⟨rfl, hb5⟩
      have hz5 := hb5.size
      have I5 := Lib.hid (I1.out.below hb5)
      have R5 := Lib.hid (R1.out.below hb5)
      have B5 := Lib.hid (bel_trans B1.out hb5)
      skip
      have hs5 : g1 + 1 + 1 ≤ w5.heap.size := by omega
      clear Ic0 Rc0 Rc1 Rc2 Rc3 Rc4 Rc5 Rc6 Rc7 Rc8 Rc9 Rc10 Rc11 Rc12 Rc13
      clear I1 R1 B1 hs1 hb5 hz5
      cases hq6 : st
      · go_wp2
        all_goals
          go_ret
          refine ⟨ret_bool ?_, B5.out⟩
          first | rfl | (simp [takeM, hst, hq2, hq3, hq4, hq6]; done) | (simp [bne, beq_int, takeM, hst, hq2, hq3, hq4, hq6]; done)
      have Rc3 := R5.out.get 3 (.bool e.al) rfl
      cases hq7 : e.al
      · have Rc2 := R5.out.get 2 (.int .i64 e.sp) rfl
        have Ic2 := I5.out.get 2 (.int .i64 i.sp) rfl
        go_wp2
        all_goals
          go_ret
          refine ⟨ret_bool ?_, B5.out⟩
          first | rfl | (simp [takeM, hst, hq2, hq3, hq4, hq6, hq7]; done) | (simp [bne, beq_int, takeM, hst, hq2, hq3, hq4, hq6, hq7]; done)
      go_wp2
      all_goals
        go_ret
        refine ⟨ret_bool ?_, B5.out⟩
        first | rfl | (simp [takeM, hst, hq2, hq3, hq4, hq6, hq7]; done) | (simp [bne, beq_int, takeM, hst, hq2, hq3, hq4, hq6, hq7]; done)
    have ehq3 : (i.k == 3) = true := (beq_int _ _).trans hq3
    have Rc0 := R1.out.get 0 (.int .i64 e.k) rfl
    have Rc1 := R1.out.get 1 (.int .i64 e.vm) rfl
    have Rc2 := R1.out.get 2 (.int .i64 e.sp) rfl
    have Rc3 := R1.out.get 3 (.bool e.al) rfl
    have Rc4 := R1.out.get 4 (.int .i64 e.pg) rfl
    have Rc5 := R1.out.get 5 (.int .i64 e.lv) rfl
    have Rc6 := R1.out.get 6 (.int .i64 e.fr) rfl
    have Rc7 := R1.out.get 7 (.int .i64 e.mi) rfl
    have Rc8 := R1.out.get 8 (.bool e.t.r) rfl
    have Rc9 := R1.out.get 9 (.bool e.t.w) rfl
    have Rc10 := R1.out.get 10 (.bool e.t.x) rfl
    have Rc11 := R1.out.get 11 (.bool e.t.a) rfl
    have Rc12 := R1.out.get 12 (.bool e.t.n) rfl
    have Rc13 := R1.out.get 13 (.int .i64 e.t.s) rfl
    go_wp2_with fail
    refine (HS.out _).mono ?_
    rintro e w4 ⟨rfl, hb4⟩
    have hz4 := hb4.size
    have I4 := Lib.hid (I1.out.below hb4)
    have R4 := Lib.hid (R1.out.below hb4)
    have B4 := Lib.hid (bel_trans B1.out hb4)
    skip
    have hs4 : g1 + 1 + 1 ≤ w4.heap.size := by omega
    clear Ic0 Rc0 Rc1 Rc2 Rc3 Rc4 Rc5 Rc6 Rc7 Rc8 Rc9 Rc10 Rc11 Rc12 Rc13
    clear I1 R1 B1 hs1 hb4 hz4
    go_wp2
    all_goals
      go_ret
      refine ⟨ret_bool ?_, B4.out⟩
      first | rfl | (simp [takeM, hst, hq2, hq3]; done) | (simp [bne, beq_int, takeM, hst, hq2, hq3]; done)
  have ehq2 : (i.k == 2) = true := (beq_int _ _).trans hq2
  go_wp2
  all_goals
    go_ret
    refine ⟨ret_bool ?_, B1.out⟩
    first | rfl | (simp [takeM, hst, hq2]; done) | (simp [bne, beq_int, takeM, hst, hq2]; done)
end Go.Proofs.Ytjohnpbfdpmajaa
