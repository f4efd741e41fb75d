/- The landed package tlb: contracts. -/
import Derived.Test.YtcbjmpllmnphkaaVc
import Derived.Test.YtcbjmpllmnphkaaVd
set_option linter.all false
namespace Go.Proofs.Ytcbjmpllmnphkaa
open Go.ChangeShapes Go.WideShapes Go.ChangeAt Go.RowKit Go.Deep

set_option maxRecDepth 100000 in
set_option maxHeartbeats 3200000 in
theorem checkC (f g : Option Addr) (l c m d : Nat) (E : List Ety) (D : List Inv) (w : World) (hE : RowsAt KE w f E) (hl : l = E.length) (hD : RowsAt KI w g D) (hm : m = D.length) (hls : l ≤ 90000) (hms : m ≤ 90000) (hc : l ≤ c) (hc2 : c ≤ maxLen) :
    Calls Try.prog 29 #[.agg #[.slice f l c, .slice g m d]] w fun r w' => r = .returned (.int .i64 (if mayT E D = true then 0 else 1)) ∧ Below w.heap.size w w' := by
  have HM := Lib.hid (fun W (hB : Below w.heap.size w W) => tmay_any f g l c m d E D W (hE.below hB) hl (hD.below hB) hm (by omega) (by omega) hc hc2)
  clear hE hl hD hm
  generalize mayT E D = qm at *
  have htw : w.heap.size ≤ w.heap.size := Nat.le_refl _
  have B0 := Lib.hid (Below.refl w.heap.size w)
  go_enter Try.func29, Try.ntmps29
  go_upto_region 1 with fail
  have A1 := Lib.hid ((BoxAt.newAt (w) #[.slice f l c, .slice g m d] 25 (w.heap.size) (by first | omega | (simp; done) | (simp; omega))))
  have B1 := Lib.hid ((bel_alloc B0.out (.cells #[.slice f l c, .slice g m d] 25)))
  obtain ⟨g1, hg1⟩ : ∃ g1, g1 = w.heap.size := ⟨_, rfl⟩
  obtain ⟨W1, hW1⟩ : ∃ W1, W1 = (w).alloc (.cells #[.slice f l c, .slice g m d] 25) := ⟨_, rfl⟩
  have hs1 : g1 + 1 ≤ W1.heap.size := by rw [hW1, hg1]; simp
  rw [← hW1] at A1 B1 ⊢
  have hb1 : w.heap.size ≤ g1 := by omega
  rw [← hg1] at A1 ⊢
  clear hg1
  clear hW1 B0
  have Ac0 := A1.out.get 0 (.slice f l c) rfl
  have Ac1 := A1.out.get 1 (.slice g m d) rfl
  go_wp2_with fail
  refine (HM.out _ B1.out).mono ?_
  rintro e w2 ⟨rfl, hb2⟩
  have hz2 := hb2.size
  have A2 := Lib.hid (A1.out.below hb2)
  have B2 := Lib.hid (bel_trans B1.out hb2)
  skip
  have hs2 : g1 + 1 ≤ w2.heap.size := by omega
  clear Ac0 Ac1
  clear A1 B1 hs1 hb2 hz2
  cases qm
  · go_wp2
    all_goals
      go_ret
      exact ⟨rfl, B2.out⟩
  go_wp2
  all_goals
    go_ret
    exact ⟨rfl, B2.out⟩
set_option maxRecDepth 100000 in
set_option maxHeartbeats 3200000 in
theorem wholeC (f g : Option Addr) (l c m d : Nat) (E : List Ety) (D : List Inv) (vm sp pg acc : Int) (w : World) (hE : RowsAt KE w f E) (hl : l = E.length) (hD : RowsAt KI w g D) (hm : m = D.length) (hls : l ≤ 90000) (hms : m ≤ 90000) (hc : l ≤ c) (hc2 : c ≤ maxLen) :
    Calls Try.prog 18 #[.agg #[.slice f l c, .slice g m d], .int .i64 vm, .int .i64 sp, .int .i64 pg, .int .i64 acc] w fun r w' => r = .returned (.tuple #[entV (firstR E D 1 vm sp pg acc).1, .int .i64 (firstR E D 1 vm sp pg acc).2]) ∧ Below w.heap.size w w' := by
  have HF := Lib.hid (fun W (hB : Below w.heap.size w W) => tfirst_any f g l c m d E D vm sp pg 1 acc W (hE.below hB) hl (hD.below hB) hm (by omega) (by omega) hc hc2)
  clear hE hl hD hm
  generalize firstR E D 1 vm sp pg acc = q at *
  obtain ⟨q1, q2⟩ := q
  unfold entV entC at *
  simp only at *
  have htw : w.heap.size ≤ w.heap.size := Nat.le_refl _
  have B0 := Lib.hid (Below.refl w.heap.size w)
  go_enter Try.func18, Try.ntmps18
  go_upto_region 1 with fail
  have A1 := Lib.hid (((BoxAt.newAt (w) #[.slice f l c, .slice g m d] 25 (w.heap.size) (by first | omega | (simp; done) | (simp; omega))).alloc (.cells #[.int .i64 0, .int .i64 0, .int .i64 0, .bool false, .int .i64 0, .int .i64 0, .int .i64 0, .int .i64 0, .bool false, .bool false, .bool false, .bool false, .bool false, .int .i64 0] 34)))
  have R1 := Lib.hid ((BoxAt.newAt ((w).alloc (.cells #[.slice f l c, .slice g m d] 25)) #[.int .i64 0, .int .i64 0, .int .i64 0, .bool false, .int .i64 0, .int .i64 0, .int .i64 0, .int .i64 0, .bool false, .bool false, .bool false, .bool false, .bool false, .int .i64 0] 34 (w.heap.size + 1) (by first | omega | (simp; done) | (simp; omega))))
  have B1 := Lib.hid ((bel_alloc (bel_alloc B0.out (.cells #[.slice f l c, .slice g m d] 25)) (.cells #[.int .i64 0, .int .i64 0, .int .i64 0, .bool false, .int .i64 0, .int .i64 0, .int .i64 0, .int .i64 0, .bool false, .bool false, .bool false, .bool false, .bool false, .int .i64 0] 34)))
  obtain ⟨g1, hg1⟩ : ∃ g1, g1 = w.heap.size := ⟨_, rfl⟩
  obtain ⟨W1, hW1⟩ : ∃ W1, W1 = ((w).alloc (.cells #[.slice f l c, .slice g m d] 25)).alloc (.cells #[.int .i64 0, .int .i64 0, .int .i64 0, .bool false, .int .i64 0, .int .i64 0, .int .i64 0, .int .i64 0, .bool false, .bool false, .bool false, .bool false, .bool false, .int .i64 0] 34) := ⟨_, rfl⟩
  have hs1 : g1 + 1 + 1 ≤ W1.heap.size := by rw [hW1, hg1]; simp
  rw [← hW1] at A1 R1 B1 ⊢
  have hb1 : w.heap.size ≤ g1 := by omega
  rw [← hg1] at A1 R1 ⊢
  clear hg1
  clear hW1 B0
  have Ac0 := A1.out.get 0 (.slice f l c) rfl
  have Ac1 := A1.out.get 1 (.slice g m d) rfl
  go_wp2_with fail
  refine (HF.out _ B1.out).mono ?_
  rintro e w2 ⟨rfl, hb2⟩
  have hz2 := hb2.size
  have A2 := Lib.hid (A1.out.below hb2)
  have R2 := Lib.hid (R1.out.below hb2)
  have B2 := Lib.hid (bel_trans B1.out hb2)
  skip
  have hs2 : g1 + 1 + 1 ≤ w2.heap.size := by omega
  clear Ac0 Ac1
  clear A1 R1 B1 hs1 hb2 hz2
  go_wp2_with (refine wpList_storeB rfl 34 _ _ rfl (g1 + 1) #[.int .i64 q1.k, .int .i64 q1.vm, .int .i64 q1.sp, .bool q1.al, .int .i64 q1.pg, .int .i64 q1.lv, .int .i64 q1.fr, .int .i64 q1.mi, .bool q1.t.r, .bool q1.t.w, .bool q1.t.x, .bool q1.t.a, .bool q1.t.n, .int .i64 q1.t.s] _ 34 rfl rfl (by kernel_rfl) (by rfl) (by simp [Value.oneCell']) R2.out ?_)
  all_goals
    have RR := (R2.out.put (cs' := #[.int .i64 q1.k, .int .i64 q1.vm, .int .i64 q1.sp, .bool q1.al, .int .i64 q1.pg, .int .i64 q1.lv, .int .i64 q1.fr, .int .i64 q1.mi, .bool q1.t.r, .bool q1.t.w, .bool q1.t.x, .bool q1.t.a, .bool q1.t.n, .int .i64 q1.t.s]))
    refine bodyPost_ret (v := .tuple #[.agg #[.int .i64 q1.k, .int .i64 q1.vm, .int .i64 q1.sp, .bool q1.al, .int .i64 q1.pg, .int .i64 q1.lv, .int .i64 q1.fr, .int .i64 q1.mi, .bool q1.t.r, .bool q1.t.w, .bool q1.t.x, .bool q1.t.a, .bool q1.t.n, .int .i64 q1.t.s], .int .i64 q2]) (by simp [results, Try.results18, go_sem, RR.get 0 (.int .i64 q1.k) rfl, RR.get 1 (.int .i64 q1.vm) rfl, RR.get 2 (.int .i64 q1.sp) rfl, RR.get 3 (.bool q1.al) rfl, RR.get 4 (.int .i64 q1.pg) rfl, RR.get 5 (.int .i64 q1.lv) rfl, RR.get 6 (.int .i64 q1.fr) rfl, RR.get 7 (.int .i64 q1.mi) rfl, RR.get 8 (.bool q1.t.r) rfl, RR.get 9 (.bool q1.t.w) rfl, RR.get 10 (.bool q1.t.x) rfl, RR.get 11 (.bool q1.t.a) rfl, RR.get 12 (.bool q1.t.n) rfl, RR.get 13 (.int .i64 q1.t.s) rfl]) rfl ?_
    exact ⟨rfl, (Below.rowB (g := g1 + 1) B2.out (cs := #[.int .i64 q1.k, .int .i64 q1.vm, .int .i64 q1.sp, .bool q1.al, .int .i64 q1.pg, .int .i64 q1.lv, .int .i64 q1.fr, .int .i64 q1.mi, .bool q1.t.r, .bool q1.t.w, .bool q1.t.x, .bool q1.t.a, .bool q1.t.n, .int .i64 q1.t.s]) (show w.heap.size ≤ g1 + 1 by omega))⟩
set_option maxRecDepth 100000 in
set_option maxHeartbeats 3200000 in
theorem midC (f g : Option Addr) (l c m d : Nat) (E : List Ety) (D : List Inv) (vm pg acc : Int) (w : World) (hE : RowsAt KE w f E) (hl : l = E.length) (hD : RowsAt KI w g D) (hm : m = D.length) (hls : l ≤ 90000) (hms : m ≤ 90000) (hc : l ≤ c) (hc2 : c ≤ maxLen) :
    Calls Try.prog 20 #[.agg #[.slice f l c, .slice g m d], .int .i64 vm, .int .i64 pg, .int .i64 acc] w fun r w' => r = .returned (.tuple #[entV (firstR E D 2 vm 0 pg acc).1, .int .i64 (firstR E D 2 vm 0 pg acc).2]) ∧ Below w.heap.size w w' := by
  have HF := Lib.hid (fun W (hB : Below w.heap.size w W) => tfirst_any f g l c m d E D vm 0 pg 2 acc W (hE.below hB) hl (hD.below hB) hm (by omega) (by omega) hc hc2)
  clear hE hl hD hm
  generalize firstR E D 2 vm 0 pg acc = q at *
  obtain ⟨q1, q2⟩ := q
  unfold entV entC at *
  simp only at *
  have htw : w.heap.size ≤ w.heap.size := Nat.le_refl _
  have B0 := Lib.hid (Below.refl w.heap.size w)
  go_enter Try.func20, Try.ntmps20
  go_upto_region 1 with fail
  have A1 := Lib.hid (((BoxAt.newAt (w) #[.slice f l c, .slice g m d] 25 (w.heap.size) (by first | omega | (simp; done) | (simp; omega))).alloc (.cells #[.int .i64 0, .int .i64 0, .int .i64 0, .bool false, .int .i64 0, .int .i64 0, .int .i64 0, .int .i64 0, .bool false, .bool false, .bool false, .bool false, .bool false, .int .i64 0] 34)))
  have R1 := Lib.hid ((BoxAt.newAt ((w).alloc (.cells #[.slice f l c, .slice g m d] 25)) #[.int .i64 0, .int .i64 0, .int .i64 0, .bool false, .int .i64 0, .int .i64 0, .int .i64 0, .int .i64 0, .bool false, .bool false, .bool false, .bool false, .bool false, .int .i64 0] 34 (w.heap.size + 1) (by first | omega | (simp; done) | (simp; omega))))
  have B1 := Lib.hid ((bel_alloc (bel_alloc B0.out (.cells #[.slice f l c, .slice g m d] 25)) (.cells #[.int .i64 0, .int .i64 0, .int .i64 0, .bool false, .int .i64 0, .int .i64 0, .int .i64 0, .int .i64 0, .bool false, .bool false, .bool false, .bool false, .bool false, .int .i64 0] 34)))
  obtain ⟨g1, hg1⟩ : ∃ g1, g1 = w.heap.size := ⟨_, rfl⟩
  obtain ⟨W1, hW1⟩ : ∃ W1, W1 = ((w).alloc (.cells #[.slice f l c, .slice g m d] 25)).alloc (.cells #[.int .i64 0, .int .i64 0, .int .i64 0, .bool false, .int .i64 0, .int .i64 0, .int .i64 0, .int .i64 0, .bool false, .bool false, .bool false, .bool false, .bool false, .int .i64 0] 34) := ⟨_, rfl⟩
  have hs1 : g1 + 1 + 1 ≤ W1.heap.size := by rw [hW1, hg1]; simp
  rw [← hW1] at A1 R1 B1 ⊢
  have hb1 : w.heap.size ≤ g1 := by omega
  rw [← hg1] at A1 R1 ⊢
  clear hg1
  clear hW1 B0
  have Ac0 := A1.out.get 0 (.slice f l c) rfl
  have Ac1 := A1.out.get 1 (.slice g m d) rfl
  go_wp2_with fail
  refine (HF.out _ B1.out).mono ?_
  rintro e w2 ⟨rfl, hb2⟩
  have hz2 := hb2.size
  have A2 := Lib.hid (A1.out.below hb2)
  have R2 := Lib.hid (R1.out.below hb2)
  have B2 := Lib.hid (bel_trans B1.out hb2)
  skip
  have hs2 : g1 + 1 + 1 ≤ w2.heap.size := by omega
  clear Ac0 Ac1
  clear A1 R1 B1 hs1 hb2 hz2
  go_wp2_with (refine wpList_storeB rfl 34 _ _ rfl (g1 + 1) #[.int .i64 q1.k, .int .i64 q1.vm, .int .i64 q1.sp, .bool q1.al, .int .i64 q1.pg, .int .i64 q1.lv, .int .i64 q1.fr, .int .i64 q1.mi, .bool q1.t.r, .bool q1.t.w, .bool q1.t.x, .bool q1.t.a, .bool q1.t.n, .int .i64 q1.t.s] _ 34 rfl rfl (by kernel_rfl) (by rfl) (by simp [Value.oneCell']) R2.out ?_)
  all_goals
    have RR := (R2.out.put (cs' := #[.int .i64 q1.k, .int .i64 q1.vm, .int .i64 q1.sp, .bool q1.al, .int .i64 q1.pg, .int .i64 q1.lv, .int .i64 q1.fr, .int .i64 q1.mi, .bool q1.t.r, .bool q1.t.w, .bool q1.t.x, .bool q1.t.a, .bool q1.t.n, .int .i64 q1.t.s]))
    refine bodyPost_ret (v := .tuple #[.agg #[.int .i64 q1.k, .int .i64 q1.vm, .int .i64 q1.sp, .bool q1.al, .int .i64 q1.pg, .int .i64 q1.lv, .int .i64 q1.fr, .int .i64 q1.mi, .bool q1.t.r, .bool q1.t.w, .bool q1.t.x, .bool q1.t.a, .bool q1.t.n, .int .i64 q1.t.s], .int .i64 q2]) (by simp [results, Try.results20, go_sem, RR.get 0 (.int .i64 q1.k) rfl, RR.get 1 (.int .i64 q1.vm) rfl, RR.get 2 (.int .i64 q1.sp) rfl, RR.get 3 (.bool q1.al) rfl, RR.get 4 (.int .i64 q1.pg) rfl, RR.get 5 (.int .i64 q1.lv) rfl, RR.get 6 (.int .i64 q1.fr) rfl, RR.get 7 (.int .i64 q1.mi) rfl, RR.get 8 (.bool q1.t.r) rfl, RR.get 9 (.bool q1.t.w) rfl, RR.get 10 (.bool q1.t.x) rfl, RR.get 11 (.bool q1.t.a) rfl, RR.get 12 (.bool q1.t.n) rfl, RR.get 13 (.int .i64 q1.t.s) rfl]) rfl ?_
    exact ⟨rfl, (Below.rowB (g := g1 + 1) B2.out (cs := #[.int .i64 q1.k, .int .i64 q1.vm, .int .i64 q1.sp, .bool q1.al, .int .i64 q1.pg, .int .i64 q1.lv, .int .i64 q1.fr, .int .i64 q1.mi, .bool q1.t.r, .bool q1.t.w, .bool q1.t.x, .bool q1.t.a, .bool q1.t.n, .int .i64 q1.t.s]) (show w.heap.size ≤ g1 + 1 by omega))⟩
set_option maxRecDepth 100000 in
set_option maxHeartbeats 3200000 in
theorem walkC (f g : Option Addr) (l c m d : Nat) (E : List Ety) (D : List Inv) (vm sp pg : Int) (w : World) (hE : RowsAt KE w f E) (hl : l = E.length) (hD : RowsAt KI w g D) (hm : m = D.length) (hls : l ≤ 90000) (hms : m ≤ 90000) (hc : l ≤ c) (hc2 : c ≤ maxLen) :
    Calls Try.prog 21 #[.agg #[.slice f l c, .slice g m d], .int .i64 vm, .int .i64 sp, .int .i64 pg] w fun r w' => r = .returned (.tuple #[entV (deepR E D vm sp pg).1, .int .i64 (deepR E D vm sp pg).2]) ∧ Below w.heap.size w w' := by
  have HF := Lib.hid (fun W (hB : Below w.heap.size w W) => tdeep_any f g l c m d E D vm sp pg W (hE.below hB) hl (hD.below hB) hm (by omega) (by omega) hc hc2)
  clear hE hl hD hm
  generalize deepR E D vm sp pg = q at *
  obtain ⟨q1, q2⟩ := q
  unfold entV entC at *
  simp only at *
  have htw : w.heap.size ≤ w.heap.size := Nat.le_refl _
  have B0 := Lib.hid (Below.refl w.heap.size w)
  go_enter Try.func21, Try.ntmps21
  go_upto_region 1 with fail
  have A1 := Lib.hid (((BoxAt.newAt (w) #[.slice f l c, .slice g m d] 25 (w.heap.size) (by first | omega | (simp; done) | (simp; omega))).alloc (.cells #[.int .i64 0, .int .i64 0, .int .i64 0, .bool false, .int .i64 0, .int .i64 0, .int .i64 0, .int .i64 0, .bool false, .bool false, .bool false, .bool false, .bool false, .int .i64 0] 34)))
  have R1 := Lib.hid ((BoxAt.newAt ((w).alloc (.cells #[.slice f l c, .slice g m d] 25)) #[.int .i64 0, .int .i64 0, .int .i64 0, .bool false, .int .i64 0, .int .i64 0, .int .i64 0, .int .i64 0, .bool false, .bool false, .bool false, .bool false, .bool false, .int .i64 0] 34 (w.heap.size + 1) (by first | omega | (simp; done) | (simp; omega))))
  have B1 := Lib.hid ((bel_alloc (bel_alloc B0.out (.cells #[.slice f l c, .slice g m d] 25)) (.cells #[.int .i64 0, .int .i64 0, .int .i64 0, .bool false, .int .i64 0, .int .i64 0, .int .i64 0, .int .i64 0, .bool false, .bool false, .bool false, .bool false, .bool false, .int .i64 0] 34)))
  obtain ⟨g1, hg1⟩ : ∃ g1, g1 = w.heap.size := ⟨_, rfl⟩
  obtain ⟨W1, hW1⟩ : ∃ W1, W1 = ((w).alloc (.cells #[.slice f l c, .slice g m d] 25)).alloc (.cells #[.int .i64 0, .int .i64 0, .int .i64 0, .bool false, .int .i64 0, .int .i64 0, .int .i64 0, .int .i64 0, .bool false, .bool false, .bool false, .bool false, .bool false, .int .i64 0] 34) := ⟨_, rfl⟩
  have hs1 : g1 + 1 + 1 ≤ W1.heap.size := by rw [hW1, hg1]; simp
  rw [← hW1] at A1 R1 B1 ⊢
  have hb1 : w.heap.size ≤ g1 := by omega
  rw [← hg1] at A1 R1 ⊢
  clear hg1
  clear hW1 B0
  have Ac0 := A1.out.get 0 (.slice f l c) rfl
  have Ac1 := A1.out.get 1 (.slice g m d) rfl
  go_wp2_with fail
  refine (HF.out _ B1.out).mono ?_
  rintro e w2 ⟨rfl, hb2⟩
  have hz2 := hb2.size
  have A2 := Lib.hid (A1.out.below hb2)
  have R2 := Lib.hid (R1.out.below hb2)
  have B2 := Lib.hid (bel_trans B1.out hb2)
  skip
  have hs2 : g1 + 1 + 1 ≤ w2.heap.size := by omega
  clear Ac0 Ac1
  clear A1 R1 B1 hs1 hb2 hz2
  go_wp2_with (refine wpList_storeB rfl 34 _ _ rfl (g1 + 1) #[.int .i64 q1.k, .int .i64 q1.vm, .int .i64 q1.sp, .bool q1.al, .int .i64 q1.pg, .int .i64 q1.lv, .int .i64 q1.fr, .int .i64 q1.mi, .bool q1.t.r, .bool q1.t.w, .bool q1.t.x, .bool q1.t.a, .bool q1.t.n, .int .i64 q1.t.s] _ 34 rfl rfl (by kernel_rfl) (by rfl) (by simp [Value.oneCell']) R2.out ?_)
  all_goals
    have RR := (R2.out.put (cs' := #[.int .i64 q1.k, .int .i64 q1.vm, .int .i64 q1.sp, .bool q1.al, .int .i64 q1.pg, .int .i64 q1.lv, .int .i64 q1.fr, .int .i64 q1.mi, .bool q1.t.r, .bool q1.t.w, .bool q1.t.x, .bool q1.t.a, .bool q1.t.n, .int .i64 q1.t.s]))
    refine bodyPost_ret (v := .tuple #[.agg #[.int .i64 q1.k, .int .i64 q1.vm, .int .i64 q1.sp, .bool q1.al, .int .i64 q1.pg, .int .i64 q1.lv, .int .i64 q1.fr, .int .i64 q1.mi, .bool q1.t.r, .bool q1.t.w, .bool q1.t.x, .bool q1.t.a, .bool q1.t.n, .int .i64 q1.t.s], .int .i64 q2]) (by simp [results, Try.results21, go_sem, RR.get 0 (.int .i64 q1.k) rfl, RR.get 1 (.int .i64 q1.vm) rfl, RR.get 2 (.int .i64 q1.sp) rfl, RR.get 3 (.bool q1.al) rfl, RR.get 4 (.int .i64 q1.pg) rfl, RR.get 5 (.int .i64 q1.lv) rfl, RR.get 6 (.int .i64 q1.fr) rfl, RR.get 7 (.int .i64 q1.mi) rfl, RR.get 8 (.bool q1.t.r) rfl, RR.get 9 (.bool q1.t.w) rfl, RR.get 10 (.bool q1.t.x) rfl, RR.get 11 (.bool q1.t.a) rfl, RR.get 12 (.bool q1.t.n) rfl, RR.get 13 (.int .i64 q1.t.s) rfl]) rfl ?_
    exact ⟨rfl, (Below.rowB (g := g1 + 1) B2.out (cs := #[.int .i64 q1.k, .int .i64 q1.vm, .int .i64 q1.sp, .bool q1.al, .int .i64 q1.pg, .int .i64 q1.lv, .int .i64 q1.fr, .int .i64 q1.mi, .bool q1.t.r, .bool q1.t.w, .bool q1.t.x, .bool q1.t.a, .bool q1.t.n, .int .i64 q1.t.s]) (show w.heap.size ≤ g1 + 1 by omega))⟩
set_option maxRecDepth 100000 in
set_option maxHeartbeats 3200000 in
theorem thas_any (f g : Option Addr) (l c m d : Nat) (n : Int) (w : World) :
    Calls Try.prog 41 #[.agg #[.slice f l c, .slice g m d], .int .i64 n] w fun r w' => r = .returned (.bool (decide (0 ≤ n) && decide (n < (l : Int)))) ∧ Below w.heap.size w w' := by
  obtain ⟨q1, hq⟩ : ∃ q, q = decide (n < (l : Int)) := ⟨_, rfl⟩
  rw [← hq]
  have hq2 := hq.symm
  clear hq
  have htw : w.heap.size ≤ w.heap.size := Nat.le_refl _
  have B0 := Lib.hid (Below.refl w.heap.size w)
  go_enter Try.func41, Try.ntmps41
  go_upto_region 1 with fail
  have A1 := Lib.hid ((BoxAt.newAt (w) #[.slice f l c, .slice g m d] 69 (w.heap.size) (by first | omega | (simp; done) | (simp; omega))))
  have B1 := Lib.hid ((bel_alloc B0.out (.cells #[.slice f l c, .slice g m d] 69)))
  obtain ⟨g1, hg1⟩ : ∃ g1, g1 = w.heap.size := ⟨_, rfl⟩
  obtain ⟨W1, hW1⟩ : ∃ W1, W1 = (w).alloc (.cells #[.slice f l c, .slice g m d] 69) := ⟨_, rfl⟩
  have hs1 : g1 + 1 ≤ W1.heap.size := by rw [hW1, hg1]; simp
  rw [← hW1] at A1 B1 ⊢
  have hb1 : w.heap.size ≤ g1 := by omega
  rw [← hg1] at A1 ⊢
  clear hg1
  clear hW1 B0
  cases q0 : decide (0 ≤ n)
  · go_wp2
    all_goals
      go_ret
      exact ⟨ret_bool (by rw [q0]; cases q1 <;> rfl), B1.out⟩
  have Ac0 := A1.out.get 0 (.slice f l c) rfl
  go_wp2
  all_goals
    go_ret
    exact ⟨ret_bool (by rw [q0]; cases q1 <;> rfl), B1.out⟩
set_option maxRecDepth 100000 in
set_option maxHeartbeats 3200000 in
theorem twithout_any (f g : Option Addr) (l c m d : Nat) (E : List Ety) (D : List Inv) (i : Nat) (w : World) (hE : RowsAt KE w f E) (hl : l = E.length) (hD : RowsAt KI w g D) (hm : m = D.length) (hls : l ≤ 90000) (hms : m ≤ 90000) (hc : l ≤ c) (hc2 : c ≤ maxLen) (hf : f = none → c = 0) (hg : g = none → d = 0) (hi : i < l) :
    Calls Try.prog 42 #[.agg #[.slice f l c, .slice g m d], .int .i64 i] w fun r w' => ∃ f' l' c' g' d', r = .returned (.agg #[.slice f' l' c', .slice g' m d']) ∧ l' = (drop9 E i).length ∧ OwnR KE w' w.heap.size (.slice f' l' c') (drop9 E i) ∧ OwnR KI w' w.heap.size (.slice g' m d') D ∧ Below w.heap.size w w' := by
  have HC := Lib.hid (fun W (hB : Below w.heap.size w W) => tcopied_any f g l c m d E D W (hE.below hB) hl (hD.below hB) hm hls hms hf hg)
  have HN := Lib.hid hl
  have HLN := Lib.hid (show i + (l - (i + 1)) = (drop9 E i).length from by unfold drop9; rw [List.length_append, List.length_take, List.length_drop, ← hl]; omega)
  unfold EndT at HC
  rw [← hl, ← hm] at HC
  clear hE hl hD hm hf hg
  have i1 : (0 : Int) ≤ (i : Int) := by omega
  have hwr : IntKind.i64.wrap ((i : Int) + 1) = (i : Int) + 1 := IntWalk.i64_in _ (by omega)
  have htw : w.heap.size ≤ w.heap.size := Nat.le_refl _
  have B0 := Lib.hid (Below.refl w.heap.size w)
  go_enter Try.func42, Try.ntmps42
  go_upto_region 1 with fail
  have A1 := Lib.hid (((BoxAt.newAt (w) #[.slice f l c, .slice g m d] 69 (w.heap.size) (by first | omega | (simp; done) | (simp; omega))).alloc (.cells #[.slice none 0 0, .slice none 0 0] 25)))
  have R1 := Lib.hid ((BoxAt.newAt ((w).alloc (.cells #[.slice f l c, .slice g m d] 69)) #[.slice none 0 0, .slice none 0 0] 25 (w.heap.size + 1) (by first | omega | (simp; done) | (simp; omega))))
  have B1 := Lib.hid ((bel_alloc (bel_alloc B0.out (.cells #[.slice f l c, .slice g m d] 69)) (.cells #[.slice none 0 0, .slice none 0 0] 25)))
  obtain ⟨g1, hg1⟩ : ∃ g1, g1 = w.heap.size := ⟨_, rfl⟩
  obtain ⟨W1, hW1⟩ : ∃ W1, W1 = ((w).alloc (.cells #[.slice f l c, .slice g m d] 69)).alloc (.cells #[.slice none 0 0, .slice none 0 0] 25) := ⟨_, rfl⟩
  have hs1 : g1 + 1 + 1 ≤ W1.heap.size := by rw [hW1, hg1]; simp
  rw [← hW1] at A1 R1 B1 ⊢
  have hb1 : w.heap.size ≤ g1 := by omega
  rw [← hg1] at A1 R1 ⊢
  clear hg1
  clear hW1 B0
  have Ac0 := A1.out.get 0 (.slice f l c) rfl
  have Ac1 := A1.out.get 1 (.slice g m d) rfl
  go_wp2_with fail
  refine (HC.out _ B1.out).mono ?_
  rintro e w2 ⟨f2, c2, g2, d2, rfl, hE2, hD2, hb2⟩
  have OE2 := Lib.hid (OwnR.mono hE2 (base' := w.heap.size) (by first | omega | (simp; done) | (simp; omega)))
  have OD2 := Lib.hid (OwnR.mono hD2 (base' := w.heap.size) (by first | omega | (simp; done) | (simp; omega)))
  clear hE2 hD2
  have hz2 := hb2.size
  have A2 := Lib.hid (A1.out.below hb2)
  have R2 := Lib.hid (R1.out.below hb2)
  have B2 := Lib.hid (bel_trans B1.out hb2)
  skip
  have hs2 : g1 + 1 + 1 ≤ w2.heap.size := by omega
  clear Ac0 Ac1
  clear A1 R1 B1 hs1 hb2 hz2
  go_upto_region 2 with fail
  have A3 := Lib.hid ((A2.out.alloc (.cells #[.slice f2 l c2, .slice g2 m d2] 25)))
  have R3 := Lib.hid ((R2.out.alloc (.cells #[.slice f2 l c2, .slice g2 m d2] 25)))
  have T3 := Lib.hid ((BoxAt.newAt (w2) #[.slice f2 l c2, .slice g2 m d2] 25 (w2.heap.size) (by first | omega | (simp; done) | (simp; omega))))
  have E3 := Lib.hid ((OE2.out.alloc (.cells #[.slice f2 l c2, .slice g2 m d2] 25)))
  have D3 := Lib.hid ((OD2.out.alloc (.cells #[.slice f2 l c2, .slice g2 m d2] 25)))
  have B3 := Lib.hid ((bel_alloc B2.out (.cells #[.slice f2 l c2, .slice g2 m d2] 25)))
  obtain ⟨g3, hg3⟩ : ∃ g3, g3 = w2.heap.size := ⟨_, rfl⟩
  obtain ⟨W3, hW3⟩ : ∃ W3, W3 = (w2).alloc (.cells #[.slice f2 l c2, .slice g2 m d2] 25) := ⟨_, rfl⟩
  have hs3 : g3 + 1 ≤ W3.heap.size := by rw [hW3, hg3]; simp
  rw [← hW3] at A3 R3 T3 E3 D3 B3 ⊢
  have hb3 : g1 + 1 + 1 ≤ g3 := by omega
  rw [← hg3] at T3 ⊢
  clear hg3
  clear hW3 A2 R2 OE2 OD2 B2 hs2
  have Tc0 := T3.out.get 0 (.slice f2 l c2) rfl
  go_wp2_with fail
  refine (tdel_any f2 l c2 i (i + 1) w.heap.size E _ E3.out HN.out hi rfl hls).mono ?_
  rintro e w4 ⟨rfl, hO4, hg4⟩
  have hz4 := hg4.size
  clear Tc0
  have Tc0 := (T3.out.grown hg4 (E3.out.ne_box T3.out (by decide))).get 0 (.slice f2 l c2) rfl
  have Tz0 := (T3.out.grown hg4 (E3.out.ne_box T3.out (by decide))).free 0
  go_upto_region 3 with fail
  clear Tc0 Tz0
  have A5 := Lib.hid (((A3.out.grown hg4 (E3.out.ne_box A3.out (by decide))).other ⟨g3, 0, none⟩ (.slice f2 (i + (l - (i + 1))) c2) (show g1 ≠ g3 by omega)))
  have R5 := Lib.hid (((R3.out.grown hg4 (E3.out.ne_box R3.out (by decide))).other ⟨g3, 0, none⟩ (.slice f2 (i + (l - (i + 1))) c2) (show g1 + 1 ≠ g3 by omega)))
  have T5 := Lib.hid (((T3.out.grown hg4 (E3.out.ne_box T3.out (by decide))).set 0 (.slice f2 (i + (l - (i + 1))) c2) #[.slice f2 (i + (l - (i + 1))) c2, .slice g2 m d2] rfl))
  have E5 := Lib.hid ((hO4.otherN ⟨g3, 0, none⟩ (.slice f2 (i + (l - (i + 1))) c2) (hO4.ne_box (T3.out.grown hg4 (E3.out.ne_box T3.out (by decide))) (by decide))))
  have D5 := Lib.hid (((D3.out.grownO E3.out (by decide) hg4).otherN ⟨g3, 0, none⟩ (.slice f2 (i + (l - (i + 1))) c2) ((D3.out.grownO E3.out (by decide) hg4).ne_box (T3.out.grown hg4 (E3.out.ne_box T3.out (by decide))) (by decide))))
  have B5 := Lib.hid ((Below.setCell (B3.out.grown hg4 (by first | omega | (simp; omega)) (fun k hk => Nat.le_trans (show w.heap.size ≤ w.heap.size by omega) (E3.out.blk k hk))) (p := ⟨g3, 0, none⟩) (show w.heap.size ≤ g3 by omega) (.slice f2 (i + (l - (i + 1))) c2)))
  obtain ⟨W5, hW5⟩ : ∃ W5, W5 = (w4).setCell ⟨g3, 0, none⟩ (.slice f2 (i + (l - (i + 1))) c2) := ⟨_, rfl⟩
  have hs5 : g3 + 1 ≤ W5.heap.size := by rw [hW5]; first | (simp [World.setCell]; omega) | (simp [World.setCell, World.setRow]; omega) | exact hs3
  rw [← hW5] at A5 R5 T5 E5 D5 B5 ⊢
  clear hW5 A3 R3 T3 E3 D3 B3 hs3
  have Tc0 := T5.out.get 0 (.slice f2 (i + (l - (i + 1))) c2) rfl
  have Tc1 := T5.out.get 1 (.slice g2 m d2) rfl
  go_wp2_with (refine wpList_storeB rfl 25 _ _ rfl (g1 + 1) #[.slice f2 (i + (l - (i + 1))) c2, .slice g2 m d2] _ 25 rfl rfl (by kernel_rfl) (by rfl) (by simp [Value.oneCell']) R5.out ?_)
  have RR := (R5.out.put (cs' := #[.slice f2 (i + (l - (i + 1))) c2, .slice g2 m d2]))
  refine bodyPost_ret (v := .agg #[.slice f2 (i + (l - (i + 1))) c2, .slice g2 m d2]) (by simp [results, Try.results42, go_sem, RR.get 0 (.slice f2 (i + (l - (i + 1))) c2) rfl, RR.get 1 (.slice g2 m d2) rfl]) rfl ?_
  exact ⟨f2, i + (l - (i + 1)), c2, g2, d2, rfl, HLN.out, (E5.out.rowN (cs := #[.slice f2 (i + (l - (i + 1))) c2, .slice g2 m d2]) (E5.out.ne_box R5.out (by decide))), (D5.out.rowN (cs := #[.slice f2 (i + (l - (i + 1))) c2, .slice g2 m d2]) (D5.out.ne_box R5.out (by decide))), (Below.rowB (g := g1 + 1) B5.out (cs := #[.slice f2 (i + (l - (i + 1))) c2, .slice g2 m d2]) (show w.heap.size ≤ g1 + 1 by omega))⟩
/-- What Fill tells. -/
def fillR (E : List Ety) (D : List Inv) (e : Ety) : List Ety × List Inv × Int := if (mayT E D && mayEn e) = true then (fill9 E e, D, 0) else ([], [], 1)
/-- What Drop tells. -/
def dropR (E : List Ety) (D : List Inv) (n : Int) : List Ety × List Inv × Int := if mayT E D = true then (if 0 ≤ n ∧ n < (E.length : Int) then (drop9 E n.toNat, D, 0) else ([], [], 3)) else ([], [], 1)
/-- What a call that tells a TLB and a number leaves. -/
def EndF (w : World) (q : List Ety × List Inv × Int) (r : Ending) (w' : World) : Prop :=
  ∃ f' l' c' g' m' d', r = .returned (.tuple #[.agg #[.slice f' l' c', .slice g' m' d'], .int .i64 q.2.2]) ∧ l' = q.1.length ∧ m' = q.2.1.length ∧ OwnR KE w' w.heap.size (.slice f' l' c') q.1 ∧ OwnR KI w' w.heap.size (.slice g' m' d') q.2.1 ∧ Below w.heap.size w w'
set_option maxRecDepth 100000 in
set_option maxHeartbeats 3200000 in
theorem fillC (f g : Option Addr) (l c m d : Nat) (E : List Ety) (D : List Inv) (e : Ety) (w : World) (hE : RowsAt KE w f E) (hl : l = E.length) (hD : RowsAt KI w g D) (hm : m = D.length) (hls : l ≤ 90000) (hms : m ≤ 90000) (hc : l ≤ c) (hc2 : c ≤ maxLen) (hf : f = none → c = 0) (hg : g = none → d = 0) :
    Calls Try.prog 27 #[.agg #[.slice f l c, .slice g m d], entV e] w (EndF w (fillR E D e)) := by
  have HM := Lib.hid (fun W (hB : Below w.heap.size w W) => tmay_any f g l c m d E D W (hE.below hB) hl (hD.below hB) hm (by omega) (by omega) hc hc2)
  have HX := Lib.hid (fun W => trec_any e W)
  have HW := Lib.hid (fun W (hB : Below w.heap.size w W) => twith_any f g l c m d E D e W (hE.below hB) hl (hD.below hB) hm hls hms hf hg)
  have HO := Lib.hid hm
  clear hE hl hD hm hf hg
  obtain ⟨q, hq⟩ : ∃ q, q = fillR E D e := ⟨_, rfl⟩
  rw [← hq]
  unfold fillR at hq
  generalize fill9 E e = F at *
  generalize mayT E D = qm at *
  generalize mayEn e = qe at *
  have HR0 := Lib.hid hq
  clear hq
  unfold EndF
  unfold entV entC at *
  have htw : w.heap.size ≤ w.heap.size := Nat.le_refl _
  have B0 := Lib.hid (Below.refl w.heap.size w)
  go_enter Try.func27, Try.ntmps27
  go_upto_region 1 with fail
  have A1 := Lib.hid ((((BoxAt.newAt (w) #[.slice f l c, .slice g m d] 25 (w.heap.size) (by first | omega | (simp; done) | (simp; omega))).alloc (.cells #[.int .i64 e.k, .int .i64 e.vm, .int .i64 e.sp, .bool e.al, .int .i64 e.pg, .int .i64 e.lv, .int .i64 e.fr, .int .i64 e.mi, .bool e.t.r, .bool e.t.w, .bool e.t.x, .bool e.t.a, .bool e.t.n, .int .i64 e.t.s] 34)).alloc (.cells #[.slice none 0 0, .slice none 0 0] 25)))
  have X1 := Lib.hid (((BoxAt.newAt ((w).alloc (.cells #[.slice f l c, .slice g m d] 25)) #[.int .i64 e.k, .int .i64 e.vm, .int .i64 e.sp, .bool e.al, .int .i64 e.pg, .int .i64 e.lv, .int .i64 e.fr, .int .i64 e.mi, .bool e.t.r, .bool e.t.w, .bool e.t.x, .bool e.t.a, .bool e.t.n, .int .i64 e.t.s] 34 (w.heap.size + 1) (by first | omega | (simp; done) | (simp; omega))).alloc (.cells #[.slice none 0 0, .slice none 0 0] 25)))
  have R1 := Lib.hid ((BoxAt.newAt (((w).alloc (.cells #[.slice f l c, .slice g m d] 25)).alloc (.cells #[.int .i64 e.k, .int .i64 e.vm, .int .i64 e.sp, .bool e.al, .int .i64 e.pg, .int .i64 e.lv, .int .i64 e.fr, .int .i64 e.mi, .bool e.t.r, .bool e.t.w, .bool e.t.x, .bool e.t.a, .bool e.t.n, .int .i64 e.t.s] 34)) #[.slice none 0 0, .slice none 0 0] 25 (w.heap.size + 1 + 1) (by first | omega | (simp; done) | (simp; omega))))
  have B1 := Lib.hid ((bel_alloc (bel_alloc (bel_alloc B0.out (.cells #[.slice f l c, .slice g m d] 25)) (.cells #[.int .i64 e.k, .int .i64 e.vm, .int .i64 e.sp, .bool e.al, .int .i64 e.pg, .int .i64 e.lv, .int .i64 e.fr, .int .i64 e.mi, .bool e.t.r, .bool e.t.w, .bool e.t.x, .bool e.t.a, .bool e.t.n, .int .i64 e.t.s] 34)) (.cells #[.slice none 0 0, .slice none 0 0] 25)))
  obtain ⟨g1, hg1⟩ : ∃ g1, g1 = w.heap.size := ⟨_, rfl⟩
  obtain ⟨W1, hW1⟩ : ∃ W1, W1 = (((w).alloc (.cells #[.slice f l c, .slice g m d] 25)).alloc (.cells #[.int .i64 e.k, .int .i64 e.vm, .int .i64 e.sp, .bool e.al, .int .i64 e.pg, .int .i64 e.lv, .int .i64 e.fr, .int .i64 e.mi, .bool e.t.r, .bool e.t.w, .bool e.t.x, .bool e.t.a, .bool e.t.n, .int .i64 e.t.s] 34)).alloc (.cells #[.slice none 0 0, .slice none 0 0] 25) := ⟨_, rfl⟩
  have hs1 : g1 + 1 + 1 + 1 ≤ W1.heap.size := by rw [hW1, hg1]; simp
  rw [← hW1] at A1 X1 R1 B1 ⊢
  have hb1 : w.heap.size ≤ g1 := by omega
  rw [← hg1] at A1 X1 R1 ⊢
  clear hg1
  clear hW1 B0
  have Ac0 := A1.out.get 0 (.slice f l c) rfl
  have Ac1 := A1.out.get 1 (.slice g m d) rfl
  go_upto_region 2 with fail
  clear Ac0 Ac1
  have A2 := Lib.hid ((A1.out.alloc (.cells #[.slice f l c, .slice g m d] 69)))
  have X2 := Lib.hid ((X1.out.alloc (.cells #[.slice f l c, .slice g m d] 69)))
  have R2 := Lib.hid ((R1.out.alloc (.cells #[.slice f l c, .slice g m d] 69)))
  have T2 := Lib.hid ((BoxAt.newAt (W1) #[.slice f l c, .slice g m d] 69 (W1.heap.size) (by first | omega | (simp; done) | (simp; omega))))
  have B2 := Lib.hid ((bel_alloc B1.out (.cells #[.slice f l c, .slice g m d] 69)))
  obtain ⟨g2, hg2⟩ : ∃ g2, g2 = W1.heap.size := ⟨_, rfl⟩
  obtain ⟨W2, hW2⟩ : ∃ W2, W2 = (W1).alloc (.cells #[.slice f l c, .slice g m d] 69) := ⟨_, rfl⟩
  have hs2 : g2 + 1 ≤ W2.heap.size := by rw [hW2, hg2]; simp
  rw [← hW2] at A2 X2 R2 T2 B2 ⊢
  have hb2 : g1 + 1 + 1 + 1 ≤ g2 := by omega
  rw [← hg2] at T2 ⊢
  clear hg2
  clear hW2 A1 X1 R1 B1 hs1
  have Tc0 := T2.out.get 0 (.slice f l c) rfl
  have Tc1 := T2.out.get 1 (.slice g m d) rfl
  go_wp2_with fail
  refine (HM.out _ B2.out).mono ?_
  rintro e w3 ⟨rfl, hb3⟩
  have hz3 := hb3.size
  have A3 := Lib.hid (A2.out.below hb3)
  have X3 := Lib.hid (X2.out.below hb3)
  have R3 := Lib.hid (R2.out.below hb3)
  have T3 := Lib.hid (T2.out.below hb3)
  have B3 := Lib.hid (bel_trans B2.out hb3)
  skip
  have hs3 : g2 + 1 ≤ w3.heap.size := by omega
  clear Tc0 Tc1
  clear A2 X2 R2 T2 B2 hs2 hb3 hz3
  cases qm
  · go_wp2_with (refine wpList_storeB rfl 25 _ _ rfl (g1 + 1 + 1) #[.slice none 0 0, .slice none 0 0] _ 25 rfl rfl (by kernel_rfl) (by rfl) (by simp [Value.oneCell']) R3.out ?_)
    all_goals
      have RR := (R3.out.put (cs' := #[.slice none 0 0, .slice none 0 0]))
      refine bodyPost_ret (v := .tuple #[.agg #[.slice none 0 0, .slice none 0 0], .int .i64 1]) (by simp [results, Try.results27, go_sem, RR.get 0 (.slice none 0 0) rfl, RR.get 1 (.slice none 0 0) rfl]) rfl ?_
      rw [HR0.out]
      exact ⟨none, 0, 0, none, 0, 0, rfl, rfl, rfl, OwnR.nil _ _, OwnR.nil _ _, (Below.rowB (g := g1 + 1 + 1) B3.out (cs := #[.slice none 0 0, .slice none 0 0]) (show w.heap.size ≤ g1 + 1 + 1 by omega))⟩
  have Xc0 := X3.out.get 0 (.int .i64 e.k) rfl
  have Xc1 := X3.out.get 1 (.int .i64 e.vm) rfl
  have Xc2 := X3.out.get 2 (.int .i64 e.sp) rfl
  have Xc3 := X3.out.get 3 (.bool e.al) rfl
  have Xc4 := X3.out.get 4 (.int .i64 e.pg) rfl
  have Xc5 := X3.out.get 5 (.int .i64 e.lv) rfl
  have Xc6 := X3.out.get 6 (.int .i64 e.fr) rfl
  have Xc7 := X3.out.get 7 (.int .i64 e.mi) rfl
  have Xc8 := X3.out.get 8 (.bool e.t.r) rfl
  have Xc9 := X3.out.get 9 (.bool e.t.w) rfl
  have Xc10 := X3.out.get 10 (.bool e.t.x) rfl
  have Xc11 := X3.out.get 11 (.bool e.t.a) rfl
  have Xc12 := X3.out.get 12 (.bool e.t.n) rfl
  have Xc13 := X3.out.get 13 (.int .i64 e.t.s) rfl
  go_wp2_with fail
  refine (HX.out _).mono ?_
  rintro e w4 ⟨rfl, hb4⟩
  have hz4 := hb4.size
  have A4 := Lib.hid (A3.out.below hb4)
  have X4 := Lib.hid (X3.out.below hb4)
  have R4 := Lib.hid (R3.out.below hb4)
  have T4 := Lib.hid (T3.out.below hb4)
  have B4 := Lib.hid (bel_trans B3.out hb4)
  skip
  have hs4 : g2 + 1 ≤ w4.heap.size := by omega
  clear Xc0 Xc1 Xc2 Xc3 Xc4 Xc5 Xc6 Xc7 Xc8 Xc9 Xc10 Xc11 Xc12 Xc13
  clear A3 X3 R3 T3 B3 hs3 hb4 hz4
  cases qe
  · go_wp2_with (refine wpList_storeB rfl 25 _ _ rfl (g1 + 1 + 1) #[.slice none 0 0, .slice none 0 0] _ 25 rfl rfl (by kernel_rfl) (by rfl) (by simp [Value.oneCell']) R4.out ?_)
    all_goals
      have RR := (R4.out.put (cs' := #[.slice none 0 0, .slice none 0 0]))
      refine bodyPost_ret (v := .tuple #[.agg #[.slice none 0 0, .slice none 0 0], .int .i64 1]) (by simp [results, Try.results27, go_sem, RR.get 0 (.slice none 0 0) rfl, RR.get 1 (.slice none 0 0) rfl]) rfl ?_
      rw [HR0.out]
      exact ⟨none, 0, 0, none, 0, 0, rfl, rfl, rfl, OwnR.nil _ _, OwnR.nil _ _, (Below.rowB (g := g1 + 1 + 1) B4.out (cs := #[.slice none 0 0, .slice none 0 0]) (show w.heap.size ≤ g1 + 1 + 1 by omega))⟩
  have Tc0 := T4.out.get 0 (.slice f l c) rfl
  have Tc1 := T4.out.get 1 (.slice g m d) rfl
  have Xc0 := X4.out.get 0 (.int .i64 e.k) rfl
  have Xc1 := X4.out.get 1 (.int .i64 e.vm) rfl
  have Xc2 := X4.out.get 2 (.int .i64 e.sp) rfl
  have Xc3 := X4.out.get 3 (.bool e.al) rfl
  have Xc4 := X4.out.get 4 (.int .i64 e.pg) rfl
  have Xc5 := X4.out.get 5 (.int .i64 e.lv) rfl
  have Xc6 := X4.out.get 6 (.int .i64 e.fr) rfl
  have Xc7 := X4.out.get 7 (.int .i64 e.mi) rfl
  have Xc8 := X4.out.get 8 (.bool e.t.r) rfl
  have Xc9 := X4.out.get 9 (.bool e.t.w) rfl
  have Xc10 := X4.out.get 10 (.bool e.t.x) rfl
  have Xc11 := X4.out.get 11 (.bool e.t.a) rfl
  have Xc12 := X4.out.get 12 (.bool e.t.n) rfl
  have Xc13 := X4.out.get 13 (.int .i64 e.t.s) rfl
  go_wp2_with fail
  refine (HW.out _ B4.out).mono ?_
  rintro e w5 ⟨f5, l5, c5, g5, d5, rfl, hL5, hE5, hD5, hb5⟩
  have HL5 := Lib.hid hL5
  have OE5 := Lib.hid (OwnR.mono hE5 (base' := w.heap.size) (by first | omega | (simp; done) | (simp; omega)))
  have OD5 := Lib.hid (OwnR.mono hD5 (base' := w.heap.size) (by first | omega | (simp; done) | (simp; omega)))
  clear hE5 hD5 hL5
  have hz5 := hb5.size
  have A5 := Lib.hid (A4.out.below hb5)
  have X5 := Lib.hid (X4.out.below hb5)
  have R5 := Lib.hid (R4.out.below hb5)
  have T5 := Lib.hid (T4.out.below hb5)
  have B5 := Lib.hid (bel_trans B4.out hb5)
  skip
  have hs5 : g2 + 1 ≤ w5.heap.size := by omega
  clear Tc0 Tc1 Xc0 Xc1 Xc2 Xc3 Xc4 Xc5 Xc6 Xc7 Xc8 Xc9 Xc10 Xc11 Xc12 Xc13
  clear A4 X4 R4 T4 B4 hs4 hb5 hz5
  go_wp2_with (refine wpList_storeB rfl 25 _ _ rfl (g1 + 1 + 1) #[.slice f5 l5 c5, .slice g5 m d5] _ 25 rfl rfl (by kernel_rfl) (by rfl) (by simp [Value.oneCell']) R5.out ?_)
  all_goals
    have RR := (R5.out.put (cs' := #[.slice f5 l5 c5, .slice g5 m d5]))
    refine bodyPost_ret (v := .tuple #[.agg #[.slice f5 l5 c5, .slice g5 m d5], .int .i64 0]) (by simp [results, Try.results27, go_sem, RR.get 0 (.slice f5 l5 c5) rfl, RR.get 1 (.slice g5 m d5) rfl]) rfl ?_
    rw [HR0.out]
    exact ⟨f5, l5, c5, g5, m, d5, rfl, HL5.out, HO.out, (OE5.out.rowN (cs := #[.slice f5 l5 c5, .slice g5 m d5]) (OE5.out.ne_box R5.out (by decide))), (OD5.out.rowN (cs := #[.slice f5 l5 c5, .slice g5 m d5]) (OD5.out.ne_box R5.out (by decide))), (Below.rowB (g := g1 + 1 + 1) B5.out (cs := #[.slice f5 l5 c5, .slice g5 m d5]) (show w.heap.size ≤ g1 + 1 + 1 by omega))⟩
set_option maxRecDepth 100000 in
set_option maxHeartbeats 3200000 in
theorem dropC (f g : Option Addr) (l c m d : Nat) (E : List Ety) (D : List Inv) (n : Int) (w : World) (hE : RowsAt KE w f E) (hl : l = E.length) (hD : RowsAt KI w g D) (hm : m = D.length) (hls : l ≤ 90000) (hms : m ≤ 90000) (hc : l ≤ c) (hc2 : c ≤ maxLen) (hf : f = none → c = 0) (hg : g = none → d = 0) :
    Calls Try.prog 15 #[.agg #[.slice f l c, .slice g m d], .int .i64 n] w (EndF w (dropR E D n)) := by
  have HM := Lib.hid (fun W (hB : Below w.heap.size w W) => tmay_any f g l c m d E D W (hE.below hB) hl (hD.below hB) hm (by omega) (by omega) hc hc2)
  have HW := Lib.hid (fun (i : Nat) W (hB : Below w.heap.size w W) hi => twithout_any f g l c m d E D i W (hE.below hB) hl (hD.below hB) hm hls hms hc hc2 hf hg hi)
  have HO := Lib.hid hm
  have HN := Lib.hid hl
  clear hE hl hD hm hf hg
  obtain ⟨q, hq⟩ : ∃ q, q = dropR E D n := ⟨_, rfl⟩
  rw [← hq]
  unfold dropR at hq
  generalize mayT E D = qm at *
  have HR0 := Lib.hid hq
  clear hq
  unfold EndF
  have htw : w.heap.size ≤ w.heap.size := Nat.le_refl _
  have B0 := Lib.hid (Below.refl w.heap.size w)
  go_enter Try.func15, Try.ntmps15
  go_upto_region 1 with fail
  have A1 := Lib.hid (((BoxAt.newAt (w) #[.slice f l c, .slice g m d] 25 (w.heap.size) (by first | omega | (simp; done) | (simp; omega))).alloc (.cells #[.slice none 0 0, .slice none 0 0] 25)))
  have R1 := Lib.hid ((BoxAt.newAt ((w).alloc (.cells #[.slice f l c, .slice g m d] 25)) #[.slice none 0 0, .slice none 0 0] 25 (w.heap.size + 1) (by first | omega | (simp; done) | (simp; omega))))
  have B1 := Lib.hid ((bel_alloc (bel_alloc B0.out (.cells #[.slice f l c, .slice g m d] 25)) (.cells #[.slice none 0 0, .slice none 0 0] 25)))
  obtain ⟨g1, hg1⟩ : ∃ g1, g1 = w.heap.size := ⟨_, rfl⟩
  obtain ⟨W1, hW1⟩ : ∃ W1, W1 = ((w).alloc (.cells #[.slice f l c, .slice g m d] 25)).alloc (.cells #[.slice none 0 0, .slice none 0 0] 25) := ⟨_, rfl⟩
  have hs1 : g1 + 1 + 1 ≤ W1.heap.size := by rw [hW1, hg1]; simp
  rw [← hW1] at A1 R1 B1 ⊢
  have hb1 : w.heap.size ≤ g1 := by omega
  rw [← hg1] at A1 R1 ⊢
  clear hg1
  clear hW1 B0
  have Ac0 := A1.out.get 0 (.slice f l c) rfl
  have Ac1 := A1.out.get 1 (.slice g m d) rfl
  go_upto_region 2 with fail
  clear Ac0 Ac1
  have A2 := Lib.hid ((A1.out.alloc (.cells #[.slice f l c, .slice g m d] 69)))
  have R2 := Lib.hid ((R1.out.alloc (.cells #[.slice f l c, .slice g m d] 69)))
  have T2 := Lib.hid ((BoxAt.newAt (W1) #[.slice f l c, .slice g m d] 69 (W1.heap.size) (by first | omega | (simp; done) | (simp; omega))))
  have B2 := Lib.hid ((bel_alloc B1.out (.cells #[.slice f l c, .slice g m d] 69)))
  obtain ⟨g2, hg2⟩ : ∃ g2, g2 = W1.heap.size := ⟨_, rfl⟩
  obtain ⟨W2, hW2⟩ : ∃ W2, W2 = (W1).alloc (.cells #[.slice f l c, .slice g m d] 69) := ⟨_, rfl⟩
  have hs2 : g2 + 1 ≤ W2.heap.size := by rw [hW2, hg2]; simp
  rw [← hW2] at A2 R2 T2 B2 ⊢
  have hb2 : g1 + 1 + 1 ≤ g2 := by omega
  rw [← hg2] at T2 ⊢
  clear hg2
  clear hW2 A1 R1 B1 hs1
  have Tc0 := T2.out.get 0 (.slice f l c) rfl
  have Tc1 := T2.out.get 1 (.slice g m d) rfl
  go_wp2_with fail
  refine (HM.out _ B2.out).mono ?_
  rintro e w3 ⟨rfl, hb3⟩
  have hz3 := hb3.size
  have A3 := Lib.hid (A2.out.below hb3)
  have R3 := Lib.hid (R2.out.below hb3)
  have T3 := Lib.hid (T2.out.below hb3)
  have B3 := Lib.hid (bel_trans B2.out hb3)
  skip
  have hs3 : g2 + 1 ≤ w3.heap.size := by omega
  clear Tc0 Tc1
  clear A2 R2 T2 B2 hs2 hb3 hz3
  cases qm
  · go_wp2_with (refine wpList_storeB rfl 25 _ _ rfl (g1 + 1) #[.slice none 0 0, .slice none 0 0] _ 25 rfl rfl (by kernel_rfl) (by rfl) (by simp [Value.oneCell']) R3.out ?_)
    all_goals
      have RR := (R3.out.put (cs' := #[.slice none 0 0, .slice none 0 0]))
      refine bodyPost_ret (v := .tuple #[.agg #[.slice none 0 0, .slice none 0 0], .int .i64 1]) (by simp [results, Try.results15, go_sem, RR.get 0 (.slice none 0 0) rfl, RR.get 1 (.slice none 0 0) rfl]) rfl ?_
      first | rw [HR1.out] | rw [HR0.out]
      exact ⟨none, 0, 0, none, 0, 0, rfl, rfl, rfl, OwnR.nil _ _, OwnR.nil _ _, (Below.rowB (g := g1 + 1) B3.out (cs := #[.slice none 0 0, .slice none 0 0]) (show w.heap.size ≤ g1 + 1 by omega))⟩
  have Tc0 := T3.out.get 0 (.slice f l c) rfl
  have Tc1 := T3.out.get 1 (.slice g m d) rfl
  go_wp2_with fail
  refine (thas_any f g l c m d n _).mono ?_
  rintro e w4 ⟨rfl, hb4⟩
  have hz4 := hb4.size
  have A4 := Lib.hid (A3.out.below hb4)
  have R4 := Lib.hid (R3.out.below hb4)
  have T4 := Lib.hid (T3.out.below hb4)
  have B4 := Lib.hid (bel_trans B3.out hb4)
  skip
  have hs4 : g2 + 1 ≤ w4.heap.size := by omega
  clear Tc0 Tc1
  clear A3 R3 T3 B3 hs3 hb4 hz4
  by_cases hn : 0 ≤ n ∧ n < (l : Int)
  rotate_left
  · have hqn : (decide (0 ≤ n) && decide (n < (l : Int))) = false := by simp; omega
    have HR1 := Lib.hid (show q = ([], [], 3) from by rw [HR0.out, if_pos (by first | trivial | rfl), if_neg (by rw [← HN.out]; exact hn)])
    rw [hqn]
    clear hqn hn
    go_wp2_with (refine wpList_storeB rfl 25 _ _ rfl (g1 + 1) #[.slice none 0 0, .slice none 0 0] _ 25 rfl rfl (by kernel_rfl) (by rfl) (by simp [Value.oneCell']) R4.out ?_)
    all_goals
      have RR := (R4.out.put (cs' := #[.slice none 0 0, .slice none 0 0]))
      refine bodyPost_ret (v := .tuple #[.agg #[.slice none 0 0, .slice none 0 0], .int .i64 3]) (by simp [results, Try.results15, go_sem, RR.get 0 (.slice none 0 0) rfl, RR.get 1 (.slice none 0 0) rfl]) rfl ?_
      first | rw [HR1.out] | rw [HR0.out]
      exact ⟨none, 0, 0, none, 0, 0, rfl, rfl, rfl, OwnR.nil _ _, OwnR.nil _ _, (Below.rowB (g := g1 + 1) B4.out (cs := #[.slice none 0 0, .slice none 0 0]) (show w.heap.size ≤ g1 + 1 by omega))⟩
  have hqn : (decide (0 ≤ n) && decide (n < (l : Int))) = true := by simp; omega
  have HR1 := Lib.hid (show q = (drop9 E n.toNat, D, 0) from by rw [HR0.out, if_pos (by first | trivial | rfl), if_pos (by rw [← HN.out]; exact hn)])
  rw [hqn]
  obtain ⟨i, rfl⟩ : ∃ i : Nat, n = (i : Int) := ⟨n.toNat, by omega⟩
  have hi : i < l := by omega
  clear hqn hn
  generalize hFF : drop9 E (Int.toNat (i : Int)) = F at HR1
  have HW2 := Lib.hid (fun W hB => HW.out i W hB hi)
  rw [show drop9 E i = F from hFF] at HW2
  clear hFF hi
  have Tc0 := T4.out.get 0 (.slice f l c) rfl
  have Tc1 := T4.out.get 1 (.slice g m d) rfl
  go_wp2_with fail
  refine (HW2.out _ B4.out).mono ?_
  rintro e w5 ⟨f5, l5, c5, g5, d5, rfl, hL5, hE5, hD5, hb5⟩
  have HL5 := Lib.hid hL5
  have OE5 := Lib.hid (OwnR.mono hE5 (base' := w.heap.size) (by first | omega | (simp; done) | (simp; omega)))
  have OD5 := Lib.hid (OwnR.mono hD5 (base' := w.heap.size) (by first | omega | (simp; done) | (simp; omega)))
  clear hE5 hD5 hL5
  have hz5 := hb5.size
  have A5 := Lib.hid (A4.out.below hb5)
  have R5 := Lib.hid (R4.out.below hb5)
  have T5 := Lib.hid (T4.out.below hb5)
  have B5 := Lib.hid (bel_trans B4.out hb5)
  skip
  have hs5 : g2 + 1 ≤ w5.heap.size := by omega
  clear Tc0 Tc1
  clear A4 R4 T4 B4 hs4 hb5 hz5
  go_wp2_with (refine wpList_storeB rfl 25 _ _ rfl (g1 + 1) #[.slice f5 l5 c5, .slice g5 m d5] _ 25 rfl rfl (by kernel_rfl) (by rfl) (by simp [Value.oneCell']) R5.out ?_)
  all_goals
    have RR := (R5.out.put (cs' := #[.slice f5 l5 c5, .slice g5 m d5]))
    refine bodyPost_ret (v := .tuple #[.agg #[.slice f5 l5 c5, .slice g5 m d5], .int .i64 0]) (by simp [results, Try.results15, go_sem, RR.get 0 (.slice f5 l5 c5) rfl, RR.get 1 (.slice g5 m d5) rfl]) rfl ?_
    rw [HR1.out]
    exact ⟨f5, l5, c5, g5, m, d5, rfl, HL5.out, HO.out, (OE5.out.rowN (cs := #[.slice f5 l5 c5, .slice g5 m d5]) (OE5.out.ne_box R5.out (by decide))), (OD5.out.rowN (cs := #[.slice f5 l5 c5, .slice g5 m d5]) (OD5.out.ne_box R5.out (by decide))), (Below.rowB (g := g1 + 1) B5.out (cs := #[.slice f5 l5 c5, .slice g5 m d5]) (show w.heap.size ≤ g1 + 1 by omega))⟩
end Go.Proofs.Ytcbjmpllmnphkaa
