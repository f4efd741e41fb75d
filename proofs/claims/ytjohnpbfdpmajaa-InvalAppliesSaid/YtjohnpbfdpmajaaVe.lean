/- The landed package tlb: contracts. -/
import Derived.Test.YtjohnpbfdpmajaaVc
import Derived.Test.YtjohnpbfdpmajaaVd
set_option linter.all false
namespace Go.Proofs.Ytjohnpbfdpmajaa
open Go.ChangeShapes Go.WideShapes Go.ChangeAt Go.RowKit Go.Deep

set_option maxRecDepth 100000 in
set_option maxHeartbeats 3200000 in
theorem checkC (f g : Option Addr) (l c m d : Nat) (E : List Ety) (D : List Inv) (w : World) (hE : RowsAt KE w f E) (hl : l = E.length) (hD : RowsAt KI w g D) (hm : m = D.length) (hls : l ≤ 90000) (hms : m ≤ 90000) (hc : l ≤ c) (hc2 : c ≤ maxLen) :
    Calls Try.prog 55 #[.agg #[.slice f l c, .slice g m d]] w fun r w' => r = .returned (.int .i64 (if mayT E D = true then 0 else 1)) ∧ Below w.heap.size w w' := by
  have HM := Lib.hid (fun W (hB : Below w.heap.size w W) => tmay_any f g l c m d E D W (hE.below hB) hl (hD.below hB) hm (by omega) (by omega) hc hc2)
  clear hE hl hD hm
  generalize mayT E D = qm at *
  have htw : w.heap.size ≤ w.heap.size := Nat.le_refl _
  have B0 := Lib.hid (Below.refl w.heap.size w)
  go_enter Try.func55, Try.ntmps55
  go_upto_region 1 with fail
  have A1 := Lib.hid ((BoxAt.newAt (w) #[.slice f l c, .slice g m d] 43 (w.heap.size) (by first | omega | (simp; done) | (simp; omega))))
  have B1 := Lib.hid ((bel_alloc B0.out (.cells #[.slice f l c, .slice g m d] 43)))
  obtain ⟨g1, hg1⟩ : ∃ g1, g1 = w.heap.size := ⟨_, rfl⟩
  obtain ⟨W1, hW1⟩ : ∃ W1, W1 = (w).alloc (.cells #[.slice f l c, .slice g m d] 43) := ⟨_, rfl⟩
  have hs1 : g1 + 1 ≤ W1.heap.size := by rw [hW1, hg1]; simp
  rw [← hW1] at A1 B1 ⊢
  have hb1 : w.heap.size ≤ g1 := by omega
  rw [← hg1] at A1 ⊢
  clear hg1
  clear hW1 B0
  have Ac0 := A1.out.get 0 (.slice f l c) rfl
  have Ac1 := A1.out.get 1 (.slice g m d) rfl
  go_wp2_with fail
  refine (HM.out _ B1.out).mono ?_
  rintro e w2 ⟨rfl, hb2⟩
  have hz2 := hb2.size
  have A2 := Lib.hid (A1.out.below hb2)
  have B2 := Lib.hid (bel_trans B1.out hb2)
  skip
  have hs2 : g1 + 1 ≤ w2.heap.size := by omega
  clear Ac0 Ac1
  clear A1 B1 hs1 hb2 hz2
  cases qm
  · go_wp2
    all_goals
      go_ret
      exact ⟨rfl, B2.out⟩
  go_wp2
  all_goals
    go_ret
    exact ⟨rfl, B2.out⟩
set_option maxRecDepth 100000 in
set_option maxHeartbeats 3200000 in
theorem walkC (f g : Option Addr) (l c m d : Nat) (E : List Ety) (D : List Inv) (vm sp pg : Int) (w : World) (hE : RowsAt KE w f E) (hl : l = E.length) (hD : RowsAt KI w g D) (hm : m = D.length) (hls : l ≤ 90000) (hms : m ≤ 90000) (hc : l ≤ c) (hc2 : c ≤ maxLen) :
    Calls Try.prog 75 #[.agg #[.slice f l c, .slice g m d], .int .i64 vm, .int .i64 sp, .int .i64 pg] w fun r w' => r = .returned (.tuple #[entV (deepR E D vm sp pg).1, .int .i64 (deepR E D vm sp pg).2]) ∧ Below w.heap.size w w' := by
  have HF := Lib.hid (fun W (hB : Below w.heap.size w W) => tdeep_any f g l c m d E D vm sp pg W (hE.below hB) hl (hD.below hB) hm (by omega) (by omega) hc hc2)
  clear hE hl hD hm
  generalize deepR E D vm sp pg = q at *
  obtain ⟨q1, q2⟩ := q
  unfold entV entC at *
  simp only at *
  have htw : w.heap.size ≤ w.heap.size := Nat.le_refl _
  have B0 := Lib.hid (Below.refl w.heap.size w)
  go_enter Try.func75, Try.ntmps75
  go_upto_region 1 with fail
  have A1 := Lib.hid (((BoxAt.newAt (w) #[.slice f l c, .slice g m d] 43 (w.heap.size) (by first | omega | (simp; done) | (simp; omega))).alloc (.cells #[.int .i64 0, .int .i64 0, .int .i64 0, .bool false, .int .i64 0, .int .i64 0, .int .i64 0, .int .i64 0, .bool false, .bool false, .bool false, .bool false, .bool false, .int .i64 0] 36)))
  have R1 := Lib.hid ((BoxAt.newAt ((w).alloc (.cells #[.slice f l c, .slice g m d] 43)) #[.int .i64 0, .int .i64 0, .int .i64 0, .bool false, .int .i64 0, .int .i64 0, .int .i64 0, .int .i64 0, .bool false, .bool false, .bool false, .bool false, .bool false, .int .i64 0] 36 (w.heap.size + 1) (by first | omega | (simp; done) | (simp; omega))))
  have B1 := Lib.hid ((bel_alloc (bel_alloc B0.out (.cells #[.slice f l c, .slice g m d] 43)) (.cells #[.int .i64 0, .int .i64 0, .int .i64 0, .bool false, .int .i64 0, .int .i64 0, .int .i64 0, .int .i64 0, .bool false, .bool false, .bool false, .bool false, .bool false, .int .i64 0] 36)))
  obtain ⟨g1, hg1⟩ : ∃ g1, g1 = w.heap.size := ⟨_, rfl⟩
  obtain ⟨W1, hW1⟩ : ∃ W1, W1 = ((w).alloc (.cells #[.slice f l c, .slice g m d] 43)).alloc (.cells #[.int .i64 0, .int .i64 0, .int .i64 0, .bool false, .int .i64 0, .int .i64 0, .int .i64 0, .int .i64 0, .bool false, .bool false, .bool false, .bool false, .bool false, .int .i64 0] 36) := ⟨_, rfl⟩
  have hs1 : g1 + 1 + 1 ≤ W1.heap.size := by rw [hW1, hg1]; simp
  rw [← hW1] at A1 R1 B1 ⊢
  have hb1 : w.heap.size ≤ g1 := by omega
  rw [← hg1] at A1 R1 ⊢
  clear hg1
  clear hW1 B0
  have Ac0 := A1.out.get 0 (.slice f l c) rfl
  have Ac1 := A1.out.get 1 (.slice g m d) rfl
  go_wp2_with fail
  refine (HF.out _ B1.out).mono ?_
  rintro e w2 ⟨rfl, hb2⟩
  have hz2 := hb2.size
  have A2 := Lib.hid (A1.out.below hb2)
  have R2 := Lib.hid (R1.out.below hb2)
  have B2 := Lib.hid (bel_trans B1.out hb2)
  skip
  have hs2 : g1 + 1 + 1 ≤ w2.heap.size := by omega
  clear Ac0 Ac1
  clear A1 R1 B1 hs1 hb2 hz2
  go_wp2_with (refine wpList_storeB rfl 36 _ _ rfl (g1 + 1) #[.int .i64 q1.k, .int .i64 q1.vm, .int .i64 q1.sp, .bool q1.al, .int .i64 q1.pg, .int .i64 q1.lv, .int .i64 q1.fr, .int .i64 q1.mi, .bool q1.t.r, .bool q1.t.w, .bool q1.t.x, .bool q1.t.a, .bool q1.t.n, .int .i64 q1.t.s] _ 36 rfl rfl (by kernel_rfl) (by rfl) (by simp [Value.oneCell']) R2.out ?_)
  all_goals
    have RR := (R2.out.put (cs' := #[.int .i64 q1.k, .int .i64 q1.vm, .int .i64 q1.sp, .bool q1.al, .int .i64 q1.pg, .int .i64 q1.lv, .int .i64 q1.fr, .int .i64 q1.mi, .bool q1.t.r, .bool q1.t.w, .bool q1.t.x, .bool q1.t.a, .bool q1.t.n, .int .i64 q1.t.s]))
    refine bodyPost_ret (v := .tuple #[.agg #[.int .i64 q1.k, .int .i64 q1.vm, .int .i64 q1.sp, .bool q1.al, .int .i64 q1.pg, .int .i64 q1.lv, .int .i64 q1.fr, .int .i64 q1.mi, .bool q1.t.r, .bool q1.t.w, .bool q1.t.x, .bool q1.t.a, .bool q1.t.n, .int .i64 q1.t.s], .int .i64 q2]) (by simp [results, Try.results75, go_sem, RR.get 0 (.int .i64 q1.k) rfl, RR.get 1 (.int .i64 q1.vm) rfl, RR.get 2 (.int .i64 q1.sp) rfl, RR.get 3 (.bool q1.al) rfl, RR.get 4 (.int .i64 q1.pg) rfl, RR.get 5 (.int .i64 q1.lv) rfl, RR.get 6 (.int .i64 q1.fr) rfl, RR.get 7 (.int .i64 q1.mi) rfl, RR.get 8 (.bool q1.t.r) rfl, RR.get 9 (.bool q1.t.w) rfl, RR.get 10 (.bool q1.t.x) rfl, RR.get 11 (.bool q1.t.a) rfl, RR.get 12 (.bool q1.t.n) rfl, RR.get 13 (.int .i64 q1.t.s) rfl]) rfl ?_
    exact ⟨rfl, (Below.rowB (g := g1 + 1) B2.out (cs := #[.int .i64 q1.k, .int .i64 q1.vm, .int .i64 q1.sp, .bool q1.al, .int .i64 q1.pg, .int .i64 q1.lv, .int .i64 q1.fr, .int .i64 q1.mi, .bool q1.t.r, .bool q1.t.w, .bool q1.t.x, .bool q1.t.a, .bool q1.t.n, .int .i64 q1.t.s]) (show w.heap.size ≤ g1 + 1 by omega))⟩
/-- What Fill tells. -/
def fillR (E : List Ety) (D : List Inv) (e : Ety) : List Ety × List Inv × Int := if (mayT E D && mayEn e) = true then (fill9 E e, D, 0) else ([], [], 1)
/-- What Drop tells. -/
def dropR (E : List Ety) (D : List Inv) (n : Int) : List Ety × List Inv × Int := if mayT E D = true then (if 0 ≤ n ∧ n < (E.length : Int) then (drop9 E n.toNat, D, 0) else ([], [], 3)) else ([], [], 1)
/-- What a call that tells a TLB and a number leaves. -/
def EndF (w : World) (q : List Ety × List Inv × Int) (r : Ending) (w' : World) : Prop :=
  ∃ f' l' c' g' m' d', r = .returned (.tuple #[.agg #[.slice f' l' c', .slice g' m' d'], .int .i64 q.2.2]) ∧ l' = q.1.length ∧ m' = q.2.1.length ∧ OwnR KE w' w.heap.size (.slice f' l' c') q.1 ∧ OwnR KI w' w.heap.size (.slice g' m' d') q.2.1 ∧ Below w.heap.size w w'
end Go.Proofs.Ytjohnpbfdpmajaa
