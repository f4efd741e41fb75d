/- The landed package tlb: whether a store may be: contracts. -/
import Derived.Test.YtjohnpbfdpmajaaVa
import Derived.Test.YtjohnpbfdpmajaaTk
import Derived.Test.YtjohnpbfdpmajaaBh
import Derived.Test.YtjohnpbfdpmajaaBk
set_option linter.all false
namespace Go.Proofs.Ytjohnpbfdpmajaa
open Go.ChangeShapes Go.WideShapes Go.ChangeAt Go.RowKit Go.Deep

theorem eqE_comm (a b : Ety) : eqE a b = eqE b a := by unfold eqE; rw [Bool.eq_iff_iff]; simp only [decide_eq_true_eq]; exact eq_comm
theorem placeE_tell (p : Ety → Bool) : ∀ (L : List Ety) (k : Int), (placeE p L k = -1 ∧ ∀ (i : Nat) (y : Ety), L[i]? = some y → p y = false) ∨ (∃ (i : Nat) (x : Ety), L[i]? = some x ∧ p x = true ∧ placeE p L k = k + (i : Nat) ∧ ∀ (i' : Nat) (y : Ety), i' < i → L[i']? = some y → p y = false)
  | [], k => .inl ⟨rfl, fun i y h => by simp at h⟩
  | x :: L, k => by
    unfold placeE
    cases hp : p x
    · rw [if_neg (by decide)]
      rcases placeE_tell p L (k + 1) with ⟨h1, h2⟩ | ⟨i, y, h1, h2, h3, h4⟩
      · refine .inl ⟨h1, fun i y h => ?_⟩
        cases i with
        | zero => simp only [List.getElem?_cons_zero, Option.some.injEq] at h; rw [← h]; exact hp
        | succ i => exact h2 i y (by simpa using h)
      · refine .inr ⟨i + 1, y, by simpa using h1, h2, by rw [h3]; push_cast; omega, fun i' z hi h => ?_⟩
        cases i' with
        | zero => simp only [List.getElem?_cons_zero, Option.some.injEq] at h; rw [← h]; exact hp
        | succ i' => exact h4 i' z (by omega) (by simpa using h)
    · rw [if_pos rfl]
      exact .inr ⟨0, x, rfl, hp, by simp, fun i' y h => by omega⟩
theorem inE_take {E : List Ety} {k : Nat} {x : Ety} (h : E[k]? = some x) : decide (inE E x = (k : Int)) = !decide (0 ≤ inE (E.take k) x) := by
  unfold inE
  have ht : ∀ (i : Nat) (y : Ety), i < k → E[i]? = some y → (E.take k)[i]? = some y := fun i y hi hy => by rw [List.getElem?_take, if_pos hi]; exact hy
  rcases placeE_tell (fun y => eqE y x) (E.take k) 0 with ⟨h1, h2⟩ | ⟨i, y, h1, h2, h3, _⟩
  · rw [h1]
    rcases placeE_tell (fun y => eqE y x) E 0 with ⟨g1, g2⟩ | ⟨i, z, g1, g2, g3, g4⟩
    · have := g2 k x h
      rw [eqE_self] at this
      cases this
    · have : i = k := by
        rcases Nat.lt_trichotomy i k with hl | he | hg
        · have := h2 i z (ht i z hl g1)
          rw [g2] at this
          cases this
        · exact he
        · have := g4 k x hg h
          rw [eqE_self] at this
          cases this
      subst this
      rw [g3]
      simp
  · rw [h3]
    rw [List.getElem?_take] at h1
    have hik : i < k := by
      rcases Nat.lt_or_ge i k with hl | hg
      · exact hl
      · rw [if_neg (by omega)] at h1; cases h1
    rw [if_pos hik] at h1
    have hf : ¬ (placeE (fun y => eqE y x) E 0 = (k : Int)) := by
      rcases placeE_tell (fun y => eqE y x) E 0 with ⟨g1, g2⟩ | ⟨j, z, g1, g2, g3, g4⟩
      · rw [g1]; omega
      · rw [g3]
        intro he
        have hj : j = k := by omega
        subst hj
        have := g4 i y hik h1
        rw [h2] at this
        cases this
    simp [hf]
set_option maxRecDepth 100000 in
set_option maxHeartbeats 3200000 in
theorem tix_any (f : Option Addr) (l c : Nat) (L : List Ety) (e : Ety) (w : World) (hL : RowsAt KE w f L) (hn : l = L.length) (hl : l ≤ 1000000) :
    Calls Try.prog 78 #[.slice f l c, entV e] w fun r w' => r = .returned (.int .i64 (inE L e)) ∧ Below w.heap.size w w' := by
  have HL := Lib.hid hL
  have HN := Lib.hid hn
  clear hL hn
  unfold entV entC
  have htw : w.heap.size ≤ w.heap.size := Nat.le_refl _
  have B0 := Lib.hid (Below.refl w.heap.size w)
  go_enter Try.func78, Try.ntmps78
  go_upto_region 1 with fail
  have E1 := Lib.hid ((BoxAt.newAt (w) #[.int .i64 e.k, .int .i64 e.vm, .int .i64 e.sp, .bool e.al, .int .i64 e.pg, .int .i64 e.lv, .int .i64 e.fr, .int .i64 e.mi, .bool e.t.r, .bool e.t.w, .bool e.t.x, .bool e.t.a, .bool e.t.n, .int .i64 e.t.s] 36 (w.heap.size) (by first | omega | (simp; done) | (simp; omega))))
  have B1 := Lib.hid ((bel_alloc B0.out (.cells #[.int .i64 e.k, .int .i64 e.vm, .int .i64 e.sp, .bool e.al, .int .i64 e.pg, .int .i64 e.lv, .int .i64 e.fr, .int .i64 e.mi, .bool e.t.r, .bool e.t.w, .bool e.t.x, .bool e.t.a, .bool e.t.n, .int .i64 e.t.s] 36)))
  obtain ⟨g1, hg1⟩ : ∃ g1, g1 = w.heap.size := ⟨_, rfl⟩
  obtain ⟨W1, hW1⟩ : ∃ W1, W1 = (w).alloc (.cells #[.int .i64 e.k, .int .i64 e.vm, .int .i64 e.sp, .bool e.al, .int .i64 e.pg, .int .i64 e.lv, .int .i64 e.fr, .int .i64 e.mi, .bool e.t.r, .bool e.t.w, .bool e.t.x, .bool e.t.a, .bool e.t.n, .int .i64 e.t.s] 36) := ⟨_, rfl⟩
  have hs1 : g1 + 1 ≤ W1.heap.size := by rw [hW1, hg1]; simp
  rw [← hW1] at E1 B1 ⊢
  have hb1 : w.heap.size ≤ g1 := by omega
  rw [← hg1] at E1 ⊢
  clear hg1
  clear hW1 B0
  go_wp2
  go_loopw [8] (fun i wr => ∃ k : Nat, k ≤ l ∧ i = .int .i64 k ∧ Hid (BoxAt wr (g1) #[.int .i64 e.k, .int .i64 e.vm, .int .i64 e.sp, .bool e.al, .int .i64 e.pg, .int .i64 e.lv, .int .i64 e.fr, .int .i64 e.mi, .bool e.t.r, .bool e.t.w, .bool e.t.x, .bool e.t.a, .bool e.t.n, .int .i64 e.t.s] 36) ∧ Hid (Below w.heap.size w wr) ∧ Hid (placeE (fun x => eqE x e) (L.drop k) k = inE L e)) (fun i _ => l - (intOf i).toNat)
  case atStart => exact ⟨0, Nat.zero_le _, rfl, E1.out, B1.out, Lib.hid rfl⟩
  case round =>
    obtain ⟨k, hk, rfl, Er, Br, HQ⟩ := hrel
    clear E1 B1
    have hsr : g1 + 1 ≤ wr.heap.size := Er.out.lt
    by_cases hlt : k < l
    · obtain ⟨x, hx⟩ := rows_some HN.out hlt
      obtain ⟨b, o, rfl, hr0⟩ := HL.out k x hx
      have HRX := Lib.hid (show RowAt w b (o + k * 14) 14 #[.int .i64 x.k, .int .i64 x.vm, .int .i64 x.sp, .bool x.al, .int .i64 x.pg, .int .i64 x.lv, .int .i64 x.fr, .int .i64 x.mi, .bool x.t.r, .bool x.t.w, .bool x.t.x, .bool x.t.a, .bool x.t.n, .int .i64 x.t.s] from hr0)
      have hbk : b < w.heap.size := hr0.lt
      clear hr0
      have i1 : (0 : Int) ≤ (k : Int) := by omega
      have i2 : (k : Int) < (l : Int) := by omega
      have HQ := HQ.out
      rw [rows_drop hx] at HQ
      unfold placeE at HQ
      try simp only at HQ
      cases hc0 : eqE x e
      · rw [hc0, if_neg (by decide)] at HQ
        have HQ := Lib.hid (show placeE (fun x => eqE x e) (L.drop (k + 1)) ((k + 1 : Nat) : Int) = inE L e from HQ)
        clear hx
        have hc := (eqE_comm e x).trans hc0
        clear hc0
        go_upto_region 4 with fail
        refine wp_region_held_drew (S := (fun w' => BoxAt w' (g1) #[.int .i64 e.k, .int .i64 e.vm, .int .i64 e.sp, .bool e.al, .int .i64 e.pg, .int .i64 e.lv, .int .i64 e.fr, .int .i64 e.mi, .bool e.t.r, .bool e.t.w, .bool e.t.x, .bool e.t.a, .bool e.t.n, .int .i64 e.t.s] 36 ∧ RowAt w' (b) (o + k * 14) 14 #[.int .i64 x.k, .int .i64 x.vm, .int .i64 x.sp, .bool x.al, .int .i64 x.pg, .int .i64 x.lv, .int .i64 x.fr, .int .i64 x.mi, .bool x.t.r, .bool x.t.w, .bool x.t.x, .bool x.t.a, .bool x.t.n, .int .i64 x.t.s])) (by kernel_rfl) ⟨Er.out.drew, (HRX.out.below Br.out).drew⟩ (fun hS => ?_)
        refine tkR 0 11 (v := .agg #[.int .i64 e.k, .int .i64 e.vm, .int .i64 e.sp, .bool e.al, .int .i64 e.pg, .int .i64 e.lv, .int .i64 e.fr, .int .i64 e.mi, .bool e.t.r, .bool e.t.w, .bool e.t.x, .bool e.t.a, .bool e.t.n, .int .i64 e.t.s]) rfl hS (fun _ h => run_ldN 36 (.tmp 3) g1 0 (by kernel_rfl) (by kernel_rfl) Try.underlying36 rfl (by kernel_rfl) ((h.1).sub 0 _ rfl)) ?_
        refine tkR 1 12 (v := .slice (some ⟨b, o, none⟩) l c) rfl hS (fun _ _ => by kernel_rfl) ?_
        refine tkR 2 13 (v := .int .i64 k) rfl hS (fun _ _ => by kernel_rfl) ?_
        refine tkR 3 14 (v := .pointer (some ⟨b, o + k * 14, none⟩)) rfl hS (fun _ _ => run_ixN 24 36 (.tmp 12) (.tmp 13) b o l c k 14 (by kernel_rfl) (by kernel_rfl) (by kernel_rfl) Try.underlying24 (by kernel_rfl) hlt) ?_
        refine tkR 4 15 (v := .agg #[.int .i64 x.k, .int .i64 x.vm, .int .i64 x.sp, .bool x.al, .int .i64 x.pg, .int .i64 x.lv, .int .i64 x.fr, .int .i64 x.mi, .bool x.t.r, .bool x.t.w, .bool x.t.x, .bool x.t.a, .bool x.t.n, .int .i64 x.t.s]) rfl hS (fun _ h => run_ldN 36 (.tmp 14) b (o + k * 14) (by kernel_rfl) (by kernel_rfl) Try.underlying36 rfl (by kernel_rfl) ((h.2).sub 0 _ rfl (Nat.le_of_ble_eq_true rfl))) ?_
        try simp only [Act.put, List.setIfInBounds_toArray, List.set_cons_zero, List.set_cons_succ]
        refine tkR 5 16 rfl hS (fun w' _ => by go_simp; try with_reducible rfl) ?_
        simp only [pA, pB, pC]
        refine wpAnyH_done (by kernel_rfl) ?_ _
        try simp only [Act.put, List.setIfInBounds_toArray, List.set_cons_zero, List.set_cons_succ]
        have E2 := Lib.hid ((Er.out.drew))
        have B2 := Lib.hid ((Below.drew Br.out))
        obtain ⟨W2, hW2⟩ : ∃ W2, W2 = (wr).drew := ⟨_, rfl⟩
        have hs2 : g1 + 1 ≤ W2.heap.size := by rw [hW2]; first | exact hsr | omega | (simp; omega)
        rw [← hW2] at E2 B2 ⊢
        clear hW2 Er Br hsr
        go_wp2
        go_roundw
        case rel => exact ⟨k + 1, by omega, by go_num, E2.out, B2.out, HQ⟩
        case measure => simp [intOf]; omega
      · rw [hc0, if_pos rfl] at HQ
        have HQ := Lib.hid HQ
        clear hx
        have hc := (eqE_comm e x).trans hc0
        clear hc0
        go_upto_region 4 with fail
        refine wp_region_held_drew (S := (fun w' => BoxAt w' (g1) #[.int .i64 e.k, .int .i64 e.vm, .int .i64 e.sp, .bool e.al, .int .i64 e.pg, .int .i64 e.lv, .int .i64 e.fr, .int .i64 e.mi, .bool e.t.r, .bool e.t.w, .bool e.t.x, .bool e.t.a, .bool e.t.n, .int .i64 e.t.s] 36 ∧ RowAt w' (b) (o + k * 14) 14 #[.int .i64 x.k, .int .i64 x.vm, .int .i64 x.sp, .bool x.al, .int .i64 x.pg, .int .i64 x.lv, .int .i64 x.fr, .int .i64 x.mi, .bool x.t.r, .bool x.t.w, .bool x.t.x, .bool x.t.a, .bool x.t.n, .int .i64 x.t.s])) (by kernel_rfl) ⟨Er.out.drew, (HRX.out.below Br.out).drew⟩ (fun hS => ?_)
        refine tkR 0 11 (v := .agg #[.int .i64 e.k, .int .i64 e.vm, .int .i64 e.sp, .bool e.al, .int .i64 e.pg, .int .i64 e.lv, .int .i64 e.fr, .int .i64 e.mi, .bool e.t.r, .bool e.t.w, .bool e.t.x, .bool e.t.a, .bool e.t.n, .int .i64 e.t.s]) rfl hS (fun _ h => run_ldN 36 (.tmp 3) g1 0 (by kernel_rfl) (by kernel_rfl) Try.underlying36 rfl (by kernel_rfl) ((h.1).sub 0 _ rfl)) ?_
        refine tkR 1 12 (v := .slice (some ⟨b, o, none⟩) l c) rfl hS (fun _ _ => by kernel_rfl) ?_
        refine tkR 2 13 (v := .int .i64 k) rfl hS (fun _ _ => by kernel_rfl) ?_
        refine tkR 3 14 (v := .pointer (some ⟨b, o + k * 14, none⟩)) rfl hS (fun _ _ => run_ixN 24 36 (.tmp 12) (.tmp 13) b o l c k 14 (by kernel_rfl) (by kernel_rfl) (by kernel_rfl) Try.underlying24 (by kernel_rfl) hlt) ?_
        refine tkR 4 15 (v := .agg #[.int .i64 x.k, .int .i64 x.vm, .int .i64 x.sp, .bool x.al, .int .i64 x.pg, .int .i64 x.lv, .int .i64 x.fr, .int .i64 x.mi, .bool x.t.r, .bool x.t.w, .bool x.t.x, .bool x.t.a, .bool x.t.n, .int .i64 x.t.s]) rfl hS (fun _ h => run_ldN 36 (.tmp 14) b (o + k * 14) (by kernel_rfl) (by kernel_rfl) Try.underlying36 rfl (by kernel_rfl) ((h.2).sub 0 _ rfl (Nat.le_of_ble_eq_true rfl))) ?_
        try simp only [Act.put, List.setIfInBounds_toArray, List.set_cons_zero, List.set_cons_succ]
        refine tkR 5 16 rfl hS (fun w' _ => by go_simp; try with_reducible rfl) ?_
        simp only [pA, pB, pC]
        refine wpAnyH_done (by kernel_rfl) ?_ _
        try simp only [Act.put, List.setIfInBounds_toArray, List.set_cons_zero, List.set_cons_succ]
        have E2 := Lib.hid ((Er.out.drew))
        have B2 := Lib.hid ((Below.drew Br.out))
        obtain ⟨W2, hW2⟩ : ∃ W2, W2 = (wr).drew := ⟨_, rfl⟩
        have hs2 : g1 + 1 ≤ W2.heap.size := by rw [hW2]; first | exact hsr | omega | (simp; omega)
        rw [← hW2] at E2 B2 ⊢
        clear hW2 Er Br hsr
        go_wp2
        go_ret
        exact ⟨ret_int HQ.out, B2.out⟩
    · have HQ := HQ.out
      rw [rows_end HN.out hlt] at HQ
      have HQ := Lib.hid (show (-1 : Int) = inE L e from HQ)
      go_wp2
      go_ret
      exact ⟨ret_int HQ.out, Br.out⟩
set_option maxRecDepth 100000 in
set_option maxHeartbeats 3200000 in
theorem tcont_any (f : Option Addr) (l c : Nat) (L : List Ety) (e : Ety) (w : World) (hL : RowsAt KE w f L) (hn : l = L.length) (hl : l ≤ 1000000) :
    Calls Try.prog 73 #[.slice f l c, entV e] w fun r w' => r = .returned (.bool (decide (0 ≤ inE L e))) ∧ Below w.heap.size w w' := by
  have HI := Lib.hid (fun W (hB : Below w.heap.size w W) => tix_any f l c L e W (hL.below hB) hn hl)
  clear hL hn
  generalize inE L e = n1 at *
  obtain ⟨b1, hb0⟩ : ∃ b, b = decide (0 ≤ n1) := ⟨_, rfl⟩
  rw [← hb0]
  have hb1 := hb0.symm
  clear hb0
  unfold entV entC at *
  have htw : w.heap.size ≤ w.heap.size := Nat.le_refl _
  have B0 := Lib.hid (Below.refl w.heap.size w)
  go_enter Try.func73, Try.ntmps73
  go_upto_region 1 with fail
  have E1 := Lib.hid ((BoxAt.newAt (w) #[.int .i64 e.k, .int .i64 e.vm, .int .i64 e.sp, .bool e.al, .int .i64 e.pg, .int .i64 e.lv, .int .i64 e.fr, .int .i64 e.mi, .bool e.t.r, .bool e.t.w, .bool e.t.x, .bool e.t.a, .bool e.t.n, .int .i64 e.t.s] 36 (w.heap.size) (by first | omega | (simp; done) | (simp; omega))))
  have B1 := Lib.hid ((bel_alloc B0.out (.cells #[.int .i64 e.k, .int .i64 e.vm, .int .i64 e.sp, .bool e.al, .int .i64 e.pg, .int .i64 e.lv, .int .i64 e.fr, .int .i64 e.mi, .bool e.t.r, .bool e.t.w, .bool e.t.x, .bool e.t.a, .bool e.t.n, .int .i64 e.t.s] 36)))
  obtain ⟨g1, hg1⟩ : ∃ g1, g1 = w.heap.size := ⟨_, rfl⟩
  obtain ⟨W1, hW1⟩ : ∃ W1, W1 = (w).alloc (.cells #[.int .i64 e.k, .int .i64 e.vm, .int .i64 e.sp, .bool e.al, .int .i64 e.pg, .int .i64 e.lv, .int .i64 e.fr, .int .i64 e.mi, .bool e.t.r, .bool e.t.w, .bool e.t.x, .bool e.t.a, .bool e.t.n, .int .i64 e.t.s] 36) := ⟨_, rfl⟩
  have hs1 : g1 + 1 ≤ W1.heap.size := by rw [hW1, hg1]; simp
  rw [← hW1] at E1 B1 ⊢
  have hb1 : w.heap.size ≤ g1 := by omega
  rw [← hg1] at E1 ⊢
  clear hg1
  clear hW1 B0
  have Ec0 := E1.out.get 0 (.int .i64 e.k) rfl
  have Ec1 := E1.out.get 1 (.int .i64 e.vm) rfl
  have Ec2 := E1.out.get 2 (.int .i64 e.sp) rfl
  have Ec3 := E1.out.get 3 (.bool e.al) rfl
  have Ec4 := E1.out.get 4 (.int .i64 e.pg) rfl
  have Ec5 := E1.out.get 5 (.int .i64 e.lv) rfl
  have Ec6 := E1.out.get 6 (.int .i64 e.fr) rfl
  have Ec7 := E1.out.get 7 (.int .i64 e.mi) rfl
  have Ec8 := E1.out.get 8 (.bool e.t.r) rfl
  have Ec9 := E1.out.get 9 (.bool e.t.w) rfl
  have Ec10 := E1.out.get 10 (.bool e.t.x) rfl
  have Ec11 := E1.out.get 11 (.bool e.t.a) rfl
  have Ec12 := E1.out.get 12 (.bool e.t.n) rfl
  have Ec13 := E1.out.get 13 (.int .i64 e.t.s) rfl
  go_wp2_with fail
  refine (HI.out _ B1.out).mono ?_
  rintro e w2 ⟨rfl, hb2⟩
  have hz2 := hb2.size
  have E2 := Lib.hid (E1.out.below hb2)
  have B2 := Lib.hid (bel_trans B1.out hb2)
  skip
  have hs2 : g1 + 1 ≤ w2.heap.size := by omega
  clear Ec0 Ec1 Ec2 Ec3 Ec4 Ec5 Ec6 Ec7 Ec8 Ec9 Ec10 Ec11 Ec12 Ec13
  clear E1 B1 hs1 hb2 hz2
  go_wp2
  all_goals
    go_ret
    exact ⟨rfl, B2.out⟩
set_option maxRecDepth 100000 in
set_option maxHeartbeats 3200000 in
theorem tents_any (f g : Option Addr) (l c m d : Nat) (E : List Ety) (w : World) (hL : RowsAt KE w f E) (hn : l = E.length) (hl : l ≤ 1000000) (hc : l ≤ c) (hc2 : c ≤ maxLen) :
    Calls Try.prog 67 #[.agg #[.slice f l c, .slice g m d]] w fun r w' => r = .returned (.bool (allF E E 0)) ∧ Below w.heap.size w w' := by
  have HL := Lib.hid hL
  have HN := Lib.hid hn
  have HCC := Lib.hid hc
  clear hL hn
  obtain ⟨qa, hqa⟩ : ∃ q, q = allF E E 0 := ⟨_, rfl⟩
  rw [← hqa]
  have HQ := Lib.hid (show allF E (E.drop 0) ((0 : Nat) : Int) = qa from hqa.symm)
  clear hqa
  have htw : w.heap.size ≤ w.heap.size := Nat.le_refl _
  have B0 := Lib.hid (Below.refl w.heap.size w)
  go_enter Try.func67, Try.ntmps67
  go_upto_region 1 with fail
  have T1 := Lib.hid ((BoxAt.newAt (w) #[.slice f l c, .slice g m d] 88 (w.heap.size) (by first | omega | (simp; done) | (simp; omega))))
  have B1 := Lib.hid ((bel_alloc B0.out (.cells #[.slice f l c, .slice g m d] 88)))
  obtain ⟨g1, hg1⟩ : ∃ g1, g1 = w.heap.size := ⟨_, rfl⟩
  obtain ⟨W1, hW1⟩ : ∃ W1, W1 = (w).alloc (.cells #[.slice f l c, .slice g m d] 88) := ⟨_, rfl⟩
  have hs1 : g1 + 1 ≤ W1.heap.size := by rw [hW1, hg1]; simp
  rw [← hW1] at T1 B1 ⊢
  have hb1 : w.heap.size ≤ g1 := by omega
  rw [← hg1] at T1 ⊢
  clear hg1
  clear hW1 B0
  have Tc0 := T1.out.get 0 (.slice f l c) rfl
  go_wp2
  clear Tc0
  go_loopw [9] (fun i wr => ∃ k : Nat, k ≤ l ∧ i = .int .i64 k ∧ Hid (BoxAt wr (g1) #[.slice f l c, .slice g m d] 88) ∧ Hid (Below w.heap.size w wr) ∧ Hid (allF E (E.drop k) k = qa)) (fun i _ => l - (intOf i).toNat)
  case atStart => exact ⟨0, Nat.zero_le _, rfl, T1.out, B1.out, HQ⟩
  case round =>
    clear B1 T1 HQ
    obtain ⟨k, hk, rfl, Tr, Br, HQ⟩ := hrel
    have hsr : g1 + 1 ≤ wr.heap.size := Tr.out.lt
    by_cases hlt : k < l
    · obtain ⟨x, hx⟩ := rows_some HN.out hlt
      have HL2 := HL
      obtain ⟨b, o, rfl, hr0⟩ := HL.out k x hx
      have HRX := Lib.hid (show RowAt w b (o + k * 14) 14 #[.int .i64 x.k, .int .i64 x.vm, .int .i64 x.sp, .bool x.al, .int .i64 x.pg, .int .i64 x.lv, .int .i64 x.fr, .int .i64 x.mi, .bool x.t.r, .bool x.t.w, .bool x.t.x, .bool x.t.a, .bool x.t.n, .int .i64 x.t.s] from hr0)
      have hbk : b < w.heap.size := hr0.lt
      clear hr0
      have i1 : (0 : Int) ≤ (k : Int) := by omega
      have i2 : (k : Int) < (l : Int) := by omega
      have i3 : (k : Int) ≤ (c : Int) := by have := HCC.out; omega
      have hxd := rows_drop hx
      have HX := Lib.hid hxd
      have HT := Lib.hid (inE_take hx)
      clear hx hxd
      have HEN := Lib.hid (fun W => trec_any x W)
      obtain ⟨o1, ho1⟩ : ∃ o1, o1 = mayEn x := ⟨_, rfl⟩
      rw [← ho1] at HEN
      have ho1h := Lib.hid ho1
      clear ho1
      have HIN := Lib.hid (fun W (hB : Below w.heap.size w W) => tcont_any (some ⟨b, o, none⟩) k c (E.take k) x W ((HL2.out.below hB).take k) (by have := HN.out; rw [List.length_take]; omega) (by omega))
      obtain ⟨o2, ho2⟩ : ∃ o2, o2 = decide (0 ≤ inE (E.take k) x) := ⟨_, rfl⟩
      rw [← ho2] at HIN
      have ho2h := Lib.hid ho2
      clear ho2
      unfold entV entC at HEN HIN
      cases o1
      · have HR := Lib.hid (show false = qa from by rw [← HQ.out, HX.out]; simp [allF, ho1h.out.symm])
        clear HQ HIN
        have yX := (HRX.out.below Br.out)
        have yX0 := yX.get0 (.int .i64 x.k) (by decide) rfl
        have yX1 := yX.get 1 (.int .i64 x.vm) (by decide) rfl
        have yX2 := yX.get 2 (.int .i64 x.sp) (by decide) rfl
        have yX3 := yX.get 3 (.bool x.al) (by decide) rfl
        have yX4 := yX.get 4 (.int .i64 x.pg) (by decide) rfl
        have yX5 := yX.get 5 (.int .i64 x.lv) (by decide) rfl
        have yX6 := yX.get 6 (.int .i64 x.fr) (by decide) rfl
        have yX7 := yX.get 7 (.int .i64 x.mi) (by decide) rfl
        have yX8 := yX.get 8 (.bool x.t.r) (by decide) rfl
        have yX9 := yX.get 9 (.bool x.t.w) (by decide) rfl
        have yX10 := yX.get 10 (.bool x.t.x) (by decide) rfl
        have yX11 := yX.get 11 (.bool x.t.a) (by decide) rfl
        have yX12 := yX.get 12 (.bool x.t.n) (by decide) rfl
        have yX13 := yX.get 13 (.int .i64 x.t.s) (by decide) rfl
        clear yX
        go_upto_region 4 with fail
        clear yX0 yX1 yX2 yX3 yX4 yX5 yX6 yX7 yX8 yX9 yX10 yX11 yX12 yX13
        have T2 := Lib.hid ((Tr.out.alloc (.cells #[.int .i64 x.k, .int .i64 x.vm, .int .i64 x.sp, .bool x.al, .int .i64 x.pg, .int .i64 x.lv, .int .i64 x.fr, .int .i64 x.mi, .bool x.t.r, .bool x.t.w, .bool x.t.x, .bool x.t.a, .bool x.t.n, .int .i64 x.t.s] 36)))
        have E2 := Lib.hid ((BoxAt.newAt (wr) #[.int .i64 x.k, .int .i64 x.vm, .int .i64 x.sp, .bool x.al, .int .i64 x.pg, .int .i64 x.lv, .int .i64 x.fr, .int .i64 x.mi, .bool x.t.r, .bool x.t.w, .bool x.t.x, .bool x.t.a, .bool x.t.n, .int .i64 x.t.s] 36 (wr.heap.size) (by first | omega | (simp; done) | (simp; omega))))
        have B2 := Lib.hid ((bel_alloc Br.out (.cells #[.int .i64 x.k, .int .i64 x.vm, .int .i64 x.sp, .bool x.al, .int .i64 x.pg, .int .i64 x.lv, .int .i64 x.fr, .int .i64 x.mi, .bool x.t.r, .bool x.t.w, .bool x.t.x, .bool x.t.a, .bool x.t.n, .int .i64 x.t.s] 36)))
        obtain ⟨g2, hg2⟩ : ∃ g2, g2 = wr.heap.size := ⟨_, rfl⟩
        obtain ⟨W2, hW2⟩ : ∃ W2, W2 = (wr).alloc (.cells #[.int .i64 x.k, .int .i64 x.vm, .int .i64 x.sp, .bool x.al, .int .i64 x.pg, .int .i64 x.lv, .int .i64 x.fr, .int .i64 x.mi, .bool x.t.r, .bool x.t.w, .bool x.t.x, .bool x.t.a, .bool x.t.n, .int .i64 x.t.s] 36) := ⟨_, rfl⟩
        have hs2 : g2 + 1 ≤ W2.heap.size := by rw [hW2, hg2]; simp
        rw [← hW2] at T2 E2 B2 ⊢
        have hb2 : g1 + 1 ≤ g2 := by omega
        rw [← hg2] at E2 ⊢
        clear hg2
        clear hW2 Tr Br hsr
        refine wp_region_held_drew (S := (fun w' => BoxAt w' (g2) #[.int .i64 x.k, .int .i64 x.vm, .int .i64 x.sp, .bool x.al, .int .i64 x.pg, .int .i64 x.lv, .int .i64 x.fr, .int .i64 x.mi, .bool x.t.r, .bool x.t.w, .bool x.t.x, .bool x.t.a, .bool x.t.n, .int .i64 x.t.s] 36)) (by kernel_rfl) (E2.out.drew) (fun hS => ?_)
        refine tkR 0 14 (v := .agg #[.int .i64 x.k, .int .i64 x.vm, .int .i64 x.sp, .bool x.al, .int .i64 x.pg, .int .i64 x.lv, .int .i64 x.fr, .int .i64 x.mi, .bool x.t.r, .bool x.t.w, .bool x.t.x, .bool x.t.a, .bool x.t.n, .int .i64 x.t.s]) rfl hS (fun _ h => run_ldN 36 (.tmp 4) g2 0 (by kernel_rfl) (by kernel_rfl) Try.underlying36 rfl (by kernel_rfl) ((h).sub 0 _ rfl)) ?_
        refine tkR 1 15 (v := .agg #[.int .i64 x.k, .int .i64 x.vm, .int .i64 x.sp, .bool x.al, .int .i64 x.pg, .int .i64 x.lv, .int .i64 x.fr, .int .i64 x.mi, .bool x.t.r, .bool x.t.w, .bool x.t.x, .bool x.t.a, .bool x.t.n, .int .i64 x.t.s]) rfl hS (fun _ _ => by kernel_rfl) ?_
        try simp only [Act.put, List.setIfInBounds_toArray, List.set_cons_zero, List.set_cons_succ]
        refine wpAnyH_ready (rs := [2]) (by kernel_rfl) (by simp) ?_
        refine AllReadyH.cons (o := ⟨some 16, _, _, _, _, _⟩) rfl (fun K hK => ?_) AllReadyH.nil
        go_simp
        refine (HEN.out _).mono ?_
        rintro e w3 ⟨rfl, hb3⟩
        have hz3 := hb3.size
        try simp at hz3
        refine hK.out _ _ ?_ (fun hS' => ?_)
        · exact (hS.below hb3)
        clear hK K hS
        have hS := hS'
        clear hS'
        try simp only [Act.put, List.setIfInBounds_toArray, List.set_cons_zero, List.set_cons_succ]
        try simp only [Act.put, List.setIfInBounds_toArray, List.set_cons_zero, List.set_cons_succ]
        refine tkR 3 17 rfl hS (fun w' _ => by go_simp; try with_reducible rfl) ?_
        simp only [pA, pB, pC]
        refine tkR 4 18 (v := .bool true) rfl hS (fun _ _ => by kernel_rfl) ?_
        refine tkU 5 19 rfl hS ?_
        simp only [pA, pB, pC]
        refine tkU 6 20 rfl hS ?_
        simp only [pA, pB, pC]
        refine tkU 7 21 rfl hS ?_
        simp only [pA, pB, pC]
        refine tkU 8 22 rfl hS ?_
        simp only [pA, pB, pC]
        refine tkU 9 23 rfl hS ?_
        simp only [pA, pB, pC]
        refine tkU 10 24 rfl hS ?_
        simp only [pA, pB, pC]
        refine tkU 11 25 rfl hS ?_
        simp only [pA, pB, pC]
        try simp only [Act.put, List.setIfInBounds_toArray, List.set_cons_zero, List.set_cons_succ]
        refine tkR 12 26 rfl hS (fun w' _ => by go_simp; try with_reducible rfl) ?_
        simp only [pA, pB, pC]
        refine wpAnyH_done (by kernel_rfl) ?_ _
        try simp only [Act.put, List.setIfInBounds_toArray, List.set_cons_zero, List.set_cons_succ]
        have T4 := Lib.hid (((T2.out.drew).below hb3))
        have E4 := Lib.hid (((E2.out.drew).below hb3))
        have B4 := Lib.hid ((bel_trans (Below.drew B2.out) hb3))
        obtain ⟨W4, hW4⟩ : ∃ W4, W4 = w3 := ⟨_, rfl⟩
        have hs4 : g2 + 1 ≤ W4.heap.size := by rw [hW4]; first | exact hs2 | omega | (simp; omega)
        rw [← hW4] at T4 E4 B4 ⊢
        clear hW4 T2 E2 B2 hs2
        go_wp2
        go_ret
        exact ⟨ret_bool HR.out, B4.out⟩
      cases o2
      rotate_left
      · have HR := Lib.hid (show false = qa from by rw [← HQ.out, HX.out]; simp [allF, HT.out, ← ho2h.out])
        clear HQ
        have yX := (HRX.out.below Br.out)
        have yX0 := yX.get0 (.int .i64 x.k) (by decide) rfl
        have yX1 := yX.get 1 (.int .i64 x.vm) (by decide) rfl
        have yX2 := yX.get 2 (.int .i64 x.sp) (by decide) rfl
        have yX3 := yX.get 3 (.bool x.al) (by decide) rfl
        have yX4 := yX.get 4 (.int .i64 x.pg) (by decide) rfl
        have yX5 := yX.get 5 (.int .i64 x.lv) (by decide) rfl
        have yX6 := yX.get 6 (.int .i64 x.fr) (by decide) rfl
        have yX7 := yX.get 7 (.int .i64 x.mi) (by decide) rfl
        have yX8 := yX.get 8 (.bool x.t.r) (by decide) rfl
        have yX9 := yX.get 9 (.bool x.t.w) (by decide) rfl
        have yX10 := yX.get 10 (.bool x.t.x) (by decide) rfl
        have yX11 := yX.get 11 (.bool x.t.a) (by decide) rfl
        have yX12 := yX.get 12 (.bool x.t.n) (by decide) rfl
        have yX13 := yX.get 13 (.int .i64 x.t.s) (by decide) rfl
        clear yX
        go_upto_region 4 with fail
        clear yX0 yX1 yX2 yX3 yX4 yX5 yX6 yX7 yX8 yX9 yX10 yX11 yX12 yX13
        have T2 := Lib.hid ((Tr.out.alloc (.cells #[.int .i64 x.k, .int .i64 x.vm, .int .i64 x.sp, .bool x.al, .int .i64 x.pg, .int .i64 x.lv, .int .i64 x.fr, .int .i64 x.mi, .bool x.t.r, .bool x.t.w, .bool x.t.x, .bool x.t.a, .bool x.t.n, .int .i64 x.t.s] 36)))
        have E2 := Lib.hid ((BoxAt.newAt (wr) #[.int .i64 x.k, .int .i64 x.vm, .int .i64 x.sp, .bool x.al, .int .i64 x.pg, .int .i64 x.lv, .int .i64 x.fr, .int .i64 x.mi, .bool x.t.r, .bool x.t.w, .bool x.t.x, .bool x.t.a, .bool x.t.n, .int .i64 x.t.s] 36 (wr.heap.size) (by first | omega | (simp; done) | (simp; omega))))
        have B2 := Lib.hid ((bel_alloc Br.out (.cells #[.int .i64 x.k, .int .i64 x.vm, .int .i64 x.sp, .bool x.al, .int .i64 x.pg, .int .i64 x.lv, .int .i64 x.fr, .int .i64 x.mi, .bool x.t.r, .bool x.t.w, .bool x.t.x, .bool x.t.a, .bool x.t.n, .int .i64 x.t.s] 36)))
        obtain ⟨g2, hg2⟩ : ∃ g2, g2 = wr.heap.size := ⟨_, rfl⟩
        obtain ⟨W2, hW2⟩ : ∃ W2, W2 = (wr).alloc (.cells #[.int .i64 x.k, .int .i64 x.vm, .int .i64 x.sp, .bool x.al, .int .i64 x.pg, .int .i64 x.lv, .int .i64 x.fr, .int .i64 x.mi, .bool x.t.r, .bool x.t.w, .bool x.t.x, .bool x.t.a, .bool x.t.n, .int .i64 x.t.s] 36) := ⟨_, rfl⟩
        have hs2 : g2 + 1 ≤ W2.heap.size := by rw [hW2, hg2]; simp
        rw [← hW2] at T2 E2 B2 ⊢
        have hb2 : g1 + 1 ≤ g2 := by omega
        rw [← hg2] at E2 ⊢
        clear hg2
        clear hW2 Tr Br hsr
        refine wp_region_held_drew (S := (fun w' => BoxAt w' (g2) #[.int .i64 x.k, .int .i64 x.vm, .int .i64 x.sp, .bool x.al, .int .i64 x.pg, .int .i64 x.lv, .int .i64 x.fr, .int .i64 x.mi, .bool x.t.r, .bool x.t.w, .bool x.t.x, .bool x.t.a, .bool x.t.n, .int .i64 x.t.s] 36 ∧ BoxAt w' (g1) #[.slice (some ⟨b, o, none⟩) l c, .slice g m d] 88)) (by kernel_rfl) ⟨E2.out.drew, T2.out.drew⟩ (fun hS => ?_)
        refine tkR 0 14 (v := .agg #[.int .i64 x.k, .int .i64 x.vm, .int .i64 x.sp, .bool x.al, .int .i64 x.pg, .int .i64 x.lv, .int .i64 x.fr, .int .i64 x.mi, .bool x.t.r, .bool x.t.w, .bool x.t.x, .bool x.t.a, .bool x.t.n, .int .i64 x.t.s]) rfl hS (fun _ h => run_ldN 36 (.tmp 4) g2 0 (by kernel_rfl) (by kernel_rfl) Try.underlying36 rfl (by kernel_rfl) ((h.1).sub 0 _ rfl)) ?_
        refine tkR 1 15 (v := .agg #[.int .i64 x.k, .int .i64 x.vm, .int .i64 x.sp, .bool x.al, .int .i64 x.pg, .int .i64 x.lv, .int .i64 x.fr, .int .i64 x.mi, .bool x.t.r, .bool x.t.w, .bool x.t.x, .bool x.t.a, .bool x.t.n, .int .i64 x.t.s]) rfl hS (fun _ _ => by kernel_rfl) ?_
        try simp only [Act.put, List.setIfInBounds_toArray, List.set_cons_zero, List.set_cons_succ]
        refine wpAnyH_ready (rs := [2]) (by kernel_rfl) (by simp) ?_
        refine AllReadyH.cons (o := ⟨some 16, _, _, _, _, _⟩) rfl (fun K hK => ?_) AllReadyH.nil
        go_simp
        refine (HEN.out _).mono ?_
        rintro e w3 ⟨rfl, hb3⟩
        have hz3 := hb3.size
        try simp at hz3
        refine hK.out _ _ ?_ (fun hS' => ?_)
        · exact ⟨hS.1.below hb3, hS.2.below hb3⟩
        clear hK K hS
        have hS := hS'
        clear hS'
        try simp only [Act.put, List.setIfInBounds_toArray, List.set_cons_zero, List.set_cons_succ]
        try simp only [Act.put, List.setIfInBounds_toArray, List.set_cons_zero, List.set_cons_succ]
        refine tkR 3 17 rfl hS (fun w' _ => by go_simp; try with_reducible rfl) ?_
        simp only [pA, pB, pC]
        refine tkR 4 18 (v := .bool false) rfl hS (fun _ _ => by kernel_rfl) ?_
        try simp only [Act.put, List.setIfInBounds_toArray, List.set_cons_zero, List.set_cons_succ]
        refine tkR 5 19 rfl hS (fun w' _ => by go_simp; try with_reducible rfl) ?_
        simp only [pA, pB, pC]
        try simp only [Act.put, List.setIfInBounds_toArray, List.set_cons_zero, List.set_cons_succ]
        refine tkR 6 20 rfl hS (fun w' _ => by go_simp; try with_reducible rfl) ?_
        simp only [pA, pB, pC]
        try simp only [Act.put, List.setIfInBounds_toArray, List.set_cons_zero, List.set_cons_succ]
        refine tkR 7 21 rfl hS (fun w' hSw => by have c1_0 := (hSw.2).get 0 (.slice (some ⟨b, o, none⟩) l c) rfl; clear hSw; go_simp; try with_reducible rfl) ?_
        simp only [pA, pB, pC]
        try simp only [Act.put, List.setIfInBounds_toArray, List.set_cons_zero, List.set_cons_succ]
        refine tkR 8 22 rfl hS (fun w' _ => by go_simp; try with_reducible rfl) ?_
        simp only [pA, pB, pC]
        try simp only [Act.put, List.setIfInBounds_toArray, List.set_cons_zero, List.set_cons_succ]
        refine tkR 9 23 rfl hS (fun w' _ => by go_simp; try with_reducible rfl) ?_
        simp only [pA, pB, pC]
        try simp only [Act.put, List.setIfInBounds_toArray, List.set_cons_zero, List.set_cons_succ]
        refine tkR 10 24 rfl hS (fun w' hSw => by have c0_0 := (hSw.1).get 0 (.int .i64 x.k) rfl; have c0_1 := (hSw.1).get 1 (.int .i64 x.vm) rfl; have c0_2 := (hSw.1).get 2 (.int .i64 x.sp) rfl; have c0_3 := (hSw.1).get 3 (.bool x.al) rfl; have c0_4 := (hSw.1).get 4 (.int .i64 x.pg) rfl; have c0_5 := (hSw.1).get 5 (.int .i64 x.lv) rfl; have c0_6 := (hSw.1).get 6 (.int .i64 x.fr) rfl; have c0_7 := (hSw.1).get 7 (.int .i64 x.mi) rfl; have c0_8 := (hSw.1).get 8 (.bool x.t.r) rfl; have c0_9 := (hSw.1).get 9 (.bool x.t.w) rfl; have c0_10 := (hSw.1).get 10 (.bool x.t.x) rfl; have c0_11 := (hSw.1).get 11 (.bool x.t.a) rfl; have c0_12 := (hSw.1).get 12 (.bool x.t.n) rfl; have c0_13 := (hSw.1).get 13 (.int .i64 x.t.s) rfl; clear hSw; go_simp; try with_reducible rfl) ?_
        simp only [pA, pB, pC]
        try simp only [Act.put, List.setIfInBounds_toArray, List.set_cons_zero, List.set_cons_succ]
        refine wpAnyH_ready (rs := [11]) (by kernel_rfl) (by simp) ?_
        refine AllReadyH.cons (o := ⟨some 25, _, _, _, _, _⟩) rfl (fun K hK => ?_) AllReadyH.nil
        go_simp
        refine (HIN.out _ (bel_trans (Below.drew B2.out) hb3)).mono ?_
        rintro e w4 ⟨rfl, hb4⟩
        have hz4 := hb4.size
        try simp at hz4
        refine hK.out _ _ ?_ (fun hS' => ?_)
        · exact ⟨hS.1.below hb4, hS.2.below hb4⟩
        clear hK K hS
        have hS := hS'
        clear hS'
        try simp only [Act.put, List.setIfInBounds_toArray, List.set_cons_zero, List.set_cons_succ]
        try simp only [Act.put, List.setIfInBounds_toArray, List.set_cons_zero, List.set_cons_succ]
        refine tkR 12 26 rfl hS (fun w' _ => by go_simp; try with_reducible rfl) ?_
        simp only [pA, pB, pC]
        refine wpAnyH_done (by kernel_rfl) ?_ _
        try simp only [Act.put, List.setIfInBounds_toArray, List.set_cons_zero, List.set_cons_succ]
        have T5 := Lib.hid ((((T2.out.drew).below hb3).below hb4))
        have E5 := Lib.hid ((((E2.out.drew).below hb3).below hb4))
        have B5 := Lib.hid ((bel_trans (bel_trans (Below.drew B2.out) hb3) hb4))
        obtain ⟨W5, hW5⟩ : ∃ W5, W5 = w4 := ⟨_, rfl⟩
        have hs5 : g2 + 1 ≤ W5.heap.size := by rw [hW5]; first | exact hs2 | omega | (simp; omega)
        rw [← hW5] at T5 E5 B5 ⊢
        clear hW5 T2 E2 B2 hs2
        go_wp2
        go_ret
        exact ⟨ret_bool HR.out, B5.out⟩
      have HQ := Lib.hid (show allF E (E.drop (k + 1)) ((k + 1 : Nat) : Int) = qa from by rw [← HQ.out, HX.out]; simp [allF, HT.out, ← ho2h.out, ← ho1h.out])
      have yX := (HRX.out.below Br.out)
      have yX0 := yX.get0 (.int .i64 x.k) (by decide) rfl
      have yX1 := yX.get 1 (.int .i64 x.vm) (by decide) rfl
      have yX2 := yX.get 2 (.int .i64 x.sp) (by decide) rfl
      have yX3 := yX.get 3 (.bool x.al) (by decide) rfl
      have yX4 := yX.get 4 (.int .i64 x.pg) (by decide) rfl
      have yX5 := yX.get 5 (.int .i64 x.lv) (by decide) rfl
      have yX6 := yX.get 6 (.int .i64 x.fr) (by decide) rfl
      have yX7 := yX.get 7 (.int .i64 x.mi) (by decide) rfl
      have yX8 := yX.get 8 (.bool x.t.r) (by decide) rfl
      have yX9 := yX.get 9 (.bool x.t.w) (by decide) rfl
      have yX10 := yX.get 10 (.bool x.t.x) (by decide) rfl
      have yX11 := yX.get 11 (.bool x.t.a) (by decide) rfl
      have yX12 := yX.get 12 (.bool x.t.n) (by decide) rfl
      have yX13 := yX.get 13 (.int .i64 x.t.s) (by decide) rfl
      clear yX
      go_upto_region 4 with fail
      clear yX0 yX1 yX2 yX3 yX4 yX5 yX6 yX7 yX8 yX9 yX10 yX11 yX12 yX13
      have T2 := Lib.hid ((Tr.out.alloc (.cells #[.int .i64 x.k, .int .i64 x.vm, .int .i64 x.sp, .bool x.al, .int .i64 x.pg, .int .i64 x.lv, .int .i64 x.fr, .int .i64 x.mi, .bool x.t.r, .bool x.t.w, .bool x.t.x, .bool x.t.a, .bool x.t.n, .int .i64 x.t.s] 36)))
      have E2 := Lib.hid ((BoxAt.newAt (wr) #[.int .i64 x.k, .int .i64 x.vm, .int .i64 x.sp, .bool x.al, .int .i64 x.pg, .int .i64 x.lv, .int .i64 x.fr, .int .i64 x.mi, .bool x.t.r, .bool x.t.w, .bool x.t.x, .bool x.t.a, .bool x.t.n, .int .i64 x.t.s] 36 (wr.heap.size) (by first | omega | (simp; done) | (simp; omega))))
      have B2 := Lib.hid ((bel_alloc Br.out (.cells #[.int .i64 x.k, .int .i64 x.vm, .int .i64 x.sp, .bool x.al, .int .i64 x.pg, .int .i64 x.lv, .int .i64 x.fr, .int .i64 x.mi, .bool x.t.r, .bool x.t.w, .bool x.t.x, .bool x.t.a, .bool x.t.n, .int .i64 x.t.s] 36)))
      obtain ⟨g2, hg2⟩ : ∃ g2, g2 = wr.heap.size := ⟨_, rfl⟩
      obtain ⟨W2, hW2⟩ : ∃ W2, W2 = (wr).alloc (.cells #[.int .i64 x.k, .int .i64 x.vm, .int .i64 x.sp, .bool x.al, .int .i64 x.pg, .int .i64 x.lv, .int .i64 x.fr, .int .i64 x.mi, .bool x.t.r, .bool x.t.w, .bool x.t.x, .bool x.t.a, .bool x.t.n, .int .i64 x.t.s] 36) := ⟨_, rfl⟩
      have hs2 : g2 + 1 ≤ W2.heap.size := by rw [hW2, hg2]; simp
      rw [← hW2] at T2 E2 B2 ⊢
      have hb2 : g1 + 1 ≤ g2 := by omega
      rw [← hg2] at E2 ⊢
      clear hg2
      clear hW2 Tr Br hsr
      refine wp_region_held_drew (S := (fun w' => BoxAt w' (g2) #[.int .i64 x.k, .int .i64 x.vm, .int .i64 x.sp, .bool x.al, .int .i64 x.pg, .int .i64 x.lv, .int .i64 x.fr, .int .i64 x.mi, .bool x.t.r, .bool x.t.w, .bool x.t.x, .bool x.t.a, .bool x.t.n, .int .i64 x.t.s] 36 ∧ BoxAt w' (g1) #[.slice (some ⟨b, o, none⟩) l c, .slice g m d] 88)) (by kernel_rfl) ⟨E2.out.drew, T2.out.drew⟩ (fun hS => ?_)
      refine tkR 0 14 (v := .agg #[.int .i64 x.k, .int .i64 x.vm, .int .i64 x.sp, .bool x.al, .int .i64 x.pg, .int .i64 x.lv, .int .i64 x.fr, .int .i64 x.mi, .bool x.t.r, .bool x.t.w, .bool x.t.x, .bool x.t.a, .bool x.t.n, .int .i64 x.t.s]) rfl hS (fun _ h => run_ldN 36 (.tmp 4) g2 0 (by kernel_rfl) (by kernel_rfl) Try.underlying36 rfl (by kernel_rfl) ((h.1).sub 0 _ rfl)) ?_
      refine tkR 1 15 (v := .agg #[.int .i64 x.k, .int .i64 x.vm, .int .i64 x.sp, .bool x.al, .int .i64 x.pg, .int .i64 x.lv, .int .i64 x.fr, .int .i64 x.mi, .bool x.t.r, .bool x.t.w, .bool x.t.x, .bool x.t.a, .bool x.t.n, .int .i64 x.t.s]) rfl hS (fun _ _ => by kernel_rfl) ?_
      try simp only [Act.put, List.setIfInBounds_toArray, List.set_cons_zero, List.set_cons_succ]
      refine wpAnyH_ready (rs := [2]) (by kernel_rfl) (by simp) ?_
      refine AllReadyH.cons (o := ⟨some 16, _, _, _, _, _⟩) rfl (fun K hK => ?_) AllReadyH.nil
      go_simp
      refine (HEN.out _).mono ?_
      rintro e w3 ⟨rfl, hb3⟩
      have hz3 := hb3.size
      try simp at hz3
      refine hK.out _ _ ?_ (fun hS' => ?_)
      · exact ⟨hS.1.below hb3, hS.2.below hb3⟩
      clear hK K hS
      have hS := hS'
      clear hS'
      try simp only [Act.put, List.setIfInBounds_toArray, List.set_cons_zero, List.set_cons_succ]
      try simp only [Act.put, List.setIfInBounds_toArray, List.set_cons_zero, List.set_cons_succ]
      refine tkR 3 17 rfl hS (fun w' _ => by go_simp; try with_reducible rfl) ?_
      simp only [pA, pB, pC]
      refine tkR 4 18 (v := .bool false) rfl hS (fun _ _ => by kernel_rfl) ?_
      try simp only [Act.put, List.setIfInBounds_toArray, List.set_cons_zero, List.set_cons_succ]
      refine tkR 5 19 rfl hS (fun w' _ => by go_simp; try with_reducible rfl) ?_
      simp only [pA, pB, pC]
      try simp only [Act.put, List.setIfInBounds_toArray, List.set_cons_zero, List.set_cons_succ]
      refine tkR 6 20 rfl hS (fun w' _ => by go_simp; try with_reducible rfl) ?_
      simp only [pA, pB, pC]
      try simp only [Act.put, List.setIfInBounds_toArray, List.set_cons_zero, List.set_cons_succ]
      refine tkR 7 21 rfl hS (fun w' hSw => by have c1_0 := (hSw.2).get 0 (.slice (some ⟨b, o, none⟩) l c) rfl; clear hSw; go_simp; try with_reducible rfl) ?_
      simp only [pA, pB, pC]
      try simp only [Act.put, List.setIfInBounds_toArray, List.set_cons_zero, List.set_cons_succ]
      refine tkR 8 22 rfl hS (fun w' _ => by go_simp; try with_reducible rfl) ?_
      simp only [pA, pB, pC]
      try simp only [Act.put, List.setIfInBounds_toArray, List.set_cons_zero, List.set_cons_succ]
      refine tkR 9 23 rfl hS (fun w' _ => by go_simp; try with_reducible rfl) ?_
      simp only [pA, pB, pC]
      try simp only [Act.put, List.setIfInBounds_toArray, List.set_cons_zero, List.set_cons_succ]
      refine tkR 10 24 rfl hS (fun w' hSw => by have c0_0 := (hSw.1).get 0 (.int .i64 x.k) rfl; have c0_1 := (hSw.1).get 1 (.int .i64 x.vm) rfl; have c0_2 := (hSw.1).get 2 (.int .i64 x.sp) rfl; have c0_3 := (hSw.1).get 3 (.bool x.al) rfl; have c0_4 := (hSw.1).get 4 (.int .i64 x.pg) rfl; have c0_5 := (hSw.1).get 5 (.int .i64 x.lv) rfl; have c0_6 := (hSw.1).get 6 (.int .i64 x.fr) rfl; have c0_7 := (hSw.1).get 7 (.int .i64 x.mi) rfl; have c0_8 := (hSw.1).get 8 (.bool x.t.r) rfl; have c0_9 := (hSw.1).get 9 (.bool x.t.w) rfl; have c0_10 := (hSw.1).get 10 (.bool x.t.x) rfl; have c0_11 := (hSw.1).get 11 (.bool x.t.a) rfl; have c0_12 := (hSw.1).get 12 (.bool x.t.n) rfl; have c0_13 := (hSw.1).get 13 (.int .i64 x.t.s) rfl; clear hSw; go_simp; try with_reducible rfl) ?_
      simp only [pA, pB, pC]
      try simp only [Act.put, List.setIfInBounds_toArray, List.set_cons_zero, List.set_cons_succ]
      refine wpAnyH_ready (rs := [11]) (by kernel_rfl) (by simp) ?_
      refine AllReadyH.cons (o := ⟨some 25, _, _, _, _, _⟩) rfl (fun K hK => ?_) AllReadyH.nil
      go_simp
      refine (HIN.out _ (bel_trans (Below.drew B2.out) hb3)).mono ?_
      rintro e w4 ⟨rfl, hb4⟩
      have hz4 := hb4.size
      try simp at hz4
      refine hK.out _ _ ?_ (fun hS' => ?_)
      · exact ⟨hS.1.below hb4, hS.2.below hb4⟩
      clear hK K hS
      have hS := hS'
      clear hS'
      try simp only [Act.put, List.setIfInBounds_toArray, List.set_cons_zero, List.set_cons_succ]
      try simp only [Act.put, List.setIfInBounds_toArray, List.set_cons_zero, List.set_cons_succ]
      refine tkR 12 26 rfl hS (fun w' _ => by go_simp; try with_reducible rfl) ?_
      simp only [pA, pB, pC]
      refine wpAnyH_done (by kernel_rfl) ?_ _
      try simp only [Act.put, List.setIfInBounds_toArray, List.set_cons_zero, List.set_cons_succ]
      have T5 := Lib.hid ((((T2.out.drew).below hb3).below hb4))
      have E5 := Lib.hid ((((E2.out.drew).below hb3).below hb4))
      have B5 := Lib.hid ((bel_trans (bel_trans (Below.drew B2.out) hb3) hb4))
      obtain ⟨W5, hW5⟩ : ∃ W5, W5 = w4 := ⟨_, rfl⟩
      have hs5 : g2 + 1 ≤ W5.heap.size := by rw [hW5]; first | exact hs2 | omega | (simp; omega)
      rw [← hW5] at T5 E5 B5 ⊢
      clear hW5 T2 E2 B2 hs2
      go_wp2
      go_roundw
      case rel => exact ⟨k + 1, by omega, by go_num, T5.out, B5.out, HQ⟩
      case measure => simp [intOf]; omega
    · have HR := Lib.hid (show true = qa from by rw [← HQ.out, rows_end HN.out hlt]; rfl)
      go_wp2
      go_ret
      exact ⟨ret_bool HR.out, Br.out⟩
set_option maxRecDepth 100000 in
set_option maxHeartbeats 3200000 in
theorem tdues_any (f g : Option Addr) (l c m d : Nat) (D : List Inv) (w : World) (hD : RowsAt KI w g D) (ho : m = D.length) (hm : m ≤ 1000000) :
    Calls Try.prog 68 #[.agg #[.slice f l c, .slice g m d]] w fun r w' => r = .returned (.bool (allV D)) ∧ Below w.heap.size w w' := by
  have HD := Lib.hid hD
  have HO := Lib.hid ho
  clear hD ho
  obtain ⟨qb, hqb⟩ : ∃ q, q = allV D := ⟨_, rfl⟩
  rw [← hqb]
  have HP := Lib.hid (show allV (D.drop 0) = qb from hqb.symm)
  clear hqb
  have htw : w.heap.size ≤ w.heap.size := Nat.le_refl _
  have B0 := Lib.hid (Below.refl w.heap.size w)
  go_enter Try.func68, Try.ntmps68
  go_upto_region 1 with fail
  have T1 := Lib.hid ((BoxAt.newAt (w) #[.slice f l c, .slice g m d] 88 (w.heap.size) (by first | omega | (simp; done) | (simp; omega))))
  have B1 := Lib.hid ((bel_alloc B0.out (.cells #[.slice f l c, .slice g m d] 88)))
  obtain ⟨g1, hg1⟩ : ∃ g1, g1 = w.heap.size := ⟨_, rfl⟩
  obtain ⟨W1, hW1⟩ : ∃ W1, W1 = (w).alloc (.cells #[.slice f l c, .slice g m d] 88) := ⟨_, rfl⟩
  have hs1 : g1 + 1 ≤ W1.heap.size := by rw [hW1, hg1]; simp
  rw [← hW1] at T1 B1 ⊢
  have hb1 : w.heap.size ≤ g1 := by omega
  rw [← hg1] at T1 ⊢
  clear hg1
  clear hW1 B0
  have Tc1 := T1.out.get 1 (.slice g m d) rfl
  go_wp2
  clear Tc1
  go_loopw [9] (fun i wr => ∃ k : Nat, k ≤ m ∧ i = .int .i64 k ∧ Hid (BoxAt wr (g1) #[.slice f l c, .slice g m d] 88) ∧ Hid (Below w.heap.size w wr) ∧ Hid (allV (D.drop k) = qb)) (fun i _ => m - (intOf i).toNat)
  case atStart => exact ⟨0, Nat.zero_le _, rfl, T1.out, B1.out, HP⟩
  case round =>
    clear B1 T1 HP
    obtain ⟨k2, hk2, rfl, Tr, Br, HP⟩ := hrel
    have hsr2 : g1 + 1 ≤ wr.heap.size := Tr.out.lt
    by_cases hlt2 : k2 < m
    · obtain ⟨x, hx⟩ := rows_some HO.out hlt2
      obtain ⟨b, o, rfl, hr0⟩ := HD.out k2 x hx
      have HRX := Lib.hid (show RowAt w b (o + k2 * 4) 4 #[.int .i64 x.k, .int .i64 x.vm, .int .i64 x.sp, .int .i64 x.pg] from hr0)
      have hbk : b < w.heap.size := hr0.lt
      clear hr0
      have i1 : (0 : Int) ≤ (k2 : Int) := by omega
      have i2 : (k2 : Int) < (m : Int) := by omega
      have hxd := rows_drop hx
      have HX := Lib.hid hxd
      clear hx hxd
      have HEN := Lib.hid (fun W => tdue_any x W)
      obtain ⟨o1, ho1⟩ : ∃ o1, o1 = mayIn x := ⟨_, rfl⟩
      rw [← ho1] at HEN
      have ho1h := Lib.hid ho1
      clear ho1
      unfold invV invC at HEN
      have yX := (HRX.out.below Br.out)
      have yX0 := yX.get0 (.int .i64 x.k) (by decide) rfl
      have yX1 := yX.get 1 (.int .i64 x.vm) (by decide) rfl
      have yX2 := yX.get 2 (.int .i64 x.sp) (by decide) rfl
      have yX3 := yX.get 3 (.int .i64 x.pg) (by decide) rfl
      clear yX
      go_upto_region 4 with fail
      clear yX0 yX1 yX2 yX3
      have T2 := Lib.hid ((Tr.out.alloc (.cells #[.int .i64 x.k, .int .i64 x.vm, .int .i64 x.sp, .int .i64 x.pg] 32)))
      have E2 := Lib.hid ((BoxAt.newAt (wr) #[.int .i64 x.k, .int .i64 x.vm, .int .i64 x.sp, .int .i64 x.pg] 32 (wr.heap.size) (by first | omega | (simp; done) | (simp; omega))))
      have B2 := Lib.hid ((bel_alloc Br.out (.cells #[.int .i64 x.k, .int .i64 x.vm, .int .i64 x.sp, .int .i64 x.pg] 32)))
      obtain ⟨g2, hg2⟩ : ∃ g2, g2 = wr.heap.size := ⟨_, rfl⟩
      obtain ⟨W2, hW2⟩ : ∃ W2, W2 = (wr).alloc (.cells #[.int .i64 x.k, .int .i64 x.vm, .int .i64 x.sp, .int .i64 x.pg] 32) := ⟨_, rfl⟩
      have hs2 : g2 + 1 ≤ W2.heap.size := by rw [hW2, hg2]; simp
      rw [← hW2] at T2 E2 B2 ⊢
      have hb2 : g1 + 1 ≤ g2 := by omega
      rw [← hg2] at E2 ⊢
      clear hg2
      clear hW2 Tr Br hsr2
      have Ec0 := E2.out.get 0 (.int .i64 x.k) rfl
      have Ec1 := E2.out.get 1 (.int .i64 x.vm) rfl
      have Ec2 := E2.out.get 2 (.int .i64 x.sp) rfl
      have Ec3 := E2.out.get 3 (.int .i64 x.pg) rfl
      go_wp2_with fail
      refine (HEN.out _).mono ?_
      rintro e w3 ⟨rfl, hb3⟩
      have hz3 := hb3.size
      have T3 := Lib.hid (T2.out.below hb3)
      have E3 := Lib.hid (E2.out.below hb3)
      have B3 := Lib.hid (bel_trans B2.out hb3)
      skip
      have hs3 : g2 + 1 ≤ w3.heap.size := by omega
      clear Ec0 Ec1 Ec2 Ec3
      clear T2 E2 B2 hs2 hb3 hz3
      cases o1
      · have HR := Lib.hid (show false = qb from by rw [← HP.out, HX.out]; simp [allV, ho1h.out.symm])
        go_wp2
        go_ret
        exact ⟨ret_bool HR.out, B3.out⟩
      have HP := Lib.hid (show allV (D.drop (k2 + 1)) = qb from by rw [← HP.out, HX.out]; simp [allV, ho1h.out.symm])
      go_wp2
      go_roundw
      case rel => exact ⟨k2 + 1, by omega, by go_num, T3.out, B3.out, HP⟩
      case measure => simp [intOf]; omega
    · have HR := Lib.hid (show true = qb from by rw [← HP.out, rows_end HO.out hlt2]; rfl)
      go_wp2
      go_ret
      exact ⟨ret_bool HR.out, Br.out⟩
set_option maxRecDepth 100000 in
set_option maxHeartbeats 3200000 in
theorem tmay_any (f g : Option Addr) (l c m d : Nat) (E : List Ety) (D : List Inv) (w : World) (hL : RowsAt KE w f E) (hn : l = E.length) (hD : RowsAt KI w g D) (ho : m = D.length) (hl : l ≤ 1000000) (hm : m ≤ 1000000) (hc : l ≤ c) (hc2 : c ≤ maxLen) :
    Calls Try.prog 63 #[.agg #[.slice f l c, .slice g m d]] w fun r w' => r = .returned (.bool (mayT E D)) ∧ Below w.heap.size w w' := by
  have HE := Lib.hid (fun W (hB : Below w.heap.size w W) => tents_any f g l c m d E W (hL.below hB) hn hl hc hc2)
  have HD := Lib.hid (fun W (hB : Below w.heap.size w W) => tdues_any f g l c m d D W (hD.below hB) ho hm)
  have HM := Lib.hid (show mayT E D = (allF E E 0 && (allV D && (decide (l ≤ 8) && decide (m ≤ 8)))) from by rw [hn, ho]; rfl)
  clear hL hn hD ho
  generalize allF E E 0 = qa at *
  generalize allV D = qb at *
  generalize mayT E D = qm at *
  have htw : w.heap.size ≤ w.heap.size := Nat.le_refl _
  have B0 := Lib.hid (Below.refl w.heap.size w)
  go_enter Try.func63, Try.ntmps63
  go_upto_region 1 with fail
  have T1 := Lib.hid ((BoxAt.newAt (w) #[.slice f l c, .slice g m d] 88 (w.heap.size) (by first | omega | (simp; done) | (simp; omega))))
  have B1 := Lib.hid ((bel_alloc B0.out (.cells #[.slice f l c, .slice g m d] 88)))
  obtain ⟨g1, hg1⟩ : ∃ g1, g1 = w.heap.size := ⟨_, rfl⟩
  obtain ⟨W1, hW1⟩ : ∃ W1, W1 = (w).alloc (.cells #[.slice f l c, .slice g m d] 88) := ⟨_, rfl⟩
  have hs1 : g1 + 1 ≤ W1.heap.size := by rw [hW1, hg1]; simp
  rw [← hW1] at T1 B1 ⊢
  have hb1 : w.heap.size ≤ g1 := by omega
  rw [← hg1] at T1 ⊢
  clear hg1
  clear hW1 B0
  have Tc0 := T1.out.get 0 (.slice f l c) rfl
  by_cases hl8 : l ≤ 8
  · have dl8 : decide ((l : Int) ≤ 8) = true := decide_eq_true (by omega)
    have Tc1 := T1.out.get 1 (.slice g m d) rfl
    by_cases hm8 : m ≤ 8
    · have dm8 : decide ((m : Int) ≤ 8) = true := decide_eq_true (by omega)
      go_wp2_with fail
      refine (HE.out _ B1.out).mono ?_
      rintro e w2 ⟨rfl, hb2⟩
      have hz2 := hb2.size
      have T2 := Lib.hid (T1.out.below hb2)
      have B2 := Lib.hid (bel_trans B1.out hb2)
      skip
      have hs2 : g1 + 1 ≤ w2.heap.size := by omega
      clear Tc0 Tc1
      clear T1 B1 hs1 hb2 hz2
      cases qa
      · go_wp2
        all_goals
          go_ret
          exact ⟨ret_bool (by rw [HM.out]; first | (simp; done) | (simp [hl8]; done) | (simp [hm8]; done) | (simp [hl8, hm8]; done) | (simp; omega)), B2.out⟩
      have Tc0 := T2.out.get 0 (.slice f l c) rfl
      have Tc1 := T2.out.get 1 (.slice g m d) rfl
      go_wp2_with fail
      refine (HD.out _ B2.out).mono ?_
      rintro e w3 ⟨rfl, hb3⟩
      have hz3 := hb3.size
      have T3 := Lib.hid (T2.out.below hb3)
      have B3 := Lib.hid (bel_trans B2.out hb3)
      skip
      have hs3 : g1 + 1 ≤ w3.heap.size := by omega
      clear Tc0 Tc1
      clear T2 B2 hs2 hb3 hz3
      go_wp2
      all_goals
        go_ret
        exact ⟨ret_bool (by rw [HM.out]; first | (simp; done) | (simp [hl8]; done) | (simp [hm8]; done) | (simp [hl8, hm8]; done) | (simp; omega)), B3.out⟩
    have dm8 : decide ((m : Int) ≤ 8) = false := decide_eq_false (by omega)
    go_wp2
    all_goals
      go_ret
      exact ⟨ret_bool (by rw [HM.out]; first | (simp; done) | (simp [hl8]; done) | (simp [hm8]; done) | (simp [hl8, hm8]; done) | (simp; omega)), B1.out⟩
  have dl8 : decide ((l : Int) ≤ 8) = false := decide_eq_false (by omega)
  go_wp2
  all_goals
    go_ret
    exact ⟨ret_bool (by rw [HM.out]; first | (simp; done) | (simp [hl8]; done) | (simp [hm8]; done) | (simp [hl8, hm8]; done) | (simp; omega)), B1.out⟩
end Go.Proofs.Ytjohnpbfdpmajaa
