/- What takes an entry away: plainly, by the reference, by the program. -/
import Derived.Test.YtjohnpbfdpmajaaBi
set_option linter.all false
namespace Go.Proofs.Ytjohnpbfdpmajaa
open Go.ChangeShapes Go.WideShapes Go.ChangeAt Go.RowKit Go.Deep

/-- What takes away takes an entry of its machine away. -/
def takeM (i : Inv) (e : Ety) : Bool :=
  bif decide (i.k = 2) then true else bif decide (i.k = 3) then !decide (e.k = 2) else
  bif decide (i.k = 4) then (!decide (e.k = 2) && (!e.al && decide (e.sp = i.sp))) else
  bif decide (i.k = 5) then (!decide (e.k = 2) && ((bif decide (e.k = 3) then decide (e.pg = abvP e.lv i.pg) else decide (e.pg = i.pg)) && (e.al || decide (e.sp = i.sp)))) else
  (decide (e.k = 2) && decide (e.pg = i.pg))
/-- What takes away takes an entry away. -/
def takeB (i : Inv) (e : Ety) : Bool := decide (i.k = 1) || (decide (e.vm = i.vm) && takeM i e)
set_option maxRecDepth 100000 in
set_option maxHeartbeats 3200000 in
theorem takes9_any (i : Inv) (e : Ety) (h : decide (e.k = 3) = true → (1 ≤ e.lv ∧ e.lv ≤ 3)) (hp : 0 ≤ i.pg ∧ i.pg ≤ 4095) (w : World) :
    Calls Try.prog 17 #[invV i, entV e] w fun q w' => q = .returned (.bool (takeB i e)) ∧ Below w.heap.size w w' := by
  have HA := Lib.hid (fun W h1 => above9_any e.lv i.pg W (h h1).1 (h h1).2 hp.1 hp.2)
  clear h hp
  obtain ⟨ab, hab0⟩ : ∃ ab, ab = decide (e.pg = abvP e.lv i.pg) := ⟨_, rfl⟩
  have hab := hab0.symm
  have eab : (e.pg == abvP e.lv i.pg) = ab := (beq_int _ _).trans hab
  clear hab0
  unfold invV invC entV entC
  have htw : w.heap.size ≤ w.heap.size := Nat.le_refl _
  have B0 := Lib.hid (Below.refl w.heap.size w)
  go_enter Try.func17, Try.ntmps17
  go_upto_region 1 with fail
  have I1 := Lib.hid (((BoxAt.newAt (w) #[.int .i64 i.k, .int .i64 i.vm, .int .i64 i.sp, .int .i64 i.pg] 32 (w.heap.size) (by first | omega | (simp; done) | (simp; omega))).alloc (.cells #[.int .i64 e.k, .int .i64 e.vm, .int .i64 e.sp, .bool e.al, .int .i64 e.pg, .int .i64 e.lv, .int .i64 e.fr, .int .i64 e.mi, .bool e.t.r, .bool e.t.w, .bool e.t.x, .bool e.t.a, .bool e.t.n, .int .i64 e.t.s] 36)))
  have E1 := Lib.hid ((BoxAt.newAt ((w).alloc (.cells #[.int .i64 i.k, .int .i64 i.vm, .int .i64 i.sp, .int .i64 i.pg] 32)) #[.int .i64 e.k, .int .i64 e.vm, .int .i64 e.sp, .bool e.al, .int .i64 e.pg, .int .i64 e.lv, .int .i64 e.fr, .int .i64 e.mi, .bool e.t.r, .bool e.t.w, .bool e.t.x, .bool e.t.a, .bool e.t.n, .int .i64 e.t.s] 36 (w.heap.size + 1) (by first | omega | (simp; done) | (simp; omega))))
  have B1 := Lib.hid ((bel_alloc (bel_alloc B0.out (.cells #[.int .i64 i.k, .int .i64 i.vm, .int .i64 i.sp, .int .i64 i.pg] 32)) (.cells #[.int .i64 e.k, .int .i64 e.vm, .int .i64 e.sp, .bool e.al, .int .i64 e.pg, .int .i64 e.lv, .int .i64 e.fr, .int .i64 e.mi, .bool e.t.r, .bool e.t.w, .bool e.t.x, .bool e.t.a, .bool e.t.n, .int .i64 e.t.s] 36)))
  obtain ⟨g1, hg1⟩ : ∃ g1, g1 = w.heap.size := ⟨_, rfl⟩
  obtain ⟨W1, hW1⟩ : ∃ W1, W1 = ((w).alloc (.cells #[.int .i64 i.k, .int .i64 i.vm, .int .i64 i.sp, .int .i64 i.pg] 32)).alloc (.cells #[.int .i64 e.k, .int .i64 e.vm, .int .i64 e.sp, .bool e.al, .int .i64 e.pg, .int .i64 e.lv, .int .i64 e.fr, .int .i64 e.mi, .bool e.t.r, .bool e.t.w, .bool e.t.x, .bool e.t.a, .bool e.t.n, .int .i64 e.t.s] 36) := ⟨_, rfl⟩
  have hs1 : g1 + 1 + 1 ≤ W1.heap.size := by rw [hW1, hg1]; simp
  rw [← hW1] at I1 E1 B1 ⊢
  have hb1 : w.heap.size ≤ g1 := by omega
  rw [← hg1] at I1 E1 ⊢
  clear hg1
  clear hW1 B0
  have Ic0 := I1.out.get 0 (.int .i64 i.k) rfl
  cases hq2 : decide (i.k = 1)
  · have ehq2 : (i.k == 1) = false := (beq_int _ _).trans hq2
    have Ec1 := E1.out.get 1 (.int .i64 e.vm) rfl
    have Ic1 := I1.out.get 1 (.int .i64 i.vm) rfl
    cases hq3 : decide (e.vm = i.vm)
    · have ehq3 : (e.vm == i.vm) = false := (beq_int _ _).trans hq3
      have nhq3 : (e.vm != i.vm) = true := by rw [bne, ehq3]; rfl
      go_wp2
      all_goals
        go_ret
        refine ⟨ret_bool ?_, B1.out⟩
        first | rfl | (simp [takeB, takeM, hq2, hq3, hab]; done) | (simp [bne, beq_int, takeB, takeM, hq2, hq3, hab]; done)
    have ehq3 : (e.vm == i.vm) = true := (beq_int _ _).trans hq3
    have nhq3 : (e.vm != i.vm) = false := by rw [bne, ehq3]; rfl
    have Ec0 := E1.out.get 0 (.int .i64 e.k) rfl
    cases hq4 : decide (i.k = 2)
    · have ehq4 : (i.k == 2) = false := (beq_int _ _).trans hq4
      cases hq5 : decide (i.k = 3)
      · have ehq5 : (i.k == 3) = false := (beq_int _ _).trans hq5
        cases hq6 : decide (i.k = 4)
        · have ehq6 : (i.k == 4) = false := (beq_int _ _).trans hq6
          cases hq7 : decide (i.k = 5)
          · have ehq7 : (i.k == 5) = false := (beq_int _ _).trans hq7
            cases hq8 : decide (e.k = 2)
            · have ehq8 : (e.k == 2) = false := (beq_int _ _).trans hq8
              have nhq8 : (e.k != 2) = true := by rw [bne, ehq8]; rfl
              go_wp2
              all_goals
                go_ret
                refine ⟨ret_bool ?_, B1.out⟩
                first | rfl | (simp [takeB, takeM, hq2, hq3, hq4, hq5, hq6, hq7, hq8, hab]; done) | (simp [bne, beq_int, takeB, takeM, hq2, hq3, hq4, hq5, hq6, hq7, hq8, hab]; done)
            have ehq8 : (e.k == 2) = true := (beq_int _ _).trans hq8
            have nhq8 : (e.k != 2) = false := by rw [bne, ehq8]; rfl
            have Ec4 := E1.out.get 4 (.int .i64 e.pg) rfl
            have Ic3 := I1.out.get 3 (.int .i64 i.pg) rfl
            go_wp2
            all_goals
              go_ret
              refine ⟨ret_bool ?_, B1.out⟩
              first | rfl | (simp [takeB, takeM, hq2, hq3, hq4, hq5, hq6, hq7, hq8, hab]; done) | (simp [bne, beq_int, takeB, takeM, hq2, hq3, hq4, hq5, hq6, hq7, hq8, hab]; done)
          have ehq7 : (i.k == 5) = true := (beq_int _ _).trans hq7
          have Ec4 := E1.out.get 4 (.int .i64 e.pg) rfl
          have Ic3 := I1.out.get 3 (.int .i64 i.pg) rfl
          cases hq8 : decide (e.k = 3)
          · have ehq8 : (e.k == 3) = false := (beq_int _ _).trans hq8
            cases hq9 : decide (e.k = 2)
            · have ehq9 : (e.k == 2) = false := (beq_int _ _).trans hq9
              have nhq9 : (e.k != 2) = true := by rw [bne, ehq9]; rfl
              cases hq10 : decide (e.pg = i.pg)
              · have ehq10 : (e.pg == i.pg) = false := (beq_int _ _).trans hq10
                go_wp2
                all_goals
                  go_ret
                  refine ⟨ret_bool ?_, B1.out⟩
                  first | rfl | (simp [takeB, takeM, hq2, hq3, hq4, hq5, hq6, hq7, hq8, hq9, hq10, hab]; done) | (simp [bne, beq_int, takeB, takeM, hq2, hq3, hq4, hq5, hq6, hq7, hq8, hq9, hq10, hab]; done)
              have ehq10 : (e.pg == i.pg) = true := (beq_int _ _).trans hq10
              have Ec3 := E1.out.get 3 (.bool e.al) rfl
              cases hq11 : e.al
              · have Ec2 := E1.out.get 2 (.int .i64 e.sp) rfl
                have Ic2 := I1.out.get 2 (.int .i64 i.sp) rfl
                go_wp2
                all_goals
                  go_ret
                  refine ⟨ret_bool ?_, B1.out⟩
                  first | rfl | (simp [takeB, takeM, hq2, hq3, hq4, hq5, hq6, hq7, hq8, hq9, hq10, hq11, hab]; done) | (simp [bne, beq_int, takeB, takeM, hq2, hq3, hq4, hq5, hq6, hq7, hq8, hq9, hq10, hq11, hab]; done)
              go_wp2
              all_goals
                go_ret
                refine ⟨ret_bool ?_, B1.out⟩
                first | rfl | (simp [takeB, takeM, hq2, hq3, hq4, hq5, hq6, hq7, hq8, hq9, hq10, hq11, hab]; done) | (simp [bne, beq_int, takeB, takeM, hq2, hq3, hq4, hq5, hq6, hq7, hq8, hq9, hq10, hq11, hab]; done)
            have ehq9 : (e.k == 2) = true := (beq_int _ _).trans hq9
            have nhq9 : (e.k != 2) = false := by rw [bne, ehq9]; rfl
            go_wp2
            all_goals
              go_ret
              refine ⟨ret_bool ?_, B1.out⟩
              first | rfl | (simp [takeB, takeM, hq2, hq3, hq4, hq5, hq6, hq7, hq8, hq9, hab]; done) | (simp [bne, beq_int, takeB, takeM, hq2, hq3, hq4, hq5, hq6, hq7, hq8, hq9, hab]; done)
          have ehq8 : (e.k == 3) = true := (beq_int _ _).trans hq8
          go_upto_region 16 with fail
          clear Ic0 Ec1 Ic1 Ec0 Ec4 Ic3
          refine wp_region_held_drew (S := (fun w' => BoxAt w' (g1 + 1) #[.int .i64 e.k, .int .i64 e.vm, .int .i64 e.sp, .bool e.al, .int .i64 e.pg, .int .i64 e.lv, .int .i64 e.fr, .int .i64 e.mi, .bool e.t.r, .bool e.t.w, .bool e.t.x, .bool e.t.a, .bool e.t.n, .int .i64 e.t.s] 36 ∧ BoxAt w' (g1) #[.int .i64 i.k, .int .i64 i.vm, .int .i64 i.sp, .int .i64 i.pg] 32)) (by kernel_rfl) ⟨E1.out.drew, I1.out.drew⟩ (fun hS => ?_)
          refine tkR 0 50 (v := .pointer (some ⟨g1 + 1, 4, none⟩)) rfl hS (fun _ _ => by kernel_rfl) ?_
          refine tkR 1 51 (v := .int .i64 e.pg) rfl hS (fun _ h => run_ld1 3 (.tmp 50) (g1 + 1) 4 (by kernel_rfl) (by kernel_rfl) Try.underlying3 rfl ((h.1).get 4 (.int .i64 e.pg) rfl)) ?_
          refine tkR 2 52 (v := .pointer (some ⟨g1 + 1, 5, none⟩)) rfl hS (fun _ _ => by kernel_rfl) ?_
          refine tkR 3 53 (v := .int .i64 e.lv) rfl hS (fun _ h => run_ld1 3 (.tmp 52) (g1 + 1) 5 (by kernel_rfl) (by kernel_rfl) Try.underlying3 rfl ((h.1).get 5 (.int .i64 e.lv) rfl)) ?_
          refine tkR 4 54 (v := .pointer (some ⟨g1, 3, none⟩)) rfl hS (fun _ _ => by kernel_rfl) ?_
          refine tkR 5 55 (v := .int .i64 i.pg) rfl hS (fun _ h => run_ld1 3 (.tmp 54) g1 3 (by kernel_rfl) (by kernel_rfl) Try.underlying3 rfl ((h.2).get 3 (.int .i64 i.pg) rfl)) ?_
          try simp only [Act.put, List.setIfInBounds_toArray, List.set_cons_zero, List.set_cons_succ]
          refine wpAnyH_ready (rs := [6]) (by kernel_rfl) (by simp) ?_
          refine AllReadyH.cons (o := ⟨some 56, _, _, _, _, _⟩) rfl (fun K hK => ?_) AllReadyH.nil
          go_simp
          refine (HA.out _ (by first | trivial | rfl)).mono ?_
          rintro e w9 ⟨rfl, hb9⟩
          have hz9 := hb9.size
          try simp at hz9
          refine hK.out _ _ ?_ (fun hS' => ?_)
          · exact ⟨hS.1.below hb9, hS.2.below hb9⟩
          clear hK K hS
          have hS := hS'
          clear hS'
          try simp only [Act.put, List.setIfInBounds_toArray, List.set_cons_zero, List.set_cons_succ]
          try simp only [Act.put, List.setIfInBounds_toArray, List.set_cons_zero, List.set_cons_succ]
          refine wpAnyH_take (i := 7) (oi := ⟨some 57, _, _, _, _, _⟩) (v := ?_) rfl (by kernel_rfl) (by kernel_rfl) (by kernel_rfl) (fun _ _ _ h => h) (Or.inl ⟨by rfl, ?_⟩) hS ?_
          rotate_left
          · (intro w' hSw; clear hSw; go_simp; try with_reducible rfl)
          simp only [Act.put, List.setIfInBounds_toArray, List.set_cons_zero, List.set_cons_succ]
          refine tkR 8 6 (v := .bool ab) rfl hS (fun _ _ => by kernel_rfl) ?_
          refine wpAnyH_done (by kernel_rfl) ?_ _
          try simp only [Act.put, List.setIfInBounds_toArray, List.set_cons_zero, List.set_cons_succ]
          have I10 := Lib.hid (((I1.out.drew).below hb9))
          have E10 := Lib.hid (((E1.out.drew).below hb9))
          have B10 := Lib.hid ((bel_trans (Below.drew B1.out) hb9))
          obtain ⟨W10, hW10⟩ : ∃ W10, W10 = w9 := ⟨_, rfl⟩
          have hs10 : g1 + 1 + 1 ≤ W10.heap.size := by rw [hW10]; first | exact hs1 | omega | (simp; omega)
          rw [← hW10] at I10 E10 B10 ⊢
          clear hW10 I1 E1 B1 hs1
          cases hq11 : decide (e.k = 2)
          · have ehq11 : (e.k == 2) = false := (beq_int _ _).trans hq11
            have nhq11 : (e.k != 2) = true := by rw [bne, ehq11]; rfl
            cases hq12 : ab
            · go_wp2
              all_goals
                go_ret
                refine ⟨ret_bool ?_, B10.out⟩
                first | rfl | (simp [takeB, takeM, hq2, hq3, hq4, hq5, hq6, hq7, hq8, hq11, hq12, hab]; done) | (simp [bne, beq_int, takeB, takeM, hq2, hq3, hq4, hq5, hq6, hq7, hq8, hq11, hq12, hab]; done)
            have Ec3 := E10.out.get 3 (.bool e.al) rfl
            cases hq13 : e.al
            · have Ec2 := E10.out.get 2 (.int .i64 e.sp) rfl
              have Ic2 := I10.out.get 2 (.int .i64 i.sp) rfl
              go_wp2
              all_goals
                go_ret
                refine ⟨ret_bool ?_, B10.out⟩
                first | rfl | (simp [takeB, takeM, hq2, hq3, hq4, hq5, hq6, hq7, hq8, hq11, hq12, hq13, hab]; done) | (simp [bne, beq_int, takeB, takeM, hq2, hq3, hq4, hq5, hq6, hq7, hq8, hq11, hq12, hq13, hab]; done)
            go_wp2
            all_goals
              go_ret
              refine ⟨ret_bool ?_, B10.out⟩
              first | rfl | (simp [takeB, takeM, hq2, hq3, hq4, hq5, hq6, hq7, hq8, hq11, hq12, hq13, hab]; done) | (simp [bne, beq_int, takeB, takeM, hq2, hq3, hq4, hq5, hq6, hq7, hq8, hq11, hq12, hq13, hab]; done)
          have ehq11 : (e.k == 2) = true := (beq_int _ _).trans hq11
          have nhq11 : (e.k != 2) = false := by rw [bne, ehq11]; rfl
          go_wp2
          all_goals
            go_ret
            refine ⟨ret_bool ?_, B10.out⟩
            first | rfl | (simp [takeB, takeM, hq2, hq3, hq4, hq5, hq6, hq7, hq8, hq11, hab]; done) | (simp [bne, beq_int, takeB, takeM, hq2, hq3, hq4, hq5, hq6, hq7, hq8, hq11, hab]; done)
        have ehq6 : (i.k == 4) = true := (beq_int _ _).trans hq6
        cases hq7 : decide (e.k = 2)
        · have ehq7 : (e.k == 2) = false := (beq_int _ _).trans hq7
          have nhq7 : (e.k != 2) = true := by rw [bne, ehq7]; rfl
          have Ec3 := E1.out.get 3 (.bool e.al) rfl
          cases hq8 : e.al
          · have Ec2 := E1.out.get 2 (.int .i64 e.sp) rfl
            have Ic2 := I1.out.get 2 (.int .i64 i.sp) rfl
            go_wp2
            all_goals
              go_ret
              refine ⟨ret_bool ?_, B1.out⟩
              first | rfl | (simp [takeB, takeM, hq2, hq3, hq4, hq5, hq6, hq7, hq8, hab]; done) | (simp [bne, beq_int, takeB, takeM, hq2, hq3, hq4, hq5, hq6, hq7, hq8, hab]; done)
          go_wp2
          all_goals
            go_ret
            refine ⟨ret_bool ?_, B1.out⟩
            first | rfl | (simp [takeB, takeM, hq2, hq3, hq4, hq5, hq6, hq7, hq8, hab]; done) | (simp [bne, beq_int, takeB, takeM, hq2, hq3, hq4, hq5, hq6, hq7, hq8, hab]; done)
        have ehq7 : (e.k == 2) = true := (beq_int _ _).trans hq7
        have nhq7 : (e.k != 2) = false := by rw [bne, ehq7]; rfl
        go_wp2
        all_goals
          go_ret
          refine ⟨ret_bool ?_, B1.out⟩
          first | rfl | (simp [takeB, takeM, hq2, hq3, hq4, hq5, hq6, hq7, hab]; done) | (simp [bne, beq_int, takeB, takeM, hq2, hq3, hq4, hq5, hq6, hq7, hab]; done)
      have ehq5 : (i.k == 3) = true := (beq_int _ _).trans hq5
      go_wp2
      all_goals
        go_ret
        refine ⟨ret_bool ?_, B1.out⟩
        first | rfl | (simp [takeB, takeM, hq2, hq3, hq4, hq5, hab]; done) | (simp [bne, beq_int, takeB, takeM, hq2, hq3, hq4, hq5, hab]; done)
    have ehq4 : (i.k == 2) = true := (beq_int _ _).trans hq4
    go_wp2
    all_goals
      go_ret
      refine ⟨ret_bool ?_, B1.out⟩
      first | rfl | (simp [takeB, takeM, hq2, hq3, hq4, hab]; done) | (simp [bne, beq_int, takeB, takeM, hq2, hq3, hq4, hab]; done)
  have ehq2 : (i.k == 1) = true := (beq_int _ _).trans hq2
  go_wp2
  all_goals
    go_ret
    refine ⟨ret_bool ?_, B1.out⟩
    first | rfl | (simp [takeB, takeM, hq2, hab]; done) | (simp [bne, beq_int, takeB, takeM, hq2, hab]; done)
end Go.Proofs.Ytjohnpbfdpmajaa
