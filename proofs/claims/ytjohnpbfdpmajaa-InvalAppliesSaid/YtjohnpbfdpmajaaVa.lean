/- The landed package tlb: small calls: contracts. -/
import Derived.Test.YtjohnpbfdpmajaaBe
import Derived.Test.YtjohnpbfdpmajaaTk
import Derived.Test.YtjohnpbfdpmajaaVp
import Derived.Test.YtjohnpbfdpmajaaRh
set_option linter.all false
namespace Go
theorem andN9 : ∀ a b : Fin 64, bits .andNot .i64 (64 * (a.val : Int) + b.val) 511 = (64 * (a.val : Int) + b.val) - (64 * (a.val : Int) + b.val) % 512 := by decide +kernel
theorem andN6 : ∀ a b : Fin 64, bits .andNot .i64 (64 * (a.val : Int) + b.val) 63 = (64 * (a.val : Int) + b.val) - (64 * (a.val : Int) + b.val) % 64 := by decide +kernel
theorem andN3 : ∀ a b : Fin 64, bits .andNot .i64 (64 * (a.val : Int) + b.val) 7 = (64 * (a.val : Int) + b.val) - (64 * (a.val : Int) + b.val) % 8 := by decide +kernel
theorem page_cut (p : Int) (h0 : 0 ≤ p) (h1 : p ≤ 4095) : bits .andNot .i64 p 511 = p - p % 512 ∧ bits .andNot .i64 p 63 = p - p % 64 ∧ bits .andNot .i64 p 7 = p - p % 8 := by
  obtain ⟨a, b, ha⟩ : ∃ a b : Fin 64, p = 64 * (a.val : Int) + b.val := ⟨⟨(p / 64).toNat, by omega⟩, ⟨(p % 64).toNat, by omega⟩, by simp only; omega⟩
  subst ha
  exact ⟨andN9 a b, andN6 a b, andN3 a b⟩
end Go
namespace Go.Proofs.Ytjohnpbfdpmajaa
open Go.ChangeShapes Go.WideShapes Go.ChangeAt Go.RowKit Go.Deep

theorem tup_any (p m : Int) (w : World) :
    Calls Try.prog 79 #[.int .i64 p, .int .i64 m] w fun e w' => e = .returned (.bool (numB p m)) ∧ w = w' := by
  go_enter Try.func79, Try.ntmps79
  go_wp2
  all_goals
    go_ret
    refine ⟨ret_bool ?_, rfl⟩
    unfold numB
    rw [Bool.eq_iff_iff]
    simp
    omega
/-- The first page of those that an entry has which has this one. -/
def foE (e : Ety) (p : Int) : Int := if e.k = 3 then abvP e.lv p else p
theorem tfo_any (e : Ety) (p : Int) (w : World) (h : e.k = 3 → (1 ≤ e.lv ∧ e.lv ≤ 3)) (hp : 0 ≤ p ∧ p ≤ 4095) :
    Calls Try.prog 85 #[entV e, .int .i64 p] w fun q w' => q = .returned (.int .i64 (foE e p)) ∧ Below w.heap.size w w' := by
  obtain ⟨k, vm, sp, al, pg, lv, fr, mi, ⟨r, wr, x, a, n, s⟩⟩ := e
  unfold entV entC foE
  simp only at h ⊢
  obtain ⟨c9, c6, c3⟩ := page_cut p hp.1 hp.2
  by_cases hk : k = 3
  · rw [if_pos hk]
    have hl := h hk
    subst hk
    have h3 : lv = 1 ∨ lv = 2 ∨ lv = 3 := by omega
    clear h
    rcases h3 with rfl | rfl | rfl
    · rw [show abvP 1 p = p - p % 512 from rfl, ← c9]
      clear c9 c6 c3 hl hp
      go_enter Try.func85, Try.ntmps85
      go_wp2
      go_ret
      exact ⟨rfl, by go_grown⟩
    · rw [show abvP 2 p = p - p % 64 from rfl, ← c6]
      clear c9 c6 c3 hl hp
      go_enter Try.func85, Try.ntmps85
      go_wp2
      go_ret
      exact ⟨rfl, by go_grown⟩
    · rw [show abvP 3 p = p - p % 8 from rfl, ← c3]
      clear c9 c6 c3 hl hp
      go_enter Try.func85, Try.ntmps85
      go_wp2
      go_ret
      exact ⟨rfl, by go_grown⟩
  · rw [if_neg hk]
    have dk : decide (k = 3) = false := decide_eq_false hk
    have ek : (k != 3) = true := by simp [hk]
    clear c9 c6 c3 h hp hk
    go_enter Try.func85, Try.ntmps85
    go_wp2
    go_ret
    exact ⟨rfl, by go_grown⟩
/-- An entry's numbers may be. -/
def numE (e : Ety) : Bool := numB e.vm 15 && (numB e.sp 15 && (numB e.pg 4095 && (numB e.fr 4095 && (numB e.mi 4095 && decide (e.t.s = 0)))))
/-- What is each kind's own. -/
def kindE (e : Ety) : Bool := if e.k = 1 then decide (e.lv = 0) else if e.k = 2 then decide (e.sp = 0) && (e.al && (decide (e.lv = 0) && (decide (e.mi = 0) && !e.t.n)))
    else if e.k = 3 then decide (1 ≤ e.lv) && (decide (e.lv ≤ 3) && (decide (abvP e.lv e.pg = e.pg) && (decide (e.mi = 0) && eqA e.t atr0))) else false
theorem mayEn_two (e : Ety) : mayEn e = (numE e && kindE e) := by
  unfold mayEn numE kindE
  simp only [Bool.and_assoc]
theorem numE_pg {e : Ety} (h : numE e = true) : 0 ≤ e.pg ∧ e.pg ≤ 4095 := by
  unfold numE at h
  simp only [Bool.and_eq_true] at h
  exact numB_iff.1 h.2.2.1
set_option maxRecDepth 100000 in
set_option maxHeartbeats 3200000 in
theorem tnum_any (e : Ety) (w : World) :
    Calls Try.prog 76 #[entV e] w fun q w' => q = .returned (.bool (numE e)) ∧ Below w.heap.size w w' := by
  obtain ⟨k, vm, sp, al, pg, lv, fr, mi, ⟨r, wr, x, a, n, s⟩⟩ := e
  unfold entV entC numE
  simp only
  have H0 := Lib.hid (fun W => tup_any vm 15 W)
  have H1 := Lib.hid (fun W => tup_any sp 15 W)
  have H2 := Lib.hid (fun W => tup_any pg 4095 W)
  have H3 := Lib.hid (fun W => tup_any fr 4095 W)
  have H4 := Lib.hid (fun W => tup_any mi 4095 W)
  generalize numB vm 15 = b0 at *
  generalize numB sp 15 = b1 at *
  generalize numB pg 4095 = b2 at *
  generalize numB fr 4095 = b3 at *
  generalize numB mi 4095 = b4 at *
  have htw : w.heap.size ≤ w.heap.size := Nat.le_refl _
  have B0 := Lib.hid (Below.refl w.heap.size w)
  go_enter Try.func76, Try.ntmps76
  go_upto_region 1 with fail
  have E1 := Lib.hid ((BoxAt.newAt (w) #[.int .i64 k, .int .i64 vm, .int .i64 sp, .bool al, .int .i64 pg, .int .i64 lv, .int .i64 fr, .int .i64 mi, .bool r, .bool wr, .bool x, .bool a, .bool n, .int .i64 s] 93 (w.heap.size) (by first | omega | (simp; done) | (simp; omega))))
  have B1 := Lib.hid ((bel_alloc B0.out (.cells #[.int .i64 k, .int .i64 vm, .int .i64 sp, .bool al, .int .i64 pg, .int .i64 lv, .int .i64 fr, .int .i64 mi, .bool r, .bool wr, .bool x, .bool a, .bool n, .int .i64 s] 93)))
  obtain ⟨g1, hg1⟩ : ∃ g1, g1 = w.heap.size := ⟨_, rfl⟩
  obtain ⟨W1, hW1⟩ : ∃ W1, W1 = (w).alloc (.cells #[.int .i64 k, .int .i64 vm, .int .i64 sp, .bool al, .int .i64 pg, .int .i64 lv, .int .i64 fr, .int .i64 mi, .bool r, .bool wr, .bool x, .bool a, .bool n, .int .i64 s] 93) := ⟨_, rfl⟩
  have hs1 : g1 + 1 ≤ W1.heap.size := by rw [hW1, hg1]; simp
  rw [← hW1] at E1 B1 ⊢
  have hb1 : w.heap.size ≤ g1 := by omega
  rw [← hg1] at E1 ⊢
  clear hg1
  clear hW1 B0
  have Ec1 := E1.out.get 1 (.int .i64 vm) rfl
  go_wp2_with fail
  refine (H0.out _).mono ?_
  rintro e w2 ⟨rfl, rfl⟩
  cases b0
  · go_wp2
    all_goals
      go_ret
      refine ⟨ret_bool ?_, B1.out⟩
      first | rfl | (simp; done) | simp []
  have Ec2 := E1.out.get 2 (.int .i64 sp) rfl
  go_wp2_with fail
  refine (H1.out _).mono ?_
  rintro e w3 ⟨rfl, rfl⟩
  cases b1
  · go_wp2
    all_goals
      go_ret
      refine ⟨ret_bool ?_, B1.out⟩
      first | rfl | (simp; done) | simp []
  have Ec4 := E1.out.get 4 (.int .i64 pg) rfl
  go_wp2_with fail
  refine (H2.out _).mono ?_
  rintro e w4 ⟨rfl, rfl⟩
  cases b2
  · go_wp2
    all_goals
      go_ret
      refine ⟨ret_bool ?_, B1.out⟩
      first | rfl | (simp; done) | simp []
  have Ec6 := E1.out.get 6 (.int .i64 fr) rfl
  go_wp2_with fail
  refine (H3.out _).mono ?_
  rintro e w5 ⟨rfl, rfl⟩
  cases b3
  · go_wp2
    all_goals
      go_ret
      refine ⟨ret_bool ?_, B1.out⟩
      first | rfl | (simp; done) | simp []
  have Ec7 := E1.out.get 7 (.int .i64 mi) rfl
  go_wp2_with fail
  refine (H4.out _).mono ?_
  rintro e w6 ⟨rfl, rfl⟩
  cases b4
  · go_wp2
    all_goals
      go_ret
      refine ⟨ret_bool ?_, B1.out⟩
      first | rfl | (simp; done) | simp []
  have Ec13 := E1.out.get 13 (.int .i64 s) rfl
  go_wp2
  all_goals
    go_ret
    refine ⟨ret_bool ?_, B1.out⟩
    first | rfl | (simp; done) | simp []
set_option maxRecDepth 100000 in
set_option maxHeartbeats 3200000 in
theorem tdue_any (i : Inv) (w : World) :
    Calls Try.prog 74 #[invV i] w fun q w' => q = .returned (.bool (mayIn i)) ∧ Below w.heap.size w w' := by
  obtain ⟨k, vm, sp, pg⟩ := i
  unfold invV invC mayIn
  simp only
  have H0 := Lib.hid (fun W => tup_any vm 15 W)
  have H1 := Lib.hid (fun W => tup_any sp 15 W)
  have H2 := Lib.hid (fun W => tup_any pg 4095 W)
  generalize numB vm 15 = b0 at *
  generalize numB sp 15 = b1 at *
  generalize numB pg 4095 = b2 at *
  have htw : w.heap.size ≤ w.heap.size := Nat.le_refl _
  have B0 := Lib.hid (Below.refl w.heap.size w)
  go_enter Try.func74, Try.ntmps74
  go_upto_region 1 with fail
  have E1 := Lib.hid ((BoxAt.newAt (w) #[.int .i64 k, .int .i64 vm, .int .i64 sp, .int .i64 pg] 95 (w.heap.size) (by first | omega | (simp; done) | (simp; omega))))
  have B1 := Lib.hid ((bel_alloc B0.out (.cells #[.int .i64 k, .int .i64 vm, .int .i64 sp, .int .i64 pg] 95)))
  obtain ⟨g1, hg1⟩ : ∃ g1, g1 = w.heap.size := ⟨_, rfl⟩
  obtain ⟨W1, hW1⟩ : ∃ W1, W1 = (w).alloc (.cells #[.int .i64 k, .int .i64 vm, .int .i64 sp, .int .i64 pg] 95) := ⟨_, rfl⟩
  have hs1 : g1 + 1 ≤ W1.heap.size := by rw [hW1, hg1]; simp
  rw [← hW1] at E1 B1 ⊢
  have hb1 : w.heap.size ≤ g1 := by omega
  rw [← hg1] at E1 ⊢
  clear hg1
  clear hW1 B0
  have Ec0 := E1.out.get 0 (.int .i64 k) rfl
  cases hgeqk : decide (1 ≤ k)
  · go_wp2
    all_goals
      go_ret
      refine ⟨ret_bool ?_, B1.out⟩
      first | rfl | (simp; done) | simp [hgeqk]
  cases hleqk : decide (k ≤ 6)
  · go_wp2
    all_goals
      go_ret
      refine ⟨ret_bool ?_, B1.out⟩
      first | rfl | (simp; done) | simp [hgeqk, hleqk]
  have Ec1 := E1.out.get 1 (.int .i64 vm) rfl
  go_wp2_with fail
  refine (H0.out _).mono ?_
  rintro e w2 ⟨rfl, rfl⟩
  cases b0
  · go_wp2
    all_goals
      go_ret
      refine ⟨ret_bool ?_, B1.out⟩
      first | rfl | (simp; done) | simp [hgeqk, hleqk]
  have Ec2 := E1.out.get 2 (.int .i64 sp) rfl
  go_wp2_with fail
  refine (H1.out _).mono ?_
  rintro e w3 ⟨rfl, rfl⟩
  cases b1
  · go_wp2
    all_goals
      go_ret
      refine ⟨ret_bool ?_, B1.out⟩
      first | rfl | (simp; done) | simp [hgeqk, hleqk]
  have Ec3 := E1.out.get 3 (.int .i64 pg) rfl
  go_wp2_with fail
  refine (H2.out _).mono ?_
  rintro e w4 ⟨rfl, rfl⟩
  cases b2
  · go_wp2
    all_goals
      go_ret
      refine ⟨ret_bool ?_, B1.out⟩
      first | rfl | (simp; done) | simp [hgeqk, hleqk]
  go_wp2
  all_goals
    go_ret
    refine ⟨ret_bool ?_, B1.out⟩
    first | rfl | (simp; done) | simp [hgeqk, hleqk]
/-- A place may be. -/
def mayPl (vm sp pg : Int) : Bool := numB vm 15 && (numB sp 15 && numB pg 4095)
set_option maxRecDepth 100000 in
set_option maxHeartbeats 3200000 in
theorem tplace_any (vm sp pg : Int) (w : World) :
    Calls Try.prog 83 #[.agg #[.int .i64 vm, .int .i64 sp, .int .i64 pg]] w fun q w' => q = .returned (.bool (mayPl vm sp pg)) ∧ Below w.heap.size w w' := by
  unfold mayPl
  have H0 := Lib.hid (fun W => tup_any vm 15 W)
  have H1 := Lib.hid (fun W => tup_any sp 15 W)
  have H2 := Lib.hid (fun W => tup_any pg 4095 W)
  generalize numB vm 15 = b0 at *
  generalize numB sp 15 = b1 at *
  generalize numB pg 4095 = b2 at *
  have htw : w.heap.size ≤ w.heap.size := Nat.le_refl _
  have B0 := Lib.hid (Below.refl w.heap.size w)
  go_enter Try.func83, Try.ntmps83
  go_upto_region 1 with fail
  have E1 := Lib.hid ((BoxAt.newAt (w) #[.int .i64 vm, .int .i64 sp, .int .i64 pg] 100 (w.heap.size) (by first | omega | (simp; done) | (simp; omega))))
  have B1 := Lib.hid ((bel_alloc B0.out (.cells #[.int .i64 vm, .int .i64 sp, .int .i64 pg] 100)))
  obtain ⟨g1, hg1⟩ : ∃ g1, g1 = w.heap.size := ⟨_, rfl⟩
  obtain ⟨W1, hW1⟩ : ∃ W1, W1 = (w).alloc (.cells #[.int .i64 vm, .int .i64 sp, .int .i64 pg] 100) := ⟨_, rfl⟩
  have hs1 : g1 + 1 ≤ W1.heap.size := by rw [hW1, hg1]; simp
  rw [← hW1] at E1 B1 ⊢
  have hb1 : w.heap.size ≤ g1 := by omega
  rw [← hg1] at E1 ⊢
  clear hg1
  clear hW1 B0
  have Ec0 := E1.out.get 0 (.int .i64 vm) rfl
  go_wp2_with fail
  refine (H0.out _).mono ?_
  rintro e w2 ⟨rfl, rfl⟩
  cases b0
  · go_wp2
    all_goals
      go_ret
      refine ⟨ret_bool ?_, B1.out⟩
      first | rfl | (simp; done) | simp []
  have Ec1 := E1.out.get 1 (.int .i64 sp) rfl
  go_wp2_with fail
  refine (H1.out _).mono ?_
  rintro e w3 ⟨rfl, rfl⟩
  cases b1
  · go_wp2
    all_goals
      go_ret
      refine ⟨ret_bool ?_, B1.out⟩
      first | rfl | (simp; done) | simp []
  have Ec2 := E1.out.get 2 (.int .i64 pg) rfl
  go_wp2_with fail
  refine (H2.out _).mono ?_
  rintro e w4 ⟨rfl, rfl⟩
  cases b2
  · go_wp2
    all_goals
      go_ret
      refine ⟨ret_bool ?_, B1.out⟩
      first | rfl | (simp; done) | simp []
  go_wp2
  all_goals
    go_ret
    refine ⟨ret_bool ?_, B1.out⟩
    first | rfl | (simp; done) | simp []
set_option maxRecDepth 100000 in
set_option maxHeartbeats 3200000 in
theorem tmid_any (e : Ety) (w : World) :
    Calls Try.prog 81 #[entV e] w fun q w' => q = .returned (.bool (!e.t.n && eqE e ⟨2, e.vm, 0, true, e.pg, 0, e.fr, 0, e.t⟩)) ∧ Below w.heap.size w w' := by
  obtain ⟨k, vm, sp, al, pg, lv, fr, mi, ⟨r, wr, x, a, n, s⟩⟩ := e
  unfold entV entC
  simp only
  obtain ⟨c, hc0⟩ : ∃ c, c = eqE ⟨k, vm, sp, al, pg, lv, fr, mi, ⟨r, wr, x, a, n, s⟩⟩ ⟨2, vm, 0, true, pg, 0, fr, 0, ⟨r, wr, x, a, n, s⟩⟩ := ⟨_, rfl⟩
  rw [← hc0]
  have hc := hc0.symm
  clear hc0
  have htw : w.heap.size ≤ w.heap.size := Nat.le_refl _
  have B0 := Lib.hid (Below.refl w.heap.size w)
  go_enter Try.func81, Try.ntmps81
  go_upto_region 1 with fail
  have E1 := Lib.hid ((BoxAt.newAt (w) #[.int .i64 k, .int .i64 vm, .int .i64 sp, .bool al, .int .i64 pg, .int .i64 lv, .int .i64 fr, .int .i64 mi, .bool r, .bool wr, .bool x, .bool a, .bool n, .int .i64 s] 93 (w.heap.size) (by first | omega | (simp; done) | (simp; omega))))
  have B1 := Lib.hid ((bel_alloc B0.out (.cells #[.int .i64 k, .int .i64 vm, .int .i64 sp, .bool al, .int .i64 pg, .int .i64 lv, .int .i64 fr, .int .i64 mi, .bool r, .bool wr, .bool x, .bool a, .bool n, .int .i64 s] 93)))
  obtain ⟨g1, hg1⟩ : ∃ g1, g1 = w.heap.size := ⟨_, rfl⟩
  obtain ⟨W1, hW1⟩ : ∃ W1, W1 = (w).alloc (.cells #[.int .i64 k, .int .i64 vm, .int .i64 sp, .bool al, .int .i64 pg, .int .i64 lv, .int .i64 fr, .int .i64 mi, .bool r, .bool wr, .bool x, .bool a, .bool n, .int .i64 s] 93) := ⟨_, rfl⟩
  have hs1 : g1 + 1 ≤ W1.heap.size := by rw [hW1, hg1]; simp
  rw [← hW1] at E1 B1 ⊢
  have hb1 : w.heap.size ≤ g1 := by omega
  rw [← hg1] at E1 ⊢
  clear hg1
  clear hW1 B0
  have Ec12 := E1.out.get 12 (.bool n) rfl
  cases n
  · have Ec0 := E1.out.get 0 (.int .i64 k) rfl
    have Ec1 := E1.out.get 1 (.int .i64 vm) rfl
    have Ec2 := E1.out.get 2 (.int .i64 sp) rfl
    have Ec3 := E1.out.get 3 (.bool al) rfl
    have Ec4 := E1.out.get 4 (.int .i64 pg) rfl
    have Ec5 := E1.out.get 5 (.int .i64 lv) rfl
    have Ec6 := E1.out.get 6 (.int .i64 fr) rfl
    have Ec7 := E1.out.get 7 (.int .i64 mi) rfl
    have Ec8 := E1.out.get 8 (.bool r) rfl
    have Ec9 := E1.out.get 9 (.bool wr) rfl
    have Ec10 := E1.out.get 10 (.bool x) rfl
    have Ec11 := E1.out.get 11 (.bool a) rfl
    have Ec13 := E1.out.get 13 (.int .i64 s) rfl
    go_wp2
    all_goals
      go_ret
      exact ⟨ret_bool (by first | rfl | (simp; done)), B1.out⟩
  go_wp2
  all_goals
    go_ret
    exact ⟨ret_bool (by first | rfl | (simp; done)), B1.out⟩
set_option maxRecDepth 100000 in
set_option maxHeartbeats 3200000 in
theorem twalk_any (e : Ety) (hp : 0 ≤ e.pg ∧ e.pg ≤ 4095) (w : World) :
    Calls Try.prog 82 #[entV e] w fun q w' => q = .returned (.bool (decide (1 ≤ e.lv) && (decide (e.lv ≤ 3) && eqE e ⟨3, e.vm, e.sp, e.al, foE e e.pg, e.lv, e.fr, 0, atr0⟩))) ∧ Below w.heap.size w w' := by
  have HF := Lib.hid (fun W h => tfo_any e e.pg W h hp)
  clear hp
  obtain ⟨k, vm, sp, al, pg, lv, fr, mi, ⟨r, wr, x, a, n, s⟩⟩ := e
  unfold entV entC atr0 at *
  simp only at *
  generalize foE ⟨k, vm, sp, al, pg, lv, fr, mi, ⟨r, wr, x, a, n, s⟩⟩ pg = ab at *
  obtain ⟨c, hc0⟩ : ∃ c, c = eqE ⟨k, vm, sp, al, pg, lv, fr, mi, ⟨r, wr, x, a, n, s⟩⟩ ⟨3, vm, sp, al, ab, lv, fr, 0, ⟨false, false, false, false, false, 0⟩⟩ := ⟨_, rfl⟩
  rw [← hc0]
  have hc := hc0.symm
  clear hc0
  have htw : w.heap.size ≤ w.heap.size := Nat.le_refl _
  have B0 := Lib.hid (Below.refl w.heap.size w)
  go_enter Try.func82, Try.ntmps82
  cases q1 : decide (1 ≤ lv)
  · have q1h := Lib.hid q1
    go_upto_region 1 with fail
    have E1 := Lib.hid ((BoxAt.newAt (w) #[.int .i64 k, .int .i64 vm, .int .i64 sp, .bool al, .int .i64 pg, .int .i64 lv, .int .i64 fr, .int .i64 mi, .bool r, .bool wr, .bool x, .bool a, .bool n, .int .i64 s] 93 (w.heap.size) (by first | omega | (simp; done) | (simp; omega))))
    have B1 := Lib.hid ((bel_alloc B0.out (.cells #[.int .i64 k, .int .i64 vm, .int .i64 sp, .bool al, .int .i64 pg, .int .i64 lv, .int .i64 fr, .int .i64 mi, .bool r, .bool wr, .bool x, .bool a, .bool n, .int .i64 s] 93)))
    obtain ⟨g1, hg1⟩ : ∃ g1, g1 = w.heap.size := ⟨_, rfl⟩
    obtain ⟨W1, hW1⟩ : ∃ W1, W1 = (w).alloc (.cells #[.int .i64 k, .int .i64 vm, .int .i64 sp, .bool al, .int .i64 pg, .int .i64 lv, .int .i64 fr, .int .i64 mi, .bool r, .bool wr, .bool x, .bool a, .bool n, .int .i64 s] 93) := ⟨_, rfl⟩
    have hs1 : g1 + 1 ≤ W1.heap.size := by rw [hW1, hg1]; simp
    rw [← hW1] at E1 B1 ⊢
    have hb1 : w.heap.size ≤ g1 := by omega
    rw [← hg1] at E1 ⊢
    clear hg1
    clear hW1 B0
    refine wp_region_held_drew (S := (fun w' => BoxAt w' (g1) #[.int .i64 k, .int .i64 vm, .int .i64 sp, .bool al, .int .i64 pg, .int .i64 lv, .int .i64 fr, .int .i64 mi, .bool r, .bool wr, .bool x, .bool a, .bool n, .int .i64 s] 93)) (by kernel_rfl) (E1.out.drew) (fun hS => ?_)
    refine tkR 0 3 (v := .pointer (some ⟨g1, 0, none⟩)) rfl hS (fun _ _ => by kernel_rfl) ?_
    refine tkR 1 4 (v := .pointer (some ⟨g1, 5, none⟩)) rfl hS (fun _ _ => by kernel_rfl) ?_
    refine tkR 2 5 (v := .int .i64 lv) rfl hS (fun _ h => run_ld1 3 (.tmp 4) g1 5 (by kernel_rfl) (by kernel_rfl) Try.underlying3 rfl ((h).get 5 (.int .i64 lv) rfl)) ?_
    try simp only [Act.put, List.setIfInBounds_toArray, List.set_cons_zero, List.set_cons_succ]
    refine tkR 3 6 rfl hS (fun w' _ => by go_simp; try with_reducible rfl) ?_
    simp only [pA, pB, pC]
    refine tkR 4 7 (v := .bool false) rfl hS (fun _ _ => by kernel_rfl) ?_
    refine tkU 5 8 rfl hS ?_
    simp only [pA, pB, pC]
    refine tkU 6 9 rfl hS ?_
    simp only [pA, pB, pC]
    refine tkU 7 10 rfl hS ?_
    simp only [pA, pB, pC]
    refine tkU 8 11 rfl hS ?_
    simp only [pA, pB, pC]
    try simp only [Act.put, List.setIfInBounds_toArray, List.set_cons_zero, List.set_cons_succ]
    refine tkR 9 12 rfl hS (fun w' _ => by go_simp; try with_reducible rfl) ?_
    simp only [pA, pB, pC]
    refine tkR 10 13 (v := .bool false) rfl hS (fun _ _ => by kernel_rfl) ?_
    refine tkU 11 14 rfl hS ?_
    simp only [pA, pB, pC]
    refine tkU 12 15 rfl hS ?_
    simp only [pA, pB, pC]
    refine tkU 13 16 rfl hS ?_
    simp only [pA, pB, pC]
    refine tkU 14 17 rfl hS ?_
    simp only [pA, pB, pC]
    refine tkU 15 18 rfl hS ?_
    simp only [pA, pB, pC]
    refine tkU 16 19 rfl hS ?_
    simp only [pA, pB, pC]
    refine tkU 17 20 rfl hS ?_
    simp only [pA, pB, pC]
    refine tkU 18 21 rfl hS ?_
    simp only [pA, pB, pC]
    refine tkU 19 22 rfl hS ?_
    simp only [pA, pB, pC]
    refine tkU 20 23 rfl hS ?_
    simp only [pA, pB, pC]
    refine tkU 21 24 rfl hS ?_
    simp only [pA, pB, pC]
    refine tkU 22 25 rfl hS ?_
    simp only [pA, pB, pC]
    refine tkU 23 26 rfl hS ?_
    simp only [pA, pB, pC]
    refine tkU 24 27 rfl hS ?_
    simp only [pA, pB, pC]
    refine tkU 25 28 rfl hS ?_
    simp only [pA, pB, pC]
    refine tkU 26 29 rfl hS ?_
    simp only [pA, pB, pC]
    refine tkU 27 30 rfl hS ?_
    simp only [pA, pB, pC]
    refine tkU 28 31 rfl hS ?_
    simp only [pA, pB, pC]
    refine tkU 29 32 rfl hS ?_
    simp only [pA, pB, pC]
    refine tkU 30 33 rfl hS ?_
    simp only [pA, pB, pC]
    refine tkU 31 34 rfl hS ?_
    simp only [pA, pB, pC]
    refine tkU 32 35 rfl hS ?_
    simp only [pA, pB, pC]
    refine tkU 33 36 rfl hS ?_
    simp only [pA, pB, pC]
    refine tkU 34 37 rfl hS ?_
    simp only [pA, pB, pC]
    try simp only [Act.put, List.setIfInBounds_toArray, List.set_cons_zero, List.set_cons_succ]
    refine tkR 35 38 rfl hS (fun w' _ => by go_simp; try with_reducible rfl) ?_
    simp only [pA, pB, pC]
    refine tkR 36 2 (v := .bool false) rfl hS (fun _ _ => by kernel_rfl) ?_
    refine wpAnyH_done (by kernel_rfl) ?_ _
    try simp only [Act.put, List.setIfInBounds_toArray, List.set_cons_zero, List.set_cons_succ]
    have E2 := Lib.hid ((E1.out.drew))
    have B2 := Lib.hid ((Below.drew B1.out))
    obtain ⟨W2, hW2⟩ : ∃ W2, W2 = (W1).drew := ⟨_, rfl⟩
    have hs2 : g1 + 1 ≤ W2.heap.size := by rw [hW2]; first | exact hs1 | omega | (simp; omega)
    rw [← hW2] at E2 B2 ⊢
    clear hW2 E1 B1 hs1
    go_wp2
    all_goals
      go_ret
      exact ⟨ret_bool (by first | rfl | (simp; done) | simp [q1h.out]), B2.out⟩
  have q1h := Lib.hid q1
  cases q3 : decide (lv ≤ 3)
  · have q3h := Lib.hid q3
    go_upto_region 1 with fail
    have E1 := Lib.hid ((BoxAt.newAt (w) #[.int .i64 k, .int .i64 vm, .int .i64 sp, .bool al, .int .i64 pg, .int .i64 lv, .int .i64 fr, .int .i64 mi, .bool r, .bool wr, .bool x, .bool a, .bool n, .int .i64 s] 93 (w.heap.size) (by first | omega | (simp; done) | (simp; omega))))
    have B1 := Lib.hid ((bel_alloc B0.out (.cells #[.int .i64 k, .int .i64 vm, .int .i64 sp, .bool al, .int .i64 pg, .int .i64 lv, .int .i64 fr, .int .i64 mi, .bool r, .bool wr, .bool x, .bool a, .bool n, .int .i64 s] 93)))
    obtain ⟨g1, hg1⟩ : ∃ g1, g1 = w.heap.size := ⟨_, rfl⟩
    obtain ⟨W1, hW1⟩ : ∃ W1, W1 = (w).alloc (.cells #[.int .i64 k, .int .i64 vm, .int .i64 sp, .bool al, .int .i64 pg, .int .i64 lv, .int .i64 fr, .int .i64 mi, .bool r, .bool wr, .bool x, .bool a, .bool n, .int .i64 s] 93) := ⟨_, rfl⟩
    have hs1 : g1 + 1 ≤ W1.heap.size := by rw [hW1, hg1]; simp
    rw [← hW1] at E1 B1 ⊢
    have hb1 : w.heap.size ≤ g1 := by omega
    rw [← hg1] at E1 ⊢
    clear hg1
    clear hW1 B0
    refine wp_region_held_drew (S := (fun w' => BoxAt w' (g1) #[.int .i64 k, .int .i64 vm, .int .i64 sp, .bool al, .int .i64 pg, .int .i64 lv, .int .i64 fr, .int .i64 mi, .bool r, .bool wr, .bool x, .bool a, .bool n, .int .i64 s] 93)) (by kernel_rfl) (E1.out.drew) (fun hS => ?_)
    refine tkR 0 3 (v := .pointer (some ⟨g1, 0, none⟩)) rfl hS (fun _ _ => by kernel_rfl) ?_
    refine tkR 1 4 (v := .pointer (some ⟨g1, 5, none⟩)) rfl hS (fun _ _ => by kernel_rfl) ?_
    refine tkR 2 5 (v := .int .i64 lv) rfl hS (fun _ h => run_ld1 3 (.tmp 4) g1 5 (by kernel_rfl) (by kernel_rfl) Try.underlying3 rfl ((h).get 5 (.int .i64 lv) rfl)) ?_
    try simp only [Act.put, List.setIfInBounds_toArray, List.set_cons_zero, List.set_cons_succ]
    refine tkR 3 6 rfl hS (fun w' _ => by go_simp; try with_reducible rfl) ?_
    simp only [pA, pB, pC]
    refine tkR 4 7 (v := .bool true) rfl hS (fun _ _ => by kernel_rfl) ?_
    try simp only [Act.put, List.setIfInBounds_toArray, List.set_cons_zero, List.set_cons_succ]
    refine tkR 5 8 rfl hS (fun w' _ => by go_simp; try with_reducible rfl) ?_
    simp only [pA, pB, pC]
    try simp only [Act.put, List.setIfInBounds_toArray, List.set_cons_zero, List.set_cons_succ]
    refine tkR 6 9 rfl hS (fun w' _ => by go_simp; try with_reducible rfl) ?_
    simp only [pA, pB, pC]
    try simp only [Act.put, List.setIfInBounds_toArray, List.set_cons_zero, List.set_cons_succ]
    refine tkR 7 10 rfl hS (fun w' hSw => by have c0_5 := (hSw).get 5 (.int .i64 lv) rfl; clear hSw; go_simp; try with_reducible rfl) ?_
    simp only [pA, pB, pC]
    try simp only [Act.put, List.setIfInBounds_toArray, List.set_cons_zero, List.set_cons_succ]
    refine tkR 8 11 rfl hS (fun w' _ => by go_simp; try with_reducible rfl) ?_
    simp only [pA, pB, pC]
    try simp only [Act.put, List.setIfInBounds_toArray, List.set_cons_zero, List.set_cons_succ]
    refine tkR 9 12 rfl hS (fun w' _ => by go_simp; try with_reducible rfl) ?_
    simp only [pA, pB, pC]
    refine tkR 10 13 (v := .bool false) rfl hS (fun _ _ => by kernel_rfl) ?_
    refine tkU 11 14 rfl hS ?_
    simp only [pA, pB, pC]
    refine tkU 12 15 rfl hS ?_
    simp only [pA, pB, pC]
    refine tkU 13 16 rfl hS ?_
    simp only [pA, pB, pC]
    refine tkU 14 17 rfl hS ?_
    simp only [pA, pB, pC]
    refine tkU 15 18 rfl hS ?_
    simp only [pA, pB, pC]
    refine tkU 16 19 rfl hS ?_
    simp only [pA, pB, pC]
    refine tkU 17 20 rfl hS ?_
    simp only [pA, pB, pC]
    refine tkU 18 21 rfl hS ?_
    simp only [pA, pB, pC]
    refine tkU 19 22 rfl hS ?_
    simp only [pA, pB, pC]
    refine tkU 20 23 rfl hS ?_
    simp only [pA, pB, pC]
    refine tkU 21 24 rfl hS ?_
    simp only [pA, pB, pC]
    refine tkU 22 25 rfl hS ?_
    simp only [pA, pB, pC]
    refine tkU 23 26 rfl hS ?_
    simp only [pA, pB, pC]
    refine tkU 24 27 rfl hS ?_
    simp only [pA, pB, pC]
    refine tkU 25 28 rfl hS ?_
    simp only [pA, pB, pC]
    refine tkU 26 29 rfl hS ?_
    simp only [pA, pB, pC]
    refine tkU 27 30 rfl hS ?_
    simp only [pA, pB, pC]
    refine tkU 28 31 rfl hS ?_
    simp only [pA, pB, pC]
    refine tkU 29 32 rfl hS ?_
    simp only [pA, pB, pC]
    refine tkU 30 33 rfl hS ?_
    simp only [pA, pB, pC]
    refine tkU 31 34 rfl hS ?_
    simp only [pA, pB, pC]
    refine tkU 32 35 rfl hS ?_
    simp only [pA, pB, pC]
    refine tkU 33 36 rfl hS ?_
    simp only [pA, pB, pC]
    refine tkU 34 37 rfl hS ?_
    simp only [pA, pB, pC]
    try simp only [Act.put, List.setIfInBounds_toArray, List.set_cons_zero, List.set_cons_succ]
    refine tkR 35 38 rfl hS (fun w' _ => by go_simp; try with_reducible rfl) ?_
    simp only [pA, pB, pC]
    refine tkR 36 2 (v := .bool false) rfl hS (fun _ _ => by kernel_rfl) ?_
    refine wpAnyH_done (by kernel_rfl) ?_ _
    try simp only [Act.put, List.setIfInBounds_toArray, List.set_cons_zero, List.set_cons_succ]
    have E2 := Lib.hid ((E1.out.drew))
    have B2 := Lib.hid ((Below.drew B1.out))
    obtain ⟨W2, hW2⟩ : ∃ W2, W2 = (W1).drew := ⟨_, rfl⟩
    have hs2 : g1 + 1 ≤ W2.heap.size := by rw [hW2]; first | exact hs1 | omega | (simp; omega)
    rw [← hW2] at E2 B2 ⊢
    clear hW2 E1 B1 hs1
    go_wp2
    all_goals
      go_ret
      exact ⟨ret_bool (by first | rfl | (simp; done) | simp [q1h.out, q3h.out]), B2.out⟩
  have q3h := Lib.hid q3
  go_upto_region 1 with fail
  have E1 := Lib.hid ((BoxAt.newAt (w) #[.int .i64 k, .int .i64 vm, .int .i64 sp, .bool al, .int .i64 pg, .int .i64 lv, .int .i64 fr, .int .i64 mi, .bool r, .bool wr, .bool x, .bool a, .bool n, .int .i64 s] 93 (w.heap.size) (by first | omega | (simp; done) | (simp; omega))))
  have B1 := Lib.hid ((bel_alloc B0.out (.cells #[.int .i64 k, .int .i64 vm, .int .i64 sp, .bool al, .int .i64 pg, .int .i64 lv, .int .i64 fr, .int .i64 mi, .bool r, .bool wr, .bool x, .bool a, .bool n, .int .i64 s] 93)))
  obtain ⟨g1, hg1⟩ : ∃ g1, g1 = w.heap.size := ⟨_, rfl⟩
  obtain ⟨W1, hW1⟩ : ∃ W1, W1 = (w).alloc (.cells #[.int .i64 k, .int .i64 vm, .int .i64 sp, .bool al, .int .i64 pg, .int .i64 lv, .int .i64 fr, .int .i64 mi, .bool r, .bool wr, .bool x, .bool a, .bool n, .int .i64 s] 93) := ⟨_, rfl⟩
  have hs1 : g1 + 1 ≤ W1.heap.size := by rw [hW1, hg1]; simp
  rw [← hW1] at E1 B1 ⊢
  have hb1 : w.heap.size ≤ g1 := by omega
  rw [← hg1] at E1 ⊢
  clear hg1
  clear hW1 B0
  refine wp_region_held_drew (S := (fun w' => BoxAt w' (g1) #[.int .i64 k, .int .i64 vm, .int .i64 sp, .bool al, .int .i64 pg, .int .i64 lv, .int .i64 fr, .int .i64 mi, .bool r, .bool wr, .bool x, .bool a, .bool n, .int .i64 s] 93)) (by kernel_rfl) (E1.out.drew) (fun hS => ?_)
  refine tkR 0 3 (v := .pointer (some ⟨g1, 0, none⟩)) rfl hS (fun _ _ => by kernel_rfl) ?_
  refine tkR 1 4 (v := .pointer (some ⟨g1, 5, none⟩)) rfl hS (fun _ _ => by kernel_rfl) ?_
  refine tkR 2 5 (v := .int .i64 lv) rfl hS (fun _ h => run_ld1 3 (.tmp 4) g1 5 (by kernel_rfl) (by kernel_rfl) Try.underlying3 rfl ((h).get 5 (.int .i64 lv) rfl)) ?_
  try simp only [Act.put, List.setIfInBounds_toArray, List.set_cons_zero, List.set_cons_succ]
  refine tkR 3 6 rfl hS (fun w' _ => by go_simp; try with_reducible rfl) ?_
  simp only [pA, pB, pC]
  refine tkR 4 7 (v := .bool true) rfl hS (fun _ _ => by kernel_rfl) ?_
  try simp only [Act.put, List.setIfInBounds_toArray, List.set_cons_zero, List.set_cons_succ]
  refine tkR 5 8 rfl hS (fun w' _ => by go_simp; try with_reducible rfl) ?_
  simp only [pA, pB, pC]
  try simp only [Act.put, List.setIfInBounds_toArray, List.set_cons_zero, List.set_cons_succ]
  refine tkR 6 9 rfl hS (fun w' _ => by go_simp; try with_reducible rfl) ?_
  simp only [pA, pB, pC]
  try simp only [Act.put, List.setIfInBounds_toArray, List.set_cons_zero, List.set_cons_succ]
  refine tkR 7 10 rfl hS (fun w' hSw => by have c0_5 := (hSw).get 5 (.int .i64 lv) rfl; clear hSw; go_simp; try with_reducible rfl) ?_
  simp only [pA, pB, pC]
  try simp only [Act.put, List.setIfInBounds_toArray, List.set_cons_zero, List.set_cons_succ]
  refine tkR 8 11 rfl hS (fun w' _ => by go_simp; try with_reducible rfl) ?_
  simp only [pA, pB, pC]
  try simp only [Act.put, List.setIfInBounds_toArray, List.set_cons_zero, List.set_cons_succ]
  refine tkR 9 12 rfl hS (fun w' _ => by go_simp; try with_reducible rfl) ?_
  simp only [pA, pB, pC]
  refine tkR 10 13 (v := .bool true) rfl hS (fun _ _ => by kernel_rfl) ?_
  try simp only [Act.put, List.setIfInBounds_toArray, List.set_cons_zero, List.set_cons_succ]
  refine tkR 11 14 rfl hS (fun w' _ => by go_simp; try with_reducible rfl) ?_
  simp only [pA, pB, pC]
  try simp only [Act.put, List.setIfInBounds_toArray, List.set_cons_zero, List.set_cons_succ]
  refine tkR 12 15 rfl hS (fun w' hSw => by have c0_0 := (hSw).get 0 (.int .i64 k) rfl; have c0_1 := (hSw).get 1 (.int .i64 vm) rfl; have c0_2 := (hSw).get 2 (.int .i64 sp) rfl; have c0_3 := (hSw).get 3 (.bool al) rfl; have c0_4 := (hSw).get 4 (.int .i64 pg) rfl; have c0_5 := (hSw).get 5 (.int .i64 lv) rfl; have c0_6 := (hSw).get 6 (.int .i64 fr) rfl; have c0_7 := (hSw).get 7 (.int .i64 mi) rfl; have c0_8 := (hSw).get 8 (.bool r) rfl; have c0_9 := (hSw).get 9 (.bool wr) rfl; have c0_10 := (hSw).get 10 (.bool x) rfl; have c0_11 := (hSw).get 11 (.bool a) rfl; have c0_12 := (hSw).get 12 (.bool n) rfl; have c0_13 := (hSw).get 13 (.int .i64 s) rfl; clear hSw; go_simp; try with_reducible rfl) ?_
  simp only [pA, pB, pC]
  try simp only [Act.put, List.setIfInBounds_toArray, List.set_cons_zero, List.set_cons_succ]
  refine tkR 13 16 rfl hS (fun w' _ => by go_simp; try with_reducible rfl) ?_
  simp only [pA, pB, pC]
  try simp only [Act.put, List.setIfInBounds_toArray, List.set_cons_zero, List.set_cons_succ]
  refine tkR 14 17 rfl hS (fun w' _ => by go_simp; try with_reducible rfl) ?_
  simp only [pA, pB, pC]
  try simp only [Act.put, List.setIfInBounds_toArray, List.set_cons_zero, List.set_cons_succ]
  refine tkR 15 18 rfl hS (fun w' hSw => by have c0_1 := (hSw).get 1 (.int .i64 vm) rfl; clear hSw; go_simp; try with_reducible rfl) ?_
  simp only [pA, pB, pC]
  try simp only [Act.put, List.setIfInBounds_toArray, List.set_cons_zero, List.set_cons_succ]
  refine tkR 16 19 rfl hS (fun w' _ => by go_simp; try with_reducible rfl) ?_
  simp only [pA, pB, pC]
  try simp only [Act.put, List.setIfInBounds_toArray, List.set_cons_zero, List.set_cons_succ]
  refine tkR 17 20 rfl hS (fun w' _ => by go_simp; try with_reducible rfl) ?_
  simp only [pA, pB, pC]
  try simp only [Act.put, List.setIfInBounds_toArray, List.set_cons_zero, List.set_cons_succ]
  refine tkR 18 21 rfl hS (fun w' hSw => by have c0_2 := (hSw).get 2 (.int .i64 sp) rfl; clear hSw; go_simp; try with_reducible rfl) ?_
  simp only [pA, pB, pC]
  try simp only [Act.put, List.setIfInBounds_toArray, List.set_cons_zero, List.set_cons_succ]
  refine tkR 19 22 rfl hS (fun w' _ => by go_simp; try with_reducible rfl) ?_
  simp only [pA, pB, pC]
  try simp only [Act.put, List.setIfInBounds_toArray, List.set_cons_zero, List.set_cons_succ]
  refine tkR 20 23 rfl hS (fun w' _ => by go_simp; try with_reducible rfl) ?_
  simp only [pA, pB, pC]
  try simp only [Act.put, List.setIfInBounds_toArray, List.set_cons_zero, List.set_cons_succ]
  refine tkR 21 24 rfl hS (fun w' hSw => by have c0_3 := (hSw).get 3 (.bool al) rfl; clear hSw; go_simp; try with_reducible rfl) ?_
  simp only [pA, pB, pC]
  try simp only [Act.put, List.setIfInBounds_toArray, List.set_cons_zero, List.set_cons_succ]
  refine tkR 22 25 rfl hS (fun w' hSw => by have c0_0 := (hSw).get 0 (.int .i64 k) rfl; have c0_1 := (hSw).get 1 (.int .i64 vm) rfl; have c0_2 := (hSw).get 2 (.int .i64 sp) rfl; have c0_3 := (hSw).get 3 (.bool al) rfl; have c0_4 := (hSw).get 4 (.int .i64 pg) rfl; have c0_5 := (hSw).get 5 (.int .i64 lv) rfl; have c0_6 := (hSw).get 6 (.int .i64 fr) rfl; have c0_7 := (hSw).get 7 (.int .i64 mi) rfl; have c0_8 := (hSw).get 8 (.bool r) rfl; have c0_9 := (hSw).get 9 (.bool wr) rfl; have c0_10 := (hSw).get 10 (.bool x) rfl; have c0_11 := (hSw).get 11 (.bool a) rfl; have c0_12 := (hSw).get 12 (.bool n) rfl; have c0_13 := (hSw).get 13 (.int .i64 s) rfl; clear hSw; go_simp; try with_reducible rfl) ?_
  simp only [pA, pB, pC]
  try simp only [Act.put, List.setIfInBounds_toArray, List.set_cons_zero, List.set_cons_succ]
  refine tkR 23 26 rfl hS (fun w' _ => by go_simp; try with_reducible rfl) ?_
  simp only [pA, pB, pC]
  try simp only [Act.put, List.setIfInBounds_toArray, List.set_cons_zero, List.set_cons_succ]
  refine tkR 24 27 rfl hS (fun w' _ => by go_simp; try with_reducible rfl) ?_
  simp only [pA, pB, pC]
  try simp only [Act.put, List.setIfInBounds_toArray, List.set_cons_zero, List.set_cons_succ]
  refine tkR 25 28 rfl hS (fun w' hSw => by have c0_4 := (hSw).get 4 (.int .i64 pg) rfl; clear hSw; go_simp; try with_reducible rfl) ?_
  simp only [pA, pB, pC]
  try simp only [Act.put, List.setIfInBounds_toArray, List.set_cons_zero, List.set_cons_succ]
  refine tkR 27 30 rfl hS (fun w' _ => by go_simp; try with_reducible rfl) ?_
  simp only [pA, pB, pC]
  try simp only [Act.put, List.setIfInBounds_toArray, List.set_cons_zero, List.set_cons_succ]
  refine tkR 28 31 rfl hS (fun w' _ => by go_simp; try with_reducible rfl) ?_
  simp only [pA, pB, pC]
  try simp only [Act.put, List.setIfInBounds_toArray, List.set_cons_zero, List.set_cons_succ]
  refine tkR 29 32 rfl hS (fun w' hSw => by have c0_5 := (hSw).get 5 (.int .i64 lv) rfl; clear hSw; go_simp; try with_reducible rfl) ?_
  simp only [pA, pB, pC]
  try simp only [Act.put, List.setIfInBounds_toArray, List.set_cons_zero, List.set_cons_succ]
  refine tkR 30 33 rfl hS (fun w' _ => by go_simp; try with_reducible rfl) ?_
  simp only [pA, pB, pC]
  try simp only [Act.put, List.setIfInBounds_toArray, List.set_cons_zero, List.set_cons_succ]
  refine tkR 31 34 rfl hS (fun w' _ => by go_simp; try with_reducible rfl) ?_
  simp only [pA, pB, pC]
  try simp only [Act.put, List.setIfInBounds_toArray, List.set_cons_zero, List.set_cons_succ]
  refine tkR 32 35 rfl hS (fun w' hSw => by have c0_6 := (hSw).get 6 (.int .i64 fr) rfl; clear hSw; go_simp; try with_reducible rfl) ?_
  simp only [pA, pB, pC]
  try simp only [Act.put, List.setIfInBounds_toArray, List.set_cons_zero, List.set_cons_succ]
  refine wpAnyH_ready (rs := [26]) (by kernel_rfl) (by simp) ?_
  refine AllReadyH.cons (o := ⟨some 29, _, _, _, _, _⟩) rfl (fun K hK => ?_) AllReadyH.nil
  go_simp
  refine (HF.out _ (fun _ => ⟨of_decide_eq_true q1h.out, of_decide_eq_true q3h.out⟩)).mono ?_
  rintro e w2 ⟨rfl, hb2⟩
  have hz2 := hb2.size
  try simp at hz2
  refine hK.out _ _ ?_ (fun hS' => ?_)
  · exact (hS.below hb2)
  clear hK K hS
  have hS := hS'
  clear hS'
  try simp only [Act.put, List.setIfInBounds_toArray, List.set_cons_zero, List.set_cons_succ]
  try simp only [Act.put, List.setIfInBounds_toArray, List.set_cons_zero, List.set_cons_succ]
  refine tkR 33 36 rfl hS (fun w' _ => by go_simp; try with_reducible rfl) ?_
  simp only [pA, pB, pC]
  try simp only [Act.put, List.setIfInBounds_toArray, List.set_cons_zero, List.set_cons_succ]
  refine tkR 34 37 rfl hS (fun w' _ => by go_simp; try with_reducible rfl) ?_
  simp only [pA, pB, pC]
  try simp only [Act.put, List.setIfInBounds_toArray, List.set_cons_zero, List.set_cons_succ]
  refine tkR 35 38 rfl hS (fun w' _ => by go_simp; try with_reducible rfl) ?_
  simp only [pA, pB, pC]
  refine tkR 36 2 (v := .bool c) rfl hS (fun _ _ => by kernel_rfl) ?_
  refine wpAnyH_done (by kernel_rfl) ?_ _
  try simp only [Act.put, List.setIfInBounds_toArray, List.set_cons_zero, List.set_cons_succ]
  have E3 := Lib.hid (((E1.out.drew).below hb2))
  have B3 := Lib.hid ((bel_trans (Below.drew B1.out) hb2))
  obtain ⟨W3, hW3⟩ : ∃ W3, W3 = w2 := ⟨_, rfl⟩
  have hs3 : g1 + 1 ≤ W3.heap.size := by rw [hW3]; first | exact hs1 | omega | (simp; omega)
  rw [← hW3] at E3 B3 ⊢
  clear hW3 E1 B1 hs1
  go_wp2
  all_goals
    go_ret
    exact ⟨ret_bool (by first | rfl | (simp; done) | simp [q1h.out, q3h.out]), B3.out⟩
theorem mid_kind (e : Ety) (h : e.k = 2) : (!e.t.n && eqE e ⟨2, e.vm, 0, true, e.pg, 0, e.fr, 0, e.t⟩) = (decide (e.sp = 0) && (e.al && (decide (e.lv = 0) && (decide (e.mi = 0) && !e.t.n)))) := by
  obtain ⟨k, vm, sp, al, pg, lv, fr, mi, t⟩ := e
  simp only at h ⊢
  subst h
  rw [Bool.eq_iff_iff]
  simp [eqE]
  constructor
  · rintro ⟨h1, h2, h3, h4, h5⟩
    exact ⟨h2, h3, h4, h5, h1⟩
  · rintro ⟨h2, h3, h4, h5, h1⟩
    exact ⟨h1, h2, h3, h4, h5⟩
theorem walk_kind (e : Ety) (h : e.k = 3) : eqE e ⟨3, e.vm, e.sp, e.al, foE e e.pg, e.lv, e.fr, 0, atr0⟩ = (decide (abvP e.lv e.pg = e.pg) && (decide (e.mi = 0) && eqA e.t atr0)) := by
  obtain ⟨k, vm, sp, al, pg, lv, fr, mi, t⟩ := e
  simp only at h ⊢
  subst h
  rw [Bool.eq_iff_iff]
  simp [eqE, eqA, foE]
  intro _ _
  exact eq_comm
theorem kind_two (e : Ety) : kindE e = (if e.k = 1 then decide (e.lv = 0) else if e.k = 2 then (!e.t.n && eqE e ⟨2, e.vm, 0, true, e.pg, 0, e.fr, 0, e.t⟩) else if e.k = 3 then (decide (1 ≤ e.lv) && (decide (e.lv ≤ 3) && eqE e ⟨3, e.vm, e.sp, e.al, foE e e.pg, e.lv, e.fr, 0, atr0⟩)) else false) := by
  unfold kindE
  split
  · rfl
  · split
    · rename_i h
      rw [mid_kind e h]
    · split
      · rename_i h
        rw [walk_kind e h]
      · rfl
set_option maxRecDepth 100000 in
set_option maxHeartbeats 3200000 in
theorem tkind_any (e : Ety) (h : numE e = true) (w : World) :
    Calls Try.prog 77 #[entV e] w fun q w' => q = .returned (.bool (kindE e)) ∧ Below w.heap.size w w' := by
  have HM := Lib.hid (fun W => tmid_any e W)
  have HW := Lib.hid (fun W => twalk_any e (numE_pg h) W)
  have hk := kind_two e
  clear h
  generalize kindE e = kk at *
  generalize (!e.t.n && eqE e ⟨2, e.vm, 0, true, e.pg, 0, e.fr, 0, e.t⟩) = m2 at *
  generalize (decide (1 ≤ e.lv) && (decide (e.lv ≤ 3) && eqE e ⟨3, e.vm, e.sp, e.al, foE e e.pg, e.lv, e.fr, 0, atr0⟩)) = m3 at *
  obtain ⟨k, vm, sp, al, pg, lv, fr, mi, ⟨r, wr, x, a, n, s⟩⟩ := e
  unfold entV entC at *
  simp only at *
  have hl0 : (lv == 0) = decide (lv = 0) := beq_int _ _
  generalize decide (lv = 0) = l0 at *
  have HK := Lib.hid hk
  clear hk
  have htw : w.heap.size ≤ w.heap.size := Nat.le_refl _
  have B0 := Lib.hid (Below.refl w.heap.size w)
  go_enter Try.func77, Try.ntmps77
  go_upto_region 1 with fail
  have E1 := Lib.hid ((BoxAt.newAt (w) #[.int .i64 k, .int .i64 vm, .int .i64 sp, .bool al, .int .i64 pg, .int .i64 lv, .int .i64 fr, .int .i64 mi, .bool r, .bool wr, .bool x, .bool a, .bool n, .int .i64 s] 93 (w.heap.size) (by first | omega | (simp; done) | (simp; omega))))
  have B1 := Lib.hid ((bel_alloc B0.out (.cells #[.int .i64 k, .int .i64 vm, .int .i64 sp, .bool al, .int .i64 pg, .int .i64 lv, .int .i64 fr, .int .i64 mi, .bool r, .bool wr, .bool x, .bool a, .bool n, .int .i64 s] 93)))
  obtain ⟨g1, hg1⟩ : ∃ g1, g1 = w.heap.size := ⟨_, rfl⟩
  obtain ⟨W1, hW1⟩ : ∃ W1, W1 = (w).alloc (.cells #[.int .i64 k, .int .i64 vm, .int .i64 sp, .bool al, .int .i64 pg, .int .i64 lv, .int .i64 fr, .int .i64 mi, .bool r, .bool wr, .bool x, .bool a, .bool n, .int .i64 s] 93) := ⟨_, rfl⟩
  have hs1 : g1 + 1 ≤ W1.heap.size := by rw [hW1, hg1]; simp
  rw [← hW1] at E1 B1 ⊢
  have hb1 : w.heap.size ≤ g1 := by omega
  rw [← hg1] at E1 ⊢
  clear hg1
  clear hW1 B0
  have Ec0 := E1.out.get 0 (.int .i64 k) rfl
  by_cases hk1 : k = 1
  · have dk1 : (k == 1) = true := by rw [hk1]; rfl
    have hk1h := Lib.hid hk1
    clear hk1
    have Ec5 := E1.out.get 5 (.int .i64 lv) rfl
    go_wp2
    all_goals
      go_ret
      exact ⟨ret_bool (by rw [HK.out]; first | rfl | simp [hk1h.out]), B1.out⟩
  have dk1 : (k == 1) = false := by rw [beq_int]; exact decide_eq_false hk1
  have hk1h := Lib.hid hk1
  clear hk1
  by_cases hk2 : k = 2
  · have dk2 : (k == 2) = true := by rw [hk2]; rfl
    have hk2h := Lib.hid hk2
    clear hk2
    have Ec1 := E1.out.get 1 (.int .i64 vm) rfl
    have Ec2 := E1.out.get 2 (.int .i64 sp) rfl
    have Ec3 := E1.out.get 3 (.bool al) rfl
    have Ec4 := E1.out.get 4 (.int .i64 pg) rfl
    have Ec5 := E1.out.get 5 (.int .i64 lv) rfl
    have Ec6 := E1.out.get 6 (.int .i64 fr) rfl
    have Ec7 := E1.out.get 7 (.int .i64 mi) rfl
    have Ec8 := E1.out.get 8 (.bool r) rfl
    have Ec9 := E1.out.get 9 (.bool wr) rfl
    have Ec10 := E1.out.get 10 (.bool x) rfl
    have Ec11 := E1.out.get 11 (.bool a) rfl
    have Ec12 := E1.out.get 12 (.bool n) rfl
    have Ec13 := E1.out.get 13 (.int .i64 s) rfl
    go_wp2_with fail
    refine (HM.out _).mono ?_
    rintro e w2 ⟨rfl, hb2⟩
    have hz2 := hb2.size
    have E2 := Lib.hid (E1.out.below hb2)
    have B2 := Lib.hid (bel_trans B1.out hb2)
    skip
    have hs2 : g1 + 1 ≤ w2.heap.size := by omega
    clear Ec0 Ec1 Ec2 Ec3 Ec4 Ec5 Ec6 Ec7 Ec8 Ec9 Ec10 Ec11 Ec12 Ec13
    clear E1 B1 hs1 hb2 hz2
    go_wp2
    all_goals
      go_ret
      exact ⟨ret_bool (by rw [HK.out]; first | rfl | simp [hk1h.out, hk2h.out]), B2.out⟩
  have dk2 : (k == 2) = false := by rw [beq_int]; exact decide_eq_false hk2
  have hk2h := Lib.hid hk2
  clear hk2
  by_cases hk3 : k = 3
  · have dk3 : (k == 3) = true := by rw [hk3]; rfl
    have hk3h := Lib.hid hk3
    clear hk3
    have Ec1 := E1.out.get 1 (.int .i64 vm) rfl
    have Ec2 := E1.out.get 2 (.int .i64 sp) rfl
    have Ec3 := E1.out.get 3 (.bool al) rfl
    have Ec4 := E1.out.get 4 (.int .i64 pg) rfl
    have Ec5 := E1.out.get 5 (.int .i64 lv) rfl
    have Ec6 := E1.out.get 6 (.int .i64 fr) rfl
    have Ec7 := E1.out.get 7 (.int .i64 mi) rfl
    have Ec8 := E1.out.get 8 (.bool r) rfl
    have Ec9 := E1.out.get 9 (.bool wr) rfl
    have Ec10 := E1.out.get 10 (.bool x) rfl
    have Ec11 := E1.out.get 11 (.bool a) rfl
    have Ec12 := E1.out.get 12 (.bool n) rfl
    have Ec13 := E1.out.get 13 (.int .i64 s) rfl
    go_wp2_with fail
    refine (HW.out _).mono ?_
    rintro e w2 ⟨rfl, hb2⟩
    have hz2 := hb2.size
    have E2 := Lib.hid (E1.out.below hb2)
    have B2 := Lib.hid (bel_trans B1.out hb2)
    skip
    have hs2 : g1 + 1 ≤ w2.heap.size := by omega
    clear Ec0 Ec1 Ec2 Ec3 Ec4 Ec5 Ec6 Ec7 Ec8 Ec9 Ec10 Ec11 Ec12 Ec13
    clear E1 B1 hs1 hb2 hz2
    go_wp2
    all_goals
      go_ret
      exact ⟨ret_bool (by rw [HK.out]; first | rfl | simp [hk1h.out, hk2h.out, hk3h.out]), B2.out⟩
  have dk3 : (k == 3) = false := by rw [beq_int]; exact decide_eq_false hk3
  have hk3h := Lib.hid hk3
  clear hk3
  go_wp2
  all_goals
    go_ret
    exact ⟨ret_bool (by rw [HK.out]; first | rfl | simp [hk1h.out, hk2h.out, hk3h.out]), B1.out⟩
set_option maxRecDepth 100000 in
set_option maxHeartbeats 3200000 in
theorem trec_any (e : Ety) (w : World) :
    Calls Try.prog 72 #[entV e] w fun q w' => q = .returned (.bool (mayEn e)) ∧ Below w.heap.size w w' := by
  rw [mayEn_two]
  have HN := Lib.hid (fun W => tnum_any e W)
  obtain ⟨b, hb⟩ : ∃ b, b = numE e := ⟨_, rfl⟩
  have HK := Lib.hid (fun W (h : b = true) => tkind_any e (hb.symm.trans h) W)
  rw [← hb] at HN ⊢
  clear hb
  generalize kindE e = c at *
  obtain ⟨k, vm, sp, al, pg, lv, fr, mi, ⟨r, wr, x, a, n, s⟩⟩ := e
  unfold entV entC at *
  simp only at *
  have htw : w.heap.size ≤ w.heap.size := Nat.le_refl _
  have B0 := Lib.hid (Below.refl w.heap.size w)
  go_enter Try.func72, Try.ntmps72
  go_upto_region 1 with fail
  have E1 := Lib.hid ((BoxAt.newAt (w) #[.int .i64 k, .int .i64 vm, .int .i64 sp, .bool al, .int .i64 pg, .int .i64 lv, .int .i64 fr, .int .i64 mi, .bool r, .bool wr, .bool x, .bool a, .bool n, .int .i64 s] 93 (w.heap.size) (by first | omega | (simp; done) | (simp; omega))))
  have B1 := Lib.hid ((bel_alloc B0.out (.cells #[.int .i64 k, .int .i64 vm, .int .i64 sp, .bool al, .int .i64 pg, .int .i64 lv, .int .i64 fr, .int .i64 mi, .bool r, .bool wr, .bool x, .bool a, .bool n, .int .i64 s] 93)))
  obtain ⟨g1, hg1⟩ : ∃ g1, g1 = w.heap.size := ⟨_, rfl⟩
  obtain ⟨W1, hW1⟩ : ∃ W1, W1 = (w).alloc (.cells #[.int .i64 k, .int .i64 vm, .int .i64 sp, .bool al, .int .i64 pg, .int .i64 lv, .int .i64 fr, .int .i64 mi, .bool r, .bool wr, .bool x, .bool a, .bool n, .int .i64 s] 93) := ⟨_, rfl⟩
  have hs1 : g1 + 1 ≤ W1.heap.size := by rw [hW1, hg1]; simp
  rw [← hW1] at E1 B1 ⊢
  have hb1 : w.heap.size ≤ g1 := by omega
  rw [← hg1] at E1 ⊢
  clear hg1
  clear hW1 B0
  have Ec0 := E1.out.get 0 (.int .i64 k) rfl
  have Ec1 := E1.out.get 1 (.int .i64 vm) rfl
  have Ec2 := E1.out.get 2 (.int .i64 sp) rfl
  have Ec3 := E1.out.get 3 (.bool al) rfl
  have Ec4 := E1.out.get 4 (.int .i64 pg) rfl
  have Ec5 := E1.out.get 5 (.int .i64 lv) rfl
  have Ec6 := E1.out.get 6 (.int .i64 fr) rfl
  have Ec7 := E1.out.get 7 (.int .i64 mi) rfl
  have Ec8 := E1.out.get 8 (.bool r) rfl
  have Ec9 := E1.out.get 9 (.bool wr) rfl
  have Ec10 := E1.out.get 10 (.bool x) rfl
  have Ec11 := E1.out.get 11 (.bool a) rfl
  have Ec12 := E1.out.get 12 (.bool n) rfl
  have Ec13 := E1.out.get 13 (.int .i64 s) rfl
  go_wp2_with fail
  refine (HN.out _).mono ?_
  rintro e w2 ⟨rfl, hb2⟩
  have hz2 := hb2.size
  have E2 := Lib.hid (E1.out.below hb2)
  have B2 := Lib.hid (bel_trans B1.out hb2)
  skip
  have hs2 : g1 + 1 ≤ w2.heap.size := by omega
  clear Ec0 Ec1 Ec2 Ec3 Ec4 Ec5 Ec6 Ec7 Ec8 Ec9 Ec10 Ec11 Ec12 Ec13
  clear E1 B1 hs1 hb2 hz2
  cases b
  · go_wp2
    all_goals
      go_ret
      exact ⟨ret_bool (by first | rfl | (simp; done)), B2.out⟩
  have Ec0 := E2.out.get 0 (.int .i64 k) rfl
  have Ec1 := E2.out.get 1 (.int .i64 vm) rfl
  have Ec2 := E2.out.get 2 (.int .i64 sp) rfl
  have Ec3 := E2.out.get 3 (.bool al) rfl
  have Ec4 := E2.out.get 4 (.int .i64 pg) rfl
  have Ec5 := E2.out.get 5 (.int .i64 lv) rfl
  have Ec6 := E2.out.get 6 (.int .i64 fr) rfl
  have Ec7 := E2.out.get 7 (.int .i64 mi) rfl
  have Ec8 := E2.out.get 8 (.bool r) rfl
  have Ec9 := E2.out.get 9 (.bool wr) rfl
  have Ec10 := E2.out.get 10 (.bool x) rfl
  have Ec11 := E2.out.get 11 (.bool a) rfl
  have Ec12 := E2.out.get 12 (.bool n) rfl
  have Ec13 := E2.out.get 13 (.int .i64 s) rfl
  go_wp2_with fail
  refine (HK.out _ (by first | trivial | rfl)).mono ?_
  rintro e w3 ⟨rfl, hb3⟩
  have hz3 := hb3.size
  have E3 := Lib.hid (E2.out.below hb3)
  have B3 := Lib.hid (bel_trans B2.out hb3)
  skip
  have hs3 : g1 + 1 ≤ w3.heap.size := by omega
  clear Ec0 Ec1 Ec2 Ec3 Ec4 Ec5 Ec6 Ec7 Ec8 Ec9 Ec10 Ec11 Ec12 Ec13
  clear E2 B2 hs2 hb3 hz3
  go_wp2
  all_goals
    go_ret
    exact ⟨ret_bool (by first | rfl | (simp; done)), B3.out⟩
/-- An entry is of a place. -/
def isE (vm sp pg : Int) (e : Ety) : Bool := decide (e.vm = vm) && ((e.al || decide (e.sp = sp)) && decide (e.pg = foE e pg))
/-- An entry answers an ask. -/
def fitsE (kd vm sp pg acc : Int) (e : Ety) : Bool := decide (e.k = kd) && (isE vm sp pg e && mayA e.t acc)
set_option maxRecDepth 100000 in
set_option maxHeartbeats 3200000 in
theorem tisof_any (e : Ety) (pvm psp ppg : Int) (h : e.k = 3 → (1 ≤ e.lv ∧ e.lv ≤ 3)) (hp : 0 ≤ ppg ∧ ppg ≤ 4095) (w : World) :
    Calls Try.prog 84 #[entV e, .agg #[.int .i64 pvm, .int .i64 psp, .int .i64 ppg]] w fun q w' => q = .returned (.bool (isE pvm psp ppg e)) ∧ Below w.heap.size w w' := by
  have HF := Lib.hid (fun W => tfo_any e ppg W h hp)
  clear hp h
  unfold isE
  generalize foE e ppg = ab at *
  obtain ⟨k, vm, sp, al, pg, lv, fr, mi, ⟨r, wr, x, a, n, s⟩⟩ := e
  unfold entV entC at *
  simp only at *
  cases al
  · have htw : w.heap.size ≤ w.heap.size := Nat.le_refl _
    have B0 := Lib.hid (Below.refl w.heap.size w)
    go_enter Try.func84, Try.ntmps84
    cases qv : decide (vm = pvm)
    · have eqv : (vm == pvm) = false := (beq_int _ _).trans qv
      have qvh := Lib.hid qv
      clear qv
      go_upto_region 1 with fail
      have E1 := Lib.hid (((BoxAt.newAt (w) #[.int .i64 k, .int .i64 vm, .int .i64 sp, .bool false, .int .i64 pg, .int .i64 lv, .int .i64 fr, .int .i64 mi, .bool r, .bool wr, .bool x, .bool a, .bool n, .int .i64 s] 93 (w.heap.size) (by first | omega | (simp; done) | (simp; omega))).alloc (.cells #[.int .i64 pvm, .int .i64 psp, .int .i64 ppg] 100)))
      have L1 := Lib.hid ((BoxAt.newAt ((w).alloc (.cells #[.int .i64 k, .int .i64 vm, .int .i64 sp, .bool false, .int .i64 pg, .int .i64 lv, .int .i64 fr, .int .i64 mi, .bool r, .bool wr, .bool x, .bool a, .bool n, .int .i64 s] 93)) #[.int .i64 pvm, .int .i64 psp, .int .i64 ppg] 100 (w.heap.size + 1) (by first | omega | (simp; done) | (simp; omega))))
      have B1 := Lib.hid ((bel_alloc (bel_alloc B0.out (.cells #[.int .i64 k, .int .i64 vm, .int .i64 sp, .bool false, .int .i64 pg, .int .i64 lv, .int .i64 fr, .int .i64 mi, .bool r, .bool wr, .bool x, .bool a, .bool n, .int .i64 s] 93)) (.cells #[.int .i64 pvm, .int .i64 psp, .int .i64 ppg] 100)))
      obtain ⟨g1, hg1⟩ : ∃ g1, g1 = w.heap.size := ⟨_, rfl⟩
      obtain ⟨W1, hW1⟩ : ∃ W1, W1 = ((w).alloc (.cells #[.int .i64 k, .int .i64 vm, .int .i64 sp, .bool false, .int .i64 pg, .int .i64 lv, .int .i64 fr, .int .i64 mi, .bool r, .bool wr, .bool x, .bool a, .bool n, .int .i64 s] 93)).alloc (.cells #[.int .i64 pvm, .int .i64 psp, .int .i64 ppg] 100) := ⟨_, rfl⟩
      have hs1 : g1 + 1 + 1 ≤ W1.heap.size := by rw [hW1, hg1]; simp
      rw [← hW1] at E1 L1 B1 ⊢
      have hb1 : w.heap.size ≤ g1 := by omega
      rw [← hg1] at E1 L1 ⊢
      clear hg1
      clear hW1 B0
      refine wp_region_held_drew (S := (fun w' => BoxAt w' (g1) #[.int .i64 k, .int .i64 vm, .int .i64 sp, .bool false, .int .i64 pg, .int .i64 lv, .int .i64 fr, .int .i64 mi, .bool r, .bool wr, .bool x, .bool a, .bool n, .int .i64 s] 93 ∧ BoxAt w' (g1 + 1) #[.int .i64 pvm, .int .i64 psp, .int .i64 ppg] 100)) (by kernel_rfl) ⟨E1.out.drew, L1.out.drew⟩ (fun hS => ?_)
      refine tkR 0 5 (v := .pointer (some ⟨g1, 0, none⟩)) rfl hS (fun _ _ => by kernel_rfl) ?_
      refine tkR 1 6 (v := .pointer (some ⟨g1, 1, none⟩)) rfl hS (fun _ _ => by kernel_rfl) ?_
      refine tkR 2 7 (v := .int .i64 vm) rfl hS (fun _ h => run_ld1 3 (.tmp 6) g1 1 (by kernel_rfl) (by kernel_rfl) Try.underlying3 rfl ((h.1).get 1 (.int .i64 vm) rfl)) ?_
      refine tkR 3 8 (v := .pointer (some ⟨g1 + 1, 0, none⟩)) rfl hS (fun _ _ => by kernel_rfl) ?_
      refine tkR 4 9 (v := .int .i64 pvm) rfl hS (fun _ h => run_ld1 3 (.tmp 8) (g1 + 1) 0 (by kernel_rfl) (by kernel_rfl) Try.underlying3 rfl ((h.2).get 0 (.int .i64 pvm) rfl)) ?_
      try simp only [Act.put, List.setIfInBounds_toArray, List.set_cons_zero, List.set_cons_succ]
      refine tkR 5 10 rfl hS (fun w' _ => by go_simp; try with_reducible rfl) ?_
      simp only [pA, pB, pC]
      refine tkR 6 11 (v := .bool false) rfl hS (fun _ _ => by kernel_rfl) ?_
      refine tkU 7 12 rfl hS ?_
      simp only [pA, pB, pC]
      refine tkU 8 13 rfl hS ?_
      simp only [pA, pB, pC]
      refine tkU 9 14 rfl hS ?_
      simp only [pA, pB, pC]
      refine tkU 10 15 rfl hS ?_
      simp only [pA, pB, pC]
      refine tkU 11 16 rfl hS ?_
      simp only [pA, pB, pC]
      refine tkU 12 17 rfl hS ?_
      simp only [pA, pB, pC]
      refine tkU 13 18 rfl hS ?_
      simp only [pA, pB, pC]
      refine tkU 14 19 rfl hS ?_
      simp only [pA, pB, pC]
      refine tkU 15 20 rfl hS ?_
      simp only [pA, pB, pC]
      refine tkU 16 21 rfl hS ?_
      simp only [pA, pB, pC]
      refine tkU 17 22 rfl hS ?_
      simp only [pA, pB, pC]
      try simp only [Act.put, List.setIfInBounds_toArray, List.set_cons_zero, List.set_cons_succ]
      refine tkR 18 23 rfl hS (fun w' _ => by go_simp; try with_reducible rfl) ?_
      simp only [pA, pB, pC]
      refine tkR 19 24 (v := .bool false) rfl hS (fun _ _ => by kernel_rfl) ?_
      refine tkU 20 25 rfl hS ?_
      simp only [pA, pB, pC]
      refine tkU 21 26 rfl hS ?_
      simp only [pA, pB, pC]
      refine tkU 22 27 rfl hS ?_
      simp only [pA, pB, pC]
      refine tkU 23 28 rfl hS ?_
      simp only [pA, pB, pC]
      refine tkU 24 29 rfl hS ?_
      simp only [pA, pB, pC]
      refine tkU 25 30 rfl hS ?_
      simp only [pA, pB, pC]
      refine tkU 26 31 rfl hS ?_
      simp only [pA, pB, pC]
      refine tkU 27 32 rfl hS ?_
      simp only [pA, pB, pC]
      try simp only [Act.put, List.setIfInBounds_toArray, List.set_cons_zero, List.set_cons_succ]
      refine tkR 28 33 rfl hS (fun w' _ => by go_simp; try with_reducible rfl) ?_
      simp only [pA, pB, pC]
      refine tkR 29 4 (v := .bool false) rfl hS (fun _ _ => by kernel_rfl) ?_
      refine wpAnyH_done (by kernel_rfl) ?_ _
      try simp only [Act.put, List.setIfInBounds_toArray, List.set_cons_zero, List.set_cons_succ]
      have E2 := Lib.hid ((E1.out.drew))
      have L2 := Lib.hid ((L1.out.drew))
      have B2 := Lib.hid ((Below.drew B1.out))
      obtain ⟨W2, hW2⟩ : ∃ W2, W2 = (W1).drew := ⟨_, rfl⟩
      have hs2 : g1 + 1 + 1 ≤ W2.heap.size := by rw [hW2]; first | exact hs1 | omega | (simp; omega)
      rw [← hW2] at E2 L2 B2 ⊢
      clear hW2 E1 L1 B1 hs1
      go_wp2
      all_goals
        go_ret
        exact ⟨ret_bool (by first | rfl | (simp; done) | simp [qvh.out]), B2.out⟩
    have eqv : (vm == pvm) = true := (beq_int _ _).trans qv
    have qvh := Lib.hid qv
    clear qv
    cases qs : decide (sp = psp)
    · have eqs : (sp == psp) = false := (beq_int _ _).trans qs
      have qsh := Lib.hid qs
      clear qs
      go_upto_region 1 with fail
      have E1 := Lib.hid (((BoxAt.newAt (w) #[.int .i64 k, .int .i64 vm, .int .i64 sp, .bool false, .int .i64 pg, .int .i64 lv, .int .i64 fr, .int .i64 mi, .bool r, .bool wr, .bool x, .bool a, .bool n, .int .i64 s] 93 (w.heap.size) (by first | omega | (simp; done) | (simp; omega))).alloc (.cells #[.int .i64 pvm, .int .i64 psp, .int .i64 ppg] 100)))
      have L1 := Lib.hid ((BoxAt.newAt ((w).alloc (.cells #[.int .i64 k, .int .i64 vm, .int .i64 sp, .bool false, .int .i64 pg, .int .i64 lv, .int .i64 fr, .int .i64 mi, .bool r, .bool wr, .bool x, .bool a, .bool n, .int .i64 s] 93)) #[.int .i64 pvm, .int .i64 psp, .int .i64 ppg] 100 (w.heap.size + 1) (by first | omega | (simp; done) | (simp; omega))))
      have B1 := Lib.hid ((bel_alloc (bel_alloc B0.out (.cells #[.int .i64 k, .int .i64 vm, .int .i64 sp, .bool false, .int .i64 pg, .int .i64 lv, .int .i64 fr, .int .i64 mi, .bool r, .bool wr, .bool x, .bool a, .bool n, .int .i64 s] 93)) (.cells #[.int .i64 pvm, .int .i64 psp, .int .i64 ppg] 100)))
      obtain ⟨g1, hg1⟩ : ∃ g1, g1 = w.heap.size := ⟨_, rfl⟩
      obtain ⟨W1, hW1⟩ : ∃ W1, W1 = ((w).alloc (.cells #[.int .i64 k, .int .i64 vm, .int .i64 sp, .bool false, .int .i64 pg, .int .i64 lv, .int .i64 fr, .int .i64 mi, .bool r, .bool wr, .bool x, .bool a, .bool n, .int .i64 s] 93)).alloc (.cells #[.int .i64 pvm, .int .i64 psp, .int .i64 ppg] 100) := ⟨_, rfl⟩
      have hs1 : g1 + 1 + 1 ≤ W1.heap.size := by rw [hW1, hg1]; simp
      rw [← hW1] at E1 L1 B1 ⊢
      have hb1 : w.heap.size ≤ g1 := by omega
      rw [← hg1] at E1 L1 ⊢
      clear hg1
      clear hW1 B0
      refine wp_region_held_drew (S := (fun w' => BoxAt w' (g1) #[.int .i64 k, .int .i64 vm, .int .i64 sp, .bool false, .int .i64 pg, .int .i64 lv, .int .i64 fr, .int .i64 mi, .bool r, .bool wr, .bool x, .bool a, .bool n, .int .i64 s] 93 ∧ BoxAt w' (g1 + 1) #[.int .i64 pvm, .int .i64 psp, .int .i64 ppg] 100)) (by kernel_rfl) ⟨E1.out.drew, L1.out.drew⟩ (fun hS => ?_)
      refine tkR 0 5 (v := .pointer (some ⟨g1, 0, none⟩)) rfl hS (fun _ _ => by kernel_rfl) ?_
      refine tkR 1 6 (v := .pointer (some ⟨g1, 1, none⟩)) rfl hS (fun _ _ => by kernel_rfl) ?_
      refine tkR 2 7 (v := .int .i64 vm) rfl hS (fun _ h => run_ld1 3 (.tmp 6) g1 1 (by kernel_rfl) (by kernel_rfl) Try.underlying3 rfl ((h.1).get 1 (.int .i64 vm) rfl)) ?_
      refine tkR 3 8 (v := .pointer (some ⟨g1 + 1, 0, none⟩)) rfl hS (fun _ _ => by kernel_rfl) ?_
      refine tkR 4 9 (v := .int .i64 pvm) rfl hS (fun _ h => run_ld1 3 (.tmp 8) (g1 + 1) 0 (by kernel_rfl) (by kernel_rfl) Try.underlying3 rfl ((h.2).get 0 (.int .i64 pvm) rfl)) ?_
      try simp only [Act.put, List.setIfInBounds_toArray, List.set_cons_zero, List.set_cons_succ]
      refine tkR 5 10 rfl hS (fun w' _ => by go_simp; try with_reducible rfl) ?_
      simp only [pA, pB, pC]
      refine tkR 6 11 (v := .bool true) rfl hS (fun _ _ => by kernel_rfl) ?_
      try simp only [Act.put, List.setIfInBounds_toArray, List.set_cons_zero, List.set_cons_succ]
      refine tkR 7 12 rfl hS (fun w' _ => by go_simp; try with_reducible rfl) ?_
      simp only [pA, pB, pC]
      try simp only [Act.put, List.setIfInBounds_toArray, List.set_cons_zero, List.set_cons_succ]
      refine tkR 8 13 rfl hS (fun w' _ => by go_simp; try with_reducible rfl) ?_
      simp only [pA, pB, pC]
      try simp only [Act.put, List.setIfInBounds_toArray, List.set_cons_zero, List.set_cons_succ]
      refine tkR 9 14 rfl hS (fun w' hSw => by have c0_3 := (hSw.1).get 3 (.bool false) rfl; clear hSw; go_simp; try with_reducible rfl) ?_
      simp only [pA, pB, pC]
      try simp only [Act.put, List.setIfInBounds_toArray, List.set_cons_zero, List.set_cons_succ]
      refine tkR 10 15 rfl hS (fun w' _ => by go_simp; try with_reducible rfl) ?_
      simp only [pA, pB, pC]
      try simp only [Act.put, List.setIfInBounds_toArray, List.set_cons_zero, List.set_cons_succ]
      refine tkR 11 16 rfl hS (fun w' _ => by go_simp; try with_reducible rfl) ?_
      simp only [pA, pB, pC]
      try simp only [Act.put, List.setIfInBounds_toArray, List.set_cons_zero, List.set_cons_succ]
      refine tkR 12 17 rfl hS (fun w' _ => by go_simp; try with_reducible rfl) ?_
      simp only [pA, pB, pC]
      try simp only [Act.put, List.setIfInBounds_toArray, List.set_cons_zero, List.set_cons_succ]
      refine tkR 13 18 rfl hS (fun w' hSw => by have c0_2 := (hSw.1).get 2 (.int .i64 sp) rfl; clear hSw; go_simp; try with_reducible rfl) ?_
      simp only [pA, pB, pC]
      try simp only [Act.put, List.setIfInBounds_toArray, List.set_cons_zero, List.set_cons_succ]
      refine tkR 14 19 rfl hS (fun w' _ => by go_simp; try with_reducible rfl) ?_
      simp only [pA, pB, pC]
      try simp only [Act.put, List.setIfInBounds_toArray, List.set_cons_zero, List.set_cons_succ]
      refine tkR 15 20 rfl hS (fun w' hSw => by have c1_1 := (hSw.2).get 1 (.int .i64 psp) rfl; clear hSw; go_simp; try with_reducible rfl) ?_
      simp only [pA, pB, pC]
      try simp only [Act.put, List.setIfInBounds_toArray, List.set_cons_zero, List.set_cons_succ]
      refine tkR 16 21 rfl hS (fun w' _ => by go_simp; try with_reducible rfl) ?_
      simp only [pA, pB, pC]
      try simp only [Act.put, List.setIfInBounds_toArray, List.set_cons_zero, List.set_cons_succ]
      refine tkR 17 22 rfl hS (fun w' _ => by go_simp; try with_reducible rfl) ?_
      simp only [pA, pB, pC]
      try simp only [Act.put, List.setIfInBounds_toArray, List.set_cons_zero, List.set_cons_succ]
      refine tkR 18 23 rfl hS (fun w' _ => by go_simp; try with_reducible rfl) ?_
      simp only [pA, pB, pC]
      refine tkR 19 24 (v := .bool false) rfl hS (fun _ _ => by kernel_rfl) ?_
      refine tkU 20 25 rfl hS ?_
      simp only [pA, pB, pC]
      refine tkU 21 26 rfl hS ?_
      simp only [pA, pB, pC]
      refine tkU 22 27 rfl hS ?_
      simp only [pA, pB, pC]
      refine tkU 23 28 rfl hS ?_
      simp only [pA, pB, pC]
      refine tkU 24 29 rfl hS ?_
      simp only [pA, pB, pC]
      refine tkU 25 30 rfl hS ?_
      simp only [pA, pB, pC]
      refine tkU 26 31 rfl hS ?_
      simp only [pA, pB, pC]
      refine tkU 27 32 rfl hS ?_
      simp only [pA, pB, pC]
      try simp only [Act.put, List.setIfInBounds_toArray, List.set_cons_zero, List.set_cons_succ]
      refine tkR 28 33 rfl hS (fun w' _ => by go_simp; try with_reducible rfl) ?_
      simp only [pA, pB, pC]
      refine tkR 29 4 (v := .bool false) rfl hS (fun _ _ => by kernel_rfl) ?_
      refine wpAnyH_done (by kernel_rfl) ?_ _
      try simp only [Act.put, List.setIfInBounds_toArray, List.set_cons_zero, List.set_cons_succ]
      have E2 := Lib.hid ((E1.out.drew))
      have L2 := Lib.hid ((L1.out.drew))
      have B2 := Lib.hid ((Below.drew B1.out))
      obtain ⟨W2, hW2⟩ : ∃ W2, W2 = (W1).drew := ⟨_, rfl⟩
      have hs2 : g1 + 1 + 1 ≤ W2.heap.size := by rw [hW2]; first | exact hs1 | omega | (simp; omega)
      rw [← hW2] at E2 L2 B2 ⊢
      clear hW2 E1 L1 B1 hs1
      go_wp2
      all_goals
        go_ret
        exact ⟨ret_bool (by first | rfl | (simp; done) | simp [qvh.out, qsh.out]), B2.out⟩
    have eqs : (sp == psp) = true := (beq_int _ _).trans qs
    have qsh := Lib.hid qs
    clear qs
    cases qp : decide (pg = ab)
    · have eqp : (pg == ab) = false := (beq_int _ _).trans qp
      have qph := Lib.hid qp
      clear qp
      go_upto_region 1 with fail
      have E1 := Lib.hid (((BoxAt.newAt (w) #[.int .i64 k, .int .i64 vm, .int .i64 sp, .bool false, .int .i64 pg, .int .i64 lv, .int .i64 fr, .int .i64 mi, .bool r, .bool wr, .bool x, .bool a, .bool n, .int .i64 s] 93 (w.heap.size) (by first | omega | (simp; done) | (simp; omega))).alloc (.cells #[.int .i64 pvm, .int .i64 psp, .int .i64 ppg] 100)))
      have L1 := Lib.hid ((BoxAt.newAt ((w).alloc (.cells #[.int .i64 k, .int .i64 vm, .int .i64 sp, .bool false, .int .i64 pg, .int .i64 lv, .int .i64 fr, .int .i64 mi, .bool r, .bool wr, .bool x, .bool a, .bool n, .int .i64 s] 93)) #[.int .i64 pvm, .int .i64 psp, .int .i64 ppg] 100 (w.heap.size + 1) (by first | omega | (simp; done) | (simp; omega))))
      have B1 := Lib.hid ((bel_alloc (bel_alloc B0.out (.cells #[.int .i64 k, .int .i64 vm, .int .i64 sp, .bool false, .int .i64 pg, .int .i64 lv, .int .i64 fr, .int .i64 mi, .bool r, .bool wr, .bool x, .bool a, .bool n, .int .i64 s] 93)) (.cells #[.int .i64 pvm, .int .i64 psp, .int .i64 ppg] 100)))
      obtain ⟨g1, hg1⟩ : ∃ g1, g1 = w.heap.size := ⟨_, rfl⟩
      obtain ⟨W1, hW1⟩ : ∃ W1, W1 = ((w).alloc (.cells #[.int .i64 k, .int .i64 vm, .int .i64 sp, .bool false, .int .i64 pg, .int .i64 lv, .int .i64 fr, .int .i64 mi, .bool r, .bool wr, .bool x, .bool a, .bool n, .int .i64 s] 93)).alloc (.cells #[.int .i64 pvm, .int .i64 psp, .int .i64 ppg] 100) := ⟨_, rfl⟩
      have hs1 : g1 + 1 + 1 ≤ W1.heap.size := by rw [hW1, hg1]; simp
      rw [← hW1] at E1 L1 B1 ⊢
      have hb1 : w.heap.size ≤ g1 := by omega
      rw [← hg1] at E1 L1 ⊢
      clear hg1
      clear hW1 B0
      refine wp_region_held_drew (S := (fun w' => BoxAt w' (g1) #[.int .i64 k, .int .i64 vm, .int .i64 sp, .bool false, .int .i64 pg, .int .i64 lv, .int .i64 fr, .int .i64 mi, .bool r, .bool wr, .bool x, .bool a, .bool n, .int .i64 s] 93 ∧ BoxAt w' (g1 + 1) #[.int .i64 pvm, .int .i64 psp, .int .i64 ppg] 100)) (by kernel_rfl) ⟨E1.out.drew, L1.out.drew⟩ (fun hS => ?_)
      refine tkR 0 5 (v := .pointer (some ⟨g1, 0, none⟩)) rfl hS (fun _ _ => by kernel_rfl) ?_
      refine tkR 1 6 (v := .pointer (some ⟨g1, 1, none⟩)) rfl hS (fun _ _ => by kernel_rfl) ?_
      refine tkR 2 7 (v := .int .i64 vm) rfl hS (fun _ h => run_ld1 3 (.tmp 6) g1 1 (by kernel_rfl) (by kernel_rfl) Try.underlying3 rfl ((h.1).get 1 (.int .i64 vm) rfl)) ?_
      refine tkR 3 8 (v := .pointer (some ⟨g1 + 1, 0, none⟩)) rfl hS (fun _ _ => by kernel_rfl) ?_
      refine tkR 4 9 (v := .int .i64 pvm) rfl hS (fun _ h => run_ld1 3 (.tmp 8) (g1 + 1) 0 (by kernel_rfl) (by kernel_rfl) Try.underlying3 rfl ((h.2).get 0 (.int .i64 pvm) rfl)) ?_
      try simp only [Act.put, List.setIfInBounds_toArray, List.set_cons_zero, List.set_cons_succ]
      refine tkR 5 10 rfl hS (fun w' _ => by go_simp; try with_reducible rfl) ?_
      simp only [pA, pB, pC]
      refine tkR 6 11 (v := .bool true) rfl hS (fun _ _ => by kernel_rfl) ?_
      try simp only [Act.put, List.setIfInBounds_toArray, List.set_cons_zero, List.set_cons_succ]
      refine tkR 7 12 rfl hS (fun w' _ => by go_simp; try with_reducible rfl) ?_
      simp only [pA, pB, pC]
      try simp only [Act.put, List.setIfInBounds_toArray, List.set_cons_zero, List.set_cons_succ]
      refine tkR 8 13 rfl hS (fun w' _ => by go_simp; try with_reducible rfl) ?_
      simp only [pA, pB, pC]
      try simp only [Act.put, List.setIfInBounds_toArray, List.set_cons_zero, List.set_cons_succ]
      refine tkR 9 14 rfl hS (fun w' hSw => by have c0_3 := (hSw.1).get 3 (.bool false) rfl; clear hSw; go_simp; try with_reducible rfl) ?_
      simp only [pA, pB, pC]
      try simp only [Act.put, List.setIfInBounds_toArray, List.set_cons_zero, List.set_cons_succ]
      refine tkR 10 15 rfl hS (fun w' _ => by go_simp; try with_reducible rfl) ?_
      simp only [pA, pB, pC]
      try simp only [Act.put, List.setIfInBounds_toArray, List.set_cons_zero, List.set_cons_succ]
      refine tkR 11 16 rfl hS (fun w' _ => by go_simp; try with_reducible rfl) ?_
      simp only [pA, pB, pC]
      try simp only [Act.put, List.setIfInBounds_toArray, List.set_cons_zero, List.set_cons_succ]
      refine tkR 12 17 rfl hS (fun w' _ => by go_simp; try with_reducible rfl) ?_
      simp only [pA, pB, pC]
      try simp only [Act.put, List.setIfInBounds_toArray, List.set_cons_zero, List.set_cons_succ]
      refine tkR 13 18 rfl hS (fun w' hSw => by have c0_2 := (hSw.1).get 2 (.int .i64 sp) rfl; clear hSw; go_simp; try with_reducible rfl) ?_
      simp only [pA, pB, pC]
      try simp only [Act.put, List.setIfInBounds_toArray, List.set_cons_zero, List.set_cons_succ]
      refine tkR 14 19 rfl hS (fun w' _ => by go_simp; try with_reducible rfl) ?_
      simp only [pA, pB, pC]
      try simp only [Act.put, List.setIfInBounds_toArray, List.set_cons_zero, List.set_cons_succ]
      refine tkR 15 20 rfl hS (fun w' hSw => by have c1_1 := (hSw.2).get 1 (.int .i64 psp) rfl; clear hSw; go_simp; try with_reducible rfl) ?_
      simp only [pA, pB, pC]
      try simp only [Act.put, List.setIfInBounds_toArray, List.set_cons_zero, List.set_cons_succ]
      refine tkR 16 21 rfl hS (fun w' _ => by go_simp; try with_reducible rfl) ?_
      simp only [pA, pB, pC]
      try simp only [Act.put, List.setIfInBounds_toArray, List.set_cons_zero, List.set_cons_succ]
      refine tkR 17 22 rfl hS (fun w' _ => by go_simp; try with_reducible rfl) ?_
      simp only [pA, pB, pC]
      try simp only [Act.put, List.setIfInBounds_toArray, List.set_cons_zero, List.set_cons_succ]
      refine tkR 18 23 rfl hS (fun w' _ => by go_simp; try with_reducible rfl) ?_
      simp only [pA, pB, pC]
      refine tkR 19 24 (v := .bool true) rfl hS (fun _ _ => by kernel_rfl) ?_
      try simp only [Act.put, List.setIfInBounds_toArray, List.set_cons_zero, List.set_cons_succ]
      refine tkR 20 25 rfl hS (fun w' _ => by go_simp; try with_reducible rfl) ?_
      simp only [pA, pB, pC]
      try simp only [Act.put, List.setIfInBounds_toArray, List.set_cons_zero, List.set_cons_succ]
      refine tkR 21 26 rfl hS (fun w' _ => by go_simp; try with_reducible rfl) ?_
      simp only [pA, pB, pC]
      try simp only [Act.put, List.setIfInBounds_toArray, List.set_cons_zero, List.set_cons_succ]
      refine tkR 22 27 rfl hS (fun w' hSw => by have c0_4 := (hSw.1).get 4 (.int .i64 pg) rfl; clear hSw; go_simp; try with_reducible rfl) ?_
      simp only [pA, pB, pC]
      try simp only [Act.put, List.setIfInBounds_toArray, List.set_cons_zero, List.set_cons_succ]
      refine tkR 23 28 rfl hS (fun w' hSw => by have c0_0 := (hSw.1).get 0 (.int .i64 k) rfl; have c0_1 := (hSw.1).get 1 (.int .i64 vm) rfl; have c0_2 := (hSw.1).get 2 (.int .i64 sp) rfl; have c0_3 := (hSw.1).get 3 (.bool false) rfl; have c0_4 := (hSw.1).get 4 (.int .i64 pg) rfl; have c0_5 := (hSw.1).get 5 (.int .i64 lv) rfl; have c0_6 := (hSw.1).get 6 (.int .i64 fr) rfl; have c0_7 := (hSw.1).get 7 (.int .i64 mi) rfl; have c0_8 := (hSw.1).get 8 (.bool r) rfl; have c0_9 := (hSw.1).get 9 (.bool wr) rfl; have c0_10 := (hSw.1).get 10 (.bool x) rfl; have c0_11 := (hSw.1).get 11 (.bool a) rfl; have c0_12 := (hSw.1).get 12 (.bool n) rfl; have c0_13 := (hSw.1).get 13 (.int .i64 s) rfl; clear hSw; go_simp; try with_reducible rfl) ?_
      simp only [pA, pB, pC]
      try simp only [Act.put, List.setIfInBounds_toArray, List.set_cons_zero, List.set_cons_succ]
      refine tkR 24 29 rfl hS (fun w' _ => by go_simp; try with_reducible rfl) ?_
      simp only [pA, pB, pC]
      try simp only [Act.put, List.setIfInBounds_toArray, List.set_cons_zero, List.set_cons_succ]
      refine tkR 25 30 rfl hS (fun w' hSw => by have c1_2 := (hSw.2).get 2 (.int .i64 ppg) rfl; clear hSw; go_simp; try with_reducible rfl) ?_
      simp only [pA, pB, pC]
      try simp only [Act.put, List.setIfInBounds_toArray, List.set_cons_zero, List.set_cons_succ]
      refine wpAnyH_ready (rs := [26]) (by kernel_rfl) (by simp) ?_
      refine AllReadyH.cons (o := ⟨some 31, _, _, _, _, _⟩) rfl (fun K hK => ?_) AllReadyH.nil
      go_simp
      refine (HF.out _).mono ?_
      rintro e w2 ⟨rfl, hb2⟩
      have hz2 := hb2.size
      try simp at hz2
      refine hK.out _ _ ?_ (fun hS' => ?_)
      · exact ⟨hS.1.below hb2, hS.2.below hb2⟩
      clear hK K hS
      have hS := hS'
      clear hS'
      try simp only [Act.put, List.setIfInBounds_toArray, List.set_cons_zero, List.set_cons_succ]
      try simp only [Act.put, List.setIfInBounds_toArray, List.set_cons_zero, List.set_cons_succ]
      refine tkR 27 32 rfl hS (fun w' _ => by go_simp; try with_reducible rfl) ?_
      simp only [pA, pB, pC]
      try simp only [Act.put, List.setIfInBounds_toArray, List.set_cons_zero, List.set_cons_succ]
      refine tkR 28 33 rfl hS (fun w' _ => by go_simp; try with_reducible rfl) ?_
      simp only [pA, pB, pC]
      refine tkR 29 4 (v := .bool false) rfl hS (fun _ _ => by kernel_rfl) ?_
      refine wpAnyH_done (by kernel_rfl) ?_ _
      try simp only [Act.put, List.setIfInBounds_toArray, List.set_cons_zero, List.set_cons_succ]
      have E3 := Lib.hid (((E1.out.drew).below hb2))
      have L3 := Lib.hid (((L1.out.drew).below hb2))
      have B3 := Lib.hid ((bel_trans (Below.drew B1.out) hb2))
      obtain ⟨W3, hW3⟩ : ∃ W3, W3 = w2 := ⟨_, rfl⟩
      have hs3 : g1 + 1 + 1 ≤ W3.heap.size := by rw [hW3]; first | exact hs1 | omega | (simp; omega)
      rw [← hW3] at E3 L3 B3 ⊢
      clear hW3 E1 L1 B1 hs1
      go_wp2
      all_goals
        go_ret
        exact ⟨ret_bool (by first | rfl | (simp; done) | simp [qvh.out, qsh.out, qph.out]), B3.out⟩
    have eqp : (pg == ab) = true := (beq_int _ _).trans qp
    have qph := Lib.hid qp
    clear qp
    go_upto_region 1 with fail
    have E1 := Lib.hid (((BoxAt.newAt (w) #[.int .i64 k, .int .i64 vm, .int .i64 sp, .bool false, .int .i64 pg, .int .i64 lv, .int .i64 fr, .int .i64 mi, .bool r, .bool wr, .bool x, .bool a, .bool n, .int .i64 s] 93 (w.heap.size) (by first | omega | (simp; done) | (simp; omega))).alloc (.cells #[.int .i64 pvm, .int .i64 psp, .int .i64 ppg] 100)))
    have L1 := Lib.hid ((BoxAt.newAt ((w).alloc (.cells #[.int .i64 k, .int .i64 vm, .int .i64 sp, .bool false, .int .i64 pg, .int .i64 lv, .int .i64 fr, .int .i64 mi, .bool r, .bool wr, .bool x, .bool a, .bool n, .int .i64 s] 93)) #[.int .i64 pvm, .int .i64 psp, .int .i64 ppg] 100 (w.heap.size + 1) (by first | omega | (simp; done) | (simp; omega))))
    have B1 := Lib.hid ((bel_alloc (bel_alloc B0.out (.cells #[.int .i64 k, .int .i64 vm, .int .i64 sp, .bool false, .int .i64 pg, .int .i64 lv, .int .i64 fr, .int .i64 mi, .bool r, .bool wr, .bool x, .bool a, .bool n, .int .i64 s] 93)) (.cells #[.int .i64 pvm, .int .i64 psp, .int .i64 ppg] 100)))
    obtain ⟨g1, hg1⟩ : ∃ g1, g1 = w.heap.size := ⟨_, rfl⟩
    obtain ⟨W1, hW1⟩ : ∃ W1, W1 = ((w).alloc (.cells #[.int .i64 k, .int .i64 vm, .int .i64 sp, .bool false, .int .i64 pg, .int .i64 lv, .int .i64 fr, .int .i64 mi, .bool r, .bool wr, .bool x, .bool a, .bool n, .int .i64 s] 93)).alloc (.cells #[.int .i64 pvm, .int .i64 psp, .int .i64 ppg] 100) := ⟨_, rfl⟩
    have hs1 : g1 + 1 + 1 ≤ W1.heap.size := by rw [hW1, hg1]; simp
    rw [← hW1] at E1 L1 B1 ⊢
    have hb1 : w.heap.size ≤ g1 := by omega
    rw [← hg1] at E1 L1 ⊢
    clear hg1
    clear hW1 B0
    refine wp_region_held_drew (S := (fun w' => BoxAt w' (g1) #[.int .i64 k, .int .i64 vm, .int .i64 sp, .bool false, .int .i64 pg, .int .i64 lv, .int .i64 fr, .int .i64 mi, .bool r, .bool wr, .bool x, .bool a, .bool n, .int .i64 s] 93 ∧ BoxAt w' (g1 + 1) #[.int .i64 pvm, .int .i64 psp, .int .i64 ppg] 100)) (by kernel_rfl) ⟨E1.out.drew, L1.out.drew⟩ (fun hS => ?_)
    refine tkR 0 5 (v := .pointer (some ⟨g1, 0, none⟩)) rfl hS (fun _ _ => by kernel_rfl) ?_
    refine tkR 1 6 (v := .pointer (some ⟨g1, 1, none⟩)) rfl hS (fun _ _ => by kernel_rfl) ?_
    refine tkR 2 7 (v := .int .i64 vm) rfl hS (fun _ h => run_ld1 3 (.tmp 6) g1 1 (by kernel_rfl) (by kernel_rfl) Try.underlying3 rfl ((h.1).get 1 (.int .i64 vm) rfl)) ?_
    refine tkR 3 8 (v := .pointer (some ⟨g1 + 1, 0, none⟩)) rfl hS (fun _ _ => by kernel_rfl) ?_
    refine tkR 4 9 (v := .int .i64 pvm) rfl hS (fun _ h => run_ld1 3 (.tmp 8) (g1 + 1) 0 (by kernel_rfl) (by kernel_rfl) Try.underlying3 rfl ((h.2).get 0 (.int .i64 pvm) rfl)) ?_
    try simp only [Act.put, List.setIfInBounds_toArray, List.set_cons_zero, List.set_cons_succ]
    refine tkR 5 10 rfl hS (fun w' _ => by go_simp; try with_reducible rfl) ?_
    simp only [pA, pB, pC]
    refine tkR 6 11 (v := .bool true) rfl hS (fun _ _ => by kernel_rfl) ?_
    try simp only [Act.put, List.setIfInBounds_toArray, List.set_cons_zero, List.set_cons_succ]
    refine tkR 7 12 rfl hS (fun w' _ => by go_simp; try with_reducible rfl) ?_
    simp only [pA, pB, pC]
    try simp only [Act.put, List.setIfInBounds_toArray, List.set_cons_zero, List.set_cons_succ]
    refine tkR 8 13 rfl hS (fun w' _ => by go_simp; try with_reducible rfl) ?_
    simp only [pA, pB, pC]
    try simp only [Act.put, List.setIfInBounds_toArray, List.set_cons_zero, List.set_cons_succ]
    refine tkR 9 14 rfl hS (fun w' hSw => by have c0_3 := (hSw.1).get 3 (.bool false) rfl; clear hSw; go_simp; try with_reducible rfl) ?_
    simp only [pA, pB, pC]
    try simp only [Act.put, List.setIfInBounds_toArray, List.set_cons_zero, List.set_cons_succ]
    refine tkR 10 15 rfl hS (fun w' _ => by go_simp; try with_reducible rfl) ?_
    simp only [pA, pB, pC]
    try simp only [Act.put, List.setIfInBounds_toArray, List.set_cons_zero, List.set_cons_succ]
    refine tkR 11 16 rfl hS (fun w' _ => by go_simp; try with_reducible rfl) ?_
    simp only [pA, pB, pC]
    try simp only [Act.put, List.setIfInBounds_toArray, List.set_cons_zero, List.set_cons_succ]
    refine tkR 12 17 rfl hS (fun w' _ => by go_simp; try with_reducible rfl) ?_
    simp only [pA, pB, pC]
    try simp only [Act.put, List.setIfInBounds_toArray, List.set_cons_zero, List.set_cons_succ]
    refine tkR 13 18 rfl hS (fun w' hSw => by have c0_2 := (hSw.1).get 2 (.int .i64 sp) rfl; clear hSw; go_simp; try with_reducible rfl) ?_
    simp only [pA, pB, pC]
    try simp only [Act.put, List.setIfInBounds_toArray, List.set_cons_zero, List.set_cons_succ]
    refine tkR 14 19 rfl hS (fun w' _ => by go_simp; try with_reducible rfl) ?_
    simp only [pA, pB, pC]
    try simp only [Act.put, List.setIfInBounds_toArray, List.set_cons_zero, List.set_cons_succ]
    refine tkR 15 20 rfl hS (fun w' hSw => by have c1_1 := (hSw.2).get 1 (.int .i64 psp) rfl; clear hSw; go_simp; try with_reducible rfl) ?_
    simp only [pA, pB, pC]
    try simp only [Act.put, List.setIfInBounds_toArray, List.set_cons_zero, List.set_cons_succ]
    refine tkR 16 21 rfl hS (fun w' _ => by go_simp; try with_reducible rfl) ?_
    simp only [pA, pB, pC]
    try simp only [Act.put, List.setIfInBounds_toArray, List.set_cons_zero, List.set_cons_succ]
    refine tkR 17 22 rfl hS (fun w' _ => by go_simp; try with_reducible rfl) ?_
    simp only [pA, pB, pC]
    try simp only [Act.put, List.setIfInBounds_toArray, List.set_cons_zero, List.set_cons_succ]
    refine tkR 18 23 rfl hS (fun w' _ => by go_simp; try with_reducible rfl) ?_
    simp only [pA, pB, pC]
    refine tkR 19 24 (v := .bool true) rfl hS (fun _ _ => by kernel_rfl) ?_
    try simp only [Act.put, List.setIfInBounds_toArray, List.set_cons_zero, List.set_cons_succ]
    refine tkR 20 25 rfl hS (fun w' _ => by go_simp; try with_reducible rfl) ?_
    simp only [pA, pB, pC]
    try simp only [Act.put, List.setIfInBounds_toArray, List.set_cons_zero, List.set_cons_succ]
    refine tkR 21 26 rfl hS (fun w' _ => by go_simp; try with_reducible rfl) ?_
    simp only [pA, pB, pC]
    try simp only [Act.put, List.setIfInBounds_toArray, List.set_cons_zero, List.set_cons_succ]
    refine tkR 22 27 rfl hS (fun w' hSw => by have c0_4 := (hSw.1).get 4 (.int .i64 pg) rfl; clear hSw; go_simp; try with_reducible rfl) ?_
    simp only [pA, pB, pC]
    try simp only [Act.put, List.setIfInBounds_toArray, List.set_cons_zero, List.set_cons_succ]
    refine tkR 23 28 rfl hS (fun w' hSw => by have c0_0 := (hSw.1).get 0 (.int .i64 k) rfl; have c0_1 := (hSw.1).get 1 (.int .i64 vm) rfl; have c0_2 := (hSw.1).get 2 (.int .i64 sp) rfl; have c0_3 := (hSw.1).get 3 (.bool false) rfl; have c0_4 := (hSw.1).get 4 (.int .i64 pg) rfl; have c0_5 := (hSw.1).get 5 (.int .i64 lv) rfl; have c0_6 := (hSw.1).get 6 (.int .i64 fr) rfl; have c0_7 := (hSw.1).get 7 (.int .i64 mi) rfl; have c0_8 := (hSw.1).get 8 (.bool r) rfl; have c0_9 := (hSw.1).get 9 (.bool wr) rfl; have c0_10 := (hSw.1).get 10 (.bool x) rfl; have c0_11 := (hSw.1).get 11 (.bool a) rfl; have c0_12 := (hSw.1).get 12 (.bool n) rfl; have c0_13 := (hSw.1).get 13 (.int .i64 s) rfl; clear hSw; go_simp; try with_reducible rfl) ?_
    simp only [pA, pB, pC]
    try simp only [Act.put, List.setIfInBounds_toArray, List.set_cons_zero, List.set_cons_succ]
    refine tkR 24 29 rfl hS (fun w' _ => by go_simp; try with_reducible rfl) ?_
    simp only [pA, pB, pC]
    try simp only [Act.put, List.setIfInBounds_toArray, List.set_cons_zero, List.set_cons_succ]
    refine tkR 25 30 rfl hS (fun w' hSw => by have c1_2 := (hSw.2).get 2 (.int .i64 ppg) rfl; clear hSw; go_simp; try with_reducible rfl) ?_
    simp only [pA, pB, pC]
    try simp only [Act.put, List.setIfInBounds_toArray, List.set_cons_zero, List.set_cons_succ]
    refine wpAnyH_ready (rs := [26]) (by kernel_rfl) (by simp) ?_
    refine AllReadyH.cons (o := ⟨some 31, _, _, _, _, _⟩) rfl (fun K hK => ?_) AllReadyH.nil
    go_simp
    refine (HF.out _).mono ?_
    rintro e w2 ⟨rfl, hb2⟩
    have hz2 := hb2.size
    try simp at hz2
    refine hK.out _ _ ?_ (fun hS' => ?_)
    · exact ⟨hS.1.below hb2, hS.2.below hb2⟩
    clear hK K hS
    have hS := hS'
    clear hS'
    try simp only [Act.put, List.setIfInBounds_toArray, List.set_cons_zero, List.set_cons_succ]
    try simp only [Act.put, List.setIfInBounds_toArray, List.set_cons_zero, List.set_cons_succ]
    refine tkR 27 32 rfl hS (fun w' _ => by go_simp; try with_reducible rfl) ?_
    simp only [pA, pB, pC]
    try simp only [Act.put, List.setIfInBounds_toArray, List.set_cons_zero, List.set_cons_succ]
    refine tkR 28 33 rfl hS (fun w' _ => by go_simp; try with_reducible rfl) ?_
    simp only [pA, pB, pC]
    refine tkR 29 4 (v := .bool true) rfl hS (fun _ _ => by kernel_rfl) ?_
    refine wpAnyH_done (by kernel_rfl) ?_ _
    try simp only [Act.put, List.setIfInBounds_toArray, List.set_cons_zero, List.set_cons_succ]
    have E3 := Lib.hid (((E1.out.drew).below hb2))
    have L3 := Lib.hid (((L1.out.drew).below hb2))
    have B3 := Lib.hid ((bel_trans (Below.drew B1.out) hb2))
    obtain ⟨W3, hW3⟩ : ∃ W3, W3 = w2 := ⟨_, rfl⟩
    have hs3 : g1 + 1 + 1 ≤ W3.heap.size := by rw [hW3]; first | exact hs1 | omega | (simp; omega)
    rw [← hW3] at E3 L3 B3 ⊢
    clear hW3 E1 L1 B1 hs1
    go_wp2
    all_goals
      go_ret
      exact ⟨ret_bool (by first | rfl | (simp; done) | simp [qvh.out, qsh.out, qph.out]), B3.out⟩
  · have htw : w.heap.size ≤ w.heap.size := Nat.le_refl _
    have B0 := Lib.hid (Below.refl w.heap.size w)
    go_enter Try.func84, Try.ntmps84
    cases qv : decide (vm = pvm)
    · have eqv : (vm == pvm) = false := (beq_int _ _).trans qv
      have qvh := Lib.hid qv
      clear qv
      go_upto_region 1 with fail
      have E1 := Lib.hid (((BoxAt.newAt (w) #[.int .i64 k, .int .i64 vm, .int .i64 sp, .bool true, .int .i64 pg, .int .i64 lv, .int .i64 fr, .int .i64 mi, .bool r, .bool wr, .bool x, .bool a, .bool n, .int .i64 s] 93 (w.heap.size) (by first | omega | (simp; done) | (simp; omega))).alloc (.cells #[.int .i64 pvm, .int .i64 psp, .int .i64 ppg] 100)))
      have L1 := Lib.hid ((BoxAt.newAt ((w).alloc (.cells #[.int .i64 k, .int .i64 vm, .int .i64 sp, .bool true, .int .i64 pg, .int .i64 lv, .int .i64 fr, .int .i64 mi, .bool r, .bool wr, .bool x, .bool a, .bool n, .int .i64 s] 93)) #[.int .i64 pvm, .int .i64 psp, .int .i64 ppg] 100 (w.heap.size + 1) (by first | omega | (simp; done) | (simp; omega))))
      have B1 := Lib.hid ((bel_alloc (bel_alloc B0.out (.cells #[.int .i64 k, .int .i64 vm, .int .i64 sp, .bool true, .int .i64 pg, .int .i64 lv, .int .i64 fr, .int .i64 mi, .bool r, .bool wr, .bool x, .bool a, .bool n, .int .i64 s] 93)) (.cells #[.int .i64 pvm, .int .i64 psp, .int .i64 ppg] 100)))
      obtain ⟨g1, hg1⟩ : ∃ g1, g1 = w.heap.size := ⟨_, rfl⟩
      obtain ⟨W1, hW1⟩ : ∃ W1, W1 = ((w).alloc (.cells #[.int .i64 k, .int .i64 vm, .int .i64 sp, .bool true, .int .i64 pg, .int .i64 lv, .int .i64 fr, .int .i64 mi, .bool r, .bool wr, .bool x, .bool a, .bool n, .int .i64 s] 93)).alloc (.cells #[.int .i64 pvm, .int .i64 psp, .int .i64 ppg] 100) := ⟨_, rfl⟩
      have hs1 : g1 + 1 + 1 ≤ W1.heap.size := by rw [hW1, hg1]; simp
      rw [← hW1] at E1 L1 B1 ⊢
      have hb1 : w.heap.size ≤ g1 := by omega
      rw [← hg1] at E1 L1 ⊢
      clear hg1
      clear hW1 B0
      refine wp_region_held_drew (S := (fun w' => BoxAt w' (g1) #[.int .i64 k, .int .i64 vm, .int .i64 sp, .bool true, .int .i64 pg, .int .i64 lv, .int .i64 fr, .int .i64 mi, .bool r, .bool wr, .bool x, .bool a, .bool n, .int .i64 s] 93 ∧ BoxAt w' (g1 + 1) #[.int .i64 pvm, .int .i64 psp, .int .i64 ppg] 100)) (by kernel_rfl) ⟨E1.out.drew, L1.out.drew⟩ (fun hS => ?_)
      refine tkR 0 5 (v := .pointer (some ⟨g1, 0, none⟩)) rfl hS (fun _ _ => by kernel_rfl) ?_
      refine tkR 1 6 (v := .pointer (some ⟨g1, 1, none⟩)) rfl hS (fun _ _ => by kernel_rfl) ?_
      refine tkR 2 7 (v := .int .i64 vm) rfl hS (fun _ h => run_ld1 3 (.tmp 6) g1 1 (by kernel_rfl) (by kernel_rfl) Try.underlying3 rfl ((h.1).get 1 (.int .i64 vm) rfl)) ?_
      refine tkR 3 8 (v := .pointer (some ⟨g1 + 1, 0, none⟩)) rfl hS (fun _ _ => by kernel_rfl) ?_
      refine tkR 4 9 (v := .int .i64 pvm) rfl hS (fun _ h => run_ld1 3 (.tmp 8) (g1 + 1) 0 (by kernel_rfl) (by kernel_rfl) Try.underlying3 rfl ((h.2).get 0 (.int .i64 pvm) rfl)) ?_
      try simp only [Act.put, List.setIfInBounds_toArray, List.set_cons_zero, List.set_cons_succ]
      refine tkR 5 10 rfl hS (fun w' _ => by go_simp; try with_reducible rfl) ?_
      simp only [pA, pB, pC]
      refine tkR 6 11 (v := .bool false) rfl hS (fun _ _ => by kernel_rfl) ?_
      refine tkU 7 12 rfl hS ?_
      simp only [pA, pB, pC]
      refine tkU 8 13 rfl hS ?_
      simp only [pA, pB, pC]
      refine tkU 9 14 rfl hS ?_
      simp only [pA, pB, pC]
      refine tkU 10 15 rfl hS ?_
      simp only [pA, pB, pC]
      refine tkU 11 16 rfl hS ?_
      simp only [pA, pB, pC]
      refine tkU 12 17 rfl hS ?_
      simp only [pA, pB, pC]
      refine tkU 13 18 rfl hS ?_
      simp only [pA, pB, pC]
      refine tkU 14 19 rfl hS ?_
      simp only [pA, pB, pC]
      refine tkU 15 20 rfl hS ?_
      simp only [pA, pB, pC]
      refine tkU 16 21 rfl hS ?_
      simp only [pA, pB, pC]
      refine tkU 17 22 rfl hS ?_
      simp only [pA, pB, pC]
      try simp only [Act.put, List.setIfInBounds_toArray, List.set_cons_zero, List.set_cons_succ]
      refine tkR 18 23 rfl hS (fun w' _ => by go_simp; try with_reducible rfl) ?_
      simp only [pA, pB, pC]
      refine tkR 19 24 (v := .bool false) rfl hS (fun _ _ => by kernel_rfl) ?_
      refine tkU 20 25 rfl hS ?_
      simp only [pA, pB, pC]
      refine tkU 21 26 rfl hS ?_
      simp only [pA, pB, pC]
      refine tkU 22 27 rfl hS ?_
      simp only [pA, pB, pC]
      refine tkU 23 28 rfl hS ?_
      simp only [pA, pB, pC]
      refine tkU 24 29 rfl hS ?_
      simp only [pA, pB, pC]
      refine tkU 25 30 rfl hS ?_
      simp only [pA, pB, pC]
      refine tkU 26 31 rfl hS ?_
      simp only [pA, pB, pC]
      refine tkU 27 32 rfl hS ?_
      simp only [pA, pB, pC]
      try simp only [Act.put, List.setIfInBounds_toArray, List.set_cons_zero, List.set_cons_succ]
      refine tkR 28 33 rfl hS (fun w' _ => by go_simp; try with_reducible rfl) ?_
      simp only [pA, pB, pC]
      refine tkR 29 4 (v := .bool false) rfl hS (fun _ _ => by kernel_rfl) ?_
      refine wpAnyH_done (by kernel_rfl) ?_ _
      try simp only [Act.put, List.setIfInBounds_toArray, List.set_cons_zero, List.set_cons_succ]
      have E2 := Lib.hid ((E1.out.drew))
      have L2 := Lib.hid ((L1.out.drew))
      have B2 := Lib.hid ((Below.drew B1.out))
      obtain ⟨W2, hW2⟩ : ∃ W2, W2 = (W1).drew := ⟨_, rfl⟩
      have hs2 : g1 + 1 + 1 ≤ W2.heap.size := by rw [hW2]; first | exact hs1 | omega | (simp; omega)
      rw [← hW2] at E2 L2 B2 ⊢
      clear hW2 E1 L1 B1 hs1
      go_wp2
      all_goals
        go_ret
        exact ⟨ret_bool (by first | rfl | (simp; done) | simp [qvh.out]), B2.out⟩
    have eqv : (vm == pvm) = true := (beq_int _ _).trans qv
    have qvh := Lib.hid qv
    clear qv
    cases qp : decide (pg = ab)
    · have eqp : (pg == ab) = false := (beq_int _ _).trans qp
      have qph := Lib.hid qp
      clear qp
      go_upto_region 1 with fail
      have E1 := Lib.hid (((BoxAt.newAt (w) #[.int .i64 k, .int .i64 vm, .int .i64 sp, .bool true, .int .i64 pg, .int .i64 lv, .int .i64 fr, .int .i64 mi, .bool r, .bool wr, .bool x, .bool a, .bool n, .int .i64 s] 93 (w.heap.size) (by first | omega | (simp; done) | (simp; omega))).alloc (.cells #[.int .i64 pvm, .int .i64 psp, .int .i64 ppg] 100)))
      have L1 := Lib.hid ((BoxAt.newAt ((w).alloc (.cells #[.int .i64 k, .int .i64 vm, .int .i64 sp, .bool true, .int .i64 pg, .int .i64 lv, .int .i64 fr, .int .i64 mi, .bool r, .bool wr, .bool x, .bool a, .bool n, .int .i64 s] 93)) #[.int .i64 pvm, .int .i64 psp, .int .i64 ppg] 100 (w.heap.size + 1) (by first | omega | (simp; done) | (simp; omega))))
      have B1 := Lib.hid ((bel_alloc (bel_alloc B0.out (.cells #[.int .i64 k, .int .i64 vm, .int .i64 sp, .bool true, .int .i64 pg, .int .i64 lv, .int .i64 fr, .int .i64 mi, .bool r, .bool wr, .bool x, .bool a, .bool n, .int .i64 s] 93)) (.cells #[.int .i64 pvm, .int .i64 psp, .int .i64 ppg] 100)))
      obtain ⟨g1, hg1⟩ : ∃ g1, g1 = w.heap.size := ⟨_, rfl⟩
      obtain ⟨W1, hW1⟩ : ∃ W1, W1 = ((w).alloc (.cells #[.int .i64 k, .int .i64 vm, .int .i64 sp, .bool true, .int .i64 pg, .int .i64 lv, .int .i64 fr, .int .i64 mi, .bool r, .bool wr, .bool x, .bool a, .bool n, .int .i64 s] 93)).alloc (.cells #[.int .i64 pvm, .int .i64 psp, .int .i64 ppg] 100) := ⟨_, rfl⟩
      have hs1 : g1 + 1 + 1 ≤ W1.heap.size := by rw [hW1, hg1]; simp
      rw [← hW1] at E1 L1 B1 ⊢
      have hb1 : w.heap.size ≤ g1 := by omega
      rw [← hg1] at E1 L1 ⊢
      clear hg1
      clear hW1 B0
      refine wp_region_held_drew (S := (fun w' => BoxAt w' (g1) #[.int .i64 k, .int .i64 vm, .int .i64 sp, .bool true, .int .i64 pg, .int .i64 lv, .int .i64 fr, .int .i64 mi, .bool r, .bool wr, .bool x, .bool a, .bool n, .int .i64 s] 93 ∧ BoxAt w' (g1 + 1) #[.int .i64 pvm, .int .i64 psp, .int .i64 ppg] 100)) (by kernel_rfl) ⟨E1.out.drew, L1.out.drew⟩ (fun hS => ?_)
      refine tkR 0 5 (v := .pointer (some ⟨g1, 0, none⟩)) rfl hS (fun _ _ => by kernel_rfl) ?_
      refine tkR 1 6 (v := .pointer (some ⟨g1, 1, none⟩)) rfl hS (fun _ _ => by kernel_rfl) ?_
      refine tkR 2 7 (v := .int .i64 vm) rfl hS (fun _ h => run_ld1 3 (.tmp 6) g1 1 (by kernel_rfl) (by kernel_rfl) Try.underlying3 rfl ((h.1).get 1 (.int .i64 vm) rfl)) ?_
      refine tkR 3 8 (v := .pointer (some ⟨g1 + 1, 0, none⟩)) rfl hS (fun _ _ => by kernel_rfl) ?_
      refine tkR 4 9 (v := .int .i64 pvm) rfl hS (fun _ h => run_ld1 3 (.tmp 8) (g1 + 1) 0 (by kernel_rfl) (by kernel_rfl) Try.underlying3 rfl ((h.2).get 0 (.int .i64 pvm) rfl)) ?_
      try simp only [Act.put, List.setIfInBounds_toArray, List.set_cons_zero, List.set_cons_succ]
      refine tkR 5 10 rfl hS (fun w' _ => by go_simp; try with_reducible rfl) ?_
      simp only [pA, pB, pC]
      refine tkR 6 11 (v := .bool true) rfl hS (fun _ _ => by kernel_rfl) ?_
      try simp only [Act.put, List.setIfInBounds_toArray, List.set_cons_zero, List.set_cons_succ]
      refine tkR 7 12 rfl hS (fun w' _ => by go_simp; try with_reducible rfl) ?_
      simp only [pA, pB, pC]
      try simp only [Act.put, List.setIfInBounds_toArray, List.set_cons_zero, List.set_cons_succ]
      refine tkR 8 13 rfl hS (fun w' _ => by go_simp; try with_reducible rfl) ?_
      simp only [pA, pB, pC]
      try simp only [Act.put, List.setIfInBounds_toArray, List.set_cons_zero, List.set_cons_succ]
      refine tkR 9 14 rfl hS (fun w' hSw => by have c0_3 := (hSw.1).get 3 (.bool true) rfl; clear hSw; go_simp; try with_reducible rfl) ?_
      simp only [pA, pB, pC]
      try simp only [Act.put, List.setIfInBounds_toArray, List.set_cons_zero, List.set_cons_succ]
      refine tkR 10 15 rfl hS (fun w' _ => by go_simp; try with_reducible rfl) ?_
      simp only [pA, pB, pC]
      refine tkU 11 16 rfl hS ?_
      simp only [pA, pB, pC]
      refine tkU 12 17 rfl hS ?_
      simp only [pA, pB, pC]
      refine tkU 13 18 rfl hS ?_
      simp only [pA, pB, pC]
      refine tkU 14 19 rfl hS ?_
      simp only [pA, pB, pC]
      refine tkU 15 20 rfl hS ?_
      simp only [pA, pB, pC]
      refine tkU 16 21 rfl hS ?_
      simp only [pA, pB, pC]
      try simp only [Act.put, List.setIfInBounds_toArray, List.set_cons_zero, List.set_cons_succ]
      refine tkR 17 22 rfl hS (fun w' _ => by go_simp; try with_reducible rfl) ?_
      simp only [pA, pB, pC]
      try simp only [Act.put, List.setIfInBounds_toArray, List.set_cons_zero, List.set_cons_succ]
      refine tkR 18 23 rfl hS (fun w' _ => by go_simp; try with_reducible rfl) ?_
      simp only [pA, pB, pC]
      refine tkR 19 24 (v := .bool true) rfl hS (fun _ _ => by kernel_rfl) ?_
      try simp only [Act.put, List.setIfInBounds_toArray, List.set_cons_zero, List.set_cons_succ]
      refine tkR 20 25 rfl hS (fun w' _ => by go_simp; try with_reducible rfl) ?_
      simp only [pA, pB, pC]
      try simp only [Act.put, List.setIfInBounds_toArray, List.set_cons_zero, List.set_cons_succ]
      refine tkR 21 26 rfl hS (fun w' _ => by go_simp; try with_reducible rfl) ?_
      simp only [pA, pB, pC]
      try simp only [Act.put, List.setIfInBounds_toArray, List.set_cons_zero, List.set_cons_succ]
      refine tkR 22 27 rfl hS (fun w' hSw => by have c0_4 := (hSw.1).get 4 (.int .i64 pg) rfl; clear hSw; go_simp; try with_reducible rfl) ?_
      simp only [pA, pB, pC]
      try simp only [Act.put, List.setIfInBounds_toArray, List.set_cons_zero, List.set_cons_succ]
      refine tkR 23 28 rfl hS (fun w' hSw => by have c0_0 := (hSw.1).get 0 (.int .i64 k) rfl; have c0_1 := (hSw.1).get 1 (.int .i64 vm) rfl; have c0_2 := (hSw.1).get 2 (.int .i64 sp) rfl; have c0_3 := (hSw.1).get 3 (.bool true) rfl; have c0_4 := (hSw.1).get 4 (.int .i64 pg) rfl; have c0_5 := (hSw.1).get 5 (.int .i64 lv) rfl; have c0_6 := (hSw.1).get 6 (.int .i64 fr) rfl; have c0_7 := (hSw.1).get 7 (.int .i64 mi) rfl; have c0_8 := (hSw.1).get 8 (.bool r) rfl; have c0_9 := (hSw.1).get 9 (.bool wr) rfl; have c0_10 := (hSw.1).get 10 (.bool x) rfl; have c0_11 := (hSw.1).get 11 (.bool a) rfl; have c0_12 := (hSw.1).get 12 (.bool n) rfl; have c0_13 := (hSw.1).get 13 (.int .i64 s) rfl; clear hSw; go_simp; try with_reducible rfl) ?_
      simp only [pA, pB, pC]
      try simp only [Act.put, List.setIfInBounds_toArray, List.set_cons_zero, List.set_cons_succ]
      refine tkR 24 29 rfl hS (fun w' _ => by go_simp; try with_reducible rfl) ?_
      simp only [pA, pB, pC]
      try simp only [Act.put, List.setIfInBounds_toArray, List.set_cons_zero, List.set_cons_succ]
      refine tkR 25 30 rfl hS (fun w' hSw => by have c1_2 := (hSw.2).get 2 (.int .i64 ppg) rfl; clear hSw; go_simp; try with_reducible rfl) ?_
      simp only [pA, pB, pC]
      try simp only [Act.put, List.setIfInBounds_toArray, List.set_cons_zero, List.set_cons_succ]
      refine wpAnyH_ready (rs := [26]) (by kernel_rfl) (by simp) ?_
      refine AllReadyH.cons (o := ⟨some 31, _, _, _, _, _⟩) rfl (fun K hK => ?_) AllReadyH.nil
      go_simp
      refine (HF.out _).mono ?_
      rintro e w2 ⟨rfl, hb2⟩
      have hz2 := hb2.size
      try simp at hz2
      refine hK.out _ _ ?_ (fun hS' => ?_)
      · exact ⟨hS.1.below hb2, hS.2.below hb2⟩
      clear hK K hS
      have hS := hS'
      clear hS'
      try simp only [Act.put, List.setIfInBounds_toArray, List.set_cons_zero, List.set_cons_succ]
      try simp only [Act.put, List.setIfInBounds_toArray, List.set_cons_zero, List.set_cons_succ]
      refine tkR 27 32 rfl hS (fun w' _ => by go_simp; try with_reducible rfl) ?_
      simp only [pA, pB, pC]
      try simp only [Act.put, List.setIfInBounds_toArray, List.set_cons_zero, List.set_cons_succ]
      refine tkR 28 33 rfl hS (fun w' _ => by go_simp; try with_reducible rfl) ?_
      simp only [pA, pB, pC]
      refine tkR 29 4 (v := .bool false) rfl hS (fun _ _ => by kernel_rfl) ?_
      refine wpAnyH_done (by kernel_rfl) ?_ _
      try simp only [Act.put, List.setIfInBounds_toArray, List.set_cons_zero, List.set_cons_succ]
      have E3 := Lib.hid (((E1.out.drew).below hb2))
      have L3 := Lib.hid (((L1.out.drew).below hb2))
      have B3 := Lib.hid ((bel_trans (Below.drew B1.out) hb2))
      obtain ⟨W3, hW3⟩ : ∃ W3, W3 = w2 := ⟨_, rfl⟩
      have hs3 : g1 + 1 + 1 ≤ W3.heap.size := by rw [hW3]; first | exact hs1 | omega | (simp; omega)
      rw [← hW3] at E3 L3 B3 ⊢
      clear hW3 E1 L1 B1 hs1
      go_wp2
      all_goals
        go_ret
        exact ⟨ret_bool (by first | rfl | (simp; done) | simp [qvh.out, qph.out]), B3.out⟩
    have eqp : (pg == ab) = true := (beq_int _ _).trans qp
    have qph := Lib.hid qp
    clear qp
    go_upto_region 1 with fail
    have E1 := Lib.hid (((BoxAt.newAt (w) #[.int .i64 k, .int .i64 vm, .int .i64 sp, .bool true, .int .i64 pg, .int .i64 lv, .int .i64 fr, .int .i64 mi, .bool r, .bool wr, .bool x, .bool a, .bool n, .int .i64 s] 93 (w.heap.size) (by first | omega | (simp; done) | (simp; omega))).alloc (.cells #[.int .i64 pvm, .int .i64 psp, .int .i64 ppg] 100)))
    have L1 := Lib.hid ((BoxAt.newAt ((w).alloc (.cells #[.int .i64 k, .int .i64 vm, .int .i64 sp, .bool true, .int .i64 pg, .int .i64 lv, .int .i64 fr, .int .i64 mi, .bool r, .bool wr, .bool x, .bool a, .bool n, .int .i64 s] 93)) #[.int .i64 pvm, .int .i64 psp, .int .i64 ppg] 100 (w.heap.size + 1) (by first | omega | (simp; done) | (simp; omega))))
    have B1 := Lib.hid ((bel_alloc (bel_alloc B0.out (.cells #[.int .i64 k, .int .i64 vm, .int .i64 sp, .bool true, .int .i64 pg, .int .i64 lv, .int .i64 fr, .int .i64 mi, .bool r, .bool wr, .bool x, .bool a, .bool n, .int .i64 s] 93)) (.cells #[.int .i64 pvm, .int .i64 psp, .int .i64 ppg] 100)))
    obtain ⟨g1, hg1⟩ : ∃ g1, g1 = w.heap.size := ⟨_, rfl⟩
    obtain ⟨W1, hW1⟩ : ∃ W1, W1 = ((w).alloc (.cells #[.int .i64 k, .int .i64 vm, .int .i64 sp, .bool true, .int .i64 pg, .int .i64 lv, .int .i64 fr, .int .i64 mi, .bool r, .bool wr, .bool x, .bool a, .bool n, .int .i64 s] 93)).alloc (.cells #[.int .i64 pvm, .int .i64 psp, .int .i64 ppg] 100) := ⟨_, rfl⟩
    have hs1 : g1 + 1 + 1 ≤ W1.heap.size := by rw [hW1, hg1]; simp
    rw [← hW1] at E1 L1 B1 ⊢
    have hb1 : w.heap.size ≤ g1 := by omega
    rw [← hg1] at E1 L1 ⊢
    clear hg1
    clear hW1 B0
    refine wp_region_held_drew (S := (fun w' => BoxAt w' (g1) #[.int .i64 k, .int .i64 vm, .int .i64 sp, .bool true, .int .i64 pg, .int .i64 lv, .int .i64 fr, .int .i64 mi, .bool r, .bool wr, .bool x, .bool a, .bool n, .int .i64 s] 93 ∧ BoxAt w' (g1 + 1) #[.int .i64 pvm, .int .i64 psp, .int .i64 ppg] 100)) (by kernel_rfl) ⟨E1.out.drew, L1.out.drew⟩ (fun hS => ?_)
    refine tkR 0 5 (v := .pointer (some ⟨g1, 0, none⟩)) rfl hS (fun _ _ => by kernel_rfl) ?_
    refine tkR 1 6 (v := .pointer (some ⟨g1, 1, none⟩)) rfl hS (fun _ _ => by kernel_rfl) ?_
    refine tkR 2 7 (v := .int .i64 vm) rfl hS (fun _ h => run_ld1 3 (.tmp 6) g1 1 (by kernel_rfl) (by kernel_rfl) Try.underlying3 rfl ((h.1).get 1 (.int .i64 vm) rfl)) ?_
    refine tkR 3 8 (v := .pointer (some ⟨g1 + 1, 0, none⟩)) rfl hS (fun _ _ => by kernel_rfl) ?_
    refine tkR 4 9 (v := .int .i64 pvm) rfl hS (fun _ h => run_ld1 3 (.tmp 8) (g1 + 1) 0 (by kernel_rfl) (by kernel_rfl) Try.underlying3 rfl ((h.2).get 0 (.int .i64 pvm) rfl)) ?_
    try simp only [Act.put, List.setIfInBounds_toArray, List.set_cons_zero, List.set_cons_succ]
    refine tkR 5 10 rfl hS (fun w' _ => by go_simp; try with_reducible rfl) ?_
    simp only [pA, pB, pC]
    refine tkR 6 11 (v := .bool true) rfl hS (fun _ _ => by kernel_rfl) ?_
    try simp only [Act.put, List.setIfInBounds_toArray, List.set_cons_zero, List.set_cons_succ]
    refine tkR 7 12 rfl hS (fun w' _ => by go_simp; try with_reducible rfl) ?_
    simp only [pA, pB, pC]
    try simp only [Act.put, List.setIfInBounds_toArray, List.set_cons_zero, List.set_cons_succ]
    refine tkR 8 13 rfl hS (fun w' _ => by go_simp; try with_reducible rfl) ?_
    simp only [pA, pB, pC]
    try simp only [Act.put, List.setIfInBounds_toArray, List.set_cons_zero, List.set_cons_succ]
    refine tkR 9 14 rfl hS (fun w' hSw => by have c0_3 := (hSw.1).get 3 (.bool true) rfl; clear hSw; go_simp; try with_reducible rfl) ?_
    simp only [pA, pB, pC]
    try simp only [Act.put, List.setIfInBounds_toArray, List.set_cons_zero, List.set_cons_succ]
    refine tkR 10 15 rfl hS (fun w' _ => by go_simp; try with_reducible rfl) ?_
    simp only [pA, pB, pC]
    refine tkU 11 16 rfl hS ?_
    simp only [pA, pB, pC]
    refine tkU 12 17 rfl hS ?_
    simp only [pA, pB, pC]
    refine tkU 13 18 rfl hS ?_
    simp only [pA, pB, pC]
    refine tkU 14 19 rfl hS ?_
    simp only [pA, pB, pC]
    refine tkU 15 20 rfl hS ?_
    simp only [pA, pB, pC]
    refine tkU 16 21 rfl hS ?_
    simp only [pA, pB, pC]
    try simp only [Act.put, List.setIfInBounds_toArray, List.set_cons_zero, List.set_cons_succ]
    refine tkR 17 22 rfl hS (fun w' _ => by go_simp; try with_reducible rfl) ?_
    simp only [pA, pB, pC]
    try simp only [Act.put, List.setIfInBounds_toArray, List.set_cons_zero, List.set_cons_succ]
    refine tkR 18 23 rfl hS (fun w' _ => by go_simp; try with_reducible rfl) ?_
    simp only [pA, pB, pC]
    refine tkR 19 24 (v := .bool true) rfl hS (fun _ _ => by kernel_rfl) ?_
    try simp only [Act.put, List.setIfInBounds_toArray, List.set_cons_zero, List.set_cons_succ]
    refine tkR 20 25 rfl hS (fun w' _ => by go_simp; try with_reducible rfl) ?_
    simp only [pA, pB, pC]
    try simp only [Act.put, List.setIfInBounds_toArray, List.set_cons_zero, List.set_cons_succ]
    refine tkR 21 26 rfl hS (fun w' _ => by go_simp; try with_reducible rfl) ?_
    simp only [pA, pB, pC]
    try simp only [Act.put, List.setIfInBounds_toArray, List.set_cons_zero, List.set_cons_succ]
    refine tkR 22 27 rfl hS (fun w' hSw => by have c0_4 := (hSw.1).get 4 (.int .i64 pg) rfl; clear hSw; go_simp; try with_reducible rfl) ?_
    simp only [pA, pB, pC]
    try simp only [Act.put, List.setIfInBounds_toArray, List.set_cons_zero, List.set_cons_succ]
    refine tkR 23 28 rfl hS (fun w' hSw => by have c0_0 := (hSw.1).get 0 (.int .i64 k) rfl; have c0_1 := (hSw.1).get 1 (.int .i64 vm) rfl; have c0_2 := (hSw.1).get 2 (.int .i64 sp) rfl; have c0_3 := (hSw.1).get 3 (.bool true) rfl; have c0_4 := (hSw.1).get 4 (.int .i64 pg) rfl; have c0_5 := (hSw.1).get 5 (.int .i64 lv) rfl; have c0_6 := (hSw.1).get 6 (.int .i64 fr) rfl; have c0_7 := (hSw.1).get 7 (.int .i64 mi) rfl; have c0_8 := (hSw.1).get 8 (.bool r) rfl; have c0_9 := (hSw.1).get 9 (.bool wr) rfl; have c0_10 := (hSw.1).get 10 (.bool x) rfl; have c0_11 := (hSw.1).get 11 (.bool a) rfl; have c0_12 := (hSw.1).get 12 (.bool n) rfl; have c0_13 := (hSw.1).get 13 (.int .i64 s) rfl; clear hSw; go_simp; try with_reducible rfl) ?_
    simp only [pA, pB, pC]
    try simp only [Act.put, List.setIfInBounds_toArray, List.set_cons_zero, List.set_cons_succ]
    refine tkR 24 29 rfl hS (fun w' _ => by go_simp; try with_reducible rfl) ?_
    simp only [pA, pB, pC]
    try simp only [Act.put, List.setIfInBounds_toArray, List.set_cons_zero, List.set_cons_succ]
    refine tkR 25 30 rfl hS (fun w' hSw => by have c1_2 := (hSw.2).get 2 (.int .i64 ppg) rfl; clear hSw; go_simp; try with_reducible rfl) ?_
    simp only [pA, pB, pC]
    try simp only [Act.put, List.setIfInBounds_toArray, List.set_cons_zero, List.set_cons_succ]
    refine wpAnyH_ready (rs := [26]) (by kernel_rfl) (by simp) ?_
    refine AllReadyH.cons (o := ⟨some 31, _, _, _, _, _⟩) rfl (fun K hK => ?_) AllReadyH.nil
    go_simp
    refine (HF.out _).mono ?_
    rintro e w2 ⟨rfl, hb2⟩
    have hz2 := hb2.size
    try simp at hz2
    refine hK.out _ _ ?_ (fun hS' => ?_)
    · exact ⟨hS.1.below hb2, hS.2.below hb2⟩
    clear hK K hS
    have hS := hS'
    clear hS'
    try simp only [Act.put, List.setIfInBounds_toArray, List.set_cons_zero, List.set_cons_succ]
    try simp only [Act.put, List.setIfInBounds_toArray, List.set_cons_zero, List.set_cons_succ]
    refine tkR 27 32 rfl hS (fun w' _ => by go_simp; try with_reducible rfl) ?_
    simp only [pA, pB, pC]
    try simp only [Act.put, List.setIfInBounds_toArray, List.set_cons_zero, List.set_cons_succ]
    refine tkR 28 33 rfl hS (fun w' _ => by go_simp; try with_reducible rfl) ?_
    simp only [pA, pB, pC]
    refine tkR 29 4 (v := .bool true) rfl hS (fun _ _ => by kernel_rfl) ?_
    refine wpAnyH_done (by kernel_rfl) ?_ _
    try simp only [Act.put, List.setIfInBounds_toArray, List.set_cons_zero, List.set_cons_succ]
    have E3 := Lib.hid (((E1.out.drew).below hb2))
    have L3 := Lib.hid (((L1.out.drew).below hb2))
    have B3 := Lib.hid ((bel_trans (Below.drew B1.out) hb2))
    obtain ⟨W3, hW3⟩ : ∃ W3, W3 = w2 := ⟨_, rfl⟩
    have hs3 : g1 + 1 + 1 ≤ W3.heap.size := by rw [hW3]; first | exact hs1 | omega | (simp; omega)
    rw [← hW3] at E3 L3 B3 ⊢
    clear hW3 E1 L1 B1 hs1
    go_wp2
    all_goals
      go_ret
      exact ⟨ret_bool (by first | rfl | (simp; done) | simp [qvh.out, qph.out]), B3.out⟩
end Go.Proofs.Ytjohnpbfdpmajaa
